/- A table of a store's own (layer 6): own. New stores (layer 6): emptyPiles, New. -/
import Derived.Test.YtgjojjhppgjkkaaGreatHf
import Derived.Maps.OwnOps
namespace Go.Proofs.YtgjojjhppgjkkaaGreat
open Go.RowKit Go.Maps

/-- A row of cards, of which the first are written, with terms in rows behind it. -/
def RowK (w : World) (g n : Nat) (acc : List Crd.CardL) : Prop :=
  ∃ (C : Array Value) (t : TypeId), w.heap[g]? = some (.cells C t (0, 0)) ∧ C.size = n * 7 ∧ ∀ j (h : j < acc.length), ∃ v, Crd.RowsC (g + 1) w v acc[j].terms ∧
    C[j * 7]? = some (.int .i64 acc[j].kind) ∧ C[j * 7 + 1]? = some (.int .i64 acc[j].cost) ∧ C[j * 7 + 2]? = some (.int .i64 acc[j].power) ∧ C[j * 7 + 3]? = some (.int .i64 acc[j].tough) ∧ C[j * 7 + 4]? = some (.int .i64 acc[j].keys) ∧ C[j * 7 + 5]? = some (.int .i64 acc[j].whn) ∧ C[j * 7 + 6]? = some v
theorem RowK.later {w w' : World} {g n : Nat} {acc : List Crd.CardL} (h : RowK w g n acc) (hb : Below w.heap.size w w') : RowK w' g n acc := by
  obtain ⟨C, t, hC, hs, hc⟩ := h
  refine ⟨C, t, (hb.block g (Crd.lt_of_row hC)).trans hC, hs, fun j hj => ?_⟩
  obtain ⟨v, hv, r⟩ := hc j hj
  exact ⟨v, hv.later hb, r⟩
theorem RowK.cell {w : World} {g n : Nat} {acc : List Crd.CardL} (h : RowK w g n acc) (k : Nat) (hk : k < n * 7) : ∃ v, w.cell? ⟨g, k, none⟩ = some v := by
  obtain ⟨C, t, hC, hs, _⟩ := h
  exact ⟨C[k]'(by omega), by simp [World.cell?, hC, hs, hk]⟩
theorem RowK.frozen {w : World} {g n : Nat} {acc : List Crd.CardL} (h : RowK w g n acc) (k : Nat) : w.frozen? ⟨g, k, none⟩ = false := by
  obtain ⟨C, t, hC, hs, _⟩ := h
  simp [World.frozen?, hC]
theorem rows_far {g : Nat} {w : World} {v : Value} {l : List Crd.TermL} (h : Crd.RowsC (g + 1) w v l) {p : Addr} (hp : p.block = g) (u : Value) : Crd.RowsC (g + 1) (w.setCell p u) v l := by
  rcases h with h | ⟨r, cap, rfl, h0, hB, hlt, hr⟩
  · exact .inl h
  · exact .inr ⟨r, cap, rfl, h0, hB, by simpa using hlt, hr.far (by omega) u⟩
def put7 (w : World) (g o : Nat) (c : Crd.CardL) (v : Value) : World :=
  ((((((w.setCell ⟨g, o, none⟩ (.int .i64 c.kind)).setCell ⟨g, o + 1, none⟩ (.int .i64 c.cost)).setCell ⟨g, o + 2, none⟩ (.int .i64 c.power)).setCell ⟨g, o + 3, none⟩ (.int .i64 c.tough)).setCell ⟨g, o + 4, none⟩ (.int .i64 c.keys)).setCell ⟨g, o + 5, none⟩ (.int .i64 c.whn)).setCell ⟨g, o + 6, none⟩ v
theorem rows_far7 {g o : Nat} {w : World} {v u : Value} {l : List Crd.TermL} {c : Crd.CardL} (h : Crd.RowsC (g + 1) w v l) : Crd.RowsC (g + 1) (put7 w g o c u) v l :=
  rows_far (rows_far (rows_far (rows_far (rows_far (rows_far (rows_far h rfl _) rfl _) rfl _) rfl _) rfl _) rfl _) rfl _
theorem RowK.put {w : World} {g n : Nat} {acc : List Crd.CardL} (h : RowK w g n acc) (c : Crd.CardL) (v : Value) (hv : Crd.RowsC (g + 1) w v c.terms) (hk : acc.length < n) :
    RowK (put7 w g (acc.length * 7) c v) g n (acc ++ [c]) := by
  have hv' : Crd.RowsC (g + 1) (put7 w g (acc.length * 7) c v) v c.terms := rows_far7 hv
  obtain ⟨C, t, hC, hs, hc⟩ := h
  refine ⟨((((((C.setIfInBounds (acc.length * 7) (.int .i64 c.kind)).setIfInBounds (acc.length * 7 + 1) (.int .i64 c.cost)).setIfInBounds (acc.length * 7 + 2) (.int .i64 c.power)).setIfInBounds (acc.length * 7 + 3) (.int .i64 c.tough)).setIfInBounds (acc.length * 7 + 4) (.int .i64 c.keys)).setIfInBounds (acc.length * 7 + 5) (.int .i64 c.whn)).setIfInBounds (acc.length * 7 + 6) v, t, ?_, by simpa using hs, fun j hj => ?_⟩
  · simp [put7, World.setCell, Array.getElem?_modify, hC]
  · rw [List.length_append] at hj
    simp only [List.length_singleton] at hj
    by_cases e : j = acc.length
    · subst e
      refine ⟨v, by simpa using hv', ?_⟩
      simp [Array.getElem?_setIfInBounds, hs]
      omega
    · have hj' : j < acc.length := by omega
      obtain ⟨u, hu, h7⟩ := hc j hj'
      refine ⟨u, ?_, ?_⟩
      · rw [List.getElem_append_left hj']; exact rows_far7 hu
      · rw [List.getElem_append_left hj']
        have hne : ∀ i, i < 7 → ∀ x, (((((((C.setIfInBounds (acc.length * 7) (.int .i64 c.kind)).setIfInBounds (acc.length * 7 + 1) (.int .i64 c.cost)).setIfInBounds (acc.length * 7 + 2) (.int .i64 c.power)).setIfInBounds (acc.length * 7 + 3) (.int .i64 c.tough)).setIfInBounds (acc.length * 7 + 4) (.int .i64 c.keys)).setIfInBounds (acc.length * 7 + 5) (.int .i64 c.whn)).setIfInBounds (acc.length * 7 + 6) v)[j * 7 + i]? = x ↔ C[j * 7 + i]? = x := fun i hi x => by
          simp only [Array.getElem?_setIfInBounds]
          rw [if_neg (by omega), if_neg (by omega), if_neg (by omega), if_neg (by omega), if_neg (by omega), if_neg (by omega), if_neg (by omega)]
        exact ⟨(hne 0 (by decide) _).2 h7.1, (hne 1 (by decide) _).2 h7.2.1, (hne 2 (by decide) _).2 h7.2.2.1, (hne 3 (by decide) _).2 h7.2.2.2.1, (hne 4 (by decide) _).2 h7.2.2.2.2.1, (hne 5 (by decide) _).2 h7.2.2.2.2.2.1, (hne 6 (by decide) _).2 h7.2.2.2.2.2.2⟩
/-- A table all of whose blocks are new. -/
def TabFrom (w : World) (B : Nat) (v : Value) (T : List Crd.CardL) : Prop := ∀ W' : World, (∀ k, B ≤ k → k < w.heap.size → W'.heap[k]? = w.heap[k]?) → Crd.CardsAt W' v T
theorem RowK.tab {w : World} {g n B : Nat} {T : List Crd.CardL} (h : RowK w g n T) (hn : T.length = n) (hB : B ≤ g) : TabFrom w B (.slice (some ⟨g, 0, none⟩) n n) T := by
  obtain ⟨C, t, hC, hs, hc⟩ := h
  intro W' hW
  have hC' : W'.heap[g]? = some (.cells C t (0, 0)) := (hW g hB (Crd.lt_of_row hC)).trans hC
  refine .inr ⟨g, 0, n, by rw [hn], Crd.lt_of_row hC', fun i hi => ?_⟩
  obtain ⟨v, hv, h7⟩ := hc i hi
  have hv' : Crd.RowsC (g + 1) W' v T[i].terms := by
    rcases hv with hv | ⟨r, cap, e, h0, hr1, hr2, ⟨D, t', hD, hd⟩⟩
    · exact .inl hv
    · have hD' := (hW r (by omega) hr2).trans hD
      exact .inr ⟨r, cap, e, h0, hr1, Crd.lt_of_row hD', D, t', hD', hd⟩
  have hform : ∃ ya yc, v = .slice ya T[i].terms.length yc := by
    rcases hv with ⟨e, e2⟩ | ⟨r, cap, e, _⟩
    · exact ⟨none, 0, by rw [e, e2]; rfl⟩
    · exact ⟨_, _, e⟩
  obtain ⟨ya, yc, rfl⟩ := hform
  rw [Nat.zero_add]
  exact ⟨ya, yc, by simp [World.cell?, hC', h7.1], by simp [World.cell?, hC', h7.2.1], by simp [World.cell?, hC', h7.2.2.1], by simp [World.cell?, hC', h7.2.2.2.1], by simp [World.cell?, hC', h7.2.2.2.2.1], by simp [World.cell?, hC', h7.2.2.2.2.2.1], by simp [World.cell?, hC', h7.2.2.2.2.2.2], hv'.is⟩
theorem info_card : (Tryz.prog.info? 45).map (fun i => (i.zero, i.size, i.bytes)) = some (some (.agg #[.int .i64 0, .int .i64 0, .int .i64 0, .int .i64 0, .int .i64 0, .int .i64 0, .slice none 0 0]), 7, 72) := by kernel_rfl
theorem may_terms {T : List Crd.CardL} (h : Crd.tableE T = 0) (k : Nat) (hk : k < T.length) : T[k].terms.length ≤ 30 := by
  unfold Crd.tableE at h
  split at h
  · cases h
  · split at h
    · rename_i h1
      have := List.all_eq_true.1 h1 _ (List.getElem_mem hk)
      unfold Crd.mayB Crd.termsB at this
      simp at this
      omega
    · cases h
def RetOwn (w : World) (T : List Crd.CardL) (e : Ending) (w' : World) : Prop := ∃ v, e = .returned v ∧ TabFrom w' w.heap.size v T ∧ Below w.heap.size w w'
set_option maxRecDepth 100000 in
set_option maxHeartbeats 4000000 in
theorem own_any {w : World} {v : Value} {T : List Crd.CardL} (h : Crd.CardsAt w v T) (ht : Crd.tableE T = 0) : Calls Tryz.prog 69 #[v] w (RetOwn w T) := by
  obtain ⟨i0, hi, hz0, hz1, hz2⟩ := info_parts info_card
  have hT := table_short ht
  have hmk : ∀ u : World, (Instr.makeSlice 46 (.int .i64 (T.length : Int)) (.int .i64 (T.length : Int))).run Tryz.prog u = .ok (.slice (some ⟨u.heap.size, 0, none⟩) T.length T.length) (u.alloc (.cells (madeCells #[.int .i64 0, .int .i64 0, .int .i64 0, .int .i64 0, .int .i64 0, .int .i64 0, .slice none 0 0] (T.length * 7)) 45)) := fun u => by
    have h := run_make (P := Tryz.prog) u 46 45 i0 _ Tryz.underlying46 hi hz0 .i64 .i64 (T.length : Int) (T.length : Int) (by omega) (Int.le_refl _) (by rw [hz2]; omega) (by omega)
    simpa [hz1, Value.cells] using h
  obtain ⟨xa, xc, rfl⟩ := h.form
  have HL := Lib.hid h
  have HM := Lib.hid (may_terms ht)
  clear h hi hz0 hz1 hz2 ht
  go_enter Tryz.func69, Tryz.ntmps69
  go_wp2
  obtain ⟨W, hW⟩ : ∃ W, w.alloc (.cells (madeCells #[.int .i64 0, .int .i64 0, .int .i64 0, .int .i64 0, .int .i64 0, .int .i64 0, .slice none 0 0] (T.length * 7)) 45) = W := ⟨_, rfl⟩
  have HB0 := Lib.hid (hW ▸ below_new w _ : Below w.heap.size w W)
  have HR0 : Hid (RowK W w.heap.size T.length []) := Lib.hid (hW ▸ ⟨_, _, heap_alloc_new w _, size_madeCells _ _, fun j hj => by simp at hj⟩)
  rw [hW]
  obtain ⟨g, hg⟩ : ∃ g, w.heap.size = g := ⟨_, rfl⟩
  have HG := Lib.hid hg
  rw [hg] at HR0 ⊢
  clear hW hmk hg
  go_loopw [11] (fun i wr => ∃ k : Nat, k ≤ T.length ∧ i = .int .i64 k ∧ Hid (RowK wr g T.length (T.take k)) ∧ Hid (Below w.heap.size w wr) ∧ Hid (g < wr.heap.size)) (fun i _ => T.length - (intOf i).toNat)
  case atStart => exact ⟨0, Nat.zero_le _, rfl, by rw [List.take_zero]; exact HR0, HB0, Lib.hid (by obtain ⟨C, t, hC, _⟩ := HR0.out; exact Crd.lt_of_row hC)⟩
  case round =>
    obtain ⟨k, hk, rfl, HR, HB, HGL⟩ := hrel
    by_cases hlt : k < T.length
    · obtain ⟨tb, off, rfl, hcc⟩ := (HL.out.later HB.out).at k hlt
      have HTK := Lib.hid (take_last T k hlt)
      have HM3 := Lib.hid (HM.out k hlt)
      obtain ⟨c, hc⟩ : ∃ c, T[k] = c := ⟨_, rfl⟩
      rw [hc] at hcc HTK HM3
      obtain ⟨ya, yc, t0, t1, t2, t3, t4, t5, t6, htm⟩ := hcc
      have HTM := Lib.hid htm
      have d0 : (0 : Int) ≤ k := by omega
      have d1 : (k : Int) < T.length := by omega
      have HCO := Lib.hid (fun (w' : World) (hb : Below wr.heap.size wr w') => Crd.copy_any (HTM.out.later hb) HM3.out)
      unfold Crd.cagg at HCO
      clear htm hc
      go_wp2_with fail
      refine (HCO.out _ (below_new wr _)).mono ?_
      rintro e w2 ⟨v, rfl, hrows, hb2⟩
      obtain ⟨va, vn, vc, rfl⟩ : ∃ va vn vc, v = .slice va vn vc := by
        rcases hrows with ⟨e, _⟩ | ⟨r, cap, e, _⟩
        · exact ⟨none, 0, 0, e⟩
        · exact ⟨_, _, _, e⟩
      have hbr := stepB (below_new wr (.cells (ccs c (.slice ya c.terms.length yc)) 45)) hb2
      have HR2 := Lib.hid (HR.out.later hbr)
      have HB2 := Lib.hid (stepB HB.out hbr)
      have hlen : (T.take k).length = k := by rw [List.length_take]; omega
      have hfr := HR2.out.frozen
      obtain ⟨v0, q0⟩ := HR2.out.cell (k * 7) (by omega)
      obtain ⟨v1, q1⟩ := HR2.out.cell (k * 7 + 1) (by omega)
      obtain ⟨v2, q2⟩ := HR2.out.cell (k * 7 + 2) (by omega)
      obtain ⟨v3, q3⟩ := HR2.out.cell (k * 7 + 3) (by omega)
      obtain ⟨v4, q4⟩ := HR2.out.cell (k * 7 + 4) (by omega)
      obtain ⟨v5, q5⟩ := HR2.out.cell (k * 7 + 5) (by omega)
      obtain ⟨v6, q6⟩ := HR2.out.cell (k * 7 + 6) (by omega)
      have HPUT := HR2.out.put c (.slice va vn vc) (by
        rcases hrows with hr | ⟨r, cap, e, h0, hB, hr2, hr3⟩
        · exact .inl hr
        · refine .inr ⟨r, cap, e, h0, ?_, hr2, hr3⟩
          have := HGL.out
          have hB : (wr.alloc _).heap.size ≤ r := hB
          simp at hB
          omega) (by omega)
      rw [hlen, ← HTK.out] at HPUT
      unfold put7 at HPUT
      have HP := Lib.hid HPUT
      have hg2 : g < w2.heap.size := by have := HGL.out; have := hbr.size; omega
      unfold Crd.cagg
      clear hb2 hbr hrows HPUT
      dsimp only
      go_wp2
      go_roundw
      case rel =>
        have hgw : w.heap.size ≤ g := Nat.le_of_eq HG.out
        exact ⟨k + 1, by omega, by go_num, HP, Lib.hid (((((((HB2.out.setCell hgw _).setCell hgw _).setCell hgw _).setCell hgw _).setCell hgw _).setCell hgw _).setCell hgw _), Lib.hid (by simpa using hg2)⟩
      case measure => simp [intOf]; omega
    · obtain rfl : k = T.length := by omega
      have hR := HR.out
      rw [List.take_length] at hR
      have HT := Lib.hid (hR.tab rfl (Nat.le_of_eq HG.out))
      clear hR
      go_wp2
      go_ret
      exact ⟨_, rfl, HT.out, HB.out⟩
end Go.Proofs.YtgjojjhppgjkkaaGreat
namespace Go.Proofs.YtgjojjhppgjkkaaGreat
open Go.RowKit Go.Maps

theorem PileAt.mono {w : World} {lo lo' b : Nat} {g : Option Nat} {L : List Int} (h : PileAt w lo b g L) (hl : lo' ≤ lo) : PileAt w lo' b g L := by
  obtain ⟨v, p1, p2, p3, p4⟩ := h
  refine ⟨v, p1, p2, Nat.le_trans hl p3, p4.1, ?_⟩
  rcases p4.2 with h0 | ⟨g', cap, cur, e, hb', r⟩
  · exact .inl h0
  · exact .inr ⟨g', cap, cur, e, Nat.le_trans hl hb', r⟩
/-- What a map of piles holds, of some places. -/
structure MapP (D : DataW Unit) (okp : Nat → Nat → Prop) (pb : Nat → Nat → Nat) : Prop where
  has : ∀ s z : Int, Wf s → Wf z → (Maps.has D (kl s z) = true ↔ 0 ≤ s ∧ 0 ≤ z ∧ okp s.toNat z.toNat)
  val : ∀ s z : Nat, okp s z → D.atKey (kl s z) (.lit (.int .i64 (-1))) = .lit (.int .i64 (pb s z : Int))
  only : ∀ k, Maps.has D k = true → ∃ s z : Nat, okp s z ∧ k = kl s z
  small : ∀ s z, okp s z → s ≤ 1000 ∧ z ≤ 1000
set_option maxRecDepth 100000 in
theorem MapP.put {D : DataW Unit} {okp : Nat → Nat → Prop} {pb : Nat → Nat → Nat} (h : MapP D okp pb) (hD : IsMap D) (s z b : Nat) (hs : s ≤ 1000) (hz : z ≤ 1000) :
    MapP (D.put (kl s z) (.lit (.int .i64 (b : Int)))) (fun s' z' => okp s' z' ∨ (s' = s ∧ z' = z)) (upd pb s z b) := by
  have ws := wf_nat hs
  have wz := wf_nat hz
  have hk := kl_key ws wz
  refine ⟨fun s' z' w1 w2 => ?_, fun s' z' h' => ?_, fun k hk' => ?_, fun s' z' h' => ?_⟩
  · by_cases e : s' = s ∧ z' = z
    · obtain ⟨rfl, rfl⟩ := e
      rw [has_put_same hD hk]
      simp
    · have hne : kl s' z' ≠ kl s z := kl_ne w1 w2 ws wz (by omega)
      rw [has_put_other hne, h.has s' z' w1 w2]
      constructor
      · rintro ⟨h1, h2, h3⟩; exact ⟨h1, h2, .inl h3⟩
      · rintro ⟨h1, h2, h3 | h3⟩
        · exact ⟨h1, h2, h3⟩
        · omega
  · by_cases e : s' = s ∧ z' = z
    · obtain ⟨rfl, rfl⟩ := e
      rw [atKey_put_same hD hk, upd_same]
    · have h' := h'.resolve_right e
      have := h.small s' z' h'
      rw [atKey_put_other (kl_ne (wf_nat this.1) (wf_nat this.2) ws wz (by omega)), upd_other _ _ e]
      exact h.val s' z' h'
  · by_cases e : k = kl s z
    · exact ⟨s, z, .inr ⟨rfl, rfl⟩, e⟩
    · rw [has_put_other e] at hk'
      obtain ⟨s', z', h1, h2⟩ := h.only k hk'
      exact ⟨s', z', .inl h1, h2⟩
  · rcases h' with h' | ⟨rfl, rfl⟩
    · exact h.small s' z' h'
    · exact ⟨hs, hz⟩
/-- Piles of some places, in a map. -/
structure PInv (w : World) (lo mb N : Nat) (okp : Nat → Nat → Prop) (D : DataW Unit) (pb : Nat → Nat → Nat) (pg : Nat → Nat → Option Nat) (L : Nat → Nat → List Int) (tag : Nat → Tag) : Prop where
  mp : w.ownsMap Tryz.prog 130 ptrElem mb N D
  md : MapP D okp pb
  pi : ∀ s z, okp s z → PileAt w lo (pb s z) (pg s z) (L s z)
  tm : tag mb = .map
  tp : ∀ s z, okp s z → tag (pb s z) = .pile s z
  tg : ∀ s z k, okp s z → pg s z = some k → tag k = .prow s z
  low : ∀ k, tag k ≠ .no → lo ≤ k
  high : ∀ k, w.heap.size ≤ k → tag k = .no
theorem PInv.later {w w' : World} {lo mb N : Nat} {okp : Nat → Nat → Prop} {D : DataW Unit} {pb : Nat → Nat → Nat} {pg : Nat → Nat → Option Nat} {L : Nat → Nat → List Int} {tag : Nat → Tag} (h : PInv w lo mb N okp D pb pg L tag) (hb : Below w.heap.size w w') :
    PInv w' lo mb N okp D pb pg L tag := by
  refine ⟨?_, h.md, fun s z ok => (h.pi s z ok).later hb, h.tm, h.tp, h.tg, h.low, fun k hk => h.high k (Nat.le_trans hb.size hk)⟩
  obtain ⟨es, clock, he, r⟩ := h.mp
  exact ⟨es, clock, (hb.block mb (Array.getElem?_eq_some_iff.1 he).1).trans he, r⟩
theorem PInv.step {w w2 w3 : World} {lo mb N s z b : Nat} {g : Option Nat} {okp : Nat → Nat → Prop} {D : DataW Unit} {pb : Nat → Nat → Nat} {pg : Nat → Nat → Option Nat} {L : Nat → Nat → List Int} {tag : Nat → Tag} (h : PInv w lo mb N okp D pb pg L tag)
    (hs : s ≤ 1000) (hz : z ≤ 1000) (hlo : lo ≤ w.heap.size) (hb : Below w.heap.size w w2) (hp : PileAt w2 w.heap.size b g (L s z)) (hg : w2.grownBy w3 (some mb)) (hm : w3.ownsMap Tryz.prog 130 ptrElem mb (N + 1) (D.put (kl s z) (.lit (.int .i64 (b : Int))))) (hD : IsMap D) :
    ∃ tag', PInv w3 lo mb (N + 1) (fun s' z' => okp s' z' ∨ (s' = s ∧ z' = z)) (D.put (kl s z) (.lit (.int .i64 (b : Int)))) (upd pb s z b) (upd pg s z g) L tag' := by
  classical
  have hbl : w.heap.size ≤ b := by obtain ⟨v, _, _, h3, _⟩ := hp; exact h3
  have h2 := h.later hb
  have hkeep : ∀ k, k < w2.heap.size → tag k ≠ .map → w3.heap[k]? = w2.heap[k]? := fun k hk ht => hg.block k hk (fun e => by injection e with e; exact ht (e ▸ h.tm))
  have hno : ∀ k, w.heap.size ≤ k → tag k = .no := h.high
  have ht : ∀ k, tag k ≠ .no → (if k = b then Tag.pile s z else if g = some k then Tag.prow s z else tag k) = tag k := fun k hk => by
    have hk1 : k < w.heap.size := Classical.byContradiction fun hn => hk (hno k (by omega))
    rw [if_neg (by omega), if_neg (fun e => by have := (hp.row k e).1; omega)]
  refine ⟨fun k => if k = b then .pile s z else if g = some k then .prow s z else tag k, hm, h.md.put hD s z b hs hz, fun s' z' ok => ?_, ?_, fun s' z' ok => ?_, fun s' z' k ok e => ?_, fun k hk => ?_, fun k hk => ?_⟩
  · by_cases e : s' = s ∧ z' = z
    · obtain ⟨rfl, rfl⟩ := e
      rw [upd_same, upd_same]
      have hk : ∀ k, w.heap.size ≤ k → k < w2.heap.size → w3.heap[k]? = w2.heap[k]? := fun k h1 h2 => hkeep k h2 (by rw [hno k h1]; simp)
      have hq := pile_kept hp (hk b hbl hp.lt) fun k e => hk k (hp.row k e).1 (hp.row k e).2.1
      exact hq.mono hlo
    · have ok := ok.resolve_right e
      rw [upd_other _ _ e, upd_other _ _ e]
      refine pile_kept (h2.pi s' z' ok) (hkeep _ (h2.pi s' z' ok).lt (by rw [h.tp s' z' ok]; simp)) fun k e => hkeep k ((h2.pi s' z' ok).row k e).2.1 (by rw [h.tg s' z' k ok e]; simp)
  · rw [ht mb (by rw [h.tm]; simp)]; exact h.tm
  · by_cases e : s' = s ∧ z' = z
    · obtain ⟨rfl, rfl⟩ := e
      rw [upd_same, if_pos rfl]
    · have ok := ok.resolve_right e
      rw [upd_other _ _ e, ht _ (by rw [h.tp s' z' ok]; simp)]; exact h.tp s' z' ok
  · by_cases e2 : s' = s ∧ z' = z
    · obtain ⟨rfl, rfl⟩ := e2
      rw [upd_same] at e
      rw [if_neg (hp.row k e).2.2, if_pos e]
    · have ok := ok.resolve_right e2
      rw [upd_other _ _ e2] at e
      rw [ht _ (by rw [h.tg s' z' k ok e]; simp)]; exact h.tg s' z' k ok e
  · by_cases e : k = b
    · omega
    · by_cases e2 : g = some k
      · have := (hp.row k e2).1; omega
      · rw [if_neg e, if_neg e2] at hk; exact h.low k hk
  · have hsz := hg.size
    have hsz2 := hb.size
    rw [if_neg (fun e => by have := hp.lt; omega), if_neg (fun e => by have := (hp.row k e).2.1; omega)]
    exact h.high k (by omega)
/-- The places that are there behind some rounds. -/
def okP (s z s' z' : Nat) : Prop := 1 ≤ z' ∧ z' ≤ 7 ∧ (z' = 3 ∨ z' = 4 → s' = 0 ∧ (0 < s ∨ z' < z)) ∧ (z' ≠ 3 ∧ z' ≠ 4 → s' < s ∨ (s' = s ∧ z' < z))
theorem okP_next (s z : Nat) (h1 : 1 ≤ z) (h7 : z ≤ 7) : (fun s' z' => okP s z s' z' ∨ (s' = canN s z ∧ z' = z)) = okP s (z + 1) := by
  funext s' z'
  apply propext
  unfold okP canN
  split <;> constructor <;> intro h <;> omega
theorem okP_row (s : Nat) : okP s 8 = okP (s + 1) 1 := by
  funext s' z'
  apply propext
  unfold okP
  constructor <;> intro h <;> omega
theorem okP_all {n : Nat} (hn : 1 ≤ n) : okP n 1 = okK n := by
  funext s' z'
  apply propext
  unfold okP okK
  constructor <;> intro h <;> omega
theorem okP_none (s' z' : Nat) : ¬ okP 0 1 s' z' := by unfold okP; omega
theorem mapP_none : MapP (.map []) (okP 0 1) (fun _ _ => 0) := by
  refine ⟨fun s z _ _ => ?_, fun s z h => absurd h (okP_none _ _), fun k hk => ?_, fun s z h => absurd h (okP_none _ _)⟩
  · have e : Maps.has (H := Unit) (.map []) (kl s z) = false := rfl
    rw [e]
    constructor
    · intro h; cases h
    · rintro ⟨_, _, h⟩; exact absurd h (okP_none _ _)
  · have e : Maps.has (H := Unit) (.map []) k = false := rfl
    rw [e] at hk; cases hk
def RetMap (w : World) (n : Nat) (e : Ending) (w' : World) : Prop :=
  ∃ mb D pb pg tag, e = .returned (.map (some mb)) ∧ PInv w' w.heap.size mb 28 (okK n) D pb pg (fun _ _ => []) tag ∧ Below w.heap.size w w'
theorem new_none (w : World) : Calls Tryz.prog 108 #[.slice none 0 0] w (RetNew w []) := by
  have h := new_any (v := .slice none 0 0) (l := []) (w := w) (.inl ⟨none, 0, rfl, rfl⟩) (by decide)
  rw [show onceL [] = [] from rfl] at h
  exact h
set_option maxRecDepth 100000 in
set_option maxHeartbeats 4000000 in
theorem emptyPiles_any (n : Nat) (w : World) (h1 : 1 ≤ n) (h4 : n ≤ 4) : Calls Tryz.prog 70 #[.int .i64 n] w (RetMap w n) := by
  have hmm := @run_makeMap Tryz.prog
  obtain ⟨lo, hlo⟩ : ∃ lo, w.heap.size = lo := ⟨_, rfl⟩
  have HLO := Lib.hid hlo
  unfold RetMap
  rw [hlo]
  go_enter Tryz.func70, Tryz.ntmps70
  go_wp2
  obtain ⟨W, hW⟩ : ∃ W, w.alloc (.map #[] 0) = W := ⟨_, rfl⟩
  have HB0 : Hid (Below lo w W) := Lib.hid (hlo ▸ hW ▸ below_new w _)
  have HP0 : Hid (∃ D pb pg tag, PInv W lo lo 0 (okP 0 1) D pb pg (fun _ _ => []) tag) := Lib.hid (by
    classical
    have hm := World.ownsMap_made w Tryz.prog 130 ptrElem
    rw [hW, hlo] at hm
    have hsz : W.heap.size = lo + 1 := by rw [← hW, ← hlo]; simp
    refine ⟨_, fun _ _ => 0, fun _ _ => none, fun k => if k = lo then .map else .no, hm, mapP_none, fun s z h => absurd h (okP_none _ _), if_pos rfl, fun s z h => absurd h (okP_none _ _), fun s z k h => absurd h (okP_none _ _), fun k hk => ?_, fun k hk => if_neg (by omega)⟩
    by_cases e : k = lo
    · omega
    · rw [if_neg e] at hk; exact absurd rfl hk)
  rw [hW]
  clear hmm hlo hW
  go_loopw [8] (fun i wr => ∃ s : Nat, s ≤ n ∧ i = .int .i64 s ∧ Hid (∃ D pb pg tag, PInv wr lo lo (s * 7) (okP s 1) D pb pg (fun _ _ => []) tag) ∧ Hid (Below lo w wr) ∧ Hid (lo ≤ wr.heap.size)) (fun i _ => n - (intOf i).toNat)
  case atStart => exact ⟨0, Nat.zero_le _, rfl, HP0, HB0, Lib.hid (by have := HB0.out.size; have := HLO.out; omega)⟩
  case round =>
    obtain ⟨s, hs, rfl, HP, HB, HS⟩ := hrel
    by_cases hlt : s < n
    · go_wp2
      go_loopw [5] (fun i wq => ∃ z : Nat, 1 ≤ z ∧ z ≤ 8 ∧ i = .int .i64 z ∧ Hid (∃ D pb pg tag, PInv wq lo lo (s * 7 + (z - 1)) (okP s z) D pb pg (fun _ _ => []) tag) ∧ Hid (Below lo w wq) ∧ Hid (lo ≤ wq.heap.size)) (fun i _ => 8 - (intOf i).toNat)
      case atStart => exact ⟨1, Nat.le_refl _, by decide, rfl, by simpa using HP, HB, HS⟩
      case round =>
        obtain ⟨z, hz1, hz8, rfl, HP', HB', HS'⟩ := hrel
        by_cases hlt2 : z < 8
        · obtain ⟨D, pb, pg, tag, hp⟩ := HP'.out
          have HPI := Lib.hid hp
          have d0 : decide ((z : Int) ≤ 7) = true := decide_eq_true (by omega)
          have d1 : decide (z ≤ 7) = true := decide_eq_true (by omega)
          have HPL := placeOf_any (s : Int) (z : Int) wr
          rw [canN_cast] at HPL
          unfold kv at HPL
          have HPLH := Lib.hid HPL
          have hwk : Wf (canN s z : Int) := wf_nat (by unfold canN; split <;> omega)
          have hkey := place_key hwk (wf_nat (x := z) (by omega))
          unfold kv at hkey
          clear hp HP' HPL
          go_wp2_with fail
          refine HPLH.out.mono ?_
          rintro e w2 ⟨rfl, hb2⟩
          have HB2 := Lib.hid hb2
          clear hb2
          dsimp only
          go_wp2_with fail
          refine (new_none w2).mono ?_
          rintro e w3 ⟨b, g, rfl, hp3, hb3⟩
          have HB3 := Lib.hid (stepB HB2.out hb3)
          have hq : PileAt w3 wr.heap.size b g [] := PileAt.mono hp3 HB2.out.size
          have HQ := Lib.hid hq
          have hown := (HPI.out.later HB3.out).mp
          clear hb3 hp3 hq
          dsimp only
          go_wp2_with (at_mapUpdate; refine wpList_mapUpdate_own _ rfl _ _ _ 99 rfl 130 118 place_keyed Tryz.underlying99 _ lo _ D rfl hown (by unfold maxLen; omega) _ _ (kl (canN s z : Int) (z : Int)) rfl rfl hkey (.lit (.int .i64 (b : Int))) [] (ptrElem_ptr b) ?_)
          intro w4 hown4 hgrow4
          have HO4 := Lib.hid hown4
          have HG4 := Lib.hid hgrow4
          clear hown hown4 hgrow4
          go_wp2
          go_roundw
          case rel =>
            obtain ⟨tag', hst⟩ := HPI.out.step (L := fun _ _ => []) (s := canN s z) (z := z) (by unfold canN; split <;> omega) (by omega) HS'.out HB3.out HQ.out HG4.out HO4.out (HPI.out.mp.isMap)
            rw [okP_next s z hz1 (by omega), show s * 7 + (z - 1) + 1 = s * 7 + (z + 1 - 1) by omega] at hst
            have hsz := HG4.out.size
            have hsz3 := HB3.out.size
            exact ⟨z + 1, by omega, by omega, by go_num, Lib.hid ⟨_, _, _, _, hst⟩, Lib.hid ((HB'.out.trans (HB3.out.mono HS'.out)).grown HG4.out (by have := HS'.out; omega) (fun k e => by injection e with e; omega)), Lib.hid (by have := HS'.out; omega)⟩
          case measure => simp [intOf]; omega
        · obtain rfl : z = 8 := by omega
          go_wp2
          go_roundw
          case rel => exact ⟨s + 1, by omega, by go_num, by rw [← okP_row, show (s + 1) * 7 = s * 7 + (8 - 1) by omega]; exact HP', HB', HS'⟩
          case measure => simp [intOf]; omega
    · obtain rfl : s = n := by omega
      obtain ⟨D, pb, pg, tag, hp⟩ := HP.out
      rw [okP_all h1] at hp
      have HPI := Lib.hid hp
      clear hp
      go_wp2
      go_ret
      refine ⟨lo, D, pb, pg, tag, rfl, ?_, HB.out⟩
      have h := HPI.out
      exact ⟨h.mp.mono (by omega), h.md, h.pi, h.tm, h.tp, h.tg, h.low, h.high⟩
end Go.Proofs.YtgjojjhppgjkkaaGreat

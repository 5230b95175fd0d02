/- A table of a store's own (layer 6): own. New stores (layer 6): emptyPiles, New. What holds of a store at any time (layer 6): each object is in just one pile; Move, and Add of what may not be. The contract of object.New (layer 6). What a store's calls keep (layer 6): each object in just one pile, behind Add, Move and Set. -/
import Derived.Test.YtjgjhfeopmakaaaGreatHf
import Derived.Maps.OwnOps
namespace Go.Proofs.YtjgjhfeopmakaaaGreat
open Go.RowKit Go.Maps

/-- A row of cards, of which the first are written, with terms in rows behind it. -/
def RowK (w : World) (g n : Nat) (acc : List Crd.CardL) : Prop :=
  ∃ (C : Array Value) (t : TypeId), w.heap[g]? = some (.cells C t (0, 0)) ∧ C.size = n * 7 ∧ ∀ j (h : j < acc.length), ∃ v, Crd.RowsC (g + 1) w v acc[j].terms ∧
    C[j * 7]? = some (.int .i64 acc[j].kind) ∧ C[j * 7 + 1]? = some (.int .i64 acc[j].cost) ∧ C[j * 7 + 2]? = some (.int .i64 acc[j].power) ∧ C[j * 7 + 3]? = some (.int .i64 acc[j].tough) ∧ C[j * 7 + 4]? = some (.int .i64 acc[j].keys) ∧ C[j * 7 + 5]? = some (.int .i64 acc[j].whn) ∧ C[j * 7 + 6]? = some v
theorem RowK.later {w w' : World} {g n : Nat} {acc : List Crd.CardL} (h : RowK w g n acc) (hb : Below w.heap.size w w') : RowK w' g n acc := by
  obtain ⟨C, t, hC, hs, hc⟩ := h
  refine ⟨C, t, (hb.block g (Crd.lt_of_row hC)).trans hC, hs, fun j hj => ?_⟩
  obtain ⟨v, hv, r⟩ := hc j hj
  exact ⟨v, hv.later hb, r⟩
theorem RowK.cell {w : World} {g n : Nat} {acc : List Crd.CardL} (h : RowK w g n acc) (k : Nat) (hk : k < n * 7) : ∃ v, w.cell? ⟨g, k, none⟩ = some v := by
  obtain ⟨C, t, hC, hs, _⟩ := h
  exact ⟨C[k]'(by omega), by simp [World.cell?, hC, hs, hk]⟩
theorem RowK.frozen {w : World} {g n : Nat} {acc : List Crd.CardL} (h : RowK w g n acc) (k : Nat) : w.frozen? ⟨g, k, none⟩ = false := by
  obtain ⟨C, t, hC, hs, _⟩ := h
  simp [World.frozen?, hC]
theorem rows_far {g : Nat} {w : World} {v : Value} {l : List Crd.TermL} (h : Crd.RowsC (g + 1) w v l) {p : Addr} (hp : p.block = g) (u : Value) : Crd.RowsC (g + 1) (w.setCell p u) v l := by
  rcases h with h | ⟨r, cap, rfl, h0, hB, hlt, hr⟩
  · exact .inl h
  · exact .inr ⟨r, cap, rfl, h0, hB, by simpa using hlt, hr.far (by omega) u⟩
def put7 (w : World) (g o : Nat) (c : Crd.CardL) (v : Value) : World :=
  ((((((w.setCell ⟨g, o, none⟩ (.int .i64 c.kind)).setCell ⟨g, o + 1, none⟩ (.int .i64 c.cost)).setCell ⟨g, o + 2, none⟩ (.int .i64 c.power)).setCell ⟨g, o + 3, none⟩ (.int .i64 c.tough)).setCell ⟨g, o + 4, none⟩ (.int .i64 c.keys)).setCell ⟨g, o + 5, none⟩ (.int .i64 c.whn)).setCell ⟨g, o + 6, none⟩ v
theorem rows_far7 {g o : Nat} {w : World} {v u : Value} {l : List Crd.TermL} {c : Crd.CardL} (h : Crd.RowsC (g + 1) w v l) : Crd.RowsC (g + 1) (put7 w g o c u) v l :=
  rows_far (rows_far (rows_far (rows_far (rows_far (rows_far (rows_far h rfl _) rfl _) rfl _) rfl _) rfl _) rfl _) rfl _
theorem RowK.put {w : World} {g n : Nat} {acc : List Crd.CardL} (h : RowK w g n acc) (c : Crd.CardL) (v : Value) (hv : Crd.RowsC (g + 1) w v c.terms) (hk : acc.length < n) :
    RowK (put7 w g (acc.length * 7) c v) g n (acc ++ [c]) := by
  have hv' : Crd.RowsC (g + 1) (put7 w g (acc.length * 7) c v) v c.terms := rows_far7 hv
  obtain ⟨C, t, hC, hs, hc⟩ := h
  refine ⟨((((((C.setIfInBounds (acc.length * 7) (.int .i64 c.kind)).setIfInBounds (acc.length * 7 + 1) (.int .i64 c.cost)).setIfInBounds (acc.length * 7 + 2) (.int .i64 c.power)).setIfInBounds (acc.length * 7 + 3) (.int .i64 c.tough)).setIfInBounds (acc.length * 7 + 4) (.int .i64 c.keys)).setIfInBounds (acc.length * 7 + 5) (.int .i64 c.whn)).setIfInBounds (acc.length * 7 + 6) v, t, ?_, by simpa using hs, fun j hj => ?_⟩
  · simp [put7, World.setCell, Array.getElem?_modify, hC]
  · rw [List.length_append] at hj
    simp only [List.length_singleton] at hj
    by_cases e : j = acc.length
    · subst e
      refine ⟨v, by simpa using hv', ?_⟩
      simp [Array.getElem?_setIfInBounds, hs]
      omega
    · have hj' : j < acc.length := by omega
      obtain ⟨u, hu, h7⟩ := hc j hj'
      refine ⟨u, ?_, ?_⟩
      · rw [List.getElem_append_left hj']; exact rows_far7 hu
      · rw [List.getElem_append_left hj']
        have hne : ∀ i, i < 7 → ∀ x, (((((((C.setIfInBounds (acc.length * 7) (.int .i64 c.kind)).setIfInBounds (acc.length * 7 + 1) (.int .i64 c.cost)).setIfInBounds (acc.length * 7 + 2) (.int .i64 c.power)).setIfInBounds (acc.length * 7 + 3) (.int .i64 c.tough)).setIfInBounds (acc.length * 7 + 4) (.int .i64 c.keys)).setIfInBounds (acc.length * 7 + 5) (.int .i64 c.whn)).setIfInBounds (acc.length * 7 + 6) v)[j * 7 + i]? = x ↔ C[j * 7 + i]? = x := fun i hi x => by
          simp only [Array.getElem?_setIfInBounds]
          rw [if_neg (by omega), if_neg (by omega), if_neg (by omega), if_neg (by omega), if_neg (by omega), if_neg (by omega), if_neg (by omega)]
        exact ⟨(hne 0 (by decide) _).2 h7.1, (hne 1 (by decide) _).2 h7.2.1, (hne 2 (by decide) _).2 h7.2.2.1, (hne 3 (by decide) _).2 h7.2.2.2.1, (hne 4 (by decide) _).2 h7.2.2.2.2.1, (hne 5 (by decide) _).2 h7.2.2.2.2.2.1, (hne 6 (by decide) _).2 h7.2.2.2.2.2.2⟩
/-- A table all of whose blocks are new. -/
def TabFrom (w : World) (B : Nat) (v : Value) (T : List Crd.CardL) : Prop := ∀ W' : World, (∀ k, B ≤ k → k < w.heap.size → W'.heap[k]? = w.heap[k]?) → Crd.CardsAt W' v T
theorem RowK.tab {w : World} {g n B : Nat} {T : List Crd.CardL} (h : RowK w g n T) (hn : T.length = n) (hB : B ≤ g) : TabFrom w B (.slice (some ⟨g, 0, none⟩) n n) T := by
  obtain ⟨C, t, hC, hs, hc⟩ := h
  intro W' hW
  have hC' : W'.heap[g]? = some (.cells C t (0, 0)) := (hW g hB (Crd.lt_of_row hC)).trans hC
  refine .inr ⟨g, 0, n, by rw [hn], Crd.lt_of_row hC', fun i hi => ?_⟩
  obtain ⟨v, hv, h7⟩ := hc i hi
  have hv' : Crd.RowsC (g + 1) W' v T[i].terms := by
    rcases hv with hv | ⟨r, cap, e, h0, hr1, hr2, ⟨D, t', hD, hd⟩⟩
    · exact .inl hv
    · have hD' := (hW r (by omega) hr2).trans hD
      exact .inr ⟨r, cap, e, h0, hr1, Crd.lt_of_row hD', D, t', hD', hd⟩
  have hform : ∃ ya yc, v = .slice ya T[i].terms.length yc := by
    rcases hv with ⟨e, e2⟩ | ⟨r, cap, e, _⟩
    · exact ⟨none, 0, by rw [e, e2]; rfl⟩
    · exact ⟨_, _, e⟩
  obtain ⟨ya, yc, rfl⟩ := hform
  rw [Nat.zero_add]
  exact ⟨ya, yc, by simp [World.cell?, hC', h7.1], by simp [World.cell?, hC', h7.2.1], by simp [World.cell?, hC', h7.2.2.1], by simp [World.cell?, hC', h7.2.2.2.1], by simp [World.cell?, hC', h7.2.2.2.2.1], by simp [World.cell?, hC', h7.2.2.2.2.2.1], by simp [World.cell?, hC', h7.2.2.2.2.2.2], hv'.is⟩
theorem info_card : (Tryz.prog.info? 65).map (fun i => (i.zero, i.size, i.bytes)) = some (some (.agg #[.int .i64 0, .int .i64 0, .int .i64 0, .int .i64 0, .int .i64 0, .int .i64 0, .slice none 0 0]), 7, 72) := by kernel_rfl
theorem may_terms {T : List Crd.CardL} (h : Crd.tableE T = 0) (k : Nat) (hk : k < T.length) : T[k].terms.length ≤ 30 := by
  unfold Crd.tableE at h
  split at h
  · cases h
  · split at h
    · rename_i h1
      have := List.all_eq_true.1 h1 _ (List.getElem_mem hk)
      unfold Crd.mayB Crd.termsB at this
      simp at this
      omega
    · cases h
def RetOwn (w : World) (T : List Crd.CardL) (e : Ending) (w' : World) : Prop := ∃ v, e = .returned v ∧ TabFrom w' w.heap.size v T ∧ Below w.heap.size w w'
set_option maxRecDepth 100000 in
set_option maxHeartbeats 4000000 in
theorem own_any {w : World} {v : Value} {T : List Crd.CardL} (h : Crd.CardsAt w v T) (ht : Crd.tableE T = 0) : Calls Tryz.prog 54 #[v] w (RetOwn w T) := by
  obtain ⟨i0, hi, hz0, hz1, hz2⟩ := info_parts info_card
  have hT := table_short ht
  have hmk : ∀ u : World, (Instr.makeSlice 62 (.int .i64 (T.length : Int)) (.int .i64 (T.length : Int))).run Tryz.prog u = .ok (.slice (some ⟨u.heap.size, 0, none⟩) T.length T.length) (u.alloc (.cells (madeCells #[.int .i64 0, .int .i64 0, .int .i64 0, .int .i64 0, .int .i64 0, .int .i64 0, .slice none 0 0] (T.length * 7)) 65)) := fun u => by
    have h := run_make (P := Tryz.prog) u 62 65 i0 _ Tryz.underlying62 hi hz0 .i64 .i64 (T.length : Int) (T.length : Int) (by omega) (Int.le_refl _) (by rw [hz2]; omega) (by omega)
    simpa [hz1, Value.cells] using h
  obtain ⟨xa, xc, rfl⟩ := h.form
  have HL := Lib.hid h
  have HM := Lib.hid (may_terms ht)
  clear h hi hz0 hz1 hz2 ht
  go_enter Tryz.func54, Tryz.ntmps54
  go_wp2
  obtain ⟨W, hW⟩ : ∃ W, w.alloc (.cells (madeCells #[.int .i64 0, .int .i64 0, .int .i64 0, .int .i64 0, .int .i64 0, .int .i64 0, .slice none 0 0] (T.length * 7)) 65) = W := ⟨_, rfl⟩
  have HB0 := Lib.hid (hW ▸ below_new w _ : Below w.heap.size w W)
  have HR0 : Hid (RowK W w.heap.size T.length []) := Lib.hid (hW ▸ ⟨_, _, heap_alloc_new w _, size_madeCells _ _, fun j hj => by simp at hj⟩)
  rw [hW]
  obtain ⟨g, hg⟩ : ∃ g, w.heap.size = g := ⟨_, rfl⟩
  have HG := Lib.hid hg
  rw [hg] at HR0 ⊢
  clear hW hmk hg
  go_loopw [11] (fun i wr => ∃ k : Nat, k ≤ T.length ∧ i = .int .i64 k ∧ Hid (RowK wr g T.length (T.take k)) ∧ Hid (Below w.heap.size w wr) ∧ Hid (g < wr.heap.size)) (fun i _ => T.length - (intOf i).toNat)
  case atStart => exact ⟨0, Nat.zero_le _, rfl, by rw [List.take_zero]; exact HR0, HB0, Lib.hid (by obtain ⟨C, t, hC, _⟩ := HR0.out; exact Crd.lt_of_row hC)⟩
  case round =>
    obtain ⟨k, hk, rfl, HR, HB, HGL⟩ := hrel
    by_cases hlt : k < T.length
    · obtain ⟨tb, off, rfl, hcc⟩ := (HL.out.later HB.out).at k hlt
      have HTK := Lib.hid (take_last T k hlt)
      have HM3 := Lib.hid (HM.out k hlt)
      obtain ⟨c, hc⟩ : ∃ c, T[k] = c := ⟨_, rfl⟩
      rw [hc] at hcc HTK HM3
      obtain ⟨ya, yc, t0, t1, t2, t3, t4, t5, t6, htm⟩ := hcc
      have HTM := Lib.hid htm
      have d0 : (0 : Int) ≤ k := by omega
      have d1 : (k : Int) < T.length := by omega
      have HCO := Lib.hid (fun (w' : World) (hb : Below wr.heap.size wr w') => Crd.copy_any (HTM.out.later hb) HM3.out)
      unfold Crd.cagg at HCO
      clear htm hc
      go_wp2_with fail
      refine (HCO.out _ (below_new wr _)).mono ?_
      rintro e w2 ⟨v, rfl, hrows, hb2⟩
      obtain ⟨va, vn, vc, rfl⟩ : ∃ va vn vc, v = .slice va vn vc := by
        rcases hrows with ⟨e, _⟩ | ⟨r, cap, e, _⟩
        · exact ⟨none, 0, 0, e⟩
        · exact ⟨_, _, _, e⟩
      have hbr := stepB (below_new wr (.cells (ccs c (.slice ya c.terms.length yc)) 65)) hb2
      have HR2 := Lib.hid (HR.out.later hbr)
      have HB2 := Lib.hid (stepB HB.out hbr)
      have hlen : (T.take k).length = k := by rw [List.length_take]; omega
      have hfr := HR2.out.frozen
      obtain ⟨v0, q0⟩ := HR2.out.cell (k * 7) (by omega)
      obtain ⟨v1, q1⟩ := HR2.out.cell (k * 7 + 1) (by omega)
      obtain ⟨v2, q2⟩ := HR2.out.cell (k * 7 + 2) (by omega)
      obtain ⟨v3, q3⟩ := HR2.out.cell (k * 7 + 3) (by omega)
      obtain ⟨v4, q4⟩ := HR2.out.cell (k * 7 + 4) (by omega)
      obtain ⟨v5, q5⟩ := HR2.out.cell (k * 7 + 5) (by omega)
      obtain ⟨v6, q6⟩ := HR2.out.cell (k * 7 + 6) (by omega)
      have HPUT := HR2.out.put c (.slice va vn vc) (by
        rcases hrows with hr | ⟨r, cap, e, h0, hB, hr2, hr3⟩
        · exact .inl hr
        · refine .inr ⟨r, cap, e, h0, ?_, hr2, hr3⟩
          have := HGL.out
          have hB : (wr.alloc _).heap.size ≤ r := hB
          simp at hB
          omega) (by omega)
      rw [hlen, ← HTK.out] at HPUT
      unfold put7 at HPUT
      have HP := Lib.hid HPUT
      have hg2 : g < w2.heap.size := by have := HGL.out; have := hbr.size; omega
      unfold Crd.cagg
      clear hb2 hbr hrows HPUT
      dsimp only
      go_wp2
      go_roundw
      case rel =>
        have hgw : w.heap.size ≤ g := Nat.le_of_eq HG.out
        exact ⟨k + 1, by omega, by go_num, HP, Lib.hid (((((((HB2.out.setCell hgw _).setCell hgw _).setCell hgw _).setCell hgw _).setCell hgw _).setCell hgw _).setCell hgw _), Lib.hid (by simpa using hg2)⟩
      case measure => simp [intOf]; omega
    · obtain rfl : k = T.length := by omega
      have hR := HR.out
      rw [List.take_length] at hR
      have HT := Lib.hid (hR.tab rfl (Nat.le_of_eq HG.out))
      clear hR
      go_wp2
      go_ret
      exact ⟨_, rfl, HT.out, HB.out⟩
end Go.Proofs.YtjgjhfeopmakaaaGreat
namespace Go.Proofs.YtjgjhfeopmakaaaGreat
open Go.RowKit Go.Maps

theorem PileAt.mono {w : World} {lo lo' b : Nat} {g : Option Nat} {L : List Int} (h : PileAt w lo b g L) (hl : lo' ≤ lo) : PileAt w lo' b g L := by
  obtain ⟨v, p1, p2, p3, p4⟩ := h
  refine ⟨v, p1, p2, Nat.le_trans hl p3, p4.1, ?_⟩
  rcases p4.2 with h0 | ⟨g', cap, cur, e, hb', r⟩
  · exact .inl h0
  · exact .inr ⟨g', cap, cur, e, Nat.le_trans hl hb', r⟩
/-- What a map of piles holds, of some places. -/
structure MapP (D : DataW Unit) (okp : Nat → Nat → Prop) (pb : Nat → Nat → Nat) : Prop where
  has : ∀ s z : Int, Wf s → Wf z → (Maps.has D (kl s z) = true ↔ 0 ≤ s ∧ 0 ≤ z ∧ okp s.toNat z.toNat)
  val : ∀ s z : Nat, okp s z → D.atKey (kl s z) (.lit (.int .i64 (-1))) = .lit (.int .i64 (pb s z : Int))
  only : ∀ k, Maps.has D k = true → ∃ s z : Nat, okp s z ∧ k = kl s z
  small : ∀ s z, okp s z → s ≤ 1000 ∧ z ≤ 1000
set_option maxRecDepth 100000 in
theorem MapP.put {D : DataW Unit} {okp : Nat → Nat → Prop} {pb : Nat → Nat → Nat} (h : MapP D okp pb) (hD : IsMap D) (s z b : Nat) (hs : s ≤ 1000) (hz : z ≤ 1000) :
    MapP (D.put (kl s z) (.lit (.int .i64 (b : Int)))) (fun s' z' => okp s' z' ∨ (s' = s ∧ z' = z)) (upd pb s z b) := by
  have ws := wf_nat hs
  have wz := wf_nat hz
  have hk := kl_key ws wz
  refine ⟨fun s' z' w1 w2 => ?_, fun s' z' h' => ?_, fun k hk' => ?_, fun s' z' h' => ?_⟩
  · by_cases e : s' = s ∧ z' = z
    · obtain ⟨rfl, rfl⟩ := e
      rw [has_put_same hD hk]
      simp
    · have hne : kl s' z' ≠ kl s z := kl_ne w1 w2 ws wz (by omega)
      rw [has_put_other hne, h.has s' z' w1 w2]
      constructor
      · rintro ⟨h1, h2, h3⟩; exact ⟨h1, h2, .inl h3⟩
      · rintro ⟨h1, h2, h3 | h3⟩
        · exact ⟨h1, h2, h3⟩
        · omega
  · by_cases e : s' = s ∧ z' = z
    · obtain ⟨rfl, rfl⟩ := e
      rw [atKey_put_same hD hk, upd_same]
    · have h' := h'.resolve_right e
      have := h.small s' z' h'
      rw [atKey_put_other (kl_ne (wf_nat this.1) (wf_nat this.2) ws wz (by omega)), upd_other _ _ e]
      exact h.val s' z' h'
  · by_cases e : k = kl s z
    · exact ⟨s, z, .inr ⟨rfl, rfl⟩, e⟩
    · rw [has_put_other e] at hk'
      obtain ⟨s', z', h1, h2⟩ := h.only k hk'
      exact ⟨s', z', .inl h1, h2⟩
  · rcases h' with h' | ⟨rfl, rfl⟩
    · exact h.small s' z' h'
    · exact ⟨hs, hz⟩
/-- Piles of some places, in a map. -/
structure PInv (w : World) (lo mb N : Nat) (okp : Nat → Nat → Prop) (D : DataW Unit) (pb : Nat → Nat → Nat) (pg : Nat → Nat → Option Nat) (L : Nat → Nat → List Int) (tag : Nat → Tag) : Prop where
  mp : w.ownsMap Tryz.prog 110 ptrElem mb N D
  md : MapP D okp pb
  pi : ∀ s z, okp s z → PileAt w lo (pb s z) (pg s z) (L s z)
  tm : tag mb = .map
  tp : ∀ s z, okp s z → tag (pb s z) = .pile s z
  tg : ∀ s z k, okp s z → pg s z = some k → tag k = .prow s z
  low : ∀ k, tag k ≠ .no → lo ≤ k
  high : ∀ k, w.heap.size ≤ k → tag k = .no
theorem PInv.later {w w' : World} {lo mb N : Nat} {okp : Nat → Nat → Prop} {D : DataW Unit} {pb : Nat → Nat → Nat} {pg : Nat → Nat → Option Nat} {L : Nat → Nat → List Int} {tag : Nat → Tag} (h : PInv w lo mb N okp D pb pg L tag) (hb : Below w.heap.size w w') :
    PInv w' lo mb N okp D pb pg L tag := by
  refine ⟨?_, h.md, fun s z ok => (h.pi s z ok).later hb, h.tm, h.tp, h.tg, h.low, fun k hk => h.high k (Nat.le_trans hb.size hk)⟩
  obtain ⟨es, clock, he, r⟩ := h.mp
  exact ⟨es, clock, (hb.block mb (Array.getElem?_eq_some_iff.1 he).1).trans he, r⟩
theorem PInv.step {w w2 w3 : World} {lo mb N s z b : Nat} {g : Option Nat} {okp : Nat → Nat → Prop} {D : DataW Unit} {pb : Nat → Nat → Nat} {pg : Nat → Nat → Option Nat} {L : Nat → Nat → List Int} {tag : Nat → Tag} (h : PInv w lo mb N okp D pb pg L tag)
    (hs : s ≤ 1000) (hz : z ≤ 1000) (hlo : lo ≤ w.heap.size) (hb : Below w.heap.size w w2) (hp : PileAt w2 w.heap.size b g (L s z)) (hg : w2.grownBy w3 (some mb)) (hm : w3.ownsMap Tryz.prog 110 ptrElem mb (N + 1) (D.put (kl s z) (.lit (.int .i64 (b : Int))))) (hD : IsMap D) :
    ∃ tag', PInv w3 lo mb (N + 1) (fun s' z' => okp s' z' ∨ (s' = s ∧ z' = z)) (D.put (kl s z) (.lit (.int .i64 (b : Int)))) (upd pb s z b) (upd pg s z g) L tag' := by
  classical
  have hbl : w.heap.size ≤ b := by obtain ⟨v, _, _, h3, _⟩ := hp; exact h3
  have h2 := h.later hb
  have hkeep : ∀ k, k < w2.heap.size → tag k ≠ .map → w3.heap[k]? = w2.heap[k]? := fun k hk ht => hg.block k hk (fun e => by injection e with e; exact ht (e ▸ h.tm))
  have hno : ∀ k, w.heap.size ≤ k → tag k = .no := h.high
  have ht : ∀ k, tag k ≠ .no → (if k = b then Tag.pile s z else if g = some k then Tag.prow s z else tag k) = tag k := fun k hk => by
    have hk1 : k < w.heap.size := Classical.byContradiction fun hn => hk (hno k (by omega))
    rw [if_neg (by omega), if_neg (fun e => by have := (hp.row k e).1; omega)]
  refine ⟨fun k => if k = b then .pile s z else if g = some k then .prow s z else tag k, hm, h.md.put hD s z b hs hz, fun s' z' ok => ?_, ?_, fun s' z' ok => ?_, fun s' z' k ok e => ?_, fun k hk => ?_, fun k hk => ?_⟩
  · by_cases e : s' = s ∧ z' = z
    · obtain ⟨rfl, rfl⟩ := e
      rw [upd_same, upd_same]
      have hk : ∀ k, w.heap.size ≤ k → k < w2.heap.size → w3.heap[k]? = w2.heap[k]? := fun k h1 h2 => hkeep k h2 (by rw [hno k h1]; simp)
      have hq := pile_kept hp (hk b hbl hp.lt) fun k e => hk k (hp.row k e).1 (hp.row k e).2.1
      exact hq.mono hlo
    · have ok := ok.resolve_right e
      rw [upd_other _ _ e, upd_other _ _ e]
      refine pile_kept (h2.pi s' z' ok) (hkeep _ (h2.pi s' z' ok).lt (by rw [h.tp s' z' ok]; simp)) fun k e => hkeep k ((h2.pi s' z' ok).row k e).2.1 (by rw [h.tg s' z' k ok e]; simp)
  · rw [ht mb (by rw [h.tm]; simp)]; exact h.tm
  · by_cases e : s' = s ∧ z' = z
    · obtain ⟨rfl, rfl⟩ := e
      rw [upd_same, if_pos rfl]
    · have ok := ok.resolve_right e
      rw [upd_other _ _ e, ht _ (by rw [h.tp s' z' ok]; simp)]; exact h.tp s' z' ok
  · by_cases e2 : s' = s ∧ z' = z
    · obtain ⟨rfl, rfl⟩ := e2
      rw [upd_same] at e
      rw [if_neg (hp.row k e).2.2, if_pos e]
    · have ok := ok.resolve_right e2
      rw [upd_other _ _ e2] at e
      rw [ht _ (by rw [h.tg s' z' k ok e]; simp)]; exact h.tg s' z' k ok e
  · by_cases e : k = b
    · omega
    · by_cases e2 : g = some k
      · have := (hp.row k e2).1; omega
      · rw [if_neg e, if_neg e2] at hk; exact h.low k hk
  · have hsz := hg.size
    have hsz2 := hb.size
    rw [if_neg (fun e => by have := hp.lt; omega), if_neg (fun e => by have := (hp.row k e).2.1; omega)]
    exact h.high k (by omega)
/-- The places that are there behind some rounds. -/
def okP (s z s' z' : Nat) : Prop := 1 ≤ z' ∧ z' ≤ 7 ∧ (z' = 3 ∨ z' = 4 → s' = 0 ∧ (0 < s ∨ z' < z)) ∧ (z' ≠ 3 ∧ z' ≠ 4 → s' < s ∨ (s' = s ∧ z' < z))
theorem okP_next (s z : Nat) (h1 : 1 ≤ z) (h7 : z ≤ 7) : (fun s' z' => okP s z s' z' ∨ (s' = canN s z ∧ z' = z)) = okP s (z + 1) := by
  funext s' z'
  apply propext
  unfold okP canN
  split <;> constructor <;> intro h <;> omega
theorem okP_row (s : Nat) : okP s 8 = okP (s + 1) 1 := by
  funext s' z'
  apply propext
  unfold okP
  constructor <;> intro h <;> omega
theorem okP_all {n : Nat} (hn : 1 ≤ n) : okP n 1 = okK n := by
  funext s' z'
  apply propext
  unfold okP okK
  constructor <;> intro h <;> omega
theorem okP_none (s' z' : Nat) : ¬ okP 0 1 s' z' := by unfold okP; omega
theorem mapP_none : MapP (.map []) (okP 0 1) (fun _ _ => 0) := by
  refine ⟨fun s z _ _ => ?_, fun s z h => absurd h (okP_none _ _), fun k hk => ?_, fun s z h => absurd h (okP_none _ _)⟩
  · have e : Maps.has (H := Unit) (.map []) (kl s z) = false := rfl
    rw [e]
    constructor
    · intro h; cases h
    · rintro ⟨_, _, h⟩; exact absurd h (okP_none _ _)
  · have e : Maps.has (H := Unit) (.map []) k = false := rfl
    rw [e] at hk; cases hk
def RetMap (w : World) (n : Nat) (e : Ending) (w' : World) : Prop :=
  ∃ mb D pb pg tag, e = .returned (.map (some mb)) ∧ PInv w' w.heap.size mb 28 (okK n) D pb pg (fun _ _ => []) tag ∧ Below w.heap.size w w'
theorem new_none (w : World) : Calls Tryz.prog 95 #[.slice none 0 0] w (RetNew w []) := by
  have h := new_any (v := .slice none 0 0) (l := []) (w := w) (.inl ⟨none, 0, rfl, rfl⟩) (by decide)
  rw [show onceL [] = [] from rfl] at h
  exact h
set_option maxRecDepth 100000 in
set_option maxHeartbeats 4000000 in
theorem emptyPiles_any (n : Nat) (w : World) (h1 : 1 ≤ n) (h4 : n ≤ 4) : Calls Tryz.prog 55 #[.int .i64 n] w (RetMap w n) := by
  have hmm := @run_makeMap Tryz.prog
  obtain ⟨lo, hlo⟩ : ∃ lo, w.heap.size = lo := ⟨_, rfl⟩
  have HLO := Lib.hid hlo
  unfold RetMap
  rw [hlo]
  go_enter Tryz.func55, Tryz.ntmps55
  go_wp2
  obtain ⟨W, hW⟩ : ∃ W, w.alloc (.map #[] 0) = W := ⟨_, rfl⟩
  have HB0 : Hid (Below lo w W) := Lib.hid (hlo ▸ hW ▸ below_new w _)
  have HP0 : Hid (∃ D pb pg tag, PInv W lo lo 0 (okP 0 1) D pb pg (fun _ _ => []) tag) := Lib.hid (by
    classical
    have hm := World.ownsMap_made w Tryz.prog 110 ptrElem
    rw [hW, hlo] at hm
    have hsz : W.heap.size = lo + 1 := by rw [← hW, ← hlo]; simp
    refine ⟨_, fun _ _ => 0, fun _ _ => none, fun k => if k = lo then .map else .no, hm, mapP_none, fun s z h => absurd h (okP_none _ _), if_pos rfl, fun s z h => absurd h (okP_none _ _), fun s z k h => absurd h (okP_none _ _), fun k hk => ?_, fun k hk => if_neg (by omega)⟩
    by_cases e : k = lo
    · omega
    · rw [if_neg e] at hk; exact absurd rfl hk)
  rw [hW]
  clear hmm hlo hW
  go_loopw [8] (fun i wr => ∃ s : Nat, s ≤ n ∧ i = .int .i64 s ∧ Hid (∃ D pb pg tag, PInv wr lo lo (s * 7) (okP s 1) D pb pg (fun _ _ => []) tag) ∧ Hid (Below lo w wr) ∧ Hid (lo ≤ wr.heap.size)) (fun i _ => n - (intOf i).toNat)
  case atStart => exact ⟨0, Nat.zero_le _, rfl, HP0, HB0, Lib.hid (by have := HB0.out.size; have := HLO.out; omega)⟩
  case round =>
    obtain ⟨s, hs, rfl, HP, HB, HS⟩ := hrel
    by_cases hlt : s < n
    · go_wp2
      go_loopw [5] (fun i wq => ∃ z : Nat, 1 ≤ z ∧ z ≤ 8 ∧ i = .int .i64 z ∧ Hid (∃ D pb pg tag, PInv wq lo lo (s * 7 + (z - 1)) (okP s z) D pb pg (fun _ _ => []) tag) ∧ Hid (Below lo w wq) ∧ Hid (lo ≤ wq.heap.size)) (fun i _ => 8 - (intOf i).toNat)
      case atStart => exact ⟨1, Nat.le_refl _, by decide, rfl, by simpa using HP, HB, HS⟩
      case round =>
        obtain ⟨z, hz1, hz8, rfl, HP', HB', HS'⟩ := hrel
        by_cases hlt2 : z < 8
        · obtain ⟨D, pb, pg, tag, hp⟩ := HP'.out
          have HPI := Lib.hid hp
          have d0 : decide ((z : Int) ≤ 7) = true := decide_eq_true (by omega)
          have d1 : decide (z ≤ 7) = true := decide_eq_true (by omega)
          have HPL := placeOf_any (s : Int) (z : Int) wr
          rw [canN_cast] at HPL
          unfold kv at HPL
          have HPLH := Lib.hid HPL
          have hwk : Wf (canN s z : Int) := wf_nat (by unfold canN; split <;> omega)
          have hkey := place_key hwk (wf_nat (x := z) (by omega))
          unfold kv at hkey
          clear hp HP' HPL
          go_wp2_with fail
          refine HPLH.out.mono ?_
          rintro e w2 ⟨rfl, hb2⟩
          have HB2 := Lib.hid hb2
          clear hb2
          dsimp only
          go_wp2_with fail
          refine (new_none w2).mono ?_
          rintro e w3 ⟨b, g, rfl, hp3, hb3⟩
          have HB3 := Lib.hid (stepB HB2.out hb3)
          have hq : PileAt w3 wr.heap.size b g [] := PileAt.mono hp3 HB2.out.size
          have HQ := Lib.hid hq
          have hown := (HPI.out.later HB3.out).mp
          clear hb3 hp3 hq
          dsimp only
          go_wp2_with (at_mapUpdate; refine wpList_mapUpdate_own _ rfl _ _ _ 76 rfl 110 97 place_keyed Tryz.underlying76 _ lo _ D rfl hown (by unfold maxLen; omega) _ _ (kl (canN s z : Int) (z : Int)) rfl rfl hkey (.lit (.int .i64 (b : Int))) [] (ptrElem_ptr b) ?_)
          intro w4 hown4 hgrow4
          have HO4 := Lib.hid hown4
          have HG4 := Lib.hid hgrow4
          clear hown hown4 hgrow4
          go_wp2
          go_roundw
          case rel =>
            obtain ⟨tag', hst⟩ := HPI.out.step (L := fun _ _ => []) (s := canN s z) (z := z) (by unfold canN; split <;> omega) (by omega) HS'.out HB3.out HQ.out HG4.out HO4.out (HPI.out.mp.isMap)
            rw [okP_next s z hz1 (by omega), show s * 7 + (z - 1) + 1 = s * 7 + (z + 1 - 1) by omega] at hst
            have hsz := HG4.out.size
            have hsz3 := HB3.out.size
            exact ⟨z + 1, by omega, by omega, by go_num, Lib.hid ⟨_, _, _, _, hst⟩, Lib.hid ((HB'.out.trans (HB3.out.mono HS'.out)).grown HG4.out (by have := HS'.out; omega) (fun k e => by injection e with e; omega)), Lib.hid (by have := HS'.out; omega)⟩
          case measure => simp [intOf]; omega
        · obtain rfl : z = 8 := by omega
          go_wp2
          go_roundw
          case rel => exact ⟨s + 1, by omega, by go_num, by rw [← okP_row, show (s + 1) * 7 = s * 7 + (8 - 1) by omega]; exact HP', HB', HS'⟩
          case measure => simp [intOf]; omega
    · obtain rfl : s = n := by omega
      obtain ⟨D, pb, pg, tag, hp⟩ := HP.out
      rw [okP_all h1] at hp
      have HPI := Lib.hid hp
      clear hp
      go_wp2
      go_ret
      refine ⟨lo, D, pb, pg, tag, rfl, ?_, HB.out⟩
      have h := HPI.out
      exact ⟨h.mp.mono (by omega), h.md, h.pi, h.tm, h.tp, h.tg, h.low, h.high⟩
end Go.Proofs.YtjgjhfeopmakaaaGreat
namespace Go.Proofs.YtjgjhfeopmakaaaGreat
open Go.RowKit Go.Maps

/-- Where an object belongs. -/
def keyS (o : ObjL) : Nat := canN o.owner.toNat o.zone.toNat
structure WfS (S : StoreL) : Prop where
  ids : ∀ k (h : k < S.objs.length), S.objs[k].id = (k : Int) + 1 ∧ 0 ≤ S.objs[k].card ∧ S.objs[k].card < S.T.length ∧ 0 ≤ S.objs[k].owner ∧ S.objs[k].owner < S.seats ∧ 1 ≤ S.objs[k].zone ∧ S.objs[k].zone ≤ 7
  nodup : ∀ s z, okK S.seats s z → (S.pl s z).Nodup
  mem : ∀ s z, okK S.seats s z → ∀ id : Int, id ∈ S.pl s z ↔ ∃ k, ∃ h : k < S.objs.length, id = (k : Int) + 1 ∧ keyS S.objs[k] = s ∧ S.objs[k].zone.toNat = z
theorem nodup_len : ∀ (n : Nat) (L : List Int), L.Nodup → (∀ x ∈ L, 1 ≤ x ∧ x ≤ (n : Int)) → L.length ≤ n
  | 0, L, _, h => by
    cases L with
    | nil => simp
    | cons x L => have := h x (by simp); omega
  | n + 1, L, hn, h => by
    by_cases hm : ((n : Int) + 1) ∈ L
    · have h1 := nodup_len n (L.erase ((n : Int) + 1)) (hn.erase _) (fun x hx => by
        have := (hn.mem_erase_iff).1 hx
        have := h x this.2
        omega)
      have := List.length_erase_of_mem hm
      omega
    · exact Nat.le_succ_of_le (nodup_len n L hn (fun x hx => by
        have := h x hx
        have : x ≠ (n : Int) + 1 := fun e => hm (e ▸ hx)
        omega))
theorem WfS.short {S : StoreL} (h : WfS S) (hl : S.objs.length ≤ 1000) : ShortS S := by
  refine ⟨hl, fun s z ok => Nat.le_trans (nodup_len S.objs.length _ (h.nodup s z ok) fun x hx => ?_) hl⟩
  obtain ⟨k, hk, rfl, _⟩ := (h.mem s z ok x).1 hx
  omega
theorem Turned.keeps {w w' : World} {G G' : Ghost} (h : Turned w w' G G') {k : Nat} (hk : k < w.heap.size) (ht : G.tag k = .no) : w'.heap[k]? = w.heap[k]? ∧ G'.tag k = .no := ⟨h.chg.block k hk (.inl ht), (h.tag k hk).trans ht⟩
theorem obj_of_row {w : World} {k : Nat} {x : ObjL} {t : TypeId} (h : w.heap[k]? = some (.cells (ocs x) t (0, 0))) : ObjCells w k 0 x := by
  have hc : ∀ j, w.cell? ⟨k, j, none⟩ = (ocs x)[j]? := fun j => cell_of_row _ _ j _ _ (0, 0) h
  exact ⟨hc 0, hc 1, hc 2, hc 3, hc 4, hc 5, hc 6, hc 7, hc 8, hc 9, hc 10⟩
theorem StoreAt.rowAt {w : World} {lo b k g cap : Nat} {G : Ghost} {S : StoreL} (h : StoreAt w lo b G S) (hk : k < S.objs.length) (hv : G.ov = .slice (some ⟨g, 0, none⟩) S.objs.length cap) :
    ObjCells w g (k * 11) S.objs[k] ∧ ∀ j, w.frozen? ⟨g, j, none⟩ = false := by
  obtain ⟨g', cap', hgv, hc, hf⟩ := own_obj h.ob k hk
  rw [hv] at hgv
  injection hgv with h1 _ _
  injection h1 with h1
  injection h1 with h1 _ _
  subst h1
  exact ⟨hc, hf⟩
def moveL (S : StoreL) (k : Nat) (x : ObjL) (zone : Nat) (under : Bool) : StoreL :=
  let p1 := upd S.pl (keyS x) x.zone.toNat ((S.pl (keyS x) x.zone.toNat).erase ((k : Int) + 1))
  let L := p1 (canN x.owner.toNat zone) zone
  { S with objs := S.objs.set k (freshO S.T ((k : Int) + 1) x.card x.owner zone), pl := upd p1 (canN x.owner.toNat zone) zone (layL L (if under then L.length else 0) ((k : Int) + 1)) }
set_option maxRecDepth 100000 in
set_option maxHeartbeats 8000000 in
theorem move_ok {w : World} {lo b : Nat} {G : Ghost} {S : StoreL} (h : StoreAt w lo b G S) (hS : WfS S) (hl : S.objs.length ≤ 999) (k zone : Nat) (hk : k < S.objs.length) (h1 : 1 ≤ zone) (h7 : zone ≤ 7) (under : Bool) :
    Calls Tryz.prog 20 #[.pointer (some ⟨b, 0, none⟩), .int .i64 ((k : Int) + 1), .int .i64 zone, .bool under] w (RetS w lo b G (moveL S k S.objs[k] zone under) (.int .i64 0)) := by
  have HSS := Lib.hid (hS.short (by omega))
  obtain ⟨i0, i1, i1', i2, i2', i3, i3'⟩ := hS.ids k hk
  have HG := get_in h (by omega) k hk
  have hT := table_short h.ok
  have hn4 := h.n4
  obtain ⟨x, hx⟩ : ∃ x, S.objs[k] = x := ⟨_, rfl⟩
  rw [hx] at i0 i1 i1' i2 i2' i3 i3' HG ⊢
  obtain ⟨x0, x1, x2, x3, x4, x5, x6, x7, x8, x9, x10⟩ := x
  dsimp only at i0 i1 i1' i2 i2' i3 i3'
  obtain ⟨cn, rfl⟩ : ∃ n : Nat, x1 = n := ⟨x1.toNat, by omega⟩
  obtain ⟨on, rfl⟩ : ∃ n : Nat, x2 = n := ⟨x2.toNat, by omega⟩
  obtain ⟨zn, rfl⟩ : ∃ n : Nat, x3 = n := ⟨x3.toNat, by omega⟩
  subst i0
  have okf := canN_ok (n := S.seats) (s := on) (z := zn) (by omega) (by omega) (by omega)
  have okt := canN_ok (n := S.seats) (s := on) (z := zone) (by omega) h1 h7
  unfold RetGet oagg at HG
  dsimp only at HG
  have HGH := Lib.hid HG
  have HH := Lib.hid h
  have HK := Lib.hid (And.intro okf okt)
  have HCN := Lib.hid (show cn < S.T.length by omega)
  have HX := Lib.hid hx
  have HZ : Hid (on ≤ 1000 ∧ zn ≤ 1000 ∧ zone ≤ 1000) := Lib.hid (by omega)
  have HW := Lib.hid hS
  have hmv : moveL S k ⟨(k : Int) + 1, cn, on, zn, x4, x5, x6, x7, x8, x9, x10⟩ zone under =
      { S with objs := S.objs.set k (freshO S.T ((k : Int) + 1) cn on zone), pl := upd (upd S.pl (canN on zn) zn ((S.pl (canN on zn) zn).erase ((k : Int) + 1))) (canN on zone) zone (layL (upd S.pl (canN on zn) zn ((S.pl (canN on zn) zn).erase ((k : Int) + 1)) (canN on zone) zone) (if under then (upd S.pl (canN on zn) zn ((S.pl (canN on zn) zn).erase ((k : Int) + 1)) (canN on zone) zone).length else 0) ((k : Int) + 1)) } := by
    simp [moveL, keyS]
  rw [hmv]
  clear hmv HG h okf okt hx hS i1 i1' i2 i2' i3 i3' h1 h7
  obtain ⟨LF, hLF⟩ : ∃ L, (S.pl (canN on zn) zn).erase ((k : Int) + 1) = L := ⟨_, rfl⟩
  rw [hLF]
  obtain ⟨P1, hP1⟩ : ∃ p, upd S.pl (canN on zn) zn LF = p := ⟨_, rfl⟩
  rw [hP1]
  have HLF := Lib.hid hLF
  have HP1 := Lib.hid hP1
  obtain ⟨S', hS'⟩ : ∃ S', ({ S with objs := S.objs.set k (freshO S.T ((k : Int) + 1) cn on zone), pl := upd P1 (canN on zone) zone (layL (P1 (canN on zone) zone) (if under then (P1 (canN on zone) zone).length else 0) ((k : Int) + 1)) } : StoreL) = S' := ⟨_, rfl⟩
  rw [hS']
  have HS' := Lib.hid hS'
  clear hLF hP1 hS'
  go_enter Tryz.func20, Tryz.ntmps20
  go_wp2_with fail
  refine HGH.out.mono ?_
  rintro e w1 ⟨rfl, hb1⟩
  have H1 := HH.out.later hb1
  have ht0 := H1.high w1.heap.size (Nat.le_refl _)
  obtain ⟨W0, hW0⟩ : ∃ W, w1.alloc (.cells #[.int .i64 ((k : Int) + 1), .int .i64 cn, .int .i64 on, .int .i64 zn, .bool x4, .bool x5, .int .i64 x6, .int .i64 x7, .int .i64 x8, .int .i64 x9, .bool x10] 30) = W := ⟨_, rfl⟩
  have hbx0 : W0.heap[w1.heap.size]? = some (.cells (ocs ⟨(k : Int) + 1, cn, on, zn, x4, x5, x6, x7, x8, x9, x10⟩) 30 (0, 0)) := hW0 ▸ heap_alloc_new w1 _
  have hb0 : Below w.heap.size w W0 := stepB hb1 (hW0 ▸ below_new w1 _)
  obtain ⟨p0, p1, p2, p3, _⟩ := obj_of_row hbx0
  simp only [Nat.zero_add] at p0 p1 p2 p3
  obtain ⟨bx, hbx⟩ : ∃ q, w1.heap.size = q := ⟨_, rfl⟩
  rw [hbx] at hbx0 p0 p1 p2 p3 ht0
  have H0 := Lib.hid (HH.out.later hb0)
  have HB0 := Lib.hid hb0
  have HX0 := Lib.hid hbx0
  have HT0 := Lib.hid ht0
  have HPA := pileAt_any H0.out (wf_nat HZ.out.1) (wf_nat HZ.out.2.2)
  rw [canN_cast, show ptrOf S.seats G.pb (canN on zone : Int) (zone : Int) = .pointer (some ⟨G.pb (canN on zone) zone, 0, none⟩) from if_pos (okI_nat.2 HK.out.2)] at HPA
  obtain ⟨pt, hpt⟩ : ∃ q, G.pb (canN on zone) zone = q := ⟨_, rfl⟩
  rw [hpt] at HPA
  have HPT := Lib.hid hpt
  have HPAH := Lib.hid HPA
  clear HPA hpt hbx0 hb0 hb1 H1 ht0
  go_wp2_with fail
  refine HPAH.out.mono ?_
  rintro e W1 ⟨rfl, hb1⟩
  have H1 := Lib.hid (H0.out.later hb1)
  have HB1 := Lib.hid (stepB HB0.out hb1)
  have hbx1 := (hb1.block bx (Array.getElem?_eq_some_iff.1 HX0.out).1).trans HX0.out
  have HX1 := Lib.hid hbx1
  obtain ⟨p0, p1, p2, p3, _⟩ := obj_of_row hbx1
  simp only [Nat.zero_add] at p0 p1 p2 p3
  have HPB := pileAt_any H1.out (wf_nat HZ.out.1) (wf_nat HZ.out.2.1)
  rw [canN_cast, show ptrOf S.seats G.pb (canN on zn : Int) (zn : Int) = .pointer (some ⟨G.pb (canN on zn) zn, 0, none⟩) from if_pos (okI_nat.2 HK.out.1)] at HPB
  obtain ⟨pf, hpf⟩ : ∃ q, G.pb (canN on zn) zn = q := ⟨_, rfl⟩
  rw [hpf] at HPB
  have HPF := Lib.hid hpf
  have HPBH := Lib.hid HPB
  clear HPB hpf hbx1 hb1 hW0 hbx
  dsimp only
  go_wp2_with fail
  refine HPBH.out.mono ?_
  rintro e W2 ⟨rfl, hb2⟩
  have H2 := Lib.hid (H1.out.later hb2)
  have HB2 := Lib.hid (stepB HB1.out hb2)
  have HX2 := Lib.hid ((hb2.block bx (Array.getElem?_eq_some_iff.1 HX1.out).1).trans HX1.out)
  have hpi := H2.out.pi _ _ HK.out.1
  rw [HPF.out] at hpi
  have HDR := Lib.hid (drop_any ((k : Int) + 1) hpi (HSS.out.2 _ _ HK.out.1))
  clear hpi hb2 p0 p1 p2 p3
  dsimp only
  go_wp2_with fail
  refine HDR.out.mono ?_
  rintro e W3 ⟨rfl, hp3, hc3⟩
  rw [← HPF.out, HLF.out] at hp3
  rw [← HPF.out] at hc3
  obtain ⟨G1, H3', T3, hpb3, hov3, hmb3, htv3⟩ := H2.out.pile HK.out.1 hp3 hc3 (.inl rfl)
  rw [HP1.out] at H3'
  have HPB3 := Lib.hid hpb3
  have H3 := Lib.hid H3'
  have hkp := T3.keeps (Array.getElem?_eq_some_iff.1 HX2.out).1 HT0.out
  have HX3 := Lib.hid (hkp.1.trans HX2.out)
  have HT3 := Lib.hid hkp.2
  have HTA := Lib.hid ((Turned.of_below HB2.out).trans T3)
  have hP1len : (P1 (canN on zone) zone).length ≤ 1000 := by
    rw [← HP1.out]
    unfold upd
    split
    · rw [← HLF.out]
      have := HSS.out.2 _ _ HK.out.1
      have := @List.length_erase_le _ _ ((k : Int) + 1) (S.pl (canN on zn) zn)
      omega
    · exact HSS.out.2 _ _ HK.out.2
  have hpi := H3.out.pi _ _ HK.out.2
  rw [HPB3.out, HPT.out] at hpi
  have HPI := Lib.hid hpi
  have HPL := Lib.hid hP1len
  clear hp3 hc3 H3' T3 hpb3 hov3 hmb3 htv3 hkp hpi hP1len
  dsimp only
  cases under
  · have HPU := Lib.hid (push_any ((k : Int) + 1) HPI.out HPL.out)
    go_wp2_with fail
    refine HPU.out.mono ?_
    rintro e W4 ⟨g', rfl, hp4, hc4, hn4'⟩
    have hq : PileAt W4 lo (G1.pb (canN on zone) zone) g' (layL (P1 (canN on zone) zone) 0 ((k : Int) + 1)) := by rw [HPB3.out, HPT.out]; exact hp4
    have hcq : Chg W3 W4 (G1.pb (canN on zone) zone) (G1.pg (canN on zone) zone) := by rw [HPB3.out, HPT.out]; exact hc4
    obtain ⟨G2, H4', T4, hpb4, hov4, hmb4, htv4⟩ := H3.out.pile HK.out.2 hq hcq hn4'
    have H4 := Lib.hid H4'
    have hkp := T4.keeps (Array.getElem?_eq_some_iff.1 HX3.out).1 HT3.out
    have hbx4 := hkp.1.trans HX3.out
    have HX4 := Lib.hid hbx4
    have HT4 := Lib.hid hkp.2
    have HTB := Lib.hid (HTA.out.trans T4)
    obtain ⟨p0, p1, p2, p3, _⟩ := obj_of_row hbx4
    simp only [Nat.zero_add] at p0 p1 p2 p3
    obtain ⟨xa, xc, hov⟩ := own_form H4.out.ob
    have c2 : W4.cell? ⟨b, 2, none⟩ = some (.slice xa S.objs.length xc) := by rw [cell_of_row W4 b 2 _ _ _ H4.out.hd, hov]; rfl
    have HOV := Lib.hid hov
    obtain ⟨y, hy⟩ : ∃ y, freshO S.T ((k : Int) + 1) cn on zone = y := ⟨_, rfl⟩
    have HF : Hid (∀ w' : World, Below W4.heap.size W4 w' → Calls Tryz.prog 49 #[.pointer (some ⟨b, 0, none⟩), .int .i64 ((k : Int) + 1), .int .i64 cn, .int .i64 on, .int .i64 zone] w' fun e w'' => e = .returned (.agg (ocs y)) ∧ Below w'.heap.size w' w'') := Lib.hid fun w' hb => by
      have hf := fresh_any (H4.out.later hb) ((k : Int) + 1) on zone cn HCN.out
      rw [hy] at hf
      exact hf
    unfold ocs at HF
    have HY := Lib.hid hy
    have d2 : (k : Int) + 1 - 1 = k := by omega
    have dw : IntKind.i64.wrap (k : Int) = k := IntWalk.i64_in _ (by omega)
    have HKL := Lib.hid hk
    have d3 : (0 : Int) ≤ k := by omega
    have d4 : (k : Int) < S.objs.length := by omega
    have d5 : k < S.objs.length := hk
    obtain ⟨g, cap, hgv, _, _⟩ := own_obj H4.out.ob k hk
    have hga : xa = some ⟨g, 0, none⟩ ∧ xc = cap := by
      have hgv : G2.ov = .slice (some ⟨g, 0, none⟩) S.objs.length cap := hgv
      rw [hov] at hgv
      injection hgv with h1 _ h2
      exact ⟨h1, h2⟩
    obtain ⟨rfl, rfl⟩ := hga
    clear hp4 hc4 hn4' hq hcq H4' T4 hpb4 hov4 hmb4 htv4 hkp hbx4 hov hy hgv
    dsimp only
    go_wp2
    have HR := Lib.hid (fun (w' : World) (hb : Below W4.heap.size W4 w') => (H4.out.later hb).rowAt hk HOV.out)
    go_region_with ((go_at_call 49; refine (HF.out _ (below_drewN (Below.refl _ _) _)).mono ?_; rintro e W5 ⟨rfl, hb5⟩; have hb5' := stepB (below_drewN (Below.refl W4.heap.size W4) _) hb5; have c2' := cell_stays hb5' c2; have p1' := cell_stays hb5' p1; obtain ⟨⟨o0, o1, o2, o3, o4, o5, o6, o7, o8, o9, o10⟩, hfr⟩ := HR.out W5 hb5'; dsimp only))
    all_goals
      go_wp2
      go_ret
      have H5 := H4.out.later hb5'
      obtain ⟨G3, h1, h2⟩ := H5.setObj hk HOV.out y
      rw [setCells_obj] at h1 h2
      refine ⟨rfl, G3, ?_, (HTB.out.trans (Turned.of_below hb5')).trans h2⟩
      rw [← HS'.out, HY.out]
      exact h1
  · have HPU := Lib.hid (under_any ((k : Int) + 1) HPI.out HPL.out)
    go_wp2_with fail
    refine HPU.out.mono ?_
    rintro e W4 ⟨g', rfl, hp4, hc4, hn4'⟩
    have hq : PileAt W4 lo (G1.pb (canN on zone) zone) g' (layL (P1 (canN on zone) zone) (P1 (canN on zone) zone).length ((k : Int) + 1)) := by rw [HPB3.out, HPT.out]; exact hp4
    have hcq : Chg W3 W4 (G1.pb (canN on zone) zone) (G1.pg (canN on zone) zone) := by rw [HPB3.out, HPT.out]; exact hc4
    obtain ⟨G2, H4', T4, hpb4, hov4, hmb4, htv4⟩ := H3.out.pile HK.out.2 hq hcq hn4'
    have H4 := Lib.hid H4'
    have hkp := T4.keeps (Array.getElem?_eq_some_iff.1 HX3.out).1 HT3.out
    have hbx4 := hkp.1.trans HX3.out
    have HX4 := Lib.hid hbx4
    have HT4 := Lib.hid hkp.2
    have HTB := Lib.hid (HTA.out.trans T4)
    obtain ⟨p0, p1, p2, p3, _⟩ := obj_of_row hbx4
    simp only [Nat.zero_add] at p0 p1 p2 p3
    obtain ⟨xa, xc, hov⟩ := own_form H4.out.ob
    have c2 : W4.cell? ⟨b, 2, none⟩ = some (.slice xa S.objs.length xc) := by rw [cell_of_row W4 b 2 _ _ _ H4.out.hd, hov]; rfl
    have HOV := Lib.hid hov
    obtain ⟨y, hy⟩ : ∃ y, freshO S.T ((k : Int) + 1) cn on zone = y := ⟨_, rfl⟩
    have HF : Hid (∀ w' : World, Below W4.heap.size W4 w' → Calls Tryz.prog 49 #[.pointer (some ⟨b, 0, none⟩), .int .i64 ((k : Int) + 1), .int .i64 cn, .int .i64 on, .int .i64 zone] w' fun e w'' => e = .returned (.agg (ocs y)) ∧ Below w'.heap.size w' w'') := Lib.hid fun w' hb => by
      have hf := fresh_any (H4.out.later hb) ((k : Int) + 1) on zone cn HCN.out
      rw [hy] at hf
      exact hf
    unfold ocs at HF
    have HY := Lib.hid hy
    have d2 : (k : Int) + 1 - 1 = k := by omega
    have dw : IntKind.i64.wrap (k : Int) = k := IntWalk.i64_in _ (by omega)
    have HKL := Lib.hid hk
    have d3 : (0 : Int) ≤ k := by omega
    have d4 : (k : Int) < S.objs.length := by omega
    have d5 : k < S.objs.length := hk
    obtain ⟨g, cap, hgv, _, _⟩ := own_obj H4.out.ob k hk
    have hga : xa = some ⟨g, 0, none⟩ ∧ xc = cap := by
      have hgv : G2.ov = .slice (some ⟨g, 0, none⟩) S.objs.length cap := hgv
      rw [hov] at hgv
      injection hgv with h1 _ h2
      exact ⟨h1, h2⟩
    obtain ⟨rfl, rfl⟩ := hga
    clear hp4 hc4 hn4' hq hcq H4' T4 hpb4 hov4 hmb4 htv4 hkp hbx4 hov hy hgv
    dsimp only
    go_wp2
    have HR := Lib.hid (fun (w' : World) (hb : Below W4.heap.size W4 w') => (H4.out.later hb).rowAt hk HOV.out)
    go_region_with ((go_at_call 49; refine (HF.out _ (below_drewN (Below.refl _ _) _)).mono ?_; rintro e W5 ⟨rfl, hb5⟩; have hb5' := stepB (below_drewN (Below.refl W4.heap.size W4) _) hb5; have c2' := cell_stays hb5' c2; have p1' := cell_stays hb5' p1; obtain ⟨⟨o0, o1, o2, o3, o4, o5, o6, o7, o8, o9, o10⟩, hfr⟩ := HR.out W5 hb5'; dsimp only))
    all_goals
      go_wp2
      go_ret
      have H5 := H4.out.later hb5'
      obtain ⟨G3, h1, h2⟩ := H5.setObj hk HOV.out y
      rw [setCells_obj] at h1 h2
      refine ⟨rfl, G3, ?_, (HTB.out.trans (Turned.of_below hb5')).trans h2⟩
      rw [← HS'.out, HY.out]
      exact h1
end Go.Proofs.YtjgjhfeopmakaaaGreat
namespace Go.Proofs.YtjgjhfeopmakaaaGreat
open Go.RowKit Go.Maps

theorem MapP.mapD {D : DataW Unit} {n : Nat} {pb : Nat → Nat → Nat} (h : MapP D (okK n) pb) : MapD D n pb := by
  refine ⟨fun s z w1 w2 => ?_, h.val, h.only⟩
  have := h.has s z w1 w2
  by_cases e : okI n s z
  · rw [decide_eq_true e]; exact this.2 e
  · rw [decide_eq_false e]
    cases hh : Maps.has D (kl s z)
    · rfl
    · exact absurd (this.1 hh) e
theorem WfS.none (T : List Crd.CardL) (n : Nat) : WfS ⟨T, n, [], fun _ _ => []⟩ where
  ids := fun k h => by simp at h
  nodup := fun _ _ _ => List.nodup_nil
  mem := fun _ _ _ id => ⟨fun h => by simp at h, fun ⟨k, h, _⟩ => by simp at h⟩
/-- A store out of its parts. -/
theorem store_of {w w1 w2 w3 : World} {mb n : Nat} {v : Value} {T : List Crd.CardL} {D : DataW Unit} {pb : Nat → Nat → Nat} {pg : Nat → Nat → Option Nat} {L : Nat → Nat → List Int} {tag : Nat → Tag}
    (h1 : Below w.heap.size w w1) (h2 : Below w1.heap.size w1 w2) (h3 : Below w2.heap.size w2 w3) (ht : TabFrom w2 w1.heap.size v T) (hp : PInv w3 w2.heap.size mb 28 (okK n) D pb pg L tag) (n1 : 1 ≤ n) (n4 : n ≤ 4) (hT : Crd.tableE T = 0) :
    ∃ G, StoreAt (w3.alloc (.cells #[v, .int .i64 n, .slice none 0 0, .map (some mb)] 78)) w.heap.size w3.heap.size G ⟨T, n, [], L⟩ := by
  classical
  have s1 := h1.size
  have s2 := h2.size
  have s3 := h3.size
  have ha := below_new w3 (.cells #[v, .int .i64 n, .slice none 0 0, .map (some mb)] 78)
  have hq := hp.later ha
  have htg : ∀ k, tag k ≠ .no → (if k = w3.heap.size then Tag.head else if w1.heap.size ≤ k ∧ k < w2.heap.size then .tab else tag k) = tag k := fun k hk => by
    have h1 := hp.low k hk
    have h2 : k < w3.heap.size := Classical.byContradiction fun hn => hk (hp.high k (by omega))
    rw [if_neg (by omega), if_neg (by omega)]
  refine ⟨⟨v, .slice none 0 0, mb, pb, pg, fun k => if k = w3.heap.size then .head else if w1.heap.size ≤ k ∧ k < w2.heap.size then .tab else tag k⟩, heap_alloc_new w3 _, ?_, World.ownsRow_nil _ _ _ _, ?_, fun s z ok => (hq.pi s z ok).mono (by omega), if_pos rfl, ?_, fun k e => ?_, fun s z ok => ?_, fun s z k ok e => ?_, fun k hk => ?_, fun k hk => ?_, n1, n4, hT⟩
  · intro W' hW
    refine ht W' fun k hk1 hk2 => ?_
    have e := hW k (by show (if _ then _ else _) = _; rw [if_neg (by omega), if_pos ⟨hk1, hk2⟩])
    rw [e, ha.block k (by omega), h3.block k hk2]
  · exact ⟨D, hq.mp.mono (by omega), Nat.le_trans hq.mp.size_le (by omega), hq.md.mapD⟩
  · show (if _ then _ else _) = _; rw [htg mb (by rw [hp.tm]; simp)]; exact hp.tm
  · have e : (Value.slice none 0 0).ownBlock = some k := e
    simp [Value.ownBlock] at e
  · show (if _ then _ else _) = _; rw [htg _ (by rw [hp.tp s z ok]; simp)]; exact hp.tp s z ok
  · show (if _ then _ else _) = _; rw [htg _ (by rw [hp.tg s z k ok e]; simp)]; exact hp.tg s z k ok e
  · by_cases e : k = w3.heap.size
    · omega
    · have hk : (if k = w3.heap.size then Tag.head else if w1.heap.size ≤ k ∧ k < w2.heap.size then .tab else tag k) ≠ .no := hk
      rw [if_neg e] at hk
      by_cases e2 : w1.heap.size ≤ k ∧ k < w2.heap.size
      · omega
      · rw [if_neg e2] at hk
        have := hp.low k hk
        omega
  · have hk : (w3.alloc _).heap.size ≤ k := hk
    simp at hk
    show (if _ then _ else _) = _
    rw [if_neg (by omega), if_neg (by omega)]
    exact hp.high k (by omega)
def RetNewS (w : World) (T : List Crd.CardL) (n : Nat) (e : Ending) (w' : World) : Prop :=
  ∃ b G, e = .returned (.tuple #[.pointer (some ⟨b, 0, none⟩), .int .i64 0]) ∧ StoreAt w' w.heap.size b G ⟨T, n, [], fun _ _ => []⟩ ∧ Below w.heap.size w w'
set_option maxRecDepth 100000 in
set_option maxHeartbeats 4000000 in
theorem newS_ok {w : World} {v : Value} {T : List Crd.CardL} (h : Crd.CardsAt w v T) (ht : Crd.tableE T = 0) (n : Nat) (h1 : 1 ≤ n) (h4 : n ≤ 4) : Calls Tryz.prog 23 #[v, .int .i64 n] w (RetNewS w T n) := by
  have hT := table_short ht
  have HTB := Crd.table_any h (by omega) (fun c hc => by
    obtain ⟨k, hk, rfl⟩ := List.getElem_of_mem hc
    have := may_terms ht k hk
    omega)
  rw [ht] at HTB
  have HT := Lib.hid HTB
  have HOW := Lib.hid (fun (w' : World) (hb : Below w.heap.size w w') => own_any (h.later hb) ht)
  have HT0 := Lib.hid ht
  have d0 : decide ((n : Int) < 1) = false := decide_eq_false (by omega)
  have d1 : decide ((4 : Int) < (n : Int)) = false := decide_eq_false (by omega)
  have d2 : decide (4 < n) = false := decide_eq_false (by omega)
  have d3 : decide (n < 1) = false := decide_eq_false (by omega)
  clear h ht HTB
  go_enter Tryz.func23, Tryz.ntmps23
  go_wp2_with fail
  refine HT.out.mono ?_
  rintro e w1 ⟨rfl, hb1⟩
  have HB1 := Lib.hid hb1
  clear hb1
  dsimp only
  go_wp2_with fail
  refine (HOW.out w1 HB1.out).mono ?_
  rintro e w2 ⟨v', rfl, htf, hb2⟩
  obtain ⟨va, vc, rfl⟩ := (htf w2 fun _ _ _ => rfl).form
  have HB2 := Lib.hid hb2
  have HTF := Lib.hid htf
  clear hb2 htf
  dsimp only
  go_wp2_with fail
  refine (emptyPiles_any n w2 h1 h4).mono ?_
  rintro e w3 ⟨mb, D, pb, pg, tag, rfl, hp, hb3⟩
  have HB3 := Lib.hid hb3
  have HP := Lib.hid hp
  clear hb3 hp
  dsimp only
  go_wp2
  go_ret2
  obtain ⟨G, hst⟩ := store_of HB1.out HB2.out HB3.out HTF.out HP.out h1 h4 HT0.out
  exact ⟨w3.heap.size, G, rfl, hst, stepB (stepB (stepB HB1.out HB2.out) HB3.out) (below_new w3 _)⟩
end Go.Proofs.YtjgjhfeopmakaaaGreat
namespace Go.Proofs.YtjgjhfeopmakaaaGreat
open Go.RowKit Go.Maps

theorem insL_perm (L : List Int) (i : Nat) (x : Int) : (insL L i x).Perm (x :: L) := by
  unfold insL
  refine List.perm_middle.trans ?_
  rw [List.take_append_drop]
theorem layL_new {L : List Int} {x : Int} (i : Nat) (h : x ∉ L) : layL L i x = insL L i x := if_neg h
theorem insL_end (L : List Int) (x : Int) : insL L L.length x = L ++ [x] := by simp [insL]
theorem insL_top (L : List Int) (x : Int) : insL L 0 x = x :: L := by simp [insL]
theorem fresh_key (T : List Crd.CardL) (id n : Int) (owner zone : Nat) : keyS (freshO T id n owner zone) = canN owner zone := by simp [keyS, freshO]
theorem WfS.notIn {S : StoreL} (h : WfS S) {s z : Nat} (ok : okK S.seats s z) : ((S.objs.length : Int) + 1) ∉ S.pl s z := fun hm => by
  obtain ⟨k, hk, e, _⟩ := (h.mem s z ok _).1 hm
  omega
theorem addL_pl {S : StoreL} (h : WfS S) {n owner zone : Nat} (ho : owner < S.seats) (h1 : 1 ≤ zone) (h7 : zone ≤ 7) :
    (addL S n owner zone).pl = upd S.pl (canN owner zone) zone (S.pl (canN owner zone) zone ++ [(S.objs.length : Int) + 1]) := by
  unfold addL
  dsimp only
  rw [layL_new _ (h.notIn (canN_ok ho h1 h7)), insL_end]
theorem WfS.add {S : StoreL} (h : WfS S) {n owner zone : Nat} (hn : n < S.T.length) (ho : owner < S.seats) (h1 : 1 ≤ zone) (h7 : zone ≤ 7) : WfS (addL S n owner zone) := by
  have hpl := addL_pl (n := n) h ho h1 h7
  have ok0 := canN_ok ho h1 h7
  have hobj : (addL S n owner zone).objs = S.objs ++ [freshO S.T (S.objs.length + 1) n owner zone] := rfl
  refine ⟨fun k hk => ?_, fun s z ok => ?_, fun s z ok id => ?_⟩
  · simp only [hobj] at hk ⊢
    rw [List.length_append, List.length_singleton] at hk
    by_cases e : k < S.objs.length
    · rw [List.getElem_append_left e]; exact h.ids k e
    · obtain rfl : k = S.objs.length := by omega
      rw [List.getElem_append_right (Nat.le_refl _)]
      simp only [Nat.sub_self, List.getElem_cons_zero]
      exact ⟨rfl, show (0 : Int) ≤ (n : Int) by omega, show (n : Int) < (S.T.length : Int) by omega, show (0 : Int) ≤ (owner : Int) by omega, show (owner : Int) < (S.seats : Int) by omega, show (1 : Int) ≤ (zone : Int) by omega, show (zone : Int) ≤ 7 by omega⟩
  · rw [hpl]
    by_cases e : s = canN owner zone ∧ z = zone
    · obtain ⟨rfl, rfl⟩ := e
      rw [upd_same]
      have := (insL_perm (S.pl (canN owner z) z) (S.pl (canN owner z) z).length ((S.objs.length : Int) + 1)).nodup_iff
      rw [insL_end] at this
      exact this.2 (List.nodup_cons.2 ⟨h.notIn ok0, h.nodup _ _ ok0⟩)
    · rw [upd_other _ _ e]; exact h.nodup s z ok
  · have hold := h.mem s z ok id
    rw [hpl]
    have hex : (∃ k, ∃ hk : k < (addL S n owner zone).objs.length, id = (k : Int) + 1 ∧ keyS (addL S n owner zone).objs[k] = s ∧ (addL S n owner zone).objs[k].zone.toNat = z) ↔
        (∃ k, ∃ hk : k < S.objs.length, id = (k : Int) + 1 ∧ keyS S.objs[k] = s ∧ S.objs[k].zone.toNat = z) ∨ (id = (S.objs.length : Int) + 1 ∧ canN owner zone = s ∧ zone = z) := by
      simp only [hobj]
      constructor
      · rintro ⟨k, hk, e1, e2, e3⟩
        rw [List.length_append, List.length_singleton] at hk
        by_cases e : k < S.objs.length
        · rw [List.getElem_append_left e] at e2 e3
          exact .inl ⟨k, e, e1, e2, e3⟩
        · obtain rfl : k = S.objs.length := by omega
          rw [List.getElem_append_right (Nat.le_refl _)] at e2 e3
          simp only [Nat.sub_self, List.getElem_cons_zero] at e2 e3
          rw [fresh_key] at e2
          exact .inr ⟨e1, e2, by simpa [freshO] using e3⟩
      · rintro (⟨k, hk, e1, e2, e3⟩ | ⟨e1, e2, e3⟩)
        · refine ⟨k, by rw [List.length_append]; omega, e1, ?_, ?_⟩
          · rw [List.getElem_append_left hk]; exact e2
          · rw [List.getElem_append_left hk]; exact e3
        · refine ⟨S.objs.length, by simp, e1, ?_, ?_⟩
          · rw [List.getElem_append_right (Nat.le_refl _)]
            simp only [Nat.sub_self, List.getElem_cons_zero]
            rw [fresh_key]; exact e2
          · rw [List.getElem_append_right (Nat.le_refl _)]
            simpa [freshO] using e3
    rw [hex]
    by_cases e : s = canN owner zone ∧ z = zone
    · obtain ⟨rfl, rfl⟩ := e
      rw [upd_same, List.mem_append, List.mem_singleton, hold]
      simp
    · rw [upd_other _ _ e, hold]
      constructor
      · exact .inl
      · rintro (h | ⟨_, e2, e3⟩)
        · exact h
        · exact absurd ⟨e2.symm, e3.symm⟩ e
theorem WfS.set {S : StoreL} (h : WfS S) {k : Nat} (hk : k < S.objs.length) {x : ObjL} (h0 : x.id = (k : Int) + 1) (h1 : x.card = S.objs[k].card) (h2 : x.owner = S.objs[k].owner) (h3 : x.zone = S.objs[k].zone) : WfS { S with objs := S.objs.set k x } := by
  have hget : ∀ j (hj : j < S.objs.length), ((S.objs.set k x)[j]'(by simpa using hj)).card = S.objs[j].card ∧ ((S.objs.set k x)[j]'(by simpa using hj)).owner = S.objs[j].owner ∧ ((S.objs.set k x)[j]'(by simpa using hj)).zone = S.objs[j].zone ∧ ((S.objs.set k x)[j]'(by simpa using hj)).id = (j : Int) + 1 := fun j hj => by
    rw [List.getElem_set]
    split
    · rename_i e; subst e; exact ⟨h1, h2, h3, h0⟩
    · exact ⟨rfl, rfl, rfl, (h.ids j hj).1⟩
  refine ⟨fun j hj => ?_, h.nodup, fun s z ok id => ?_⟩
  · have hj' : j < S.objs.length := by simpa using hj
    have := hget j hj'
    obtain ⟨_, r⟩ := h.ids j hj'
    show ((S.objs.set k x)[j]'hj).id = _ ∧ _
    rw [this.2.2.2, this.1, this.2.1, this.2.2.1]
    exact ⟨rfl, r⟩
  · rw [h.mem s z ok id]
    show _ ↔ ∃ j, ∃ hj : j < (S.objs.set k x).length, _
    constructor
    · rintro ⟨j, hj, e1, e2, e3⟩
      have := hget j hj
      refine ⟨j, by simpa using hj, e1, ?_, ?_⟩
      · rw [← e2]; unfold keyS; rw [this.2.1, this.2.2.1]
      · rw [← e3, this.2.2.1]
    · rintro ⟨j, hj, e1, e2, e3⟩
      have hj' : j < S.objs.length := by simpa using hj
      have := hget j hj'
      refine ⟨j, hj', e1, ?_, ?_⟩
      · rw [← e2]; unfold keyS; rw [this.2.1, this.2.2.1]
      · rw [← e3, this.2.2.1]
theorem key_ok {S : StoreL} (h : WfS S) {k : Nat} (hk : k < S.objs.length) : okK S.seats (keyS S.objs[k]) S.objs[k].zone.toNat := by
  obtain ⟨_, _, _, h1, h2, h3, h4⟩ := h.ids k hk
  exact canN_ok (by omega) (by omega) (by omega)
/-- Off its pile, an object is in none. -/
theorem WfS.off {S : StoreL} (h : WfS S) {k : Nat} (hk : k < S.objs.length) {s z : Nat} (ok : okK S.seats s z) :
    ((k : Int) + 1) ∉ upd S.pl (keyS S.objs[k]) S.objs[k].zone.toNat ((S.pl (keyS S.objs[k]) S.objs[k].zone.toNat).erase ((k : Int) + 1)) s z := by
  by_cases e : s = keyS S.objs[k] ∧ z = S.objs[k].zone.toNat
  · obtain ⟨rfl, rfl⟩ := e
    rw [upd_same]
    exact (h.nodup _ _ ok).not_mem_erase
  · rw [upd_other _ _ e]
    intro hm
    obtain ⟨j, hj, e1, e2, e3⟩ := (h.mem s z ok _).1 hm
    obtain rfl : j = k := by omega
    exact e ⟨e2.symm, e3.symm⟩
theorem moveL_pl {S : StoreL} (h : WfS S) {k zone : Nat} (hk : k < S.objs.length) (h1 : 1 ≤ zone) (h7 : zone ≤ 7) (under : Bool) :
    (moveL S k S.objs[k] zone under).pl = upd (upd S.pl (keyS S.objs[k]) S.objs[k].zone.toNat ((S.pl (keyS S.objs[k]) S.objs[k].zone.toNat).erase ((k : Int) + 1))) (canN S.objs[k].owner.toNat zone) zone
      (insL (upd S.pl (keyS S.objs[k]) S.objs[k].zone.toNat ((S.pl (keyS S.objs[k]) S.objs[k].zone.toNat).erase ((k : Int) + 1)) (canN S.objs[k].owner.toNat zone) zone) (if under then (upd S.pl (keyS S.objs[k]) S.objs[k].zone.toNat ((S.pl (keyS S.objs[k]) S.objs[k].zone.toNat).erase ((k : Int) + 1)) (canN S.objs[k].owner.toNat zone) zone).length else 0) ((k : Int) + 1)) := by
  obtain ⟨_, _, _, i1, i2, _, _⟩ := h.ids k hk
  unfold moveL
  dsimp only
  rw [layL_new _ (h.off hk (canN_ok (by omega) h1 h7))]
theorem WfS.move {S : StoreL} (h : WfS S) {k zone : Nat} (hk : k < S.objs.length) (h1 : 1 ≤ zone) (h7 : zone ≤ 7) (under : Bool) : WfS (moveL S k S.objs[k] zone under) := by
  have hpl := moveL_pl h hk h1 h7 under
  obtain ⟨i0, ic1, ic2, io1, io2, iz1, iz2⟩ := h.ids k hk
  have okt := canN_ok (n := S.seats) (s := S.objs[k].owner.toNat) (by omega) h1 h7
  have okf := key_ok h hk
  have hoff := @WfS.off S h k hk
  have hobj : (moveL S k S.objs[k] zone under).objs = S.objs.set k (freshO S.T ((k : Int) + 1) S.objs[k].card S.objs[k].owner zone) := rfl
  have hkey : keyS (freshO S.T ((k : Int) + 1) S.objs[k].card S.objs[k].owner zone) = canN S.objs[k].owner.toNat zone := by simp [keyS, freshO]
  have hget : ∀ j (hj : j < S.objs.length), j ≠ k → (S.objs.set k (freshO S.T ((k : Int) + 1) S.objs[k].card S.objs[k].owner zone))[j]'(by simpa using hj) = S.objs[j] := fun j hj e => List.getElem_set_ne (Ne.symm e) _
  have hgk : (S.objs.set k (freshO S.T ((k : Int) + 1) S.objs[k].card S.objs[k].owner zone))[k]'(by simpa using hk) = freshO S.T ((k : Int) + 1) S.objs[k].card S.objs[k].owner zone := List.getElem_set_self _
  obtain ⟨P, hP⟩ : ∃ P, upd S.pl (keyS S.objs[k]) S.objs[k].zone.toNat ((S.pl (keyS S.objs[k]) S.objs[k].zone.toNat).erase ((k : Int) + 1)) = P := ⟨_, rfl⟩
  rw [hP] at hpl hoff
  have hPn : ∀ s z, okK S.seats s z → (P s z).Nodup := fun s z ok => by
    rw [← hP]
    by_cases e : s = keyS S.objs[k] ∧ z = S.objs[k].zone.toNat
    · obtain ⟨rfl, rfl⟩ := e
      rw [upd_same]; exact (h.nodup _ _ ok).erase _
    · rw [upd_other _ _ e]; exact h.nodup s z ok
  have hPm : ∀ s z, okK S.seats s z → ∀ id, id ∈ P s z ↔ ∃ j, ∃ hj : j < S.objs.length, j ≠ k ∧ id = (j : Int) + 1 ∧ keyS S.objs[j] = s ∧ S.objs[j].zone.toNat = z := fun s z ok id => by
    have hm := h.mem s z ok id
    rw [← hP]
    have hx : id ∈ upd S.pl (keyS S.objs[k]) S.objs[k].zone.toNat ((S.pl (keyS S.objs[k]) S.objs[k].zone.toNat).erase ((k : Int) + 1)) s z ↔ id ≠ (k : Int) + 1 ∧ id ∈ S.pl s z := by
      by_cases e : s = keyS S.objs[k] ∧ z = S.objs[k].zone.toNat
      · obtain ⟨rfl, rfl⟩ := e
        rw [upd_same]; exact (h.nodup _ _ ok).mem_erase_iff
      · rw [upd_other _ _ e]
        refine ⟨fun h1 => ⟨fun e1 => ?_, h1⟩, fun h1 => h1.2⟩
        obtain ⟨j, hj, e1', e2, e3⟩ := hm.1 h1
        obtain rfl : j = k := by omega
        exact e ⟨e2.symm, e3.symm⟩
    rw [hx, hm]
    constructor
    · rintro ⟨h1, j, hj, e1, e2, e3⟩; exact ⟨j, hj, by omega, e1, e2, e3⟩
    · rintro ⟨j, hj, h1, e1, e2, e3⟩; exact ⟨by omega, j, hj, e1, e2, e3⟩
  refine ⟨fun j hj => ?_, fun s z ok => ?_, fun s z ok id => ?_⟩
  · simp only [hobj] at hj ⊢
    have hj' : j < S.objs.length := by simpa using hj
    by_cases e : j = k
    · subst e
      rw [hgk]
      refine ⟨rfl, ic1, ic2, io1, io2, ?_, ?_⟩ <;> simp only [freshO] <;> omega
    · rw [hget j hj' e]; exact h.ids j hj'
  · rw [hpl]
    by_cases e : s = canN S.objs[k].owner.toNat zone ∧ z = zone
    · obtain ⟨rfl, rfl⟩ := e
      rw [upd_same]
      exact (insL_perm _ _ _).nodup_iff.2 (List.nodup_cons.2 ⟨hoff okt, hPn _ _ okt⟩)
    · rw [upd_other _ _ e]; exact hPn s z ok
  · rw [hpl]
    have hex : (∃ j, ∃ hj : j < (moveL S k S.objs[k] zone under).objs.length, id = (j : Int) + 1 ∧ keyS (moveL S k S.objs[k] zone under).objs[j] = s ∧ (moveL S k S.objs[k] zone under).objs[j].zone.toNat = z) ↔
        (∃ j, ∃ hj : j < S.objs.length, j ≠ k ∧ id = (j : Int) + 1 ∧ keyS S.objs[j] = s ∧ S.objs[j].zone.toNat = z) ∨ (id = (k : Int) + 1 ∧ canN S.objs[k].owner.toNat zone = s ∧ zone = z) := by
      simp only [hobj]
      constructor
      · rintro ⟨j, hj, e1, e2, e3⟩
        have hj' : j < S.objs.length := by simpa using hj
        by_cases e : j = k
        · subst e
          rw [hgk] at e2 e3
          rw [hkey] at e2
          exact .inr ⟨e1, e2, by simpa [freshO] using e3⟩
        · rw [hget j hj' e] at e2 e3
          exact .inl ⟨j, hj', e, e1, e2, e3⟩
      · rintro (⟨j, hj, h1, e1, e2, e3⟩ | ⟨e1, e2, e3⟩)
        · refine ⟨j, by simpa using hj, e1, ?_, ?_⟩
          · rw [hget j hj h1]; exact e2
          · rw [hget j hj h1]; exact e3
        · refine ⟨k, by simpa using hk, e1, ?_, ?_⟩
          · rw [hgk, hkey]; exact e2
          · rw [hgk]; simpa [freshO] using e3
    rw [hex]
    by_cases e : s = canN S.objs[k].owner.toNat zone ∧ z = zone
    · obtain ⟨rfl, rfl⟩ := e
      rw [upd_same, (insL_perm _ _ _).mem_iff, List.mem_cons, hPm _ _ okt]
      simp only [and_true]
      exact or_comm
    · rw [upd_other _ _ e, hPm s z ok]
      constructor
      · exact .inl
      · rintro (h | ⟨_, e2, e3⟩)
        · exact h
        · exact absurd ⟨e2.symm, e3.symm⟩ e
end Go.Proofs.YtjgjhfeopmakaaaGreat

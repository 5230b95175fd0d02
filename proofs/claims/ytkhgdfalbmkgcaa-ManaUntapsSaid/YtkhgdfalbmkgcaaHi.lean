/- A table of a store's own (layer 6): own. -/
import Derived.Test.YtkhgdfalbmkgcaaHf
namespace Go.Proofs.Ytkhgdfalbmkgcaa
open Go.RowKit Go.Maps

/-- A row of cards, of which the first are written, with terms in rows behind it. -/
def RowK (w : World) (g n : Nat) (acc : List Crd.CardL) : Prop :=
  ∃ (C : Array Value) (t : TypeId), w.heap[g]? = some (.cells C t (0, 0)) ∧ C.size = n * 7 ∧ ∀ j (h : j < acc.length), ∃ v, Crd.RowsC (g + 1) w v acc[j].terms ∧
    C[j * 7]? = some (.int .i64 acc[j].kind) ∧ C[j * 7 + 1]? = some (.int .i64 acc[j].cost) ∧ C[j * 7 + 2]? = some (.int .i64 acc[j].power) ∧ C[j * 7 + 3]? = some (.int .i64 acc[j].tough) ∧ C[j * 7 + 4]? = some (.int .i64 acc[j].keys) ∧ C[j * 7 + 5]? = some (.int .i64 acc[j].whn) ∧ C[j * 7 + 6]? = some v
theorem RowK.later {w w' : World} {g n : Nat} {acc : List Crd.CardL} (h : RowK w g n acc) (hb : Below w.heap.size w w') : RowK w' g n acc := by
  obtain ⟨C, t, hC, hs, hc⟩ := h
  refine ⟨C, t, (hb.block g (Crd.lt_of_row hC)).trans hC, hs, fun j hj => ?_⟩
  obtain ⟨v, hv, r⟩ := hc j hj
  exact ⟨v, hv.later hb, r⟩
theorem RowK.cell {w : World} {g n : Nat} {acc : List Crd.CardL} (h : RowK w g n acc) (k : Nat) (hk : k < n * 7) : ∃ v, w.cell? ⟨g, k, none⟩ = some v := by
  obtain ⟨C, t, hC, hs, _⟩ := h
  exact ⟨C[k]'(by omega), by simp [World.cell?, hC, hs, hk]⟩
theorem RowK.frozen {w : World} {g n : Nat} {acc : List Crd.CardL} (h : RowK w g n acc) (k : Nat) : w.frozen? ⟨g, k, none⟩ = false := by
  obtain ⟨C, t, hC, hs, _⟩ := h
  simp [World.frozen?, hC]
theorem rows_far {g : Nat} {w : World} {v : Value} {l : List Crd.TermL} (h : Crd.RowsC (g + 1) w v l) {p : Addr} (hp : p.block = g) (u : Value) : Crd.RowsC (g + 1) (w.setCell p u) v l := by
  rcases h with h | ⟨r, cap, rfl, h0, hB, hlt, hr⟩
  · exact .inl h
  · exact .inr ⟨r, cap, rfl, h0, hB, by simpa using hlt, hr.far (by omega) u⟩
def put7 (w : World) (g o : Nat) (c : Crd.CardL) (v : Value) : World :=
  ((((((w.setCell ⟨g, o, none⟩ (.int .i64 c.kind)).setCell ⟨g, o + 1, none⟩ (.int .i64 c.cost)).setCell ⟨g, o + 2, none⟩ (.int .i64 c.power)).setCell ⟨g, o + 3, none⟩ (.int .i64 c.tough)).setCell ⟨g, o + 4, none⟩ (.int .i64 c.keys)).setCell ⟨g, o + 5, none⟩ (.int .i64 c.whn)).setCell ⟨g, o + 6, none⟩ v
theorem rows_far7 {g o : Nat} {w : World} {v u : Value} {l : List Crd.TermL} {c : Crd.CardL} (h : Crd.RowsC (g + 1) w v l) : Crd.RowsC (g + 1) (put7 w g o c u) v l :=
  rows_far (rows_far (rows_far (rows_far (rows_far (rows_far (rows_far h rfl _) rfl _) rfl _) rfl _) rfl _) rfl _) rfl _
theorem RowK.put {w : World} {g n : Nat} {acc : List Crd.CardL} (h : RowK w g n acc) (c : Crd.CardL) (v : Value) (hv : Crd.RowsC (g + 1) w v c.terms) (hk : acc.length < n) :
    RowK (put7 w g (acc.length * 7) c v) g n (acc ++ [c]) := by
  have hv' : Crd.RowsC (g + 1) (put7 w g (acc.length * 7) c v) v c.terms := rows_far7 hv
  obtain ⟨C, t, hC, hs, hc⟩ := h
  refine ⟨((((((C.setIfInBounds (acc.length * 7) (.int .i64 c.kind)).setIfInBounds (acc.length * 7 + 1) (.int .i64 c.cost)).setIfInBounds (acc.length * 7 + 2) (.int .i64 c.power)).setIfInBounds (acc.length * 7 + 3) (.int .i64 c.tough)).setIfInBounds (acc.length * 7 + 4) (.int .i64 c.keys)).setIfInBounds (acc.length * 7 + 5) (.int .i64 c.whn)).setIfInBounds (acc.length * 7 + 6) v, t, ?_, by simpa using hs, fun j hj => ?_⟩
  · simp [put7, World.setCell, Array.getElem?_modify, hC]
  · rw [List.length_append] at hj
    simp only [List.length_singleton] at hj
    by_cases e : j = acc.length
    · subst e
      refine ⟨v, by simpa using hv', ?_⟩
      simp [Array.getElem?_setIfInBounds, hs]
      omega
    · have hj' : j < acc.length := by omega
      obtain ⟨u, hu, h7⟩ := hc j hj'
      refine ⟨u, ?_, ?_⟩
      · rw [List.getElem_append_left hj']; exact rows_far7 hu
      · rw [List.getElem_append_left hj']
        have hne : ∀ i, i < 7 → ∀ x, (((((((C.setIfInBounds (acc.length * 7) (.int .i64 c.kind)).setIfInBounds (acc.length * 7 + 1) (.int .i64 c.cost)).setIfInBounds (acc.length * 7 + 2) (.int .i64 c.power)).setIfInBounds (acc.length * 7 + 3) (.int .i64 c.tough)).setIfInBounds (acc.length * 7 + 4) (.int .i64 c.keys)).setIfInBounds (acc.length * 7 + 5) (.int .i64 c.whn)).setIfInBounds (acc.length * 7 + 6) v)[j * 7 + i]? = x ↔ C[j * 7 + i]? = x := fun i hi x => by
          simp only [Array.getElem?_setIfInBounds]
          rw [if_neg (by omega), if_neg (by omega), if_neg (by omega), if_neg (by omega), if_neg (by omega), if_neg (by omega), if_neg (by omega)]
        exact ⟨(hne 0 (by decide) _).2 h7.1, (hne 1 (by decide) _).2 h7.2.1, (hne 2 (by decide) _).2 h7.2.2.1, (hne 3 (by decide) _).2 h7.2.2.2.1, (hne 4 (by decide) _).2 h7.2.2.2.2.1, (hne 5 (by decide) _).2 h7.2.2.2.2.2.1, (hne 6 (by decide) _).2 h7.2.2.2.2.2.2⟩
/-- A table all of whose blocks are new. -/
def TabFrom (w : World) (B : Nat) (v : Value) (T : List Crd.CardL) : Prop := ∀ W' : World, (∀ k, B ≤ k → k < w.heap.size → W'.heap[k]? = w.heap[k]?) → Crd.CardsAt W' v T
theorem RowK.tab {w : World} {g n B : Nat} {T : List Crd.CardL} (h : RowK w g n T) (hn : T.length = n) (hB : B ≤ g) : TabFrom w B (.slice (some ⟨g, 0, none⟩) n n) T := by
  obtain ⟨C, t, hC, hs, hc⟩ := h
  intro W' hW
  have hC' : W'.heap[g]? = some (.cells C t (0, 0)) := (hW g hB (Crd.lt_of_row hC)).trans hC
  refine .inr ⟨g, 0, n, by rw [hn], Crd.lt_of_row hC', fun i hi => ?_⟩
  obtain ⟨v, hv, h7⟩ := hc i hi
  have hv' : Crd.RowsC (g + 1) W' v T[i].terms := by
    rcases hv with hv | ⟨r, cap, e, h0, hr1, hr2, ⟨D, t', hD, hd⟩⟩
    · exact .inl hv
    · have hD' := (hW r (by omega) hr2).trans hD
      exact .inr ⟨r, cap, e, h0, hr1, Crd.lt_of_row hD', D, t', hD', hd⟩
  have hform : ∃ ya yc, v = .slice ya T[i].terms.length yc := by
    rcases hv with ⟨e, e2⟩ | ⟨r, cap, e, _⟩
    · exact ⟨none, 0, by rw [e, e2]; rfl⟩
    · exact ⟨_, _, e⟩
  obtain ⟨ya, yc, rfl⟩ := hform
  rw [Nat.zero_add]
  exact ⟨ya, yc, by simp [World.cell?, hC', h7.1], by simp [World.cell?, hC', h7.2.1], by simp [World.cell?, hC', h7.2.2.1], by simp [World.cell?, hC', h7.2.2.2.1], by simp [World.cell?, hC', h7.2.2.2.2.1], by simp [World.cell?, hC', h7.2.2.2.2.2.1], by simp [World.cell?, hC', h7.2.2.2.2.2.2], hv'.is⟩
theorem info_card : (Try.prog.info? 52).map (fun i => (i.zero, i.size, i.bytes)) = some (some (.agg #[.int .i64 0, .int .i64 0, .int .i64 0, .int .i64 0, .int .i64 0, .int .i64 0, .slice none 0 0]), 7, 72) := by kernel_rfl
theorem may_terms {T : List Crd.CardL} (h : Crd.tableE T = 0) (k : Nat) (hk : k < T.length) : T[k].terms.length ≤ 30 := by
  unfold Crd.tableE at h
  split at h
  · cases h
  · split at h
    · rename_i h1
      have := List.all_eq_true.1 h1 _ (List.getElem_mem hk)
      unfold Crd.mayB Crd.termsB at this
      simp at this
      omega
    · cases h
def RetOwn (w : World) (T : List Crd.CardL) (e : Ending) (w' : World) : Prop := ∃ v, e = .returned v ∧ TabFrom w' w.heap.size v T ∧ Below w.heap.size w w'
set_option maxRecDepth 100000 in
set_option maxHeartbeats 4000000 in
theorem own_any {w : World} {v : Value} {T : List Crd.CardL} (h : Crd.CardsAt w v T) (ht : Crd.tableE T = 0) : Calls Try.prog 45 #[v] w (RetOwn w T) := by
  obtain ⟨i0, hi, hz0, hz1, hz2⟩ := info_parts info_card
  have hT := table_short ht
  have hmk : ∀ u : World, (Instr.makeSlice 22 (.int .i64 (T.length : Int)) (.int .i64 (T.length : Int))).run Try.prog u = .ok (.slice (some ⟨u.heap.size, 0, none⟩) T.length T.length) (u.alloc (.cells (madeCells #[.int .i64 0, .int .i64 0, .int .i64 0, .int .i64 0, .int .i64 0, .int .i64 0, .slice none 0 0] (T.length * 7)) 52)) := fun u => by
    have h := run_make (P := Try.prog) u 22 52 i0 _ Try.underlying22 hi hz0 .i64 .i64 (T.length : Int) (T.length : Int) (by omega) (Int.le_refl _) (by rw [hz2]; omega) (by omega)
    simpa [hz1, Value.cells] using h
  obtain ⟨xa, xc, rfl⟩ := h.form
  have HL := Lib.hid h
  have HM := Lib.hid (may_terms ht)
  clear h hi hz0 hz1 hz2 ht
  go_enter Try.func45, Try.ntmps45
  go_wp2
  obtain ⟨W, hW⟩ : ∃ W, w.alloc (.cells (madeCells #[.int .i64 0, .int .i64 0, .int .i64 0, .int .i64 0, .int .i64 0, .int .i64 0, .slice none 0 0] (T.length * 7)) 52) = W := ⟨_, rfl⟩
  have HB0 := Lib.hid (hW ▸ below_new w _ : Below w.heap.size w W)
  have HR0 : Hid (RowK W w.heap.size T.length []) := Lib.hid (hW ▸ ⟨_, _, heap_alloc_new w _, size_madeCells _ _, fun j hj => by simp at hj⟩)
  rw [hW]
  obtain ⟨g, hg⟩ : ∃ g, w.heap.size = g := ⟨_, rfl⟩
  have HG := Lib.hid hg
  rw [hg] at HR0 ⊢
  clear hW hmk hg
  go_loopw [11] (fun i wr => ∃ k : Nat, k ≤ T.length ∧ i = .int .i64 k ∧ Hid (RowK wr g T.length (T.take k)) ∧ Hid (Below w.heap.size w wr) ∧ Hid (g < wr.heap.size)) (fun i _ => T.length - (intOf i).toNat)
  case atStart => exact ⟨0, Nat.zero_le _, rfl, by rw [List.take_zero]; exact HR0, HB0, Lib.hid (by obtain ⟨C, t, hC, _⟩ := HR0.out; exact Crd.lt_of_row hC)⟩
  case round =>
    obtain ⟨k, hk, rfl, HR, HB, HGL⟩ := hrel
    by_cases hlt : k < T.length
    · obtain ⟨tb, off, rfl, hcc⟩ := (HL.out.later HB.out).at k hlt
      have HTK := Lib.hid (take_last T k hlt)
      have HM3 := Lib.hid (HM.out k hlt)
      obtain ⟨c, hc⟩ : ∃ c, T[k] = c := ⟨_, rfl⟩
      rw [hc] at hcc HTK HM3
      obtain ⟨ya, yc, t0, t1, t2, t3, t4, t5, t6, htm⟩ := hcc
      have HTM := Lib.hid htm
      have d0 : (0 : Int) ≤ k := by omega
      have d1 : (k : Int) < T.length := by omega
      have HCO := Lib.hid (fun (w' : World) (hb : Below wr.heap.size wr w') => Crd.copy_any (HTM.out.later hb) HM3.out)
      unfold Crd.cagg at HCO
      clear htm hc
      go_wp2_with fail
      refine (HCO.out _ (below_new wr _)).mono ?_
      rintro e w2 ⟨v, rfl, hrows, hb2⟩
      obtain ⟨va, vn, vc, rfl⟩ : ∃ va vn vc, v = .slice va vn vc := by
        rcases hrows with ⟨e, _⟩ | ⟨r, cap, e, _⟩
        · exact ⟨none, 0, 0, e⟩
        · exact ⟨_, _, _, e⟩
      have hbr := stepB (below_new wr (.cells (ccs c (.slice ya c.terms.length yc)) 52)) hb2
      have HR2 := Lib.hid (HR.out.later hbr)
      have HB2 := Lib.hid (stepB HB.out hbr)
      have hlen : (T.take k).length = k := by rw [List.length_take]; omega
      have hfr := HR2.out.frozen
      obtain ⟨v0, q0⟩ := HR2.out.cell (k * 7) (by omega)
      obtain ⟨v1, q1⟩ := HR2.out.cell (k * 7 + 1) (by omega)
      obtain ⟨v2, q2⟩ := HR2.out.cell (k * 7 + 2) (by omega)
      obtain ⟨v3, q3⟩ := HR2.out.cell (k * 7 + 3) (by omega)
      obtain ⟨v4, q4⟩ := HR2.out.cell (k * 7 + 4) (by omega)
      obtain ⟨v5, q5⟩ := HR2.out.cell (k * 7 + 5) (by omega)
      obtain ⟨v6, q6⟩ := HR2.out.cell (k * 7 + 6) (by omega)
      have HPUT := HR2.out.put c (.slice va vn vc) (by
        rcases hrows with hr | ⟨r, cap, e, h0, hB, hr2, hr3⟩
        · exact .inl hr
        · refine .inr ⟨r, cap, e, h0, ?_, hr2, hr3⟩
          have := HGL.out
          have hB : (wr.alloc _).heap.size ≤ r := hB
          simp at hB
          omega) (by omega)
      rw [hlen, ← HTK.out] at HPUT
      unfold put7 at HPUT
      have HP := Lib.hid HPUT
      have hg2 : g < w2.heap.size := by have := HGL.out; have := hbr.size; omega
      unfold Crd.cagg
      clear hb2 hbr hrows HPUT
      dsimp only
      go_wp2
      go_roundw
      case rel =>
        have hgw : w.heap.size ≤ g := Nat.le_of_eq HG.out
        exact ⟨k + 1, by omega, by go_num, HP, Lib.hid (((((((HB2.out.setCell hgw _).setCell hgw _).setCell hgw _).setCell hgw _).setCell hgw _).setCell hgw _).setCell hgw _), Lib.hid (by simpa using hg2)⟩
      case measure => simp [intOf]; omega
    · obtain rfl : k = T.length := by omega
      have hR := HR.out
      rw [List.take_length] at hR
      have HT := Lib.hid (hR.tab rfl (Nat.le_of_eq HG.out))
      clear hR
      go_wp2
      go_ret
      exact ⟨_, rfl, HT.out, HB.out⟩
end Go.Proofs.Ytkhgdfalbmkgcaa

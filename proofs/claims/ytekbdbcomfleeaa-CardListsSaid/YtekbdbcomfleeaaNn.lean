/- The contract of nextList of a codec of terms (layers 1 and 2): what any bytes are as a list of at most four terms. -/
import Derived.Test.YtekbdbcomfleeaaCo
import Derived.Test.YtekbdbcomfleeaaNl
namespace Go.Proofs.Ytekbdbcomfleeaa
open Go.RowKit

def rdTerms (s : ByteArray) (a n : Nat) : List TermL := (List.range n).map fun i => rdTerm s (a + 3 * i)
theorem rdTerms_len (s : ByteArray) (a n : Nat) : (rdTerms s a n).length = n := by simp [rdTerms]
theorem rdTerms_succ (s : ByteArray) (a n : Nat) : rdTerms s a (n + 1) = rdTerms s a n ++ [rdTerm s (a + 3 * n)] := by simp [rdTerms, List.range_succ]
def cntAt (s : ByteArray) (a : Nat) : Nat := (byteAt s a).toNat
def listE (s : ByteArray) (a : Nat) : Int := if s.size < a + 1 then 3 else if 4 < cntAt s a then 4 else if s.size < a + 1 + 3 * cntAt s a then 3 else 0
theorem cnt_cast (s : ByteArray) (a : Nat) : byteAt s a = (cntAt s a : Int) := by
  have := byteAt_bd s a
  unfold cntAt; omega

theorem info_t : (Try.prog.info? 43).map (fun i => (i.zero, i.size, i.bytes)) = some (some (.agg #[.int .i64 0, .int .i64 0, .int .i64 0]), 3, 24) := by kernel_rfl

/-- A row of the call's own, of which the first terms are written. -/
def RowT (w : World) (b n : Nat) (acc : List TermL) : Prop :=
  ∃ (C : Array Value) (T : TypeId), w.heap[b]? = some (.cells C T (0, 0)) ∧ C.size = n * 3 ∧ ∀ j (h : j < acc.length), C[j * 3]? = some (.int .i64 acc[j].op) ∧ C[j * 3 + 1]? = some (.int .i64 acc[j].n) ∧ C[j * 3 + 2]? = some (.int .i64 acc[j].on)
theorem RowT.later {w w' : World} {b n : Nat} {acc : List TermL} (h : RowT w b n acc) (hb : Below w.heap.size w w') : RowT w' b n acc := by
  obtain ⟨C, T, hC, hs, hc⟩ := h
  exact ⟨C, T, (hb.block b (lt_of_row hC)).trans hC, hs, hc⟩
theorem RowT.cell {w : World} {b n : Nat} {acc : List TermL} (h : RowT w b n acc) (k : Nat) (hk : k < n * 3) : ∃ v, w.cell? ⟨b, k, none⟩ = some v := by
  obtain ⟨C, T, hC, hs, _⟩ := h
  exact ⟨C[k]'(by omega), by simp [World.cell?, hC, hs, hk]⟩
theorem RowT.frozen {w : World} {b n : Nat} {acc : List TermL} (h : RowT w b n acc) (k : Nat) : w.frozen? ⟨b, k, none⟩ = false := by
  obtain ⟨C, T, hC, hs, _⟩ := h
  simp [World.frozen?, hC]
theorem RowT.put {w : World} {b n : Nat} {acc : List TermL} (h : RowT w b n acc) (x : TermL) (hk : acc.length < n) :
    RowT (((w.setCell ⟨b, acc.length * 3, none⟩ (.int .i64 x.op)).setCell ⟨b, acc.length * 3 + 1, none⟩ (.int .i64 x.n)).setCell ⟨b, acc.length * 3 + 2, none⟩ (.int .i64 x.on)) b n (acc ++ [x]) := by
  obtain ⟨C, T, hC, hs, hc⟩ := h
  refine ⟨((C.setIfInBounds (acc.length * 3) (.int .i64 x.op)).setIfInBounds (acc.length * 3 + 1) (.int .i64 x.n)).setIfInBounds (acc.length * 3 + 2) (.int .i64 x.on), T, ?_, by simpa using hs, fun j hj => ?_⟩
  · simp [World.setCell, Array.getElem?_modify, hC]
  · rw [List.length_append] at hj
    simp only [List.length_singleton] at hj
    by_cases e : j = acc.length
    · subst e
      simp [Array.getElem?_setIfInBounds, hs]
      omega
    · have hj' : j < acc.length := by omega
      have h3 := hc j hj'
      rw [List.getElem_append_left hj']
      simp only [Array.getElem?_setIfInBounds]
      rw [if_neg (by omega), if_neg (by omega), if_neg (by omega), if_neg (by omega), if_neg (by omega), if_neg (by omega), if_neg (by omega), if_neg (by omega), if_neg (by omega)]
      exact h3
theorem RowT.slice {w : World} {b n : Nat} {acc : List TermL} (h : RowT w b n acc) (hn : acc.length = n) (B : Nat) (hB : B ≤ b) : TermsFrom B w (.slice (some ⟨b, 0, none⟩) n n) acc := by
  obtain ⟨C, T, hC, hs, hc⟩ := h
  refine .inr ⟨b, 0, n, by rw [hn], hB, lt_of_row hC, fun i hi => ?_⟩
  have h3 := hc i hi
  simp only [Nat.zero_add]
  exact ⟨by simp [World.cell?, hC, h3.1], by simp [World.cell?, hC, h3.2.1], by simp [World.cell?, hC, h3.2.2]⟩
theorem RowT.made (w : World) (n : Nat) (C : Array Value) (T : TypeId) (hs : C.size = n * 3) : RowT (w.alloc (.cells C T)) w.heap.size n [] :=
  ⟨C, T, heap_alloc_new w _, hs, fun j hj => by simp at hj⟩
theorem tnext_yes (s : ByteArray) (a : Nat) (h : a + 3 ≤ s.size) : tnextAt s (a : Int) = (rdTerm s a, (a : Int) + 3, 0) := by
  have h1 : (0 : Int) ≤ a ∧ (a : Int) ≤ s.size := ⟨by omega, by omega⟩
  have h2 : shortE s a 3 = 0 := by unfold shortE; rw [if_neg (by omega)]
  unfold tnextAt
  rw [if_pos h1, Int.toNat_natCast, if_pos h2]
theorem tnext_no (s : ByteArray) (a : Nat) (h : a ≤ s.size) (h' : s.size < a + 3) : tnextAt s (a : Int) = (zeroT, (a : Int), 3) := by
  have h1 : (0 : Int) ≤ a ∧ (a : Int) ≤ s.size := ⟨by omega, by omega⟩
  have h2 : shortE s a 3 = 3 := by unfold shortE; rw [if_pos (by omega)]
  unfold tnextAt
  rw [if_pos h1, Int.toNat_natCast, if_neg (by omega)]

set_option maxRecDepth 100000 in
set_option maxHeartbeats 2000000 in
theorem nextList_t (s : ByteArray) (a : Nat) (w : World) (hs : s.size ≤ maxLen) (ha : a ≤ s.size) :
    Calls Try.prog 60 #[tAgg, .int .i64 (4 : Nat), .string s, .int .i64 a] w (Post_l w (rdTerms s (a + 1) (cntAt s a)) ((a : Int) + 1 + 3 * cntAt s a) (listE s a)) := by
  obtain ⟨i0, hi, hz0, hz1, hz2⟩ := info_parts info_t
  have HS := Lib.hid hs
  unfold maxLen at hs
  unfold tAgg
  by_cases hsh : s.size = a
  · have HN : Hid (nextAt (nextN 1) s (a : Int) = (0, (a : Int), 3)) := Lib.hid (next1_no s a hsh)
    have HE : Hid (listE s a = 3) := Lib.hid (by unfold listE; rw [if_pos (by omega)])
    rw [HE.out]
    clear hi hz0 hz1 hz2
    go_enter Try.func60, Try.ntmps60
    go_wp2_with fail
    refine (num_codec 1 _).mono ?_
    rintro e w2 ⟨v1, rfl, hcod, hb1⟩
    have HC1 := Lib.hid hcod
    have HW2 := Lib.hid ((below_alloc1 w (.cells #[.func (.func 62) #[] #[], .func (.func 64) #[] #[]] 67)).trans (hb1.mono (by simp)))
    clear hcod hb1
    go_wp2_with fail
    refine (next_codec HC1.out (Below.refl _ _) s a HS.out).mono ?_
    rw [show heldN 1 = 1 from rfl, HN.out]
    rintro e w3 ⟨rfl, hb3⟩
    unfold ret3
    have HW3 := Lib.hid (HW2.out.trans (hb3.mono HW2.out.size))
    clear hb3
    go_wp2
    go_ret3
    exact ⟨none, 0, 0, a, rfl, fun h => absurd h (by decide), HW3.out⟩
  · have hlt : a < s.size := by omega
    have hcc := cnt_cast s a
    have HN : Hid (nextAt (nextN 1) s (a : Int) = ((cntAt s a : Int), (a : Int) + 1, 0)) := Lib.hid (by rw [next1_yes s a hlt, hcc])
    have hbd := byteAt_bd s a
    rw [hcc] at hbd
    obtain ⟨_, hbd⟩ := hbd
    clear hcc
    by_cases hlong : 4 < cntAt s a
    · have hd : decide ((4 : Int) < cntAt s a) = true := by simp; omega
      have HE : Hid (listE s a = 4) := Lib.hid (by unfold listE; rw [if_neg (by omega), if_pos hlong])
      rw [HE.out]
      clear hi hz0 hz1 hz2
      go_enter Try.func60, Try.ntmps60
      go_wp2_with fail
      refine (num_codec 1 _).mono ?_
      rintro e w2 ⟨v1, rfl, hcod, hb1⟩
      have HC1 := Lib.hid hcod
      have HW2 := Lib.hid ((below_alloc1 w (.cells #[.func (.func 62) #[] #[], .func (.func 64) #[] #[]] 67)).trans (hb1.mono (by simp)))
      clear hcod hb1
      go_wp2_with fail
      refine (next_codec HC1.out (Below.refl _ _) s a HS.out).mono ?_
      rw [show heldN 1 = 1 from rfl, HN.out]
      rintro e w3 ⟨rfl, hb3⟩
      unfold ret3
      have HW3 := Lib.hid (HW2.out.trans (hb3.mono HW2.out.size))
      clear hb3
      go_wp2
      go_ret3
      exact ⟨none, 0, 0, (a : Int) + 1, rfl, fun h => absurd h (by decide), HW3.out⟩
    · have hd : decide ((4 : Int) < cntAt s a) = false := decide_eq_false (by omega)
      obtain ⟨n, hn⟩ : ∃ n, cntAt s a = n := ⟨_, rfl⟩
      obtain ⟨E, hE⟩ : ∃ E, listE s a = E := ⟨_, rfl⟩
      have HE : Hid (E = if s.size < a + 1 + 3 * n then 3 else 0) := Lib.hid (by rw [← hE]; unfold listE; rw [if_neg (by omega), if_neg hlong, hn])
      rw [hE, hn]
      clear hE
      rw [hn] at HN hd hlong hbd
      have hmk : ∀ u : World, (Instr.makeSlice 22 (.int .i64 (n : Int)) (.int .i64 (n : Int))).run Try.prog u =
          .ok (.slice (some ⟨u.heap.size, 0, none⟩) n n) (u.alloc (.cells (madeCells #[.int .i64 0, .int .i64 0, .int .i64 0] (n * 3)) 43)) := fun u => by
        have h := run_make (P := Try.prog) u 22 43 i0 (.agg #[.int .i64 0, .int .i64 0, .int .i64 0]) Try.underlying22 hi hz0 .i64 .i64 (n : Int) (n : Int) (by omega) (Int.le_refl _) (by rw [hz2]; omega) (by omega)
        simpa [hz1, Value.cells] using h
      clear hi hz0 hz1 hz2 hn
      go_enter Try.func60, Try.ntmps60
      go_wp2_with fail
      refine (num_codec 1 _).mono ?_
      rintro e w2 ⟨v1, rfl, hcod, hb1⟩
      have HC1 := Lib.hid hcod
      have HW2 := Lib.hid ((below_alloc1 w (.cells #[.func (.func 62) #[] #[], .func (.func 64) #[] #[]] 67)).trans (hb1.mono (by simp)))
      have HL2 := Lib.hid (show Below (w.heap.size + 1) (w.alloc (.cells #[.func (.func 62) #[] #[], .func (.func 64) #[] #[]] 67)) w2 from hb1.mono (by simp))
      clear hcod hb1
      go_wp2_with fail
      refine (next_codec HC1.out (Below.refl _ _) s a HS.out).mono ?_
      rw [show heldN 1 = 1 from rfl, HN.out]
      rintro e w3 ⟨rfl, hb3⟩
      unfold ret3
      have HW3 := Lib.hid (HW2.out.trans (hb3.mono HW2.out.size))
      have HL3 := Lib.hid (HL2.out.trans (hb3.mono (by have := HL2.out.size; simp at this; omega)))
      clear hb3
      go_wp2
      have hz3 : w.heap.size + 1 ≤ w3.heap.size := by have := HL3.out.size; simpa using this
      have hrow0 := RowT.made w3 n (madeCells #[.int .i64 0, .int .i64 0, .int .i64 0] (n * 3)) 43 (size_madeCells _ _)
      have hbel0 : Below w3.heap.size w3 (w3.alloc (.cells (madeCells #[.int .i64 0, .int .i64 0, .int .i64 0] (n * 3)) 43)) := below_alloc1 _ _
      go_loopw [3, 34] (fun at_ i wr => ∃ k : Nat, k ≤ n ∧ i = .int .i64 k ∧ at_ = .int .i64 ((a : Int) + 1 + 3 * k) ∧ Hid (a + 1 + 3 * k ≤ s.size) ∧
          Hid (RowT wr w3.heap.size n (rdTerms s (a + 1) k)) ∧ Hid (Below w3.heap.size w3 wr)) (fun _ i _ => n - (RowKit.intOf i).toNat)
      case atStart => exact ⟨0, Nat.zero_le _, rfl, by simp, Lib.hid (by omega), Lib.hid hrow0, Lib.hid hbel0⟩
      case round =>
        obtain ⟨k, hk, rfl, rfl, HA, HROW, HBEL⟩ := hrel
        clear hrow0 hbel0
        have hak := HA.out
        have c1 : _ = some (Value.func (.func 62) #[] #[]) := (HBEL.out.cell (p := ⟨w.heap.size, 0, none⟩) (by dsimp only; omega)).trans ((HL3.out.cell (p := ⟨w.heap.size, 0, none⟩) (by simp)).trans (by simp [go_sem]))
        have c2 : _ = some (Value.func (.func 64) #[] #[]) := (HBEL.out.cell (p := ⟨w.heap.size, 1, none⟩) (by dsimp only; omega)).trans ((HL3.out.cell (p := ⟨w.heap.size, 1, none⟩) (by simp)).trans (by simp [go_sem]))
        have hsz := HBEL.out.size
        by_cases hkn : k < n
        · go_wp2_with fail
          refine (next_t s _ _ HS.out).mono ?_
          by_cases hsh2 : a + 1 + 3 * k + 3 ≤ s.size
          · have HT : Hid (tnextAt s ((a : Int) + 1 + 3 * k) = (rdTerm s (a + 1 + 3 * k), (a : Int) + 1 + 3 * k + 3, 0)) := Lib.hid (by
              have h := tnext_yes s (a + 1 + 3 * k) hsh2
              rw [show ((a + 1 + 3 * k : Nat) : Int) = (a : Int) + 1 + 3 * k by omega] at h
              exact h)
            rw [HT.out]
            rintro e w4 ⟨x0, x1, x2, rfl, hx, hb4⟩
            unfold Val_t
            have HXX := Lib.hid hx
            have HROW4 := Lib.hid (HROW.out.later hb4)
            have HBEL4 := Lib.hid (HBEL.out.trans (hb4.mono hsz))
            obtain ⟨v0, hcell0⟩ := HROW4.out.cell (k * 3) (by omega)
            obtain ⟨v2, hcell1⟩ := HROW4.out.cell (k * 3 + 1) (by omega)
            obtain ⟨v3, hcell2⟩ := HROW4.out.cell (k * 3 + 2) (by omega)
            have hfro0 := HROW4.out.frozen (k * 3)
            have hfro1 := HROW4.out.frozen (k * 3 + 1)
            have hfro2 := HROW4.out.frozen (k * 3 + 2)
            have HRN : Hid (RowT (((w4.setCell ⟨w3.heap.size, k * 3, none⟩ (.int .i64 x0)).setCell ⟨w3.heap.size, k * 3 + 1, none⟩ (.int .i64 x1)).setCell ⟨w3.heap.size, k * 3 + 2, none⟩ (.int .i64 x2)) w3.heap.size n (rdTerms s (a + 1) (k + 1))) := by
              have h := HROW4.out.put (rdTerm s (a + 1 + 3 * k)) (by rw [rdTerms_len]; exact hkn)
              rw [rdTerms_len, ← rdTerms_succ, ← hx.1, ← hx.2.1, ← hx.2.2] at h
              exact Lib.hid h
            have HBN := Lib.hid (((HBEL4.out.setCell (p := ⟨w3.heap.size, k * 3, none⟩) (Nat.le_refl _) (.int .i64 x0)).setCell (p := ⟨w3.heap.size, k * 3 + 1, none⟩) (Nat.le_refl _) (.int .i64 x1)).setCell (p := ⟨w3.heap.size, k * 3 + 2, none⟩) (Nat.le_refl _) (.int .i64 x2))
            clear hb4 hx c1 c2
            go_wp2
            go_roundw
            case rel => exact ⟨k + 1, by omega, by go_num, congrArg (Value.int .i64) (by omega), Lib.hid (by omega), HRN, HBN⟩
            case measure => simp [RowKit.intOf]; omega
          · have HT : Hid (tnextAt s ((a : Int) + 1 + 3 * k) = (zeroT, (a : Int) + 1 + 3 * k, 3)) := Lib.hid (by
              have h := tnext_no s (a + 1 + 3 * k) hak (by omega)
              rw [show ((a + 1 + 3 * k : Nat) : Int) = (a : Int) + 1 + 3 * k by omega] at h
              exact h)
            rw [HT.out]
            rintro e w4 ⟨x0, x1, x2, rfl, hx, hb4⟩
            unfold Val_t
            have HROW4 := Lib.hid (HROW.out.later hb4)
            have HBEL4 := Lib.hid (HBEL.out.trans (hb4.mono hsz))
            obtain ⟨v0, hcell0⟩ := HROW4.out.cell (k * 3) (by omega)
            obtain ⟨v2, hcell1⟩ := HROW4.out.cell (k * 3 + 1) (by omega)
            obtain ⟨v3, hcell2⟩ := HROW4.out.cell (k * 3 + 2) (by omega)
            have hfro0 := HROW4.out.frozen (k * 3)
            have hfro1 := HROW4.out.frozen (k * 3 + 1)
            have hfro2 := HROW4.out.frozen (k * 3 + 2)
            have HEN : Hid (E = 3) := Lib.hid (HE.out.trans (if_pos (by omega)))
            clear hb4 hx c1 c2
            go_wp2
            go_ret3
            refine ⟨none, 0, 0, (a : Int) + 1 + 3 * k, by rw [HEN.out]; rfl, fun h => by rw [HEN.out] at h; exact absurd h (by decide), HW3.out.trans (Below.mono ?_ (show w.heap.size ≤ w3.heap.size by omega))⟩
            exact ((HBEL4.out.setCell (Nat.le_refl _) _).setCell (Nat.le_refl _) _).setCell (Nat.le_refl _) _
        · obtain rfl : k = n := by omega
          have HEN : Hid (E = 0) := Lib.hid (HE.out.trans (if_neg (by omega)))
          go_wp2
          go_ret3
          exact ⟨_, _, _, (a : Int) + 1 + 3 * k, by rw [HEN.out]; rfl, fun _ => ⟨rfl, HROW.out.slice (rdTerms_len _ _ _) _ (by omega)⟩, HW3.out.trans (HBEL.out.mono (by omega))⟩
end Go.Proofs.Ytekbdbcomfleeaa

/- The contract of nextList (layer 1, octet): what any bytes are as a list, told by its Lean function lnext. -/
import Derived.Test.YtcbjekdbkhibbaaI
import Derived.Test.YtcbjekdbkhibbaaK
namespace Go.Proofs.Ytcbjekdbkhibbaa
open Go.RowKit

def lnextFrom (h : ByteArray → Nat → Int × Int × Int) (s : ByteArray) : Nat → Int → List Int → List Int × Int × Int
  | 0, a, acc => (acc, a, 0)
  | n + 1, a, acc => if (nextAt h s a).2.2 = 0 then lnextFrom h s n (nextAt h s a).2.1 (acc ++ [(nextAt h s a).1]) else ([], (nextAt h s a).2.1, (nextAt h s a).2.2)
def lnext (h : ByteArray → Nat → Int × Int × Int) (most : Nat) (s : ByteArray) (a : Int) : List Int × Int × Int :=
  if (nextAt (nextN 1) s a).2.2 = 0 then
    (if (most : Int) < (nextAt (nextN 1) s a).1 then ([], (nextAt (nextN 1) s a).2.1, 4) else lnextFrom h s (nextAt (nextN 1) s a).1.toNat (nextAt (nextN 1) s a).2.1 [])
  else ([], (nextAt (nextN 1) s a).2.1, (nextAt (nextN 1) s a).2.2)

theorem info3 : (Try.prog.info? 3).map (fun i => (i.zero, i.size, i.bytes)) = some (some (.int .i64 0), 1, 8) := by kernel_rfl
theorem next1_bd (s : ByteArray) (a : Int) : 0 ≤ (nextAt (nextN 1) s a).1 ∧ (nextAt (nextN 1) s a).1 ≤ 255 := by
  unfold nextAt
  split
  · unfold nrm3
    split
    · unfold nextN
      split
      · simp
      · have := readN_bd s a.toNat 1
        simp only [powN] at this
        omega
    · simp
  · simp

/-- A row of the call's own, of which the first numbers are written. -/
def RowHas (w : World) (b n : Nat) (acc : List Int) : Prop :=
  ∃ C : Array Value, w.heap[b]? = some (.cells C 3 (0, 0)) ∧ C.size = n ∧ ∀ j, j < acc.length → C[j]? = some (.int .i64 (acc.getD j 0))
theorem RowHas.later {w w' : World} {b n : Nat} {acc : List Int} (h : RowHas w b n acc) (hb : Below w.heap.size w w') : RowHas w' b n acc := by
  obtain ⟨C, hC, hs, hc⟩ := h
  have hlt : b < w.heap.size := by
    rcases Nat.lt_or_ge b w.heap.size with h' | h'
    · exact h'
    · simp [Array.getElem?_eq_none h'] at hC
  exact ⟨C, by rw [hb.block b hlt]; exact hC, hs, hc⟩
theorem RowHas.cell {w : World} {b n : Nat} {acc : List Int} (h : RowHas w b n acc) (k : Nat) (hk : k < n) : ∃ v, w.cell? ⟨b, k, none⟩ = some v := by
  obtain ⟨C, hC, hs, _⟩ := h
  exact ⟨C[k]'(by omega), by simp [World.cell?, hC, hs, hk]⟩
theorem RowHas.frozen {w : World} {b n : Nat} {acc : List Int} (h : RowHas w b n acc) (k : Nat) : w.frozen? ⟨b, k, none⟩ = false := by
  obtain ⟨C, hC, hs, _⟩ := h
  simp [World.frozen?, hC]
theorem RowHas.put {w : World} {b n : Nat} {acc : List Int} (h : RowHas w b n acc) (x : Int) (hk : acc.length < n) : RowHas (w.setCell ⟨b, acc.length, none⟩ (.int .i64 x)) b n (acc ++ [x]) := by
  obtain ⟨C, hC, hs, hc⟩ := h
  refine ⟨C.setIfInBounds acc.length (.int .i64 x), ?_, by simpa using hs, fun j hj => ?_⟩
  · simp [World.setCell, Array.getElem?_modify, hC]
  · rw [List.length_append] at hj
    simp only [List.length_singleton] at hj
    rw [Array.getElem?_setIfInBounds]
    by_cases e : acc.length = j
    · subst e
      simp [hs, hk, List.getD]
    · rw [if_neg e, hc j (by omega)]
      simp [List.getD, List.getElem?_append_left (show j < acc.length by omega)]
theorem RowHas.slice {w : World} {b n : Nat} {acc : List Int} (h : RowHas w b n acc) (hn : acc.length = n) (B : Nat) (hB : B ≤ b) : SliceFrom B w (.slice (some ⟨b, 0, none⟩) n n) acc := by
  obtain ⟨C, hC, hs, hc⟩ := h
  exact .inr ⟨b, 0, n, by rw [hn], hB, fun i hi => by simp [World.cell?, hC]; simpa using hc i hi, C, (0, 0), hC⟩
theorem RowHas.made (w : World) (n : Nat) : RowHas (w.alloc (.cells (madeCells #[.int .i64 0] n) 3)) w.heap.size n [] := by
  refine ⟨madeCells #[.int .i64 0] n, heap_alloc_new w _, ?_, fun j hj => by simp at hj⟩
  rw [← Array.length_toList, toList_madeCells_one]; simp

set_option maxHeartbeats 2000000 in
theorem nextList_any {W w : World} {v : Value} {g : Int → ByteArray × Int} {h : ByteArray → Nat → Int × Int × Int} (hc : CodecOk W v g h) (hb : Below W.heap.size W w)
    (most : Nat) (_hm : most ≤ 255) (s : ByteArray) (a : Int) (hs : s.size ≤ maxLen) :
    Calls Try.prog 85 #[v, .int .i64 most, .string s, .int .i64 a] w (RetList w (lnext h most s a).1 (lnext h most s a).2.1 (lnext h most s a).2.2) := by
  obtain ⟨i0, hi, hz0, hz1, hz2⟩ := info_parts info3
  have hbd := next1_bd s a
  obtain ⟨c0, a0, e0, hr⟩ : ∃ c0 a0 e0, nextAt (nextN 1) s a = (c0, a0, e0) := ⟨_, _, _, rfl⟩
  rw [hr] at hbd
  have HR := Lib.hid hr
  obtain ⟨l1, m1, n1, hout⟩ : ∃ l1 m1 n1, lnext h most s a = (l1, m1, n1) := ⟨_, _, _, rfl⟩
  rw [hout]
  have HOUT := Lib.hid hout
  clear hr hout
  have HC := Lib.hid hc
  obtain ⟨pv, nv, rfl, _, _⟩ := hc
  by_cases h0 : e0 = 0
  · subst h0
    obtain ⟨hc0, hc255⟩ := hbd
    obtain ⟨n, rfl⟩ := Int.eq_ofNat_of_zero_le hc0
    by_cases hlong : most < n
    · have hd : decide ((most : Int) < n) = true := by simp; omega
      have HO : Hid ((l1, m1, n1) = ([], a0, 4)) := Lib.hid (by rw [← HOUT.out]; simp [lnext, HR.out, hlong])
      go_enter Try.func85, Try.ntmps85
      go_wp2_with fail
      refine (num_codec 1 _).mono ?_
      rintro e w2 ⟨v1, rfl, hcod, hb1⟩
      have HC1 := Lib.hid hcod
      have HW2 := Lib.hid (((Below.refl w.heap.size w).alloc (Nat.le_refl _) (.cells #[pv, nv] 28)).trans (hb1.mono (by simp)))
      have HL2 := Lib.hid (show Below (w.heap.size + 1) (w.alloc (.cells #[pv, nv] 28)) w2 from hb1.mono (by simp))
      clear hcod hb1
      go_wp2_with fail
      refine (next_codec HC1.out (Below.refl _ _) s a hs).mono ?_
      rintro e w3 ⟨rfl, hb3⟩
      rw [show heldN 1 = 1 from rfl, HR.out]
      unfold ret3
      have HW3 := Lib.hid (HW2.out.trans (hb3.mono HW2.out.size))
      have HL3 := Lib.hid (HL2.out.trans (hb3.mono (by have := HL2.out.size; simp at this; omega)))
      clear hb3
      go_wp2
      go_ret3
      obtain ⟨rfl, rfl, rfl⟩ : l1 = [] ∧ m1 = a0 ∧ n1 = 4 := by simpa using HO.out
      exact ⟨none, 0, 0, rfl, .none _ _, HW3.out⟩
    · have hd : decide ((most : Int) < n) = false := by simp; omega
      have HO : Hid (lnextFrom h s n a0 [] = (l1, m1, n1)) := Lib.hid (by rw [← HOUT.out]; simp [lnext, HR.out, hlong])
      have hmk : ∀ u : World, (Instr.makeSlice 51 (.int .i64 (n : Int)) (.int .i64 (n : Int))).run Try.prog u =
          .ok (.slice (some ⟨u.heap.size, 0, none⟩) n n) (u.alloc (.cells (madeCells #[.int .i64 0] n) 3)) := fun u => by
        have h := run_make (P := Try.prog) u 51 3 i0 (.int .i64 0) Try.underlying51 hi hz0 .i64 .i64 (n : Int) (n : Int) (by omega) (Int.le_refl _) (by rw [hz2]; omega) (by omega)
        simpa [hz1, Value.cells] using h
      clear hi hz0 hz1 hz2
      go_enter Try.func85, Try.ntmps85
      go_wp2_with fail
      refine (num_codec 1 _).mono ?_
      rintro e w2 ⟨v1, rfl, hcod, hb1⟩
      have HC1 := Lib.hid hcod
      have HW2 := Lib.hid (((Below.refl w.heap.size w).alloc (Nat.le_refl _) (.cells #[pv, nv] 28)).trans (hb1.mono (by simp)))
      have HL2 := Lib.hid (show Below (w.heap.size + 1) (w.alloc (.cells #[pv, nv] 28)) w2 from hb1.mono (by simp))
      clear hcod hb1
      go_wp2_with fail
      refine (next_codec HC1.out (Below.refl _ _) s a hs).mono ?_
      rintro e w3 ⟨rfl, hb3⟩
      rw [show heldN 1 = 1 from rfl, HR.out]
      unfold ret3
      have HW3 := Lib.hid (HW2.out.trans (hb3.mono HW2.out.size))
      have HL3 := Lib.hid (HL2.out.trans (hb3.mono (by have := HL2.out.size; simp at this; omega)))
      clear hb3
      go_wp2
      have hz3 : w.heap.size + 1 ≤ w3.heap.size := by have := HL3.out.size; simpa using this
      have hrow0 := RowHas.made w3 n
      have hbel0 : Below w3.heap.size w3 (w3.alloc (.cells (madeCells #[.int .i64 0] n) 3)) := (Below.refl _ _).alloc (Nat.le_refl _) _
      go_loopw [3, 34] (fun at_ i wr => ∃ (k : Nat) (acc : List Int) (q : Int), k ≤ n ∧ i = .int .i64 k ∧ at_ = .int .i64 q ∧ Hid (acc.length = k) ∧ Hid (lnextFrom h s (n - k) q acc = (l1, m1, n1)) ∧
          Hid (RowHas wr w3.heap.size n acc) ∧ Hid (Below w3.heap.size w3 wr)) (fun _ i _ => n - (RowKit.intOf i).toNat)
      case atStart => exact ⟨0, [], a0, Nat.zero_le _, rfl, rfl, Lib.hid rfl, HO, Lib.hid hrow0, Lib.hid hbel0⟩
      case round =>
        obtain ⟨k, acc, q, hk, rfl, rfl, HK, HE, HROW, HBEL⟩ := hrel
        clear hrow0 hbel0
        have c1 : _ = some pv := (HBEL.out.cell (p := ⟨w.heap.size, 0, none⟩) (by dsimp only; omega)).trans ((HL3.out.cell (p := ⟨w.heap.size, 0, none⟩) (by simp)).trans (by simp [go_sem]))
        have c2 : _ = some nv := (HBEL.out.cell (p := ⟨w.heap.size, 1, none⟩) (by dsimp only; omega)).trans ((HL3.out.cell (p := ⟨w.heap.size, 1, none⟩) (by simp)).trans (by simp [go_sem]))
        have hsz := HBEL.out.size
        by_cases hkn : k < n
        · go_wp2_with fail
          refine (next_codec HC.out (hb.trans ((HW3.out.trans (HBEL.out.mono (by omega))).mono hb.size)) s q hs).mono ?_
          rintro e w4 ⟨rfl, hb4⟩
          obtain ⟨x, m, e1, hr1⟩ : ∃ x m e1, nextAt h s q = (x, m, e1) := ⟨_, _, _, rfl⟩
          rw [hr1]
          have HR1 := Lib.hid hr1
          unfold ret3
          have HROW4 := Lib.hid (HROW.out.later hb4)
          have HBEL4 := Lib.hid (HBEL.out.trans (hb4.mono hsz))
          obtain ⟨v0, hcell⟩ := HROW4.out.cell k hkn
          have hfro := HROW4.out.frozen k
          clear hb4 hr1 c1 c2
          by_cases he : e1 = 0
          · subst he
            have HEN : Hid (lnextFrom h s (n - (k + 1)) m (acc ++ [x]) = (l1, m1, n1)) := by
              refine Lib.hid ?_
              rw [← HE.out, show n - k = (n - (k + 1)) + 1 by omega]
              simp [lnextFrom, HR1.out]
            have HRN : Hid (RowHas (w4.setCell ⟨w3.heap.size, k, none⟩ (.int .i64 x)) w3.heap.size n (acc ++ [x])) := by
              have := HROW4.out.put x (by rw [HK.out]; exact hkn)
              rw [HK.out] at this
              exact Lib.hid this
            have HBN := Lib.hid (HBEL4.out.setCell (p := ⟨w3.heap.size, k, none⟩) (Nat.le_refl _) (.int .i64 x))
            have HKN : Hid ((acc ++ [x]).length = k + 1) := Lib.hid (by rw [List.length_append, HK.out]; rfl)
            go_wp2
            go_roundw
            case rel => exact ⟨k + 1, acc ++ [x], m, by omega, by go_num, rfl, HKN, HEN, HRN, HBN⟩
            case measure => simp [RowKit.intOf]; omega
          · have he' : (e1 != 0) = true := by simpa using he
            have HEN : Hid (l1 = [] ∧ m1 = m ∧ n1 = e1) := by
              have h1 := HE.out
              rw [show n - k = (n - (k + 1)) + 1 by omega] at h1
              simp [lnextFrom, HR1.out, he] at h1
              exact Lib.hid ⟨h1.1, h1.2.1.symm, h1.2.2.symm⟩
            clear he
            go_wp2
            go_ret3
            obtain ⟨rfl, rfl, rfl⟩ := HEN.out
            exact ⟨none, 0, 0, rfl, .none _ _, HW3.out.trans ((HBEL4.out.setCell (p := ⟨w3.heap.size, k, none⟩) (Nat.le_refl _) _).mono (by omega))⟩
        · obtain rfl : k = n := by omega
          go_wp2
          go_ret3
          have h1 := HE.out
          rw [Nat.sub_self] at h1
          simp only [lnextFrom, Prod.mk.injEq] at h1
          obtain ⟨rfl, rfl, rfl⟩ := h1
          exact ⟨_, _, _, rfl, HROW.out.slice HK.out _ (by omega), HW3.out.trans (HBEL.out.mono (by omega))⟩
  · have h0' : (e0 != 0) = true := by simpa using h0
    have HO : Hid ((l1, m1, n1) = ([], a0, e0)) := Lib.hid (by rw [← HOUT.out]; simp [lnext, HR.out, h0])
    clear h0
    go_enter Try.func85, Try.ntmps85
    go_wp2_with fail
    refine (num_codec 1 _).mono ?_
    rintro e w2 ⟨v1, rfl, hcod, hb1⟩
    have HC1 := Lib.hid hcod
    have HW2 := Lib.hid (((Below.refl w.heap.size w).alloc (Nat.le_refl _) (.cells #[pv, nv] 28)).trans (hb1.mono (by simp)))
    have HL2 := Lib.hid (show Below (w.heap.size + 1) (w.alloc (.cells #[pv, nv] 28)) w2 from hb1.mono (by simp))
    clear hcod hb1
    go_wp2_with fail
    refine (next_codec HC1.out (Below.refl _ _) s a hs).mono ?_
    rintro e w3 ⟨rfl, hb3⟩
    rw [show heldN 1 = 1 from rfl, HR.out]
    unfold ret3
    have HW3 := Lib.hid (HW2.out.trans (hb3.mono HW2.out.size))
    have HL3 := Lib.hid (HL2.out.trans (hb3.mono (by have := HL2.out.size; simp at this; omega)))
    clear hb3
    go_wp2
    go_ret3
    obtain ⟨rfl, rfl, rfl⟩ : l1 = [] ∧ m1 = a0 ∧ n1 = e0 := by simpa using HO.out
    exact ⟨none, 0, 0, rfl, .none _ _, HW3.out⟩
end Go.Proofs.Ytcbjekdbkhibbaa

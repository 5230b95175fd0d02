/- The contracts of Below, Taken, Left (layer 4), of draws and of none. -/
import Derived.Test.YtokjghfpdolojaaEc
namespace Go.Proofs.Ytokjghfpdolojaa
open Go.RowKit

/-- A draw x below n. -/
def drawN (x n : Int) : Int := if n < 1 then 0 else if x.tmod n < 0 then x.tmod n + n else x.tmod n
theorem tmod_lt (x n : Int) (h : 1 ≤ n) : -n < x.tmod n ∧ x.tmod n < n := by
  have h1 := Int.lt_tmod_of_pos x (show 0 < n by omega)
  have h2 := Int.tmod_lt_of_pos x (show 0 < n by omega)
  omega
theorem drawN_in (x n : Int) (h : 1 ≤ n) : 0 ≤ drawN x n ∧ drawN x n < n := by
  have h1 := tmod_lt x n h
  unfold drawN
  rw [if_neg (by omega)]
  split <;> omega

set_option maxRecDepth 100000 in
set_option maxHeartbeats 4000000 in
theorem below_any (n : Int) (hn : n ≤ 9223372036854775807) {w : World} {lo b k : Nat} {m : List Int} (h : DrawsAt w lo b m k) (hk : k ≤ 1000000) (hm : m.length ≤ 1000000) :
    Calls Try.prog 10 #[.pointer (some ⟨b, 0, none⟩), .int .i64 n] w (TookOne w lo b (drawN (m.headD 0) n) m.tail (k + 1)) := by
  have H := Lib.hid h
  clear h
  obtain ⟨x, hx⟩ : ∃ x, m.headD 0 = x := ⟨_, rfl⟩
  have HX := Lib.hid hx
  rw [hx]
  clear hx
  by_cases h1 : n < 1
  · have HD := Lib.hid (show drawN x n = 0 by unfold drawN; rw [if_pos h1])
    have b1 : decide (n < 1) = true := decide_eq_true h1
    clear h1
    go_enter Try.func10, Try.ntmps10
    go_wp2_with fail
    refine (take_any H.out hk hm).mono ?_
    rintro e w' ⟨rfl, r⟩
    have HRR := Lib.hid r
    clear r
    go_wp2
    go_ret
    exact ⟨ret_int HD.out.symm, HRR.out⟩
  · have b1 : decide (n < 1) = false := decide_eq_false h1
    have hb := tmod_lt x n (by omega)
    have n0 : ¬ n = 0 := by omega
    by_cases h2 : x.tmod n < 0
    · have HD := Lib.hid (show drawN x n = x.tmod n + n by unfold drawN; rw [if_neg h1, if_pos h2])
      go_enter Try.func10, Try.ntmps10
      go_wp2_with fail
      refine (take_any H.out hk hm).mono ?_
      rw [HX.out]
      rintro e w' ⟨rfl, r⟩
      have HRR := Lib.hid r
      clear r
      go_wp2
      go_ret
      exact ⟨ret_int HD.out.symm, HRR.out⟩
    · have HD := Lib.hid (show drawN x n = x.tmod n by unfold drawN; rw [if_neg h1, if_neg h2])
      go_enter Try.func10, Try.ntmps10
      go_wp2_with fail
      refine (take_any H.out hk hm).mono ?_
      rw [HX.out]
      rintro e w' ⟨rfl, r⟩
      have HRR := Lib.hid r
      clear r
      go_wp2
      go_ret
      exact ⟨ret_int HD.out.symm, HRR.out⟩

def Same (w : World) (v : Value) (e : Ending) (w' : World) : Prop := e = .returned v ∧ w = w'
set_option maxRecDepth 100000 in
theorem take_none (w : World) : Calls Try.prog 23 #[.pointer none] w (Same w (.int .i64 0)) := by
  go_enter Try.func23, Try.ntmps23
  go_wp2
  go_ret
  exact ⟨rfl, rfl⟩
set_option maxRecDepth 100000 in
theorem below_none (w : World) : Calls Try.prog 10 #[.pointer none, .int .i64 5] w (Same w (.int .i64 0)) := by
  go_enter Try.func10, Try.ntmps10
  go_wp2_with fail
  refine (take_none _).mono ?_
  rintro e w' ⟨rfl, rfl⟩
  go_wp2
  go_ret
  exact ⟨rfl, rfl⟩
set_option maxRecDepth 100000 in
theorem taken_none (w : World) : Calls Try.prog 12 #[.pointer none] w (Same w (.int .i64 0)) := by
  go_enter Try.func12, Try.ntmps12
  go_wp2
  go_ret
  exact ⟨rfl, rfl⟩
set_option maxRecDepth 100000 in
theorem left_none (w : World) : Calls Try.prog 13 #[.pointer none] w (Same w (.int .i64 0)) := by
  go_enter Try.func13, Try.ntmps13
  go_wp2
  go_ret
  exact ⟨rfl, rfl⟩
set_option maxRecDepth 100000 in
theorem copy_none (w : World) : Calls Try.prog 9 #[.pointer none] w (Same w (.pointer none)) := by
  go_enter Try.func9, Try.ntmps9
  go_wp2
  go_ret
  exact ⟨rfl, rfl⟩
set_option maxRecDepth 100000 in
theorem taken_any {w : World} {lo b k : Nat} {m : List Int} (h : DrawsAt w lo b m k) : Calls Try.prog 12 #[.pointer (some ⟨b, 0, none⟩)] w (Same w (.int .i64 k)) := by
  obtain ⟨h0, v, hr, hv⟩ := h
  have c1 := hr.cell 1 (by simp)
  simp only [List.getElem_cons_zero, List.getElem_cons_succ] at c1
  clear hr hv h0
  go_enter Try.func12, Try.ntmps12
  go_wp2
  go_ret
  exact ⟨rfl, rfl⟩
set_option maxRecDepth 100000 in
theorem left_any {w : World} {lo b k : Nat} {m : List Int} (h : DrawsAt w lo b m k) : Calls Try.prog 13 #[.pointer (some ⟨b, 0, none⟩)] w (Same w (.int .i64 m.length)) := by
  obtain ⟨h0, v, hr, hv⟩ := h
  obtain ⟨xa, xc, rfl⟩ := hv.form
  have c0 := hr.cell 0 (by simp)
  simp only [List.getElem_cons_zero] at c0
  clear hr hv h0
  go_enter Try.func13, Try.ntmps13
  go_wp2
  go_ret
  exact ⟨rfl, rfl⟩
end Go.Proofs.Ytokjghfpdolojaa

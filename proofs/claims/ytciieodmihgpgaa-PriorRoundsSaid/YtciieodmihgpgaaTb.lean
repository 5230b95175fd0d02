/- What reads and what changes teams (layer 9): Mates, Life, Poison, Lost, Lose, Gain, Sicken. -/
import Derived.Test.YtciieodmihgpgaaTa
namespace Go.Proofs.Ytciieodmihgpgaa
open Go.RowKit

def holdZ (n : Int) : Int := min (max n (-999)) 999
def addZ (a b : Int) : Int := holdZ (holdZ a + holdZ b)
theorem holdZ_in (n : Int) : -999 ≤ holdZ n ∧ holdZ n ≤ 999 := by unfold holdZ; omega
theorem holdZ_id {n : Int} (h : -999 ≤ n ∧ n ≤ 999) : holdZ n = n := by unfold holdZ; omega
theorem addZ_in (a b : Int) : -999 ≤ addZ a b ∧ addZ a b ≤ 999 := holdZ_in _
def heldZ (n l m : Int) : Int := if n < l then l else if n > m then m else n
theorem heldZ_in (n l m : Int) (h : l ≤ m) : l ≤ heldZ n l m ∧ heldZ n l m ≤ m := by unfold heldZ; split <;> (try split) <;> omega
def refAddZ (a b : Int) : Int := heldZ (heldZ a (-999) 999 + heldZ b (-999) 999) (-999) 999
theorem held_hold (n : Int) : heldZ n (-999) 999 = holdZ n := by unfold heldZ holdZ; split <;> (try split) <;> omega
theorem refAdd_eq (a b : Int) : refAddZ a b = addZ a b := by unfold refAddZ addZ; rw [held_hold, held_hold, held_hold]
theorem in_nat {T : TeamL} {k : Int} (h : inL T k = true) : ∃ n : Nat, k = n ∧ n < T.sh.length := by
  simp only [inL, Bool.and_eq_true, decide_eq_true_eq] at h
  exact ⟨k.toNat, by omega, by omega⟩
theorem inL_nat {T : TeamL} {n : Nat} (h : n < T.sh.length) : inL T n = true := by simp [inL]; omega
theorem lifeT_in {T : TeamL} {n : Nat} (h : n < T.sh.length) : lifeT T n = T.sh[n].life := by simp [lifeT, inL_nat h, List.getD, h]
theorem poisonT_in {T : TeamL} {n : Nat} (h : n < T.sh.length) : poisonT T n = T.sh[n].poison := by simp [poisonT, inL_nat h, List.getD, h]
theorem lostT_in {T : TeamL} {n : Nat} (h : n < T.sh.length) : lostT T n = T.sh[n].lost := by simp [lostT, inL_nat h, List.getD, h]
theorem TeamAt.cells {w : World} {lo b s r : Nat} {T : TeamL} (h : TeamAt w lo b s r T) (n : Nat) (hn : n < T.sh.length) :
    w.cell? ⟨r, n * 3, none⟩ = some (.int .i64 T.sh[n].life) ∧ w.cell? ⟨r, n * 3 + 1, none⟩ = some (.int .i64 T.sh[n].poison) ∧ w.cell? ⟨r, n * 3 + 2, none⟩ = some (.bool T.sh[n].lost) :=
  ⟨h.share n 0 hn (by decide), h.share n 1 hn (by decide), h.share n 2 hn (by decide)⟩
def matesT (T : TeamL) (a b : Int) : Bool := decide (0 ≤ ofT T a) && (ofT T a == ofT T b)
set_option maxRecDepth 100000 in
theorem tlost_any {w : World} {lo b s r : Nat} {T : TeamL} (h : TeamAt w lo b s r T) (k : Int) : Calls Try.prog 26 #[.pointer (some ⟨b, 0, none⟩), .int .i64 k] w (Same w (.bool (lostT T k))) := by
  have HI := Lib.hid (thas_any h k)
  cases hi : inL T k with
  | false =>
    have e : lostT T k = true := by simp [lostT, hi]
    rw [hi] at HI
    rw [e]
    clear h hi e
    go_enter Try.func26, Try.ntmps26
    go_wp2_with fail
    refine HI.out.mono ?_
    rintro e w1 ⟨rfl, rfl⟩
    go_wp2
    go_ret
    exact ⟨rfl, rfl⟩
  | true =>
    obtain ⟨n, rfl, hn⟩ := in_nat hi
    rw [hi] at HI
    rw [lostT_in hn]
    obtain ⟨c1, c2, k0, k1⟩ := h.heads
    obtain ⟨_, _, c0⟩ := h.cells n hn
    obtain ⟨x, hx⟩ : ∃ x, T.sh[n].lost = x := ⟨_, rfl⟩
    rw [hx] at c0 ⊢
    have h2 := h.n2
    clear h hi hx
    go_enter Try.func26, Try.ntmps26
    go_wp2_with fail
    refine HI.out.mono ?_
    rintro e w1 ⟨rfl, rfl⟩
    go_wp2
    go_ret
    exact ⟨rfl, rfl⟩
end Go.Proofs.Ytciieodmihgpgaa

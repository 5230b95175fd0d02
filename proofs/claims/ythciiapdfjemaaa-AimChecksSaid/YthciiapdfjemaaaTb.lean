/- What reads and what changes teams (layer 9): Mates, Life, Poison, Lost, Lose, Gain, Sicken. -/
import Derived.Test.YthciiapdfjemaaaTa
import Derived.Test.YthciiapdfjemaaaSa
namespace Go.Proofs.Ythciiapdfjemaaa
open Go.RowKit

theorem in_nat {T : TeamL} {k : Int} (h : inT T k = true) : ∃ n : Nat, k = n ∧ n < T.sh.length := by
  simp only [inT, Bool.and_eq_true, decide_eq_true_eq] at h
  exact ⟨k.toNat, by omega, by omega⟩
theorem inL_nat {T : TeamL} {n : Nat} (h : n < T.sh.length) : inT T n = true := by simp [inT]; omega
theorem lostT_in {T : TeamL} {n : Nat} (h : n < T.sh.length) : lostT T n = T.sh[n].lost := by simp [lostT, inL_nat h, List.getD, h]
theorem TeamAt.cells {w : World} {lo b s r : Nat} {T : TeamL} (h : TeamAt w lo b s r T) (n : Nat) (hn : n < T.sh.length) :
    w.cell? ⟨r, n * 3, none⟩ = some (.int .i64 T.sh[n].life) ∧ w.cell? ⟨r, n * 3 + 1, none⟩ = some (.int .i64 T.sh[n].poison) ∧ w.cell? ⟨r, n * 3 + 2, none⟩ = some (.bool T.sh[n].lost) :=
  ⟨h.share n 0 hn (by decide), h.share n 1 hn (by decide), h.share n 2 hn (by decide)⟩
def matesT (T : TeamL) (a b : Int) : Bool := decide (0 ≤ ofT T a) && (ofT T a == ofT T b)
set_option maxRecDepth 100000 in
theorem tmates_any {w : World} {lo b s r : Nat} {T : TeamL} (h : TeamAt w lo b s r T) (x y : Int) : Calls Try.prog 20 #[.pointer (some ⟨b, 0, none⟩), .int .i64 x, .int .i64 y] w (Same w (.bool (matesT T x y))) := by
  have H1 := Lib.hid (tof_any h x)
  have H2 := Lib.hid (tof_any h y)
  clear h
  unfold matesT
  obtain ⟨p, hp⟩ : ∃ p, ofT T x = p := ⟨_, rfl⟩
  obtain ⟨q, hq⟩ : ∃ q, ofT T y = q := ⟨_, rfl⟩
  rw [hp] at H1 ⊢
  rw [hq] at H2 ⊢
  clear hp hq
  by_cases h0 : 0 ≤ p
  · have d0 : decide (0 ≤ p) = true := decide_eq_true h0
    rw [d0, Bool.true_and]
    go_enter Try.func20, Try.ntmps20
    go_wp2_with fail
    refine H1.out.mono ?_
    rintro e w1 ⟨rfl, rfl⟩
    go_wp2_with fail
    refine H1.out.mono ?_
    rintro e w2 ⟨rfl, rfl⟩
    go_wp2_with fail
    refine H2.out.mono ?_
    rintro e w3 ⟨rfl, rfl⟩
    go_wp2
    go_ret
    exact ⟨rfl, rfl⟩
  · have d0 : decide (0 ≤ p) = false := decide_eq_false h0
    rw [d0, Bool.false_and]
    go_enter Try.func20, Try.ntmps20
    go_wp2_with fail
    refine H1.out.mono ?_
    rintro e w1 ⟨rfl, rfl⟩
    go_wp2
    go_ret
    exact ⟨rfl, rfl⟩
set_option maxRecDepth 100000 in
theorem tlost_any {w : World} {lo b s r : Nat} {T : TeamL} (h : TeamAt w lo b s r T) (k : Int) : Calls Try.prog 32 #[.pointer (some ⟨b, 0, none⟩), .int .i64 k] w (Same w (.bool (lostT T k))) := by
  have HI := Lib.hid (thas_any h k)
  cases hi : inT T k with
  | false =>
    have e : lostT T k = true := by simp [lostT, hi]
    rw [hi] at HI
    rw [e]
    clear h hi e
    go_enter Try.func32, Try.ntmps32
    go_wp2_with fail
    refine HI.out.mono ?_
    rintro e w1 ⟨rfl, rfl⟩
    go_wp2
    go_ret
    exact ⟨rfl, rfl⟩
  | true =>
    obtain ⟨n, rfl, hn⟩ := in_nat hi
    rw [hi] at HI
    rw [lostT_in hn]
    obtain ⟨c1, c2, k0, k1⟩ := h.heads
    obtain ⟨_, _, c0⟩ := h.cells n hn
    obtain ⟨x, hx⟩ : ∃ x, T.sh[n].lost = x := ⟨_, rfl⟩
    rw [hx] at c0 ⊢
    have h2 := h.n2
    clear h hi hx
    go_enter Try.func32, Try.ntmps32
    go_wp2_with fail
    refine HI.out.mono ?_
    rintro e w1 ⟨rfl, rfl⟩
    go_wp2
    go_ret
    exact ⟨rfl, rfl⟩
end Go.Proofs.Ythciiapdfjemaaa

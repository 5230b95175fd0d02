/- What reads and what changes teams (layer 9): Mates, Life, Poison, Lost, Lose, Gain, Sicken. -/
import Derived.Test.YtbiomffjmajlgaaTa
namespace Go.Proofs.Ytbiomffjmajlgaa
open Go.RowKit

def holdZ (n : Int) : Int := min (max n (-999)) 999
def addZ (a b : Int) : Int := holdZ (holdZ a + holdZ b)
theorem holdZ_in (n : Int) : -999 ≤ holdZ n ∧ holdZ n ≤ 999 := by unfold holdZ; omega
theorem holdZ_id {n : Int} (h : -999 ≤ n ∧ n ≤ 999) : holdZ n = n := by unfold holdZ; omega
theorem addZ_in (a b : Int) : -999 ≤ addZ a b ∧ addZ a b ≤ 999 := holdZ_in _
set_option maxRecDepth 100000 in
theorem hold_any (n : Int) (w : World) : Calls Try.prog 44 #[.int .i64 n] w (Same w (.int .i64 (holdZ n))) := by
  go_enter Try.func44, Try.ntmps44
  go_wp2
  go_ret
  exact ⟨rfl, rfl⟩
set_option maxRecDepth 100000 in
theorem add_any (a b : Int) (w : World) : Calls Try.prog 35 #[.int .i64 a, .int .i64 b] w (Same w (.int .i64 (addZ a b))) := by
  have h1 := holdZ_in a
  have h2 := holdZ_in b
  go_enter Try.func35, Try.ntmps35
  go_wp2_with fail
  refine (hold_any a w).mono ?_
  rintro e w1 ⟨rfl, rfl⟩
  go_wp2_with fail
  refine (hold_any b w1).mono ?_
  rintro e w2 ⟨rfl, rfl⟩
  unfold addZ
  obtain ⟨x, hx⟩ : ∃ x, holdZ a = x := ⟨_, rfl⟩
  obtain ⟨y, hy⟩ : ∃ y, holdZ b = y := ⟨_, rfl⟩
  rw [hx] at h1 ⊢
  rw [hy] at h2 ⊢
  go_wp2_with fail
  refine (hold_any (x + y) w2).mono ?_
  rintro e w3 ⟨rfl, rfl⟩
  go_wp2
  go_ret
  subst hx hy
  exact ⟨rfl, rfl⟩
def heldZ (n l m : Int) : Int := if n < l then l else if n > m then m else n
set_option maxRecDepth 100000 in
theorem held_any (n l m : Int) (w : World) : Calls Try.prog 38 #[.int .i64 n, .int .i64 l, .int .i64 m] w (Same w (.int .i64 (heldZ n l m))) := by
  by_cases h1 : n < l
  · have d1 : decide (n < l) = true := decide_eq_true h1
    have e : heldZ n l m = l := if_pos h1
    rw [e]
    go_enter Try.func38, Try.ntmps38
    go_wp2
    go_ret
    exact ⟨rfl, rfl⟩
  have d1 : decide (n < l) = false := decide_eq_false h1
  by_cases h2 : m < n
  · have d2 : decide (m < n) = true := decide_eq_true h2
    have e : heldZ n l m = m := by unfold heldZ; rw [if_neg h1, if_pos h2]
    rw [e]
    go_enter Try.func38, Try.ntmps38
    go_wp2
    go_ret
    exact ⟨rfl, rfl⟩
  have d2 : decide (m < n) = false := decide_eq_false h2
  have e : heldZ n l m = n := by unfold heldZ; rw [if_neg h1, if_neg h2]
  rw [e]
  go_enter Try.func38, Try.ntmps38
  go_wp2
  go_ret
  exact ⟨rfl, rfl⟩
theorem heldZ_in (n l m : Int) (h : l ≤ m) : l ≤ heldZ n l m ∧ heldZ n l m ≤ m := by unfold heldZ; split <;> (try split) <;> omega
def refAddZ (a b : Int) : Int := heldZ (heldZ a (-999) 999 + heldZ b (-999) 999) (-999) 999
theorem held_hold (n : Int) : heldZ n (-999) 999 = holdZ n := by unfold heldZ holdZ; split <;> (try split) <;> omega
theorem refAdd_eq (a b : Int) : refAddZ a b = addZ a b := by unfold refAddZ addZ; rw [held_hold, held_hold, held_hold]
set_option maxRecDepth 100000 in
theorem refAdd_any (a b : Int) (w : World) : Calls Try.prog 24 #[.int .i64 a, .int .i64 b] w (Same w (.int .i64 (addZ a b))) := by
  rw [← refAdd_eq]
  have h1 := heldZ_in a (-999) 999 (by decide)
  have h2 := heldZ_in b (-999) 999 (by decide)
  go_enter Try.func24, Try.ntmps24
  go_wp2_with fail
  refine (held_any a (-999) 999 w).mono ?_
  rintro e w1 ⟨rfl, rfl⟩
  go_wp2_with fail
  refine (held_any b (-999) 999 w1).mono ?_
  rintro e w2 ⟨rfl, rfl⟩
  unfold refAddZ
  obtain ⟨x, hx⟩ : ∃ x, heldZ a (-999) 999 = x := ⟨_, rfl⟩
  obtain ⟨y, hy⟩ : ∃ y, heldZ b (-999) 999 = y := ⟨_, rfl⟩
  rw [hx] at h1 ⊢
  rw [hy] at h2 ⊢
  go_wp2_with fail
  refine (held_any (x + y) (-999) 999 w2).mono ?_
  rintro e w3 ⟨rfl, rfl⟩
  go_wp2
  go_ret
  subst hx hy
  exact ⟨rfl, rfl⟩

theorem in_nat {T : TeamL} {k : Int} (h : inL T k = true) : ∃ n : Nat, k = n ∧ n < T.sh.length := by
  simp only [inL, Bool.and_eq_true, decide_eq_true_eq] at h
  exact ⟨k.toNat, by omega, by omega⟩
theorem inL_nat {T : TeamL} {n : Nat} (h : n < T.sh.length) : inL T n = true := by simp [inL]; omega
theorem lifeT_in {T : TeamL} {n : Nat} (h : n < T.sh.length) : lifeT T n = T.sh[n].life := by simp [lifeT, inL_nat h, List.getD, h]
theorem poisonT_in {T : TeamL} {n : Nat} (h : n < T.sh.length) : poisonT T n = T.sh[n].poison := by simp [poisonT, inL_nat h, List.getD, h]
theorem lostT_in {T : TeamL} {n : Nat} (h : n < T.sh.length) : lostT T n = T.sh[n].lost := by simp [lostT, inL_nat h, List.getD, h]
theorem TeamAt.cells {w : World} {lo b s r : Nat} {T : TeamL} (h : TeamAt w lo b s r T) (n : Nat) (hn : n < T.sh.length) :
    w.cell? ⟨r, n * 3, none⟩ = some (.int .i64 T.sh[n].life) ∧ w.cell? ⟨r, n * 3 + 1, none⟩ = some (.int .i64 T.sh[n].poison) ∧ w.cell? ⟨r, n * 3 + 2, none⟩ = some (.bool T.sh[n].lost) :=
  ⟨h.share n 0 hn (by decide), h.share n 1 hn (by decide), h.share n 2 hn (by decide)⟩
def matesT (T : TeamL) (a b : Int) : Bool := decide (0 ≤ ofT T a) && (ofT T a == ofT T b)
set_option maxRecDepth 100000 in
theorem tmates_any {w : World} {lo b s r : Nat} {T : TeamL} (h : TeamAt w lo b s r T) (x y : Int) : Calls Try.prog 13 #[.pointer (some ⟨b, 0, none⟩), .int .i64 x, .int .i64 y] w (Same w (.bool (matesT T x y))) := by
  have H1 := Lib.hid (tof_any h x)
  have H2 := Lib.hid (tof_any h y)
  clear h
  unfold matesT
  obtain ⟨p, hp⟩ : ∃ p, ofT T x = p := ⟨_, rfl⟩
  obtain ⟨q, hq⟩ : ∃ q, ofT T y = q := ⟨_, rfl⟩
  rw [hp] at H1 ⊢
  rw [hq] at H2 ⊢
  clear hp hq
  by_cases h0 : 0 ≤ p
  · have d0 : decide (0 ≤ p) = true := decide_eq_true h0
    rw [d0, Bool.true_and]
    go_enter Try.func13, Try.ntmps13
    go_wp2_with fail
    refine H1.out.mono ?_
    rintro e w1 ⟨rfl, rfl⟩
    go_wp2_with fail
    refine H1.out.mono ?_
    rintro e w2 ⟨rfl, rfl⟩
    go_wp2_with fail
    refine H2.out.mono ?_
    rintro e w3 ⟨rfl, rfl⟩
    go_wp2
    go_ret
    exact ⟨rfl, rfl⟩
  · have d0 : decide (0 ≤ p) = false := decide_eq_false h0
    rw [d0, Bool.false_and]
    go_enter Try.func13, Try.ntmps13
    go_wp2_with fail
    refine H1.out.mono ?_
    rintro e w1 ⟨rfl, rfl⟩
    go_wp2
    go_ret
    exact ⟨rfl, rfl⟩
set_option maxRecDepth 100000 in
theorem tlife_any {w : World} {lo b s r : Nat} {T : TeamL} (h : TeamAt w lo b s r T) (k : Int) : Calls Try.prog 16 #[.pointer (some ⟨b, 0, none⟩), .int .i64 k] w (Same w (.int .i64 (lifeT T k))) := by
  have HI := Lib.hid (thas_any h k)
  cases hi : inL T k with
  | false =>
    have e : lifeT T k = 0 := by simp [lifeT, hi]
    rw [hi] at HI
    rw [e]
    clear h hi e
    go_enter Try.func16, Try.ntmps16
    go_wp2_with fail
    refine HI.out.mono ?_
    rintro e w1 ⟨rfl, rfl⟩
    go_wp2
    go_ret
    exact ⟨rfl, rfl⟩
  | true =>
    obtain ⟨n, rfl, hn⟩ := in_nat hi
    rw [hi] at HI
    rw [lifeT_in hn]
    obtain ⟨c1, c2, k0, k1⟩ := h.heads
    obtain ⟨c0, _, _⟩ := h.cells n hn
    obtain ⟨x, hx⟩ : ∃ x, T.sh[n].life = x := ⟨_, rfl⟩
    rw [hx] at c0 ⊢
    have h2 := h.n2
    clear h hi hx
    go_enter Try.func16, Try.ntmps16
    go_wp2_with fail
    refine HI.out.mono ?_
    rintro e w1 ⟨rfl, rfl⟩
    go_wp2
    go_ret
    exact ⟨rfl, rfl⟩
set_option maxRecDepth 100000 in
theorem tpoison_any {w : World} {lo b s r : Nat} {T : TeamL} (h : TeamAt w lo b s r T) (k : Int) : Calls Try.prog 17 #[.pointer (some ⟨b, 0, none⟩), .int .i64 k] w (Same w (.int .i64 (poisonT T k))) := by
  have HI := Lib.hid (thas_any h k)
  cases hi : inL T k with
  | false =>
    have e : poisonT T k = 0 := by simp [poisonT, hi]
    rw [hi] at HI
    rw [e]
    clear h hi e
    go_enter Try.func17, Try.ntmps17
    go_wp2_with fail
    refine HI.out.mono ?_
    rintro e w1 ⟨rfl, rfl⟩
    go_wp2
    go_ret
    exact ⟨rfl, rfl⟩
  | true =>
    obtain ⟨n, rfl, hn⟩ := in_nat hi
    rw [hi] at HI
    rw [poisonT_in hn]
    obtain ⟨c1, c2, k0, k1⟩ := h.heads
    obtain ⟨_, c0, _⟩ := h.cells n hn
    obtain ⟨x, hx⟩ : ∃ x, T.sh[n].poison = x := ⟨_, rfl⟩
    rw [hx] at c0 ⊢
    have h2 := h.n2
    clear h hi hx
    go_enter Try.func17, Try.ntmps17
    go_wp2_with fail
    refine HI.out.mono ?_
    rintro e w1 ⟨rfl, rfl⟩
    go_wp2
    go_ret
    exact ⟨rfl, rfl⟩
set_option maxRecDepth 100000 in
theorem tlost_any {w : World} {lo b s r : Nat} {T : TeamL} (h : TeamAt w lo b s r T) (k : Int) : Calls Try.prog 18 #[.pointer (some ⟨b, 0, none⟩), .int .i64 k] w (Same w (.bool (lostT T k))) := by
  have HI := Lib.hid (thas_any h k)
  cases hi : inL T k with
  | false =>
    have e : lostT T k = true := by simp [lostT, hi]
    rw [hi] at HI
    rw [e]
    clear h hi e
    go_enter Try.func18, Try.ntmps18
    go_wp2_with fail
    refine HI.out.mono ?_
    rintro e w1 ⟨rfl, rfl⟩
    go_wp2
    go_ret
    exact ⟨rfl, rfl⟩
  | true =>
    obtain ⟨n, rfl, hn⟩ := in_nat hi
    rw [hi] at HI
    rw [lostT_in hn]
    obtain ⟨c1, c2, k0, k1⟩ := h.heads
    obtain ⟨_, _, c0⟩ := h.cells n hn
    obtain ⟨x, hx⟩ : ∃ x, T.sh[n].lost = x := ⟨_, rfl⟩
    rw [hx] at c0 ⊢
    have h2 := h.n2
    clear h hi hx
    go_enter Try.func18, Try.ntmps18
    go_wp2_with fail
    refine HI.out.mono ?_
    rintro e w1 ⟨rfl, rfl⟩
    go_wp2
    go_ret
    exact ⟨rfl, rfl⟩
end Go.Proofs.Ytbiomffjmajlgaa

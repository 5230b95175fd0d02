/- The contracts of Ints (at two lists that are one), Many, Pick and the document's Shuffle (layer 4). -/
import Derived.Test.YtokjghfpdolojaaEg
import Derived.Test.YtokjghfpdolojaaAp
namespace Go.Proofs.Ytokjghfpdolojaa
open Go.RowKit

def Drew (w : World) (v : Value) (e : Ending) (w' : World) : Prop := e = .returned v ∧ ∃ n, w' = w.drewN n
set_option maxRecDepth 100000 in
set_option maxHeartbeats 4000000 in
theorem ints_same {v u : Value} {l : List Int} {w : World} (hv : IntsAt w v l) (hu : IntsAt w u l) (hl : l.length ≤ 1000) :
    Calls Try.prog 15 #[v, u] w (Drew w (.bool true)) := by
  obtain ⟨xa, xc, rfl⟩ := hv.form
  obtain ⟨ya, yc, rfl⟩ := hu.form
  have HV := Lib.hid hv
  have HU := Lib.hid hu
  clear hv hu
  go_enter Try.func15, Try.ntmps15
  go_wp2
  go_loopw [5] (fun i wr => ∃ k : Nat, k ≤ l.length ∧ i = .int .i64 k ∧ Hid (∃ n, wr = w.drewN n)) (fun i _ => l.length - (intOf i).toNat)
  case atStart => exact ⟨0, Nat.zero_le _, rfl, Lib.hid ⟨0, rfl⟩⟩
  case round =>
    obtain ⟨k, hk, rfl, HW⟩ := hrel
    obtain ⟨nw, hnw⟩ := HW.out
    subst hnw
    by_cases hlt : k < l.length
    · obtain ⟨b1, o1, rfl, _, c1⟩ := HV.out.at k hlt
      obtain ⟨b2, o2, rfl, _, c2⟩ := HU.out.at k hlt
      obtain ⟨x, hx⟩ : ∃ x, l[k] = x := ⟨_, rfl⟩
      rw [hx] at c1 c2
      clear hx
      have d0 : (0 : Int) ≤ k := by omega
      have d1 : (k : Int) < l.length := by omega
      go_wp2
      go_quiet (fail)
      go_wp2
      go_roundw
      case rel => exact ⟨k + 1, by omega, by go_num, Lib.hid ⟨_, rfl⟩⟩
      case measure => simp [intOf]; omega
    · obtain rfl : k = l.length := by omega
      go_wp2
      go_ret
      exact ⟨rfl, nw, rfl⟩

set_option maxRecDepth 100000 in
set_option maxHeartbeats 4000000 in
theorem many_any {u : Value} {l : List Int} (x : Int) {w : World} (hu : IntsAt w u l) (hl : l.length ≤ 1000) :
    Calls Try.prog 17 #[u, .int .i64 x] w (Same w (.int .i64 (l.count x))) := by
  obtain ⟨ya, yc, rfl⟩ := hu.form
  have HU := Lib.hid hu
  clear hu
  go_enter Try.func17, Try.ntmps17
  go_wp2
  go_loop [5, 6] (fun n i => ∃ k : Nat, k ≤ l.length ∧ i = .int .i64 k ∧ n = .int .i64 ((l.take k).count x)) (fun _ i => l.length - (intOf i).toNat)
  case atStart => exact ⟨0, Nat.zero_le _, rfl, by simp⟩
  case round =>
    obtain ⟨k, hk, rfl, rfl⟩ := hrel
    by_cases hlt : k < l.length
    · obtain ⟨b, off, rfl, _, c0⟩ := HU.out.at k hlt
      have hcn : (l.take k).count x ≤ k := Nat.le_trans List.count_le_length (List.length_take_le _ _)
      have HNX := Lib.hid (show (l.take (k + 1)).count x = (l.take k).count x + if l[k] == x then 1 else 0 by rw [take_last l k hlt, List.count_append, List.count_singleton])
      obtain ⟨y, hy⟩ : ∃ y, l[k] = y := ⟨_, rfl⟩
      rw [hy] at c0 HNX
      clear hy
      have d0 : (0 : Int) ≤ k := by omega
      have d1 : (k : Int) < l.length := by omega
      obtain ⟨cn, hcn2⟩ : ∃ cn, (l.take k).count x = cn := ⟨_, rfl⟩
      rw [hcn2] at HNX hcn
      rw [hcn2]
      clear hcn2
      obtain ⟨mm, hmm⟩ : ∃ mm, (y == x) = mm := ⟨_, rfl⟩
      rw [hmm] at HNX
      cases mm
      all_goals
        go_wp2
        go_round
        case rel => exact ⟨k + 1, by omega, by go_num, by rw [HNX.out]; first | rfl | go_num⟩
        case measure => simp [intOf]; omega
    · obtain rfl : k = l.length := by omega
      go_wp2
      go_ret
      exact ⟨ret_int rfl, rfl⟩

/-- A list that shows nothing of a block. -/
def Apart (b : Nat) (v : Value) (l : List Int) : Prop := ∀ o, (∃ n c, v = .slice (some ⟨b, o, none⟩) n c) → l = []
theorem apart_far {w : World} {b : Nat} {v : Value} {l : List Int} (h : IntsAt w v l) (hb : w.heap.size ≤ b) : Apart b v l := by
  rintro o ⟨n, c, rfl⟩
  rcases h with ⟨_, _, _, h⟩ | ⟨r, off, cap, h1, h2, _⟩
  · unfold intsV at h
    exact List.map_eq_nil_iff.1 h
  · injection h1 with h1 _ _; injection h1 with h1; injection h1 with h1 _; omega
theorem ints_grown {w w' : World} {b : Nat} {v : Value} {l : List Int} (h : IntsAt w v l) (hg : w.grownBy w' (some b)) (hne : Apart b v l) : IntsAt w' v l :=
  vals_grown h hg (fun o e => by rw [hne o e]; rfl)
def Picked (w : World) (lo b : Nat) (l : List Int) (m : List Int) (k : Nat) (e : Ending) (w' : World) : Prop :=
  ∃ x, e = .returned (.tuple #[.int .i64 x, .bool true]) ∧ l[(drawN (m.headD 0) l.length).toNat]? = some x ∧ DrawsAt w' lo b m.tail (k + 1) ∧ w.grownBy w' (some b)
set_option maxRecDepth 100000 in
set_option maxHeartbeats 4000000 in
theorem pick_any {v : Value} {l : List Int} {w : World} {lo b k : Nat} {m : List Int} (hv : IntsAt w v l) (h0 : 0 < l.length) (hl : l.length ≤ 1000) (hd : DrawsAt w lo b m k) (hk : k ≤ 1000) (hm : m.length ≤ 1000) (hne : Apart b v l) :
    Calls Try.prog 18 #[.pointer (some ⟨b, 0, none⟩), v] w (Picked w lo b l m k) := by
  obtain ⟨xa, xc, rfl⟩ := hv.form
  have HV := Lib.hid hv
  have HD := Lib.hid hd
  have HNE := Lib.hid hne
  clear hv hd hne
  have hlo := drawN_in (m.headD 0) l.length (by omega)
  obtain ⟨j, hj⟩ : ∃ j : Nat, drawN (m.headD 0) l.length = (j : Int) := ⟨(drawN (m.headD 0) l.length).toNat, by omega⟩
  rw [hj] at hlo
  have HJ := Lib.hid hj
  have hjl : j < l.length := by omega
  have e0 : ((l.length : Int) == 0) = false := beq_eq_false_iff_ne.2 (by omega)
  have j0 : (0 : Int) ≤ j := by omega
  have j1 : (j : Int) < l.length := by omega
  clear hj hlo
  go_enter Try.func18, Try.ntmps18
  go_wp2_with fail
  refine (below_any _ (by omega) HD.out (by omega) (by omega)).mono ?_
  rw [HJ.out]
  rintro e w1 ⟨rfl, hd1, hg1, _⟩
  obtain ⟨r, off, rfl, hrl, c0⟩ := HV.out.at j hjl
  have hrb : r ≠ b := fun e => by
    have := HNE.out off ⟨l.length, xc, by rw [e]⟩
    rw [this] at h0; simp at h0
  have c1 : w1.cell? ⟨r, off + j, none⟩ = some (.int .i64 l[j]) := (World.cell?_of_block (w := w) (a := ⟨r, off + j, none⟩) (hg1.block r hrl (by simpa using hrb))).trans c0
  have HX := Lib.hid (show l[(drawN (m.headD 0) l.length).toNat]? = some l[j] by rw [HJ.out, Int.toNat_natCast]; simp)
  obtain ⟨x, hx⟩ : ∃ x, l[j] = x := ⟨_, rfl⟩
  rw [hx] at c1 HX
  have HD1 := Lib.hid (And.intro hd1 hg1)
  clear hx hd1 hg1 c0 hrb
  go_wp2
  go_ret2
  exact ⟨x, rfl, HX.out, HD1.out.1, HD1.out.2⟩
set_option maxRecDepth 100000 in
theorem pick_none (xa : Option Addr) (xc b : Nat) (w : World) :
    Calls Try.prog 18 #[.pointer (some ⟨b, 0, none⟩), .slice xa 0 xc] w (Same w (.tuple #[.int .i64 0, .bool false])) := by
  go_enter Try.func18, Try.ntmps18
  go_wp2
  go_ret2
  exact ⟨rfl, rfl⟩
end Go.Proofs.Ytokjghfpdolojaa

/- The document's plain words on lists (layer 5): Ints, Has, and the law's list without a number; the document's example of piles. -/
import Derived.Test.YtphcdeppilaceaaAp
import Derived.RangeFuncBox
namespace Go.Proofs.Ytphcdeppilaceaa
open Go.RowKit

set_option maxRecDepth 100000 in
set_option maxHeartbeats 4000000 in
theorem ints_same {v u : Value} {l : List Int} {w : World} (hv : IntsAt w v l) (hu : IntsAt w u l) (hl : l.length ≤ 1000) :
    Calls Try.prog 17 #[v, u] w (Drew w (.bool true)) := by
  obtain ⟨xa, xc, rfl⟩ := hv.form
  obtain ⟨ya, yc, rfl⟩ := hu.form
  have HV := Lib.hid hv
  have HU := Lib.hid hu
  clear hv hu
  go_enter Try.func17, Try.ntmps17
  go_wp2
  go_loopw [5] (fun i wr => ∃ k : Nat, k ≤ l.length ∧ i = .int .i64 k ∧ Hid (∃ n, wr = w.drewN n)) (fun i _ => l.length - (intOf i).toNat)
  case atStart => exact ⟨0, Nat.zero_le _, rfl, Lib.hid ⟨0, rfl⟩⟩
  case round =>
    obtain ⟨k, hk, rfl, HW⟩ := hrel
    obtain ⟨nw, hnw⟩ := HW.out
    subst hnw
    by_cases hlt : k < l.length
    · obtain ⟨b1, o1, rfl, _, c1⟩ := HV.out.at k hlt
      obtain ⟨b2, o2, rfl, _, c2⟩ := HU.out.at k hlt
      obtain ⟨x, hx⟩ : ∃ x, l[k] = x := ⟨_, rfl⟩
      rw [hx] at c1 c2
      clear hx
      have d0 : (0 : Int) ≤ k := by omega
      have d1 : (k : Int) < l.length := by omega
      go_wp2
      go_quiet (fail)
      go_wp2
      go_roundw
      case rel => exact ⟨k + 1, by omega, by go_num, Lib.hid ⟨_, rfl⟩⟩
      case measure => simp [intOf]; omega
    · obtain rfl : k = l.length := by omega
      go_wp2
      go_ret
      exact ⟨rfl, nw, rfl⟩

theorem mem_take {L : List Int} {x : Int} {k : Nat} (hlt : k < L.length) (h : x ∉ L.take k) (hne : L[k] ≠ x) : x ∉ L.take (k + 1) := by
  rw [take_last L k hlt]
  intro hm
  rcases List.mem_append.1 hm with hm | hm
  · exact h hm
  · exact hne (List.mem_singleton.1 hm).symm
set_option maxRecDepth 100000 in
theorem hasRef_any {u : Value} {L : List Int} (x : Int) {w : World} (hu : IntsAt w u L) (hl : L.length ≤ 1000) :
    Calls Try.prog 10 #[u, .int .i64 x] w (Same w (.bool (decide (x ∈ L)))) := by
  obtain ⟨ya, yc, rfl⟩ := hu.form
  have HU := Lib.hid hu
  clear hu
  go_enter Try.func10, Try.ntmps10
  go_wp2
  go_loop [5] (fun i => ∃ k : Nat, k ≤ L.length ∧ i = .int .i64 k ∧ Hid (x ∉ L.take k)) (fun i => L.length - (intOf i).toNat)
  case atStart => exact ⟨0, Nat.zero_le _, rfl, Lib.hid (by simp)⟩
  case round =>
    obtain ⟨k, hk, rfl, HX⟩ := hrel
    by_cases hlt : k < L.length
    · obtain ⟨r, off, rfl, _, c0⟩ := HU.out.at k hlt
      obtain ⟨y, hy⟩ : ∃ y, L[k] = y := ⟨_, rfl⟩
      rw [hy] at c0
      by_cases hyx : y = x
      · subst hyx
        have HD := Lib.hid (show decide (y ∈ L) = true from decide_eq_true (by rw [← hy]; exact List.getElem_mem hlt))
        clear hy
        go_wp2
        go_ret
        exact ⟨by rw [HD.out]; rfl, rfl⟩
      · have HN := Lib.hid (mem_take hlt HX.out (by rw [hy]; exact hyx))
        have e0 : (y == x) = false := beq_eq_false_iff_ne.2 hyx
        clear hy
        go_wp2
        go_round
        case rel => exact ⟨k + 1, by omega, by go_num, HN⟩
        case measure => simp [intOf]; omega
    · obtain rfl : k = L.length := by omega
      have HD := Lib.hid (show decide (x ∈ L) = false from decide_eq_false (by have := HX.out; rwa [List.take_length] at this))
      go_wp2
      go_ret
      exact ⟨by rw [HD.out]; rfl, rfl⟩

def withoutL (L : List Int) (x : Int) : List Int := L.filter fun y => y != x
theorem without_snoc (l : List Int) (y x : Int) : withoutL (l ++ [y]) x = if y = x then withoutL l x else withoutL l x ++ [y] := by
  unfold withoutL
  rw [List.filter_append]
  by_cases h : y = x
  · subst h; simp
  · have : (y != x) = true := by simpa using h
    simp [this, h]
def RetOut (w : World) (L : List Int) (e : Ending) (w' : World) : Prop := ∃ v, e = .returned v ∧ w'.ownsRow w.heap.size 3 1 v L.length (intsV L) ∧ Below w.heap.size w w'
set_option maxRecDepth 100000 in
set_option maxHeartbeats 2000000 in
theorem out_any {u : Value} {L : List Int} (x : Int) {w : World} (hu : IntsAt w u L) (hl : L.length ≤ 200) :
    Calls Try.prog 15 #[u, .int .i64 x] w (RetOut w (withoutL L x)) := by
  obtain ⟨ya, yc, rfl⟩ := hu.form
  have HU := Lib.hid hu
  clear hu
  go_enter Try.func15, Try.ntmps15
  go_wp2
  go_loopw [10, 5] (fun i r wr => ∃ (k n : Nat) (za : Option Addr) (zc : Nat), k ≤ L.length ∧ n ≤ k ∧ i = .int .i64 k ∧ r = .slice za n zc ∧ Hid ((withoutL (L.take k) x).length = n) ∧
      Hid (wr.ownsRow w.heap.size 3 1 (.slice za n zc) n (intsV (withoutL (L.take k) x))) ∧ Hid (Below w.heap.size w wr)) (fun i _ _ => L.length - (intOf i).toNat)
  case atStart => exact ⟨0, 0, none, 0, Nat.zero_le _, Nat.zero_le _, rfl, rfl, Lib.hid rfl, Lib.hid (World.ownsRow_nil _ _ _ _), Lib.hid (Below.refl _ _)⟩
  case round =>
    obtain ⟨k, n, za, zc, hk, hnk, rfl, rfl, HN, HO, HB⟩ := hrel
    by_cases hlt : k < L.length
    · obtain ⟨r, off, hya, _, c0⟩ := (HU.out.later HB.out).at k hlt
      have htk := take_last L k hlt
      obtain ⟨y, hy⟩ : ∃ y, L[k] = y := ⟨_, rfl⟩
      rw [hy] at c0 htk
      have hst := without_snoc (L.take k) y x
      rw [← htk] at hst
      have HST := Lib.hid hst
      subst hya
      by_cases hyx : y = x
      · have HE := Lib.hid (show withoutL (L.take (k + 1)) x = withoutL (L.take k) x by rw [HST.out, if_pos hyx])
        have e0 : (y != x) = false := by simp [hyx]
        clear hy htk hst hyx
        go_wp2
        go_roundw
        case rel => exact ⟨k + 1, n, za, zc, by omega, by omega, by go_num, rfl, Lib.hid (by rw [HE.out]; exact HN.out), Lib.hid (by rw [HE.out]; exact HO.out), HB⟩
        case measure => simp [intOf]; omega
      · have HE := Lib.hid (show withoutL (L.take (k + 1)) x = withoutL (L.take k) x ++ [y] by rw [HST.out, if_neg hyx])
        have e0 : (y != x) = true := by simp [hyx]
        clear hy htk hst hyx
        go_wp2_with (at_builtin; refine wpList_append_ints rfl _ _ rfl rfl w.heap.size _ _ (intsV (withoutL (L.take k) x)) rfl (HO.out.alloc _) _ 1 1 [y] rfl rfl ((RowAt.new wr 3 (intsV [y])).vals 1) (by simp; omega) (by have := HB.out.size; simp; omega) ?f)
        case f =>
          intro v' w5 hown hgrow _
          have HO5 := Lib.hid (show w5.ownsRow w.heap.size 3 1 v' (n + 1) (intsV (withoutL (L.take (k + 1)) x)) from by
            rw [HE.out]; unfold intsV; rw [List.map_append]; exact hown)
          have HB5 := Lib.hid ((HB.out.alloc HB.out.size (.cells #[.int .i64 y] 3)).grown hgrow (Nat.le_trans HB.out.size (by simp)) (fun g e => (World.ownsRow.lt (HO.out.alloc (.cells #[.int .i64 y] 3)) g e).1))
          obtain ⟨g', cap', rfl⟩ := ownsRow_succ hown
          clear hown hgrow
          go_wp2
          go_roundw
          case rel => exact ⟨k + 1, n + 1, _, _, by omega, by omega, by go_num, rfl, Lib.hid (by rw [HE.out, List.length_append, HN.out]; rfl), HO5, HB5⟩
          case measure => simp [intOf]; omega
    · obtain rfl : k = L.length := by omega
      have ho := HO.out
      have hn := HN.out
      rw [List.take_length] at ho hn
      subst hn
      have HO2 := Lib.hid ho
      clear ho
      go_wp2
      go_ret
      exact ⟨_, rfl, HO2.out, HB.out⟩

theorem two_at {w : World} : IntsAt (w.alloc (.cells #[.int .i64 1, .int .i64 2] 3)) (.slice (some ⟨w.heap.size, 0, none⟩) 2 2) [1, 2] := (RowAt.new w 3 (intsV [1, 2])).vals 2
theorem four_at {w : World} : IntsAt (w.alloc (.cells #[.int .i64 3, .int .i64 1, .int .i64 2, .int .i64 4] 3)) (.slice (some ⟨w.heap.size, 0, none⟩) 4 4) [3, 1, 2, 4] := (RowAt.new w 3 (intsV [3, 1, 2, 4])).vals 4
set_option maxRecDepth 100000 in
set_option maxHeartbeats 4000000 in
theorem awake5_any (w : World) : Calls Try.prog 8 #[] w (RetV w (.bool true)) := by
  go_enter Try.func8, Try.ntmps8
  go_wp2_with fail
  refine (new_any two_at (by decide)).mono ?_
  rw [show onceL [1, 2] = [1, 2] by decide]
  rintro e w1 ⟨b, g, rfl, hp1, hb1⟩
  have hs1 : w.heap.size ≤ b := Nat.le_trans (by simp) hp1.lo
  have HB1 := Lib.hid (stepB (below_new w _) hb1)
  have HR1 := Lib.hid (show ∀ k, g = some k → w.heap.size ≤ k from fun k hk => Nat.le_trans (by simp) (hp1.row k hk).1)
  have H1 := Lib.hid (push_any 3 hp1 (by decide))
  have HS1 := Lib.hid hs1
  clear hp1 hb1 hs1
  go_wp2_with fail
  refine H1.out.mono ?_
  rw [show layL [1, 2] 0 3 = [3, 1, 2] by decide, show (!decide ((3 : Int) ∈ [(1 : Int), 2])) = true by decide]
  rintro e w2 ⟨g2, rfl, hp2, hc2, hn2⟩
  have HB2 := Lib.hid (hc2.below HB1.out HS1.out HR1.out)
  have HR2 := Lib.hid (show ∀ k, g2 = some k → w.heap.size ≤ k from fun k hk => by
    rcases hn2 with h | ⟨r, h, hr⟩
    · exact HR1.out k (by rw [← h]; exact hk)
    · rw [hk] at h; injection h with h; have := HB1.out.size; omega)
  have H2 := Lib.hid (under_any 4 hp2 (by decide))
  clear hp2 hc2 hn2
  go_wp2_with fail
  refine H2.out.mono ?_
  rw [show layL [3, 1, 2] [(3 : Int), 1, 2].length 4 = [3, 1, 2, 4] by decide, show (!decide ((4 : Int) ∈ [(3 : Int), 1, 2])) = true by decide]
  rintro e w3 ⟨g3, rfl, hp3, hc3, hn3⟩
  have HB3 := Lib.hid (hc3.below HB2.out HS1.out HR2.out)
  have HP3 := Lib.hid hp3
  have H3 := Lib.hid (list_any hp3 (by decide))
  clear hp3 hc3 hn3
  go_wp2_with fail
  refine H3.out.mono ?_
  rintro e w4 ⟨v4, rfl, ho4, hb4⟩
  have HB4 := Lib.hid (stepB HB3.out hb4)
  have HP4 := Lib.hid (HP3.out.later hb4)
  have HI4 := Lib.hid (own_ints ho4)
  clear hb4 ho4
  go_wp2_with fail
  refine (ints_same (HI4.out.later (below_new w4 _)) four_at (by decide)).mono ?_
  rintro e w5 ⟨rfl, nd, rfl⟩
  have hd : Below w4.heap.size w4 ((w4.alloc (.cells #[.int .i64 3, .int .i64 1, .int .i64 2, .int .i64 4] 3)).drewN nd) := below_drewN (below_new w4 _) nd
  have HB5 := Lib.hid (stepB HB4.out hd)
  have H5 := Lib.hid (place_any 2 (HP4.out.later hd) (by decide))
  clear hd
  go_wp2_with fail
  refine H5.out.mono ?_
  rw [show placeL [3, 1, 2, 4] 2 = 2 by decide]
  rintro e w6 ⟨rfl, hb6⟩
  have HB6 := Lib.hid (stepB HB5.out hb6)
  clear hb6
  go_wp2
  go_ret
  exact ⟨rfl, HB6.out⟩
end Go.Proofs.Ytphcdeppilaceaa

/- The law CardGets (layer 2), walked: for every string it returns true, and only new memory is made. -/
import Derived.Test.YthkideleiekonaaMg
import Derived.Test.YthkideleiekonaaRn
import Derived.Test.YthkideleiekonaaRs
import Derived.Test.YthkideleiekonaaRp
namespace Go.Proofs.Ythkideleiekonaa
open Go.RowKit

theorem zero_is (w : World) : CardIs w (cagg zeroC (.slice none 0 0)) zeroC := ⟨none, 0, 0, rfl, .inl ⟨rfl, rfl⟩⟩

set_option maxRecDepth 100000 in
set_option maxHeartbeats 4000000 in
theorem cardGets_walk (s : ByteArray) (w : World) (hs : s.size ≤ maxLen) :
    Calls Try.prog 8 #[.string s] w fun e w' => e = .returned (.bool true) ∧ Below w.heap.size w w' := by
  have HS := Lib.hid hs
  unfold maxLen at hs
  by_cases hlong : 100 < s.size
  · have hd : decide ((100 : Int) < s.size) = true := by simp; omega
    go_enter Try.func8, Try.ntmps8
    go_wp2_with (go_at_call 32; refine (awake2_any _).mono ?_; rintro e w1 ⟨rfl, hb1⟩)
    go_ret
    exact ⟨rfl, hb1⟩
  · have hd : decide ((100 : Int) < s.size) = false := by simp; omega
    have hcases := cget_cases s
    rcases hcases with ⟨d, hd0, hmay, hfit0, hl4, htf, hstr⟩ | hd0 | hd0
    · have HG := Lib.hid hd0
      have HM := Lib.hid hmay
      have HF := Lib.hid hfit0
      have HL := Lib.hid hl4
      have HTF := Lib.hid htf
      have HSTR := Lib.hid hstr
      have hlen : d.terms.length ≤ 9223372036854775807 := by omega
      have HLEN := Lib.hid hlen
      clear hd0 hmay hfit0 hl4 htf hstr hlen
      go_enter Try.func8, Try.ntmps8
      go_wp2_with (go_at_call 32; refine (awake2_any _).mono ?_; rintro e w1 ⟨rfl, hb1⟩)
      have HW1 := Lib.hid hb1
      clear hb1
      refine (codec_any _).mono ?_
      rintro e w2 ⟨r, rfl, hcod, hb2⟩
      have HC := Lib.hid hcod
      have HW2 := Lib.hid (stepB HW1.out hb2)
      clear hcod hb2
      go_wp2_with fail
      refine (get_c s HC.out HS.out).mono ?_
      rw [HG.out]
      rintro e w3 ⟨x0, x1, x2, x3, x4, x5, xa, xn, xc, rfl, hq, hb3⟩
      have HW3 := Lib.hid (stepB HW2.out hb3)
      obtain ⟨rfl, rfl, rfl, rfl, rfl, rfl, ht⟩ := hq
      obtain rfl := CardIs.len ht.is
      have HT := Lib.hid ht.is
      unfold Val_c
      clear hb3 ht
      go_wp2_with fail
      refine (refMay_any (c := d) ⟨_, _, _, rfl, HT.out.later (below_alloc1 _ _)⟩ HLEN.out).mono ?_
      rw [HM.out]
      rintro e w4 ⟨rfl, hb4⟩
      have HW4 := Lib.hid (stepB (below_alloc2 HW3.out _) hb4)
      obtain ⟨g0, g1, g2, g3, g4, g5, g6⟩ := card_cells hb4
      have HT4 := Lib.hid ((HT.out.later (below_alloc1 w3 _)).later hb4)
      clear hb4
      go_wp2_with fail
      refine (refPut_any xa xc HT4.out HF.out HL.out HTF.out).mono ?_
      rw [HSTR.out]
      rintro e w5 ⟨rfl, hb5⟩
      have HW5 := Lib.hid (stepB HW4.out hb5)
      clear hb5
      go_wp2
      go_ret
      exact ⟨by simp, HW5.out⟩
    all_goals
      have HG := Lib.hid hd0
      clear hd0
      have hz := (sameB_iff zeroC zeroC).2 rfl
      have HZ := Lib.hid hz
      clear hz
      go_enter Try.func8, Try.ntmps8
      go_wp2_with (go_at_call 32; refine (awake2_any _).mono ?_; rintro e w1 ⟨rfl, hb1⟩)
      have HW1 := Lib.hid hb1
      clear hb1
      refine (codec_any _).mono ?_
      rintro e w2 ⟨r, rfl, hcod, hb2⟩
      have HC := Lib.hid hcod
      have HW2 := Lib.hid (stepB HW1.out hb2)
      clear hcod hb2
      go_wp2_with fail
      refine (get_c s HC.out HS.out).mono ?_
      rw [HG.out]
      rintro e w3 ⟨x0, x1, x2, x3, x4, x5, xa, xn, xc, rfl, hq, hb3⟩
      have HW3 := Lib.hid (stepB HW2.out hb3)
      obtain ⟨rfl, rfl, rfl, rfl, rfl, rfl, ht⟩ := hq
      have HT := Lib.hid ht.is
      unfold Val_c
      clear hb3 ht
      go_wp2_with fail
      refine (refSame_any (a := zeroC) (b := zeroC) ⟨_, _, _, rfl, HT.out.later (below_alloc1 _ _)⟩ (zero_is _) (by decide) (by decide)).mono ?_
      rw [HZ.out]
      rintro e w4 ⟨rfl, hb4⟩
      have HW4 := Lib.hid (stepB (below_alloc2 HW3.out _) hb4)
      clear hb4
      go_wp2
      go_ret
      exact ⟨rfl, HW4.out⟩
end Go.Proofs.Ythkideleiekonaa

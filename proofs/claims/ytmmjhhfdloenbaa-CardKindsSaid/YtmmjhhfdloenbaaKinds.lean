/- The law CardKinds, proved: for every card it returns true; each argument reads behind the call as it read before. No condition. -/
import Derived.Test.YtmmjhhfdloenbaaKw
import Derived.Test.YtmmjhhfdloenbaaOp
import Derived.Test.YtmmjhhfdloenbaaTk
namespace Go.Proofs.Ytmmjhhfdloenbaa
open Go.ChangeShapes Go.WideShapes Go.ChangeAt Go.RowKit

set_option maxRecDepth 100000 in
set_option maxHeartbeats 4000000 in
theorem cardKinds_walk (c : CardL) (xa : Option Addr) (xc : Nat) (w : World) (ht : TermsIs w (.slice xa c.terms.length xc) c.terms) :
    Calls Try.prog 10 #[cagg c (.slice xa c.terms.length xc)] w (RetB w true) := by
  by_cases h30 : c.terms.length ≤ 30
  · cases hm : mayB c
    · have HT := Lib.hid ht
      have HLEN := Lib.hid (show c.terms.length ≤ 9223372036854775807 by omega)
      have HM := Lib.hid hm
      have e1 : decide ((30 : Int) < c.terms.length) = false := decide_eq_false (by omega)
      clear ht hm h30
      unfold cagg
      go_enter Try.func10, Try.ntmps10
      go_wp2_with fail
      refine (awake2_any _).mono ?_
      rintro e w1 ⟨rfl, hb1⟩
      have HX1 := Lib.hid (show One w w1 c (.slice xa c.terms.length xc) from ⟨(below_new w _).trans (hb1.mono (by simp)), (Box7.new w c xa _ xc).later hb1⟩)
      clear hb1
      obtain ⟨_, i0, i1, i2, i3, i4, i5, i6⟩ := HX1.out
      go_wp2_with fail
      refine (check_any ⟨xa, _, xc, rfl, HT.out.later HX1.out.1⟩ HLEN.out).mono ?_
      rw [HM.out]
      rintro e w2 ⟨rfl, hb2⟩
      have HX2 := Lib.hid (HX1.out.later hb2)
      clear hb2
      go_wp2
      go_ret
      exact ⟨rfl, HX2.out.1⟩
    · exact cardKinds_at xa xc w ht h30 hm
  · have e1 : decide ((30 : Int) < c.terms.length) = true := decide_eq_true (by omega)
    clear h30 ht
    unfold cagg
    go_enter Try.func10, Try.ntmps10
    go_wp2_with fail
    refine (awake2_any _).mono ?_
    rintro e w1 ⟨rfl, hb1⟩
    have HX1 := Lib.hid (show One w w1 c (.slice xa c.terms.length xc) from ⟨(below_new w _).trans (hb1.mono (by simp)), (Box7.new w c xa _ xc).later hb1⟩)
    clear hb1
    obtain ⟨_, i0, i1, i2, i3, i4, i5, i6⟩ := HX1.out
    go_wp2
    go_ret
    exact ⟨rfl, HX1.out.1⟩

set_option maxRecDepth 100000 in
theorem cardKinds_lifted (os : Os) (started : os.Started) (H : Type) (enc : TypeId × Value → H) :
    ReturnsInHanded {} Try.checked os 10 .any (Rows.cardKindsSpec.pre6 enc Try.prog Try.f10 Rows.cardKindsRow.domain false) (Rows.cardKindsSpec.post enc Try.prog Try.f10 false true false false) := by
  refine returnsInHanded_of_change (C := Try.checked) own started (by kernel_rfl) Try.func10
    (ChangeSpec.witness6 (enc := enc) (C := Try.checked) false ⟨#[], #[.agg #[.int .i64 0, .int .i64 0, .int .i64 0, .int .i64 0, .int .i64 0, .int .i64 0, .slice none 0 0]], []⟩ 8 (by kernel_rfl) (by kernel_rfl) (by kernel_rfl) (by kernel_rfl)) ?_
  intro W base args ds gs before hval0 hW hcnd _
  have hval : ∀ (j : Nat) t v, Try.f10.params[j]? = some t → args[j]? = some v → Value.okWide Try.prog W .any base t v := hval0
  have hW' := hW
  obtain ⟨p, q, hA0, hV, rfl, hfz, hnd⟩ := hW
  have hA : DataW.TrodAll enc Try.prog W 0 (fun _ => true) true Try.f10.params.toList args.toList ds p := hA0
  rw [Try.params10] at hA hval
  have hA1 := hA
  obtain ⟨v0, vs0, d0, ds0, p0, q0, hargs0, rfl, rfl, h0, r0⟩ := trodAll_cons hA
  obtain ⟨rfl, rfl, rfl⟩ := trodAll_nil r0
  obtain rfl : args = #[v0] := by cases args; simp_all
  obtain ⟨rfl, rfl⟩ := trodVars_none hV
  obtain ⟨c, xa, xc, rfl, _, ht⟩ := open_card (hval 0 65 v0 rfl rfl) h0
  clear hval0
  simp only [List.append_nil] at hW'
  have hlt := fun x hx => hW'.lt x hx
  refine (cardKinds_walk c xa xc W ht).mono fun e W' ⟨he, hb⟩ => ?_
  subst he
  exact ⟨_, rfl, post_below (pr := []) (pv := []) hW' (trodAll_cons_mk (shut_bool Try.underlying4 _) trodAll_mk0)
    (trodAll_stays laidOutT hb (by intro t ht; simp at ht; subst ht; exact ⟨by kernel_rfl, of_decide_eq_true (by kernel_rfl)⟩) hA1 (by simpa using hlt)) rfl hb⟩

/-- The law CardKinds: for every card it returns true; each argument reads behind the call as it read before. -/
theorem cardKinds_holds : Rows.CardKindsSaid :=
  OpenClaim.holds_of_wide 10 Try.f10 rfl rfl rfl rfl rfl rfl rfl ⟨rfl, rfl, rfl, rfl, rfl⟩ rfl rfl rfl rfl rfl (by kernel_rfl) Try.func10 (by kernel_rfl)
    (of_decide_eq_true (by kernel_rfl)) (by unfold Func.isWrapper; first | (rw [if_pos (by decide +kernel)]; kernel_rfl) | (rw [if_neg (by decide +kernel)]; exact ⟨rfl, rfl⟩))
    (fun os started H enc _ => cardKinds_lifted os started H enc)
end Go.Proofs.Ytmmjhhfdloenbaa

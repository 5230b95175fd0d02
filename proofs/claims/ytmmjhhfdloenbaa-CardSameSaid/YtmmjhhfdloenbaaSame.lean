/- The law CardSame, proved: for every two cards it returns true; each argument reads behind the call as it read before. No condition. -/
import Derived.Test.YtmmjhhfdloenbaaSw
import Derived.Test.YtmmjhhfdloenbaaLp
import Derived.Test.YtmmjhhfdloenbaaOp
import Derived.Test.YtmmjhhfdloenbaaTk
namespace Go.Proofs.Ytmmjhhfdloenbaa
open Go.ChangeShapes Go.WideShapes Go.ChangeAt Go.RowKit

theorem ba_len (B : ByteArray) : ∀ (n i : Nat) (r : List UInt8), B.size - i = n → ByteArray.toList.loop B i r = r.reverse ++ (B.data.toList.drop i)
  | 0, i, r, h => by
    rw [ByteArray.toList.loop, if_neg (by omega), List.drop_of_length_le (by have : B.data.toList.length = B.size := rfl; omega), List.append_nil]
  | n + 1, i, r, h => by
    have hi : i < B.data.toList.length := by have : B.data.toList.length = B.size := rfl; omega
    rw [ByteArray.toList.loop, if_pos (by omega), ba_len B n (i + 1) _ (by omega), List.reverse_cons, List.append_assoc, List.drop_eq_getElem_cons hi]
    congr 1
    have hb : i < B.data.size := by simpa using hi
    have e : B.get! i = B.data.toList[i] := by
      simp [ByteArray.get!]
      exact getElem!_pos B.data i hb
    rw [e]; rfl
theorem ba_data (B : ByteArray) : B.toList = B.data.toList := (ba_len B B.size 0 [] rfl).trans (by simp)
theorem put_all (a b : CardL) : (((cput a).2 != 0) || (((cput b).2 != 0) || (((cput a).1.toList == (cput b).1.toList) == sameB a b))) = true := by
  have key : ∀ c : CardL, (cput c).2 ≠ 0 ∨ (hfit c = true ∧ c.terms.length ≤ 4 ∧ c.terms.all tfit = true) := fun c => by
    cases hg : goodB c
    · rcases cput_bad hg with h | h <;> (left; rw [h]; decide)
    · unfold goodB at hg
      simp only [Bool.and_eq_true, decide_eq_true_eq] at hg
      exact .inr ⟨hg.2.1, hg.1, hg.2.2⟩
  rcases key a with h | ⟨fa, a4, ta⟩
  · have : ((cput a).2 != 0) = true := bne_iff_ne.2 h
    rw [this]; rfl
  rcases key b with h | ⟨fb, b4, tb⟩
  · have : ((cput b).2 != 0) = true := bne_iff_ne.2 h
    rw [this]; simp
  rw [cput_good fa a4 ta, cput_good fb b4 tb]
  have e : ((⟨(cardBytes a).toArray⟩ : ByteArray).toList == (⟨(cardBytes b).toArray⟩ : ByteArray).toList) = sameB a b := by
    rw [ba_data, ba_data, Bool.eq_iff_iff, beq_iff_eq, sameB_iff]
    constructor
    · intro h; exact bytes_inj fa a4 ta fb b4 tb (by simpa using h)
    · intro h; rw [h]
  rw [e]; simp

set_option maxRecDepth 100000 in
set_option maxHeartbeats 4000000 in
theorem cardSame_walk (a b : CardL) (xa ya : Option Addr) (xc yc : Nat) (w : World) (hta : TermsIs w (.slice xa a.terms.length xc) a.terms) (htb : TermsIs w (.slice ya b.terms.length yc) b.terms) :
    Calls Try.prog 9 #[cagg a (.slice xa a.terms.length xc), cagg b (.slice ya b.terms.length yc)] w (RetB w true) := by
  by_cases ha : a.terms.length ≤ 30
  · by_cases hb : b.terms.length ≤ 30
    · exact cardSame_at xa ya xc yc w hta htb ha hb _ _ _ _ rfl rfl _ _ _ _ rfl rfl rfl rfl (put_all a b)
    · have e1 : decide ((30 : Int) < a.terms.length) = false := decide_eq_false (by omega)
      have e2 : decide ((30 : Int) < b.terms.length) = true := decide_eq_true (by omega)
      clear ha hb hta htb
      unfold cagg
      go_enter Try.func9, Try.ntmps9
      go_wp2_with fail
      refine (awake2_any _).mono ?_
      rintro e w1 ⟨rfl, hb1⟩
      have HX1 := Lib.hid ((Two.new w a b xa ya a.terms.length xc b.terms.length yc).later hb1)
      obtain ⟨_, ⟨i0, i1, i2, i3, i4, i5, i6⟩, ⟨j0, j1, j2, j3, j4, j5, j6⟩⟩ := HX1.out
      clear hb1
      go_wp2
      go_ret
      exact ⟨rfl, HX1.out.1⟩
  · have e1 : decide ((30 : Int) < a.terms.length) = true := decide_eq_true (by omega)
    clear ha hta htb
    unfold cagg
    go_enter Try.func9, Try.ntmps9
    go_wp2_with fail
    refine (awake2_any _).mono ?_
    rintro e w1 ⟨rfl, hb1⟩
    have HX1 := Lib.hid ((Two.new w a b xa ya a.terms.length xc b.terms.length yc).later hb1)
    obtain ⟨_, ⟨i0, i1, i2, i3, i4, i5, i6⟩, ⟨j0, j1, j2, j3, j4, j5, j6⟩⟩ := HX1.out
    clear hb1
    go_wp2
    go_ret
    exact ⟨rfl, HX1.out.1⟩

set_option maxRecDepth 100000 in
theorem cardSame_lifted (os : Os) (started : os.Started) (H : Type) (enc : TypeId × Value → H) :
    ReturnsInHanded {} Try.checked os 9 .any (Rows.cardSameSpec.pre6 enc Try.prog Try.f9 Rows.cardSameRow.domain false) (Rows.cardSameSpec.post enc Try.prog Try.f9 false true false false) := by
  refine returnsInHanded_of_change (C := Try.checked) own started (by kernel_rfl) Try.func9
    (ChangeSpec.witness6 (enc := enc) (C := Try.checked) false ⟨#[], #[.agg #[.int .i64 0, .int .i64 0, .int .i64 0, .int .i64 0, .int .i64 0, .int .i64 0, .slice none 0 0], .agg #[.int .i64 0, .int .i64 0, .int .i64 0, .int .i64 0, .int .i64 0, .int .i64 0, .slice none 0 0]], []⟩ 8 (by kernel_rfl) (by kernel_rfl) (by kernel_rfl) (by kernel_rfl)) ?_
  intro W base args ds gs before hval0 hW hcnd _
  have hval : ∀ (j : Nat) t v, Try.f9.params[j]? = some t → args[j]? = some v → Value.okWide Try.prog W .any base t v := hval0
  have hW' := hW
  obtain ⟨p, q, hA0, hV, rfl, hfz, hnd⟩ := hW
  have hA : DataW.TrodAll enc Try.prog W 0 (fun _ => true) true Try.f9.params.toList args.toList ds p := hA0
  rw [Try.params9] at hA hval
  have hA1 := hA
  obtain ⟨v0, vs0, d0, ds0, p0, q0, hargs0, rfl, rfl, h0, r0⟩ := trodAll_cons hA
  obtain ⟨v1, vs1, d1, ds1, p1, q1, rfl, rfl, rfl, h1, r1⟩ := trodAll_cons r0
  obtain ⟨rfl, rfl, rfl⟩ := trodAll_nil r1
  obtain rfl : args = #[v0, v1] := by cases args; simp_all
  obtain ⟨rfl, rfl⟩ := trodVars_none hV
  obtain ⟨a, xa, xc, rfl, _, hta⟩ := open_card (hval 0 65 v0 rfl rfl) h0
  obtain ⟨b, ya, yc, rfl, _, htb⟩ := open_card (hval 1 65 v1 rfl rfl) h1
  clear hval0
  simp only [List.append_nil] at hW'
  have hlt := fun x hx => hW'.lt x hx
  refine (cardSame_walk a b xa ya xc yc W hta htb).mono fun e W' ⟨he, hb⟩ => ?_
  subst he
  exact ⟨_, rfl, post_below (pr := []) (pv := []) hW' (trodAll_cons_mk (shut_bool Try.underlying4 _) trodAll_mk0)
    (trodAll_stays laidOutT hb (by intro t ht; simp at ht; subst ht; exact ⟨by kernel_rfl, of_decide_eq_true (by kernel_rfl)⟩) hA1 (by simpa using hlt)) rfl hb⟩

/-- The law CardSame: for every two cards it returns true; each argument reads behind the call as it read before. -/
theorem cardSame_holds : Rows.CardSameSaid :=
  OpenClaim.holds_of_wide 9 Try.f9 rfl rfl rfl rfl rfl rfl rfl ⟨rfl, rfl, rfl, rfl, rfl⟩ rfl rfl rfl rfl rfl (by kernel_rfl) Try.func9 (by kernel_rfl)
    (of_decide_eq_true (by kernel_rfl)) (by unfold Func.isWrapper; first | (rw [if_pos (by decide +kernel)]; kernel_rfl) | (rw [if_neg (by decide +kernel)]; exact ⟨rfl, rfl⟩))
    (fun os started H enc _ => cardSame_lifted os started H enc)
end Go.Proofs.Ytmmjhhfdloenbaa

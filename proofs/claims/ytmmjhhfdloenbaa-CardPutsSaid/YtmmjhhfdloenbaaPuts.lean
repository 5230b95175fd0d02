/- The law CardPuts, proved: for every card, string and number it returns true; each argument reads behind the call as it read before. No condition. -/
import Derived.Test.YtmmjhhfdloenbaaLq
import Derived.Test.YtmmjhhfdloenbaaOp
import Derived.Test.YtmmjhhfdloenbaaT
namespace Go.Proofs.Ytmmjhhfdloenbaa
open Go.ChangeShapes Go.WideShapes Go.ChangeAt Go.RowKit
open Go.ChangeMaps (open_string shut_string)

theorem laidOutP : laidOutB Try.prog = true := by kernel_rfl
theorem wf_byte {x : Int} (h : (Lit.int .u8 x).wf = true) : 0 ≤ x ∧ x < 256 := by
  have : 0 ≤ x ∧ x ≤ 255 := by simpa [Lit.wf, IntKind.min, IntKind.max, IntKind.signed, IntKind.bits] using h
  omega

set_option maxRecDepth 100000 in
set_option maxHeartbeats 4000000 in
theorem cardPuts_walk (c : CardL) (xa : Option Addr) (xc : Nat) (B : ByteArray) (cut : Int) (hc0 : 0 ≤ cut) (hc1 : cut < 256) (w : World) (ht : TermsIs w (.slice xa c.terms.length xc) c.terms) :
    Calls Try.prog 7 #[cagg c (.slice xa c.terms.length xc), .string B, .int .u8 cut] w (RetB w true) := by
  by_cases h30 : c.terms.length ≤ 30
  · by_cases h100 : B.size ≤ 100
    · cases hg : goodB c
      · exact cardPuts_bad xa xc B cut w ht h30 h100 hg
      · have hg' := hg
        unfold goodB at hg'
        simp only [Bool.and_eq_true, decide_eq_true_eq] at hg'
        obtain ⟨h4, hf, htf⟩ := hg'
        cases hm : mayB c
        · exact cardPuts_not xa xc B cut w ht h100 hf h4 htf hm
        · exact cardPuts_yes xa xc B cut hc0 hc1 w ht h100 hf h4 htf hm
    · have e1 : decide ((30 : Int) < c.terms.length) = false := decide_eq_false (by omega)
      have e2 : decide ((100 : Int) < B.size) = true := decide_eq_true (by omega)
      clear h100 h30 ht hc0 hc1
      unfold cagg
      go_enter Try.func7, Try.ntmps7
      go_wp2_with fail
      refine (awake2_any _).mono ?_
      rintro e w1 ⟨rfl, hb1⟩
      have HX1 := Lib.hid ((BoxC.new w c xa xc).later hb1)
      obtain ⟨hbx, k0, k1, k2, k3, k4, k5, k6⟩ := HX1.out
      clear hb1
      go_wp2
      go_ret
      exact ⟨rfl, hbx⟩
  · have e1 : decide ((30 : Int) < c.terms.length) = true := decide_eq_true (by omega)
    clear h30 ht hc0 hc1
    unfold cagg
    go_enter Try.func7, Try.ntmps7
    go_wp2_with fail
    refine (awake2_any _).mono ?_
    rintro e w1 ⟨rfl, hb1⟩
    have HX1 := Lib.hid ((BoxC.new w c xa xc).later hb1)
    obtain ⟨hbx, k0, k1, k2, k3, k4, k5, k6⟩ := HX1.out
    clear hb1
    go_wp2
    go_ret
    exact ⟨rfl, hbx⟩

set_option maxRecDepth 100000 in
theorem cardPuts_lifted (os : Os) (started : os.Started) (H : Type) (enc : TypeId × Value → H) :
    ReturnsInHanded {} Try.checked os 7 .any (Rows.cardPutsSpec.pre6 enc Try.prog Try.f7 Rows.cardPutsRow.domain false) (Rows.cardPutsSpec.post enc Try.prog Try.f7 false true false false) := by
  refine returnsInHanded_of_change (C := Try.checked) own started (by kernel_rfl) Try.func7
    (ChangeSpec.witness6 (enc := enc) (C := Try.checked) false ⟨#[], #[.agg #[.int .i64 0, .int .i64 0, .int .i64 0, .int .i64 0, .int .i64 0, .int .i64 0, .slice none 0 0], .string .empty, .int .u8 0], []⟩ 8 (by kernel_rfl) (by kernel_rfl) (by kernel_rfl) (by kernel_rfl)) ?_
  intro W base args ds gs before hval0 hW hcnd _
  have hval : ∀ (j : Nat) t v, Try.f7.params[j]? = some t → args[j]? = some v → Value.okWide Try.prog W .any base t v := hval0
  have hW' := hW
  obtain ⟨p, q, hA0, hV, rfl, hfz, hnd⟩ := hW
  have hA : DataW.TrodAll enc Try.prog W 0 (fun _ => true) true Try.f7.params.toList args.toList ds p := hA0
  rw [Try.params7] at hA hval
  obtain ⟨v0, vs0, d0, ds0, p0, q0, hargs0, rfl, rfl, h0, r0⟩ := trodAll_cons hA
  obtain ⟨v1, vs1, d1, ds1, p1, q1, rfl, rfl, rfl, h1, r1⟩ := trodAll_cons r0
  obtain ⟨v2, vs2, d2, ds2, p2, q2, rfl, rfl, rfl, h2, r2⟩ := trodAll_cons r1
  obtain ⟨rfl, rfl, rfl⟩ := trodAll_nil r2
  obtain rfl : args = #[v0, v1, v2] := by cases args; simp_all
  obtain ⟨rfl, rfl⟩ := trodVars_none hV
  obtain ⟨s, rfl, rfl, rfl, hs⟩ := open_string Try.underlying9 (hval 1 9 v1 rfl rfl) h1
  obtain ⟨a, rfl, rfl, rfl, wa⟩ := open_int Try.underlying5 (hval 2 5 v2 rfl rfl) h2
  obtain ⟨c, xa, xc, rfl, hlen, ht⟩ := open_card (hval 0 65 v0 rfl rfl) h0
  have h0k := h0
  clear hA0 hval0
  simp only [List.append_nil] at hW'
  have hlt : ∀ x ∈ p0, x.block < W.heap.size := fun x hx => by simpa using hW'.lt x hx
  have hargs : ∀ (W' : World), Below W.heap.size W W' → DataW.Trod enc Try.prog W' 0 (fun b => decide (b < W.heap.size)) true 65 (cagg c (.slice xa c.terms.length xc)) d0 p0 :=
    fun W' hn => Below.trod laidOutP (by kernel_rfl) (of_decide_eq_true (by kernel_rfl)) h0k hn hlt
  refine (cardPuts_walk c xa xc s a (wf_byte wa).1 (wf_byte wa).2 W ht).mono fun e W' ⟨he, hb⟩ => ?_
  subst he
  exact ⟨_, rfl, post_below (pr := []) (pv := []) hW' (trodAll_cons_mk (shut_bool Try.underlying4 _) trodAll_mk0)
    (trodAll_cons_mk (hargs _ hb) (trodAll_cons_mk (shut_string Try.underlying9 hs) (trodAll_cons_mk (shut_int Try.underlying5 wa) trodAll_mk0))) rfl hb⟩

/-- The law CardPuts: for every card, string and number it returns true; each argument reads behind the call as it read before. -/
theorem cardPuts_holds : Rows.CardPutsSaid :=
  OpenClaim.holds_of_wide 7 Try.f7 rfl rfl rfl rfl rfl rfl rfl ⟨rfl, rfl, rfl, rfl, rfl⟩ rfl rfl rfl rfl rfl (by kernel_rfl) Try.func7 (by kernel_rfl)
    (of_decide_eq_true (by kernel_rfl)) (by unfold Func.isWrapper; first | (rw [if_pos (by decide +kernel)]; kernel_rfl) | (rw [if_neg (by decide +kernel)]; exact ⟨rfl, rfl⟩))
    (fun os started H enc _ => cardPuts_lifted os started H enc)
end Go.Proofs.Ytmmjhhfdloenbaa

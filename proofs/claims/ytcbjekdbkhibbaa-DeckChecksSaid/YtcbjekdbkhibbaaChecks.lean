/- The law DeckChecks, proved: for every table and list of numbers it returns true; each argument reads behind the call as it read before. No condition. -/
import Derived.Test.YtcbjekdbkhibbaaDq
import Derived.Test.YtcbjekdbkhibbaaOc
import Derived.Test.YtcbjekdbkhibbaaTk
namespace Go.Proofs.Ytcbjekdbkhibbaa
open Go.ChangeShapes Go.WideShapes Go.ChangeAt Go.RowKit

theorem great_small {t : List CardL} {l : List Int} (h : greatB t l = false) : t.length ≤ 70 ∧ l.length ≤ 60 := by
  unfold greatB at h
  simp only [Bool.or_eq_false_iff, decide_eq_false_iff_not] at h
  omega
set_option maxRecDepth 100000 in
set_option maxHeartbeats 8000000 in
theorem deckChecks_walk {v u : Value} {t : List CardL} {l : List Int} {w : World} (h : CardsAt w v t) (hu : IntsAt w u l) (hn : t.length ≤ 9223372036854775807) (hs : SmallC t) (hl : l.length ≤ 9223372036854775807) (hwf : WfI l) :
    Calls Try.prog 12 #[v, u] w (RetB w true) := by
  obtain ⟨ya, yc, rfl⟩ := hu.form
  have HL := Lib.hid h
  have HU := Lib.hid hu
  have HS := Lib.hid hs
  have HWF := Lib.hid hwf
  obtain ⟨G, hG⟩ : ∃ G, greatB t l = G := ⟨_, rfl⟩
  have HG := Lib.hid hG
  clear h hu hs hwf
  cases G
  · obtain ⟨t1, l1⟩ := great_small hG
    clear hG
    go_enter Try.func12, Try.ntmps12
    go_wp2_with fail
    refine (awake3_any _).mono ?_
    rintro e w1 ⟨rfl, hb1⟩
    have HB1 := Lib.hid hb1
    clear hb1
    go_wp2_with fail
    refine (great_any ya l.length yc (HL.out.later HB1.out) rfl hn hl).mono ?_
    rw [HG.out]
    rintro e w2 ⟨rfl, hb2⟩
    have HB2 := Lib.hid (stepB HB1.out hb2)
    clear hb2
    go_wp2_with fail
    refine (table_any (HL.out.later HB2.out) (by omega) HS.out).mono ?_
    obtain ⟨E1, hE1⟩ : ∃ E, tableE t = E := ⟨_, rfl⟩
    rw [hE1]
    rintro e w3 ⟨rfl, hb3⟩
    have HE1 := Lib.hid hE1
    have HB3 := Lib.hid (stepB HB2.out hb3)
    clear hb3 hE1
    go_wp2_with fail
    refine (refTable_any (HL.out.later HB3.out) (by omega) HS.out).mono ?_
    rw [HE1.out]
    rintro e w4 ⟨rfl, hb4⟩
    have HB4 := Lib.hid (stepB HB3.out hb4)
    clear hb4
    go_wp2_with fail
    refine (deckCheck_any (HL.out.later HB4.out) (HU.out.later HB4.out) (by omega) HS.out (by omega) HWF.out).mono ?_
    obtain ⟨E2, hE2⟩ : ∃ E, deckE t l = E := ⟨_, rfl⟩
    rw [hE2]
    rintro e w5 ⟨rfl, hb5⟩
    have HE2 := Lib.hid hE2
    have HB5 := Lib.hid (stepB HB4.out hb5)
    clear hb5 hE2
    go_wp2_with fail
    refine (refDeck_any (HL.out.later HB5.out) (HU.out.later HB5.out) (by omega) HS.out (by omega)).mono ?_
    rw [HE2.out]
    rintro e w6 ⟨rfl, hb6⟩
    have HB6 := Lib.hid (stepB HB5.out hb6)
    clear hb6
    go_wp2_with fail
    refine (schemes_any (HL.out.later HB6.out) (HU.out.later HB6.out) (by omega) HS.out (by omega) HWF.out).mono ?_
    obtain ⟨E3, hE3⟩ : ∃ E, schemeE t l = E := ⟨_, rfl⟩
    rw [hE3]
    rintro e w7 ⟨rfl, hb7⟩
    have HE3 := Lib.hid hE3
    have HB7 := Lib.hid (stepB HB6.out hb7)
    clear hb7 hE3
    go_wp2_with fail
    refine (refSchemes_any (HL.out.later HB7.out) (HU.out.later HB7.out) (by omega) HS.out (by omega)).mono ?_
    rw [HE3.out]
    rintro e w8 ⟨rfl, hb8⟩
    have HB8 := Lib.hid (stepB HB7.out hb8)
    clear hb8
    go_wp2
    go_ret
    exact ⟨rfl, HB8.out⟩
  · clear hG
    go_enter Try.func12, Try.ntmps12
    go_wp2_with fail
    refine (awake3_any _).mono ?_
    rintro e w1 ⟨rfl, hb1⟩
    have HB1 := Lib.hid hb1
    clear hb1
    go_wp2_with fail
    refine (great_any ya l.length yc (HL.out.later HB1.out) rfl hn hl).mono ?_
    rw [HG.out]
    rintro e w2 ⟨rfl, hb2⟩
    go_wp2
    go_ret
    exact ⟨rfl, stepB HB1.out hb2⟩

set_option maxRecDepth 100000 in
theorem deckChecks_lifted (os : Os) (started : os.Started) (H : Type) (enc : TypeId × Value → H) :
    ReturnsInHanded {} Try.checked os 12 .any (Rows.deckChecksSpec.pre6 enc Try.prog Try.f12 Rows.deckChecksRow.domain false) (Rows.deckChecksSpec.post enc Try.prog Try.f12 false true false false) := by
  refine returnsInHanded_of_change (C := Try.checked) own started (by kernel_rfl) Try.func12
    (ChangeSpec.witness6 (enc := enc) (C := Try.checked) false ⟨#[], #[.slice none 0 0, .slice none 0 0], []⟩ 8 (by kernel_rfl) (by kernel_rfl) (by kernel_rfl) (by kernel_rfl)) ?_
  intro W base args ds gs before hval0 hW hcnd _
  have hval : ∀ (j : Nat) t v, Try.f12.params[j]? = some t → args[j]? = some v → Value.okWide Try.prog W .any base t v := hval0
  have hW' := hW
  obtain ⟨p, q, hA0, hV, rfl, hfz, hnd⟩ := hW
  have hA : DataW.TrodAll enc Try.prog W 0 (fun _ => true) true Try.f12.params.toList args.toList ds p := hA0
  rw [Try.params12] at hA hval
  have hA1 := hA
  obtain ⟨v0, vs0, d0, ds0, p0, q0, hargs0, rfl, rfl, h0, r0⟩ := trodAll_cons hA
  obtain ⟨v1, vs1, d1, ds1, p1, q1, rfl, rfl, rfl, h1, r1⟩ := trodAll_cons r0
  obtain ⟨rfl, rfl, rfl⟩ := trodAll_nil r1
  obtain rfl : args = #[v0, v1] := by cases args; simp_all
  obtain ⟨rfl, rfl⟩ := trodVars_none hV
  obtain ⟨t, ht, htl, hts⟩ := open_cards (hval 0 85 v0 rfl rfl) h0
  obtain ⟨l, hl, hll, hlw⟩ := open_nums (hval 1 51 v1 rfl rfl) h1
  clear hval0
  simp only [List.append_nil] at hW'
  have hlt := fun x hx => hW'.lt x hx
  unfold maxLen at htl hll
  refine (deckChecks_walk ht hl (by omega) hts (by omega) hlw).mono fun e W' ⟨he, hb⟩ => ?_
  subst he
  exact ⟨_, rfl, post_below (pr := []) (pv := []) hW' (trodAll_cons_mk (shut_bool Try.underlying4 _) trodAll_mk0)
    (trodAll_stays laidOutT hb (by intro t ht; simp at ht; rcases ht with rfl | rfl <;> exact ⟨by kernel_rfl, of_decide_eq_true (by kernel_rfl)⟩) hA1 (by simpa using hlt)) rfl hb⟩

/-- The law DeckChecks: for every table and list of numbers it returns true; each argument reads behind the call as it read before. -/
theorem deckChecks_holds : Rows.DeckChecksSaid :=
  OpenClaim.holds_of_wide 12 Try.f12 rfl rfl rfl rfl rfl rfl rfl ⟨rfl, rfl, rfl, rfl, rfl⟩ rfl rfl rfl rfl rfl (by kernel_rfl) Try.func12 (by kernel_rfl)
    (of_decide_eq_true (by kernel_rfl)) (by unfold Func.isWrapper; first | (rw [if_pos (by decide +kernel)]; kernel_rfl) | (rw [if_neg (by decide +kernel)]; exact ⟨rfl, rfl⟩))
    (fun os started H enc _ => deckChecks_lifted os started H enc)
end Go.Proofs.Ytcbjekdbkhibbaa

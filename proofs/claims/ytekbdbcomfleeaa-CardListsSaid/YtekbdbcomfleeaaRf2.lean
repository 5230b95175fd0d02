/- The document's own answer on whether a card's numbers are numbers in a byte each (package hydraref02: Fits), walked. -/
import Derived.Test.YtekbdbcomfleeaaRp
import Derived.Test.YtekbdbcomfleeaaRs
namespace Go.Proofs.Ytekbdbcomfleeaa
open Go.RowKit

theorem fits1 (x : Int) (w : World) : Calls Try.prog 35 #[.int .i64 1, .int .i64 x] w fun e w' => e = .returned (.bool (fitsN 1 x)) ∧ w = w' := fits_any 1 x w

theorem termsFit_next (l : List TermL) (k : Nat) (h : k < l.length) : (l.take (k + 1)).all tfit = ((l.take k).all tfit && tfit l[k]) := by
  rw [take_last l k h, List.all_append]; simp

set_option maxRecDepth 100000 in
set_option maxHeartbeats 6400000 in
theorem refFits_any {c : CardL} {v : Value} {w : World} (h : CardIs w v c) (hlen : c.terms.length ≤ 9223372036854775807) :
    Calls Try.prog 11 #[v] w (RetB w (hfit c && c.terms.all tfit)) := by
  obtain ⟨xa, xn, xc, rfl, ht⟩ := h
  obtain rfl := CardIs.len ht
  have HT := Lib.hid ht
  have HH := Lib.hid (show hfit c = (fitsN 1 c.kind && (fitsN 1 c.cost && (fitsN 1 c.power && (fitsN 1 c.tough && (fitsN 1 c.keys && fitsN 1 c.whn))))) by simp [hfit, headL])
  clear ht
  obtain ⟨b1, h1⟩ : ∃ b, fitsN 1 c.kind = b := ⟨_, rfl⟩
  obtain ⟨b2, h2⟩ : ∃ b, fitsN 1 c.cost = b := ⟨_, rfl⟩
  obtain ⟨b3, h3⟩ : ∃ b, fitsN 1 c.power = b := ⟨_, rfl⟩
  obtain ⟨b4, h4⟩ : ∃ b, fitsN 1 c.tough = b := ⟨_, rfl⟩
  obtain ⟨b5, h5⟩ : ∃ b, fitsN 1 c.keys = b := ⟨_, rfl⟩
  obtain ⟨b6, h6⟩ : ∃ b, fitsN 1 c.whn = b := ⟨_, rfl⟩
  have HH2 : Hid (hfit c = (b1 && (b2 && (b3 && (b4 && (b5 && b6)))))) := Lib.hid (by rw [HH.out, h1, h2, h3, h4, h5, h6])
  unfold cagg
  go_enter Try.func11, Try.ntmps11
  go_wp2_with (go_at_call 35; refine (fits1 _ _).mono ?_; rintro e w1 ⟨rfl, rfl⟩)
  all_goals
    go_loop [3, 4] (fun r i => ∃ (k : Nat) (R : Bool), k ≤ c.terms.length ∧ i = .int .i64 k ∧ r = .bool R ∧ Hid (R = (hfit c && (c.terms.take k).all tfit))) (fun _ i => c.terms.length - (intOf i).toNat)
    case atStart => exact ⟨0, _, Nat.zero_le _, rfl, rfl, Lib.hid (by rw [HH2.out]; first | rfl | simp [*])⟩
    case round =>
      obtain ⟨k, R, hk, rfl, rfl, HR⟩ := hrel
      by_cases hlt : k < c.terms.length
      · obtain ⟨p, o, rfl, x0, x1, x2⟩ := terms_at (HT.out.later (below_new w (.cells #[.int .i64 c.kind, .int .i64 c.cost, .int .i64 c.power, .int .i64 c.tough, .int .i64 c.keys, .int .i64 c.whn, .slice xa c.terms.length xc] 24))) k hlt
        obtain ⟨f1, g1⟩ : ∃ b, fitsN 1 c.terms[k].op = b := ⟨_, rfl⟩
        obtain ⟨f2, g2⟩ : ∃ b, fitsN 1 c.terms[k].n = b := ⟨_, rfl⟩
        obtain ⟨f3, g3⟩ : ∃ b, fitsN 1 c.terms[k].on = b := ⟨_, rfl⟩
        have HN : Hid ((hfit c && (c.terms.take (k + 1)).all tfit) = (R && (f1 && (f2 && f3)))) := Lib.hid (by
          rw [termsFit_next _ k hlt, ← Bool.and_assoc, ← HR.out, ← g1, ← g2, ← g3]; simp [tfit, termL])
        go_wp2_with (go_at_call 35; refine (fits1 _ _).mono ?_; rintro e w1 ⟨rfl, rfl⟩)
        all_goals
          go_round
          case rel => exact ⟨k + 1, _, by omega, by go_num, rfl, Lib.hid (by rw [HN.out]; first | rfl | simp [*])⟩
          case measure => simp [intOf]; omega
      · obtain rfl : k = c.terms.length := by omega
        go_wp2
        go_ret
        exact ⟨ret_bool (by rw [HR.out, List.take_length]), below_new w _⟩
end Go.Proofs.Ytekbdbcomfleeaa

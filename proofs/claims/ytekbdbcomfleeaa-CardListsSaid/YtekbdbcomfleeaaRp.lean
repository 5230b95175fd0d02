/- The document's own bytes of a card (package hydraref02: Put), walked, of cards whose numbers fit. -/
import Derived.Test.YtekbdbcomfleeaaCr
import Derived.Test.YtekbdbcomfleeaaU
namespace Go.Proofs.Ytekbdbcomfleeaa
open Go.RowKit

theorem fit_bd {x : Int} (h : fitsN 1 x = true) : 0 ≤ x ∧ x ≤ 255 := by
  unfold fitsN at h
  simp only [Bool.and_eq_true, decide_eq_true_eq] at h
  have hp : powN 1 = 256 := rfl
  omega
theorem numStr1_size (x : Int) : (numStr 1 x).size = 1 := by unfold numStr; rw [strOfNums_size, digits_length]
theorem numRef1 (x : Int) (h0 : 0 ≤ x) (h1 : x ≤ 255) (w : World) : Calls Try.prog 36 #[.int .i64 1, .int .i64 x] w fun e w' => e = .returned (.string (numStr 1 x)) ∧ Below w.heap.size w w' :=
  numRef_any 1 x h0 (by omega) w

theorem numStr1_nat (n : Nat) (h : n ≤ 4) : (numStr 1 (n : Int)).data.toList = [UInt8.ofNat n] := by
  rcases (by omega : n = 0 ∨ n = 1 ∨ n = 2 ∨ n = 3 ∨ n = 4) with rfl | rfl | rfl | rfl | rfl <;> rfl
theorem head_str (c : CardL) (h4 : c.terms.length ≤ 4) : numStr 1 c.kind ++ numStr 1 c.cost ++ numStr 1 c.power ++ numStr 1 c.tough ++ numStr 1 c.keys ++ numStr 1 c.whn ++ numStr 1 (c.terms.length : Int) =
    (⟨(bytesOf (headL c) ++ (UInt8.ofNat c.terms.length :: termsB3 (c.terms.take 0))).toArray⟩ : ByteArray) := by
  have h := numStr1_nat c.terms.length h4
  apply ByteArray.ext
  apply Array.toList_inj.1
  simp [headL, bytesOf_cons, bytesOf_nil, termsB3_nil, h]
theorem keep4 {A w1 w2 : World} {p0 p1 p2 p3 : Addr} {v0 v1 v2 v3 : Value} (hb : Below w1.heap.size w1 w2)
    (h : Below A.heap.size A w1 ∧ w1.cell? p0 = some v0 ∧ w1.cell? p1 = some v1 ∧ w1.cell? p2 = some v2 ∧ w1.cell? p3 = some v3) :
    Below A.heap.size A w2 ∧ w2.cell? p0 = some v0 ∧ w2.cell? p1 = some v1 ∧ w2.cell? p2 = some v2 ∧ w2.cell? p3 = some v3 :=
  ⟨h.1.trans (hb.mono h.1.size), cell_stays hb h.2.1, cell_stays hb h.2.2.1, cell_stays hb h.2.2.2.1, cell_stays hb h.2.2.2.2⟩

set_option maxRecDepth 100000 in
set_option maxHeartbeats 6400000 in
theorem refPut_any {c : CardL} {w : World} (xa : Option Addr) (xc : Nat) (ht : TermsIs w (.slice xa c.terms.length xc) c.terms) (hf : hfit c = true) (h4 : c.terms.length ≤ 4) (htf : c.terms.all tfit = true) :
    Calls Try.prog 12 #[cagg c (.slice xa c.terms.length xc)] w fun e w' => e = .returned (.string ⟨(cardBytes c).toArray⟩) ∧ Below w.heap.size w w' := by
  have hh := hf
  unfold hfit headL at hh
  simp only [List.all_cons, List.all_nil, Bool.and_true, Bool.and_eq_true] at hh
  obtain ⟨f1, f2, f3, f4, f5, f6⟩ := hh
  obtain ⟨a1, b1⟩ := fit_bd f1
  obtain ⟨a2, b2⟩ := fit_bd f2
  obtain ⟨a3, b3⟩ := fit_bd f3
  obtain ⟨a4, b4⟩ := fit_bd f4
  obtain ⟨a5, b5⟩ := fit_bd f5
  obtain ⟨a6, b6⟩ := fit_bd f6
  have a7 : (0 : Int) ≤ c.terms.length := by omega
  have b7 : (c.terms.length : Int) ≤ 255 := by omega
  have HT := Lib.hid ht
  have HF := Lib.hid htf
  have hsz := numStr1_size
  clear ht htf f1 f2 f3 f4 f5 f6
  unfold cagg
  go_enter Try.func12, Try.ntmps12
  go_wp2
  go_region_held3 (fun w' => Below w.heap.size w w' ∧ w'.cell? ⟨w.heap.size, 0, none⟩ = some (.int .i64 c.kind) ∧ w'.cell? ⟨w.heap.size, 1, none⟩ = some (.int .i64 c.cost) ∧ w'.cell? ⟨w.heap.size, 2, none⟩ = some (.int .i64 c.power) ∧ w'.cell? ⟨w.heap.size, 3, none⟩ = some (.int .i64 c.tough) ∧ w'.cell? ⟨w.heap.size, 4, none⟩ = some (.int .i64 c.keys) ∧ w'.cell? ⟨w.heap.size, 5, none⟩ = some (.int .i64 c.whn) ∧ w'.cell? ⟨w.heap.size, 6, none⟩ = some (.slice xa c.terms.length xc))
    (first | assumption | exact ⟨(below_new w _).drew, by simp [go_sem], by simp [go_sem], by simp [go_sem], by simp [go_sem], by simp [go_sem], by simp [go_sem], by simp [go_sem]⟩ | exact keep7 (by assumption) (by assumption))
    (first | (go_at_call 36; refine (numRef1 _ (by assumption) (by assumption) _).mono ?_; rintro e w1 ⟨rfl, hb1⟩))
  have hS : Below w.heap.size w w1 ∧ w1.cell? ⟨w.heap.size, 0, none⟩ = some (.int .i64 c.kind) ∧ w1.cell? ⟨w.heap.size, 1, none⟩ = some (.int .i64 c.cost) ∧ w1.cell? ⟨w.heap.size, 2, none⟩ = some (.int .i64 c.power) ∧ w1.cell? ⟨w.heap.size, 3, none⟩ = some (.int .i64 c.tough) ∧ w1.cell? ⟨w.heap.size, 4, none⟩ = some (.int .i64 c.keys) ∧ w1.cell? ⟨w.heap.size, 5, none⟩ = some (.int .i64 c.whn) ∧ w1.cell? ⟨w.heap.size, 6, none⟩ = some (.slice xa c.terms.length xc) := by assumption
  have HW1 := Lib.hid hS.1
  have HC6 := Lib.hid hS.2.2.2.2.2.2.2
  clear hS
  have HST := Lib.hid (head_str c h4)
  have hwb : w.heap.size < w1.heap.size := by
    have h := HC6.out
    rcases Nat.lt_or_ge w.heap.size w1.heap.size with h' | h'
    · exact h'
    · simp [World.cell?, Array.getElem?_eq_none h'] at h
  go_wp2
  go_loopw [3, 4] (fun s i wr => ∃ k : Nat, k ≤ c.terms.length ∧ i = .int .i64 k ∧ s = .string ⟨(bytesOf (headL c) ++ (UInt8.ofNat c.terms.length :: termsB3 (c.terms.take k))).toArray⟩ ∧ Hid (Below w1.heap.size w1 wr)) (fun _ i _ => c.terms.length - (intOf i).toNat)
  case atStart => exact ⟨0, Nat.zero_le _, rfl, congrArg Value.string HST.out, Lib.hid (Below.refl _ _)⟩
  case round =>
    obtain ⟨k, hk, rfl, rfl, HB⟩ := hrel
    have c6 := cell_stays HB.out HC6.out
    have HW := Lib.hid (HW1.out.trans (HB.out.mono (HW1.out.size)))
    by_cases hlt : k < c.terms.length
    · have hxa : ∃ b off, xa = some ⟨b, off, none⟩ ∧ b < w.heap.size ∧ ∀ i (h : i < c.terms.length), w.cell? ⟨b, off + i * 3, none⟩ = some (.int .i64 c.terms[i].op) ∧ w.cell? ⟨b, off + i * 3 + 1, none⟩ = some (.int .i64 c.terms[i].n) ∧ w.cell? ⟨b, off + i * 3 + 2, none⟩ = some (.int .i64 c.terms[i].on) := by
        rcases HT.out with ⟨_, _, h1, h2⟩ | ⟨b, off, cap, h1, h2, h3⟩
        · rw [h2] at hlt; simp at hlt
        · injection h1 with h1 _ _; exact ⟨b, off, h1, h2, h3⟩
      obtain ⟨b, off, rfl, hbl, hcell⟩ := hxa
      have h3 := hcell k hlt
      have c0 := cell_stays HW.out h3.1
      have c1 := cell_stays HW.out h3.2.1
      have c2 := cell_stays HW.out h3.2.2
      have hft : tfit c.terms[k] = true := List.all_eq_true.1 HF.out _ (List.getElem_mem hlt)
      unfold tfit termL at hft
      simp only [List.all_cons, List.all_nil, Bool.and_true, Bool.and_eq_true] at hft
      obtain ⟨u1, v1⟩ := fit_bd hft.1
      obtain ⟨u2, v2⟩ := fit_bd hft.2.1
      obtain ⟨u3, v3⟩ := fit_bd hft.2.2
      obtain ⟨S0, hS0⟩ : ∃ S0 : ByteArray, (⟨(bytesOf (headL c) ++ (UInt8.ofNat c.terms.length :: termsB3 (c.terms.take k))).toArray⟩ : ByteArray) = S0 := ⟨_, rfl⟩
      have hs0 : S0.size = 7 ∨ S0.size = 10 ∨ S0.size = 13 ∨ S0.size = 16 := by
        have hq : S0.size = 7 + 3 * k := by
          rw [← hS0]
          show (bytesOf (headL c) ++ (UInt8.ofNat c.terms.length :: termsB3 (c.terms.take k))).toArray.size = 7 + 3 * k
          rw [List.size_toArray, List.length_append, bytesOf_len, List.length_cons, termsB3_len, List.length_take]
          simp [headL]
          omega
        omega
      have HSN : Hid (S0 ++ numStr 1 c.terms[k].op ++ numStr 1 c.terms[k].n ++ numStr 1 c.terms[k].on = ⟨(bytesOf (headL c) ++ (UInt8.ofNat c.terms.length :: termsB3 (c.terms.take (k + 1)))).toArray⟩) := by
        refine Lib.hid ?_
        rw [← hS0, take_last _ k hlt, termsB3_append, termsB3_cons, termsB3_nil]
        apply ByteArray.ext
        simp [termL, bytesOf_cons, bytesOf_nil]
      rw [hS0]
      clear h3 hcell hft hS0
      rcases hs0 with hs0 | hs0 | hs0 | hs0
      all_goals
        go_wp2
        go_region_held3 (fun w' => Below w1.heap.size w1 w' ∧ w'.cell? ⟨w.heap.size, 6, none⟩ = some (.slice (some ⟨b, off, none⟩) c.terms.length xc) ∧ w'.cell? ⟨b, off + k * 3, none⟩ = some (.int .i64 c.terms[k].op) ∧ w'.cell? ⟨b, off + k * 3 + 1, none⟩ = some (.int .i64 c.terms[k].n) ∧ w'.cell? ⟨b, off + k * 3 + 2, none⟩ = some (.int .i64 c.terms[k].on))
          (first | assumption | exact ⟨HB.out.drew, c6, c0, c1, c2⟩ | exact keep4 (by assumption) (by assumption))
          (first | (go_at_call 36; refine (numRef1 _ (by assumption) (by assumption) _).mono ?_; rintro e w2 ⟨rfl, hb2⟩))
        have HBN := Lib.hid (And.left (show Below w1.heap.size w1 w2 ∧ w2.cell? ⟨w.heap.size, 6, none⟩ = some (.slice (some ⟨b, off, none⟩) c.terms.length xc) ∧ w2.cell? ⟨b, off + k * 3, none⟩ = some (.int .i64 c.terms[k].op) ∧ w2.cell? ⟨b, off + k * 3 + 1, none⟩ = some (.int .i64 c.terms[k].n) ∧ w2.cell? ⟨b, off + k * 3 + 2, none⟩ = some (.int .i64 c.terms[k].on) by assumption))
        go_wp2
        go_roundw
        case rel => exact ⟨k + 1, by omega, by go_num, congrArg Value.string HSN.out, HBN⟩
        case measure => simp [intOf]; omega
    · obtain rfl : k = c.terms.length := by omega
      go_wp2
      go_ret
      exact ⟨by rw [List.take_length]; rfl, HW.out⟩
end Go.Proofs.Ytekbdbcomfleeaa

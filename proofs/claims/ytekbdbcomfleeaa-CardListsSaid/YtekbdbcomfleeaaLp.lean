/- The law CardPuts (layer 2), walked: for every card, string and number it returns true, and only new memory is made. -/
import Derived.Test.YtekbdbcomfleeaaMp
import Derived.Test.YtekbdbcomfleeaaRn
import Derived.Test.YtekbdbcomfleeaaRs
import Derived.Test.YtekbdbcomfleeaaRp
import Derived.Test.YtekbdbcomfleeaaRf2
namespace Go.Proofs.Ytekbdbcomfleeaa
open Go.RowKit

def goodB (c : CardL) : Bool := decide (c.terms.length ≤ 4) && (hfit c && c.terms.all tfit)
theorem cput_good {c : CardL} (hf : hfit c = true) (h4 : c.terms.length ≤ 4) (ht : c.terms.all tfit = true) : cput c = (⟨(cardBytes c).toArray⟩, 0) := by
  unfold cput; rw [if_pos hf, if_neg (by omega), if_pos ht]
theorem cput_bad {c : CardL} (h : goodB c = false) : cput c = (⟨#[]⟩, 2) ∨ cput c = (⟨#[]⟩, 5) := by
  unfold cput
  cases hf : hfit c
  · left; rfl
  · rw [if_pos rfl]
    by_cases h4 : 4 < c.terms.length
    · right; rw [if_pos h4]
    · left
      rw [if_neg h4]
      cases ht : c.terms.all tfit
      · rfl
      · rw [goodB, hf, ht] at h; simp at h; omega
theorem bad_may {c : CardL} (h : goodB c = false) : mayB c = false := by
  cases hm : mayB c
  · rfl
  · obtain ⟨h1, h2, h3⟩ := may_fits hm
    rw [goodB, h1, h3] at h
    simp at h; omega
/-- What the law holds of its first box in every later world. -/
def BoxC (A W : World) (b : Nat) (c : CardL) (xa : Option Addr) (xc : Nat) : Prop :=
  Below A.heap.size A W ∧ W.cell? ⟨b, 0, none⟩ = some (.int .i64 c.kind) ∧ W.cell? ⟨b, 1, none⟩ = some (.int .i64 c.cost) ∧ W.cell? ⟨b, 2, none⟩ = some (.int .i64 c.power) ∧ W.cell? ⟨b, 3, none⟩ = some (.int .i64 c.tough) ∧ W.cell? ⟨b, 4, none⟩ = some (.int .i64 c.keys) ∧ W.cell? ⟨b, 5, none⟩ = some (.int .i64 c.whn) ∧ W.cell? ⟨b, 6, none⟩ = some (.slice xa c.terms.length xc)
theorem BoxC.new (w : World) (c : CardL) (xa : Option Addr) (xc : Nat) : BoxC w (w.alloc (.cells #[.int .i64 c.kind, .int .i64 c.cost, .int .i64 c.power, .int .i64 c.tough, .int .i64 c.keys, .int .i64 c.whn, .slice xa c.terms.length xc] 24)) w.heap.size c xa xc := ⟨below_new w _, card_cells (Below.refl _ _)⟩
/-- The same of a box of a zero card. -/
def BoxZ (A W : World) (b : Nat) (za : Option Addr) (zn zc : Nat) : Prop :=
  Below A.heap.size A W ∧ W.cell? ⟨b, 0, none⟩ = some (.int .i64 zeroC.kind) ∧ W.cell? ⟨b, 1, none⟩ = some (.int .i64 zeroC.cost) ∧ W.cell? ⟨b, 2, none⟩ = some (.int .i64 zeroC.power) ∧ W.cell? ⟨b, 3, none⟩ = some (.int .i64 zeroC.tough) ∧ W.cell? ⟨b, 4, none⟩ = some (.int .i64 zeroC.keys) ∧ W.cell? ⟨b, 5, none⟩ = some (.int .i64 zeroC.whn) ∧ W.cell? ⟨b, 6, none⟩ = some (.slice za zn zc)
theorem BoxZ.new (w : World) (za : Option Addr) (zn zc : Nat) : BoxZ w (w.alloc (.cells #[.int .i64 zeroC.kind, .int .i64 zeroC.cost, .int .i64 zeroC.power, .int .i64 zeroC.tough, .int .i64 zeroC.keys, .int .i64 zeroC.whn, .slice za zn zc] 24)) w.heap.size za zn zc := ⟨below_new w _, card_cells (c := zeroC) (Below.refl _ _)⟩
theorem BoxZ.later {A W W' : World} {b : Nat} {za : Option Addr} {zn zc : Nat} (h : BoxZ A W b za zn zc) (hb : Below W.heap.size W W') : BoxZ A W' b za zn zc := keep7 hb h
theorem BoxC.later {A W W' : World} {b : Nat} {c : CardL} {xa : Option Addr} {xc : Nat} (h : BoxC A W b c xa xc) (hb : Below W.heap.size W W') : BoxC A W' b c xa xc := keep7 hb h

set_option maxRecDepth 100000 in
set_option maxHeartbeats 16000000 in
theorem cardPuts_bad {c : CardL} (xa : Option Addr) (xc : Nat) (B : ByteArray) (cut : Int) (w : World) (ht : TermsIs w (.slice xa c.terms.length xc) c.terms) (h30 : c.terms.length ≤ 30) (hB : B.size ≤ 100) (hg : goodB c = false) :
    Calls Try.prog 3 #[cagg c (.slice xa c.terms.length xc), .string B, .int .u8 cut] w (RetB w true) := by
  have hlen : c.terms.length ≤ 9223372036854775807 := by omega
  have HLEN := Lib.hid hlen
  have HT := Lib.hid ht
  have HM := Lib.hid (bad_may hg)
  have e1 : decide ((30 : Int) < c.terms.length) = false := decide_eq_false (by omega)
  have e2 : decide ((100 : Int) < B.size) = false := decide_eq_false (by omega)
  obtain ⟨L4, hL4⟩ : ∃ b, decide (c.terms.length ≤ 4) = b := ⟨_, rfl⟩
  obtain ⟨FT, hFT⟩ : ∃ b, (hfit c && c.terms.all tfit) = b := ⟨_, rfl⟩
  have HG : Hid ((L4 && FT) = false) := Lib.hid (by rw [← hL4, ← hFT]; exact hg)
  have hL4' : decide ((c.terms.length : Int) ≤ 4) = L4 := by rw [← hL4]; congr 1; exact propext ⟨fun h => by omega, fun h => by omega⟩
  have HFT := Lib.hid hFT
  have hput := cput_bad hg
  clear ht hg hlen hFT
  rcases hput with hp | hp
  all_goals
    have HPUT := Lib.hid hp
    clear hp
    unfold cagg
    go_enter Try.func3, Try.ntmps3
    go_wp2_with fail
    refine (awake2_any _).mono ?_
    rintro e w1 ⟨rfl, hb1⟩
    have HX1 := Lib.hid ((BoxC.new w c xa xc).later hb1)
    obtain ⟨_, k0, k1, k2, k3, k4, k5, k6⟩ := HX1.out
    clear hb1
    go_wp2
    go_region_held3 (fun w' => Below w.heap.size w w' ∧ w'.cell? ⟨w.heap.size, 0, none⟩ = some (.int .i64 c.kind) ∧ w'.cell? ⟨w.heap.size, 1, none⟩ = some (.int .i64 c.cost) ∧ w'.cell? ⟨w.heap.size, 2, none⟩ = some (.int .i64 c.power) ∧ w'.cell? ⟨w.heap.size, 3, none⟩ = some (.int .i64 c.tough) ∧ w'.cell? ⟨w.heap.size, 4, none⟩ = some (.int .i64 c.keys) ∧ w'.cell? ⟨w.heap.size, 5, none⟩ = some (.int .i64 c.whn) ∧ w'.cell? ⟨w.heap.size, 6, none⟩ = some (.slice xa c.terms.length xc))
      (first | assumption | exact HX1.out.later (Below.refl w1.heap.size w1).drew | exact keep7 (by assumption) (by assumption))
      (first
        | (go_at_call 9; refine (codec_any _).mono ?_; rintro e w2 ⟨r, rfl, hcod, hb2⟩)
        | (go_at_call 10; refine (put_c (by assumption) ⟨xa, _, xc, rfl, HT.out.later (And.left (by assumption))⟩ HLEN.out).mono ?_; rw [HPUT.out]; unfold ret2; rintro e w3 ⟨rfl, hb3⟩))
    have hX3 : BoxC w w3 w.heap.size c xa xc := by assumption
    have HX3 := Lib.hid hX3
    obtain ⟨_, k0, k1, k2, k3, k4, k5, k6⟩ := hX3
    clear hcod
    cases L4
    · go_wp2_with fail
      refine (refMay_any ⟨xa, _, xc, rfl, HT.out.later HX3.out.1⟩ HLEN.out).mono ?_
      rw [HM.out]
      rintro e w4 ⟨rfl, hb4⟩
      go_wp2
      go_ret
      exact ⟨rfl, stepB HX3.out.1 hb4⟩
    · obtain rfl : FT = false := by have := HG.out; simpa using this
      go_wp2_with fail
      refine (refFits_any ⟨xa, _, xc, rfl, HT.out.later HX3.out.1⟩ HLEN.out).mono ?_
      rw [HFT.out]
      rintro e w4 ⟨rfl, hb4⟩
      have HX4 := Lib.hid (HX3.out.later hb4)
      obtain ⟨_, k0, k1, k2, k3, k4, k5, k6⟩ := HX4.out
      clear hb4
      go_wp2_with fail
      refine (refMay_any ⟨xa, _, xc, rfl, HT.out.later HX4.out.1⟩ HLEN.out).mono ?_
      rw [HM.out]
      rintro e w5 ⟨rfl, hb5⟩
      go_wp2
      go_ret
      exact ⟨rfl, stepB HX4.out.1 hb5⟩

theorem keepB {A w1 w2 : World} (hb : Below w1.heap.size w1 w2) (h : Below A.heap.size A w1) : Below A.heap.size A w2 := stepB h hb
/-- A box of a zero card made before a call, as it stands behind the call. -/
def NewZ (A W : World) (b : Nat) : Prop := A.heap.size ≤ b ∧ b < W.heap.size ∧ (W.cell? ⟨b, 0, none⟩ = some (.int .i64 0) ∧ W.cell? ⟨b, 1, none⟩ = some (.int .i64 0) ∧ W.cell? ⟨b, 2, none⟩ = some (.int .i64 0) ∧ W.cell? ⟨b, 3, none⟩ = some (.int .i64 0) ∧ W.cell? ⟨b, 4, none⟩ = some (.int .i64 0) ∧ W.cell? ⟨b, 5, none⟩ = some (.int .i64 0) ∧ W.cell? ⟨b, 6, none⟩ = some (.slice none 0 0)) ∧ ∀ j, W.frozen? ⟨b, j, none⟩ = false
theorem newZ {A w w2 : World} (hA : A.heap.size ≤ w.heap.size) (hb : Below (w.alloc (.cells #[.int .i64 0, .int .i64 0, .int .i64 0, .int .i64 0, .int .i64 0, .int .i64 0, .slice none 0 0] 24)).heap.size (w.alloc (.cells #[.int .i64 0, .int .i64 0, .int .i64 0, .int .i64 0, .int .i64 0, .int .i64 0, .slice none 0 0] 24)) w2) : NewZ A w2 w.heap.size := by
  refine ⟨hA, ?_, card_cells (c := zeroC) hb, fun j => ?_⟩
  · have := hb.size
    simp at this
    omega
  · rw [hb.frozen (show _ < _ by simp)]; simp [go_sem]
theorem NewZ.later {A W W2 : World} {b : Nat} (h : NewZ A W b) (hb : Below W.heap.size W W2) : NewZ A W2 b := by
  obtain ⟨hA, hlt, ⟨c0, c1, c2, c3, c4, c5, c6⟩, hf⟩ := h
  exact ⟨hA, Nat.lt_of_lt_of_le hlt hb.size, ⟨cell_stays hb c0, cell_stays hb c1, cell_stays hb c2, cell_stays hb c3, cell_stays hb c4, cell_stays hb c5, cell_stays hb c6⟩, fun j => by rw [hb.frozen (p := ⟨b, j, none⟩) hlt]; exact hf j⟩
theorem below_set7 {A w : World} {b : Nat} {u0 u1 u2 u3 u4 u5 u6 : Value} (h : Below A.heap.size A w) (hb : A.heap.size ≤ b) : Below A.heap.size A (((((((w.setCell ⟨b, 0, none⟩ u0).setCell ⟨b, 1, none⟩ u1).setCell ⟨b, 2, none⟩ u2).setCell ⟨b, 3, none⟩ u3).setCell ⟨b, 4, none⟩ u4).setCell ⟨b, 5, none⟩ u5).setCell ⟨b, 6, none⟩ u6) :=
  (((((((h.setCell hb _).setCell hb _).setCell hb _).setCell hb _).setCell hb _).setCell hb _).setCell hb _)
theorem undrew {a w2 : World} (h : Below a.drew.heap.size a.drew w2) : Below a.heap.size a w2 := ⟨h.os, h.tape, h.output, h.size, h.block⟩
theorem terms_nil {w V : World} {v : Value} (h : TermsIs w v zeroC.terms) (hs : w.heap.size ≤ V.heap.size) : TermsIs V v zeroC.terms := by
  rcases h with h | ⟨b, off, cap, rfl, hlt, _⟩
  · exact .inl h
  · exact .inr ⟨b, off, cap, rfl, Nat.lt_of_lt_of_le hlt hs, fun i hi => absurd hi (Nat.not_lt_zero i)⟩
theorem nameA {A w : World} {za : Option Addr} {zn zc : Nat} (h : Below A.heap.size A (w.alloc (.cells #[.int .i64 zeroC.kind, .int .i64 zeroC.cost, .int .i64 zeroC.power, .int .i64 zeroC.tough, .int .i64 zeroC.keys, .int .i64 zeroC.whn, .slice za zn zc] 24))) (ht : TermsIs w (.slice za zn zc) zeroC.terms) :
    ∃ V, w.alloc (.cells #[.int .i64 zeroC.kind, .int .i64 zeroC.cost, .int .i64 zeroC.power, .int .i64 zeroC.tough, .int .i64 zeroC.keys, .int .i64 zeroC.whn, .slice za zn zc] 24) = V ∧ BoxZ A V w.heap.size za zn zc ∧ TermsIs V (.slice za zn zc) zeroC.terms :=
  ⟨_, rfl, ⟨h, (BoxZ.new w za zn zc).2⟩, terms_nil ht (by simp)⟩
theorem nameS {A w : World} {b : Nat} {za : Option Addr} {zn zc : Nat} (h : Below A.heap.size A (((((((w.setCell ⟨b, 0, none⟩ (.int .i64 zeroC.kind)).setCell ⟨b, 1, none⟩ (.int .i64 zeroC.cost)).setCell ⟨b, 2, none⟩ (.int .i64 zeroC.power)).setCell ⟨b, 3, none⟩ (.int .i64 zeroC.tough)).setCell ⟨b, 4, none⟩ (.int .i64 zeroC.keys)).setCell ⟨b, 5, none⟩ (.int .i64 zeroC.whn)).setCell ⟨b, 6, none⟩ (.slice za zn zc))) (hz : w.cell? ⟨b, 0, none⟩ = some (.int .i64 0) ∧ w.cell? ⟨b, 1, none⟩ = some (.int .i64 0) ∧ w.cell? ⟨b, 2, none⟩ = some (.int .i64 0) ∧ w.cell? ⟨b, 3, none⟩ = some (.int .i64 0) ∧ w.cell? ⟨b, 4, none⟩ = some (.int .i64 0) ∧ w.cell? ⟨b, 5, none⟩ = some (.int .i64 0) ∧ w.cell? ⟨b, 6, none⟩ = some (.slice none 0 0)) (ht : TermsIs w (.slice za zn zc) zeroC.terms) :
    ∃ V, (((((((w.setCell ⟨b, 0, none⟩ (.int .i64 zeroC.kind)).setCell ⟨b, 1, none⟩ (.int .i64 zeroC.cost)).setCell ⟨b, 2, none⟩ (.int .i64 zeroC.power)).setCell ⟨b, 3, none⟩ (.int .i64 zeroC.tough)).setCell ⟨b, 4, none⟩ (.int .i64 zeroC.keys)).setCell ⟨b, 5, none⟩ (.int .i64 zeroC.whn)).setCell ⟨b, 6, none⟩ (.slice za zn zc)) = V ∧ BoxZ A V b za zn zc ∧ TermsIs V (.slice za zn zc) zeroC.terms := by
  refine ⟨_, rfl, ⟨h, ?_⟩, terms_nil ht (by simp [go_sem])⟩
  obtain ⟨c0, c1, c2, c3, c4, c5, c6⟩ := hz
  refine ⟨?_, ?_, ?_, ?_, ?_, ?_, ?_⟩ <;> simp [go_sem, c0, c1, c2, c3, c4, c5, c6]
theorem str_cat (l : List UInt8) (B : ByteArray) : ((⟨l.toArray⟩ : ByteArray) ++ B) = ⟨([] ++ (l ++ B.data.toList)).toArray⟩ := by
  apply ByteArray.ext
  apply Array.toList_inj.1
  simp

set_option maxRecDepth 100000 in
set_option maxHeartbeats 16000000 in
theorem cardPuts_not {c : CardL} (xa : Option Addr) (xc : Nat) (B : ByteArray) (cut : Int) (w : World) (ht : TermsIs w (.slice xa c.terms.length xc) c.terms) (hB : B.size ≤ 100)
    (hf : hfit c = true) (h4 : c.terms.length ≤ 4) (htf : c.terms.all tfit = true) (hm : mayB c = false) :
    Calls Try.prog 3 #[cagg c (.slice xa c.terms.length xc), .string B, .int .u8 cut] w (RetB w true) := by
  have hlen : c.terms.length ≤ 9223372036854775807 := by omega
  have HLEN := Lib.hid hlen
  have HT := Lib.hid ht
  have HF := Lib.hid hf
  have HL4 := Lib.hid h4
  have HTF := Lib.hid htf
  have e1 : decide ((30 : Int) < c.terms.length) = false := decide_eq_false (by omega)
  have e2 : decide ((100 : Int) < B.size) = false := decide_eq_false (by omega)
  have e3 : decide ((c.terms.length : Int) ≤ 4) = true := decide_eq_true (by omega)
  have e4 : decide (c.terms.length ≤ 4) = true := decide_eq_true h4
  have hp := cput_good hf h4 htf
  have hR := ReadsAt.of [] (cardBytes c) B.data.toList
  rw [← str_cat] at hR
  have hbl := cardBytes_len c
  obtain ⟨S0, hS0⟩ : ∃ S0 : ByteArray, (⟨(cardBytes c).toArray⟩ : ByteArray) = S0 := ⟨_, rfl⟩
  have hsz : S0.size = 7 + 3 * c.terms.length := by rw [← hS0]; show (cardBytes c).toArray.size = _; rw [List.size_toArray, hbl]
  rw [hS0] at hp hR
  have HS0 := Lib.hid hS0
  have HSZ := Lib.hid hsz
  have hs0 : S0.size ≤ 19 := by omega
  have hs1 : 7 ≤ S0.size := by omega
  have hSB : (S0 ++ B).size ≤ maxLen := by rw [ByteArray.size_append]; unfold maxLen; omega
  have HSB := Lib.hid hSB
  have HPUT := Lib.hid hp
  clear hp hS0 hsz hSB hbl hlen
  have hN : cnextAt (S0 ++ B) 0 = (zeroC, 0, 4) := by
    have h := errC (a := 0) hf h4 htf hR
    rw [hm] at h
    exact h
  have HN := Lib.hid hN
  have HM := Lib.hid hm
  have HZ := Lib.hid ((sameB_iff zeroC zeroC).2 rfl)
  clear ht hf htf hm hN hR h4
  unfold cagg
  go_enter Try.func3, Try.ntmps3
  go_wp2_with fail
  refine (awake2_any _).mono ?_
  rintro e w1 ⟨rfl, hb1⟩
  have HX1 := Lib.hid ((BoxC.new w c xa xc).later hb1)
  obtain ⟨_, k0, k1, k2, k3, k4, k5, k6⟩ := HX1.out
  clear hb1
  go_wp2
  go_region_held3 (fun w' => Below w.heap.size w w' ∧ w'.cell? ⟨w.heap.size, 0, none⟩ = some (.int .i64 c.kind) ∧ w'.cell? ⟨w.heap.size, 1, none⟩ = some (.int .i64 c.cost) ∧ w'.cell? ⟨w.heap.size, 2, none⟩ = some (.int .i64 c.power) ∧ w'.cell? ⟨w.heap.size, 3, none⟩ = some (.int .i64 c.tough) ∧ w'.cell? ⟨w.heap.size, 4, none⟩ = some (.int .i64 c.keys) ∧ w'.cell? ⟨w.heap.size, 5, none⟩ = some (.int .i64 c.whn) ∧ w'.cell? ⟨w.heap.size, 6, none⟩ = some (.slice xa c.terms.length xc))
    (first | assumption | exact HX1.out.later (Below.refl w1.heap.size w1).drew | exact keep7 (by assumption) (by assumption))
    (first
      | (go_at_call 9; refine (codec_any _).mono ?_; rintro e w2 ⟨r, rfl, hcod, hb2⟩)
      | (go_at_call 10; refine (put_c (by assumption) ⟨xa, _, xc, rfl, HT.out.later (And.left (by assumption))⟩ HLEN.out).mono ?_; rw [HPUT.out]; unfold ret2; rintro e w3 ⟨rfl, hb3⟩))
  have hX3 : BoxC w w3 w.heap.size c xa xc := by assumption
  have HX3 := Lib.hid hX3
  obtain ⟨_, k0, k1, k2, k3, k4, k5, k6⟩ := hX3
  clear hcod
  go_wp2_with fail
  refine (refFits_any ⟨xa, _, xc, rfl, HT.out.later HX3.out.1⟩ HLEN.out).mono ?_
  rw [HF.out, HTF.out]
  rintro e w4 ⟨rfl, hb4⟩
  have HX4 := Lib.hid (HX3.out.later hb4)
  obtain ⟨_, k0, k1, k2, k3, k4, k5, k6⟩ := HX4.out
  clear hb4
  go_wp2_with fail
  refine (refPut_any xa xc (HT.out.later HX4.out.1) HF.out HL4.out HTF.out).mono ?_
  rw [HS0.out]
  rintro e w5 ⟨rfl, hb5⟩
  have HX5 := Lib.hid (HX4.out.later hb5)
  obtain ⟨_, k0, k1, k2, k3, k4, k5, k6⟩ := HX5.out
  clear hb5
  go_wp2_with fail
  refine (codec_any _).mono ?_
  rintro e w6 ⟨r2, rfl, hcod, hb6⟩
  have HC6 := Lib.hid hcod
  have HX6 := Lib.hid (HX5.out.later hb6)
  clear hcod hb6
  go_wp2_with fail
  refine (next_c (S0 ++ B) 0 HC6.out HSB.out).mono ?_
  rw [HN.out]
  rintro e w7 ⟨x0, x1, x2, x3, x4, x5, ya, yn, yc, rfl, hq, hb7⟩
  have HX7 := Lib.hid (HX6.out.later hb7)
  obtain ⟨rfl, rfl, rfl, rfl, rfl, rfl, hty⟩ := hq
  have HTY := Lib.hid hty.is
  unfold Val_c
  have HX7b := Lib.hid (HX7.out.later (below_alloc1 w7 (.cells #[.int .i64 zeroC.kind, .int .i64 zeroC.cost, .int .i64 zeroC.power, .int .i64 zeroC.tough, .int .i64 zeroC.keys, .int .i64 zeroC.whn, .slice ya yn yc] 24)))
  obtain ⟨_, k0, k1, k2, k3, k4, k5, k6⟩ := HX7b.out
  clear hb7 hty
  go_wp2_with fail
  refine (refMay_any ⟨xa, _, xc, rfl, HT.out.later HX7b.out.1⟩ HLEN.out).mono ?_
  rw [HM.out]
  rintro e w8 ⟨rfl, hb8⟩
  have HX8 := Lib.hid (HX7b.out.later hb8)
  obtain ⟨y0, y1, y2, y3, y4, y5, y6⟩ := card_cells (c := zeroC) hb8
  have HTY8 := Lib.hid ((HTY.out.later (below_alloc1 w7 _)).later hb8)
  clear hb8
  go_wp2_with fail
  refine (refSame_any (a := zeroC) (b := zeroC) ⟨ya, yn, yc, rfl, HTY8.out⟩ (zero_is _) (by decide) (by decide)).mono ?_
  rw [HZ.out]
  rintro e w9 ⟨rfl, hb9⟩
  go_wp2
  go_ret
  exact ⟨rfl, stepB HX8.out.1 hb9⟩
end Go.Proofs.Ytekbdbcomfleeaa

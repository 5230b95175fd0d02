/- The law CardKinds (layer 2), walked: for every card that may be, of up to 30 terms, it returns true, and only new memory is made. -/
import Derived.Test.YtmmjhhfdloenbaaKd
import Derived.Deep.DeepCutAuto
namespace Go.Proofs.Ytmmjhhfdloenbaa
open Go.RowKit

def One (w W : World) (c : CardL) (v : Value) : Prop := Below w.heap.size w W ∧ Box7 W w.heap.size c v
theorem One.later {w W W' : World} {c : CardL} {v : Value} (h : One w W c v) (hb : Below W.heap.size W W') : One w W' c v := ⟨h.1.trans (hb.mono h.1.size), h.2.later hb⟩
theorem One.lt {w W : World} {c : CardL} {v : Value} (h : One w W c v) : w.heap.size < W.heap.size := World.block_lt_of_cell? _ _ h.2.1
def isK (i k : Int) : Bool := i == k
theorem isK_comm (i k : Int) : (k == i) = isK i k := by
  unfold isK
  by_cases h : i = k
  · subst h; rfl
  · rw [beq_eq_false_iff_ne.2 h, beq_eq_false_iff_ne.2 (Ne.symm h)]
theorem nums1_at {w : World} {a : Int} {b : Nat} (e : b = w.heap.size) : NumsAt (w.alloc (.cells #[.int .i64 a] 3)) (.slice (some ⟨b, 0, none⟩) 1 1) [a] := by
  rw [e]; exact nums1 w a
theorem nums1_drew {w : World} {a : Int} {b : Nat} (e : b = w.heap.size) : NumsAt (w.alloc (.cells #[.int .i64 a] 3)).drew (.slice (some ⟨b, 0, none⟩) 1 1) [a] := by
  rcases nums1_at (a := a) e with h | ⟨b', off, cap, h1, h2, h3⟩
  · exact .inl h
  · exact .inr ⟨b', off, cap, h1, h2, h3⟩
theorem is_one (i0 i1 i2 i3 i4 i5 k : Int) (xa : Option Addr) (xn xc : Nat) (v : Value) (w : World) (h : NumsAt w v [k]) :
    Calls Try.prog 49 #[.agg #[.int .i64 i0, .int .i64 i1, .int .i64 i2, .int .i64 i3, .int .i64 i4, .int .i64 i5, .slice xa xn xc], v] w (RetB w (isK i0 k)) :=
  (is_any ⟨i0, i1, i2, i3, i4, i5, []⟩ xa xn xc v [k] w (by simp) h).mono fun _ _ ⟨he, hw⟩ => ⟨by rw [he]; simp [isK, List.contains, List.elem]; cases h : (i0 == k) <;> rfl, hw⟩

theorem pair_new {w W : World} {c : CardL} {xa : Option Addr} {xn xc : Nat} (h : One w W c (.slice xa xn xc)) : One w ((W.alloc (.cells #[.int .i64 c.kind, .int .i64 c.cost, .int .i64 c.power, .int .i64 c.tough, .int .i64 c.keys, .int .i64 c.whn, .slice xa xn xc] 65)).alloc (.cells #[.int .i64 c.kind, .int .i64 c.cost, .int .i64 c.power, .int .i64 c.tough, .int .i64 c.keys, .int .i64 c.whn, .slice xa xn xc] 65)).drew c (.slice xa xn xc) ∧ Box7 ((W.alloc (.cells #[.int .i64 c.kind, .int .i64 c.cost, .int .i64 c.power, .int .i64 c.tough, .int .i64 c.keys, .int .i64 c.whn, .slice xa xn xc] 65)).alloc (.cells #[.int .i64 c.kind, .int .i64 c.cost, .int .i64 c.power, .int .i64 c.tough, .int .i64 c.keys, .int .i64 c.whn, .slice xa xn xc] 65)).drew W.heap.size c (.slice xa xn xc) ∧ Box7 ((W.alloc (.cells #[.int .i64 c.kind, .int .i64 c.cost, .int .i64 c.power, .int .i64 c.tough, .int .i64 c.keys, .int .i64 c.whn, .slice xa xn xc] 65)).alloc (.cells #[.int .i64 c.kind, .int .i64 c.cost, .int .i64 c.power, .int .i64 c.tough, .int .i64 c.keys, .int .i64 c.whn, .slice xa xn xc] 65)).drew (W.heap.size + 1) c (.slice xa xn xc) ∧
    ∀ b, (b = W.heap.size ∨ b = W.heap.size + 1) → ∀ j, ((W.alloc (.cells #[.int .i64 c.kind, .int .i64 c.cost, .int .i64 c.power, .int .i64 c.tough, .int .i64 c.keys, .int .i64 c.whn, .slice xa xn xc] 65)).alloc (.cells #[.int .i64 c.kind, .int .i64 c.cost, .int .i64 c.power, .int .i64 c.tough, .int .i64 c.keys, .int .i64 c.whn, .slice xa xn xc] 65)).drew.frozen? ⟨b, j, none⟩ = false := by
  refine ⟨(((h.later (below_alloc1 W (.cells #[.int .i64 c.kind, .int .i64 c.cost, .int .i64 c.power, .int .i64 c.tough, .int .i64 c.keys, .int .i64 c.whn, .slice xa xn xc] 65))).later (below_alloc1 _ (.cells #[.int .i64 c.kind, .int .i64 c.cost, .int .i64 c.power, .int .i64 c.tough, .int .i64 c.keys, .int .i64 c.whn, .slice xa xn xc] 65))).later ((Below.refl _ _).drew)), ((Box7.new W c xa xn xc).later (below_alloc1 _ _)).later ((Below.refl _ _).drew), ?_, ?_⟩
  · have := (Box7.new (W.alloc (.cells #[.int .i64 c.kind, .int .i64 c.cost, .int .i64 c.power, .int .i64 c.tough, .int .i64 c.keys, .int .i64 c.whn, .slice xa xn xc] 65)) c xa xn xc).later ((Below.refl _ _).drew)
    simpa using this
  · rintro b (rfl | rfl) j <;> simp [go_sem]

set_option maxRecDepth 100000 in
set_option maxHeartbeats 16000000 in
theorem cardKinds_at {c : CardL} (xa : Option Addr) (xc : Nat) (w : World) (ht : TermsIs w (.slice xa c.terms.length xc) c.terms) (h30 : c.terms.length ≤ 30) (hm : mayB c = true) :
    Calls Try.prog 10 #[cagg c (.slice xa c.terms.length xc)] w (RetB w true) := by
  have HT := Lib.hid ht
  have HLEN := Lib.hid (show c.terms.length ≤ 9223372036854775807 by omega)
  have HM := Lib.hid hm
  have H30 := Lib.hid h30
  have e1 : decide ((30 : Int) < c.terms.length) = false := decide_eq_false (by omega)
  clear ht hm h30
  unfold cagg
  go_enter Try.func10, Try.ntmps10
  go_wp2_with fail
  refine (awake2_any _).mono ?_
  rintro e w1 ⟨rfl, hb1⟩
  have HX1 := Lib.hid (show One w w1 c (.slice xa c.terms.length xc) from ⟨(below_new w _).trans (hb1.mono (by simp)), (Box7.new w c xa _ xc).later hb1⟩)
  clear hb1
  obtain ⟨_, i0, i1, i2, i3, i4, i5, i6⟩ := HX1.out
  go_wp2_with fail
  refine (check_any ⟨xa, _, xc, rfl, HT.out.later HX1.out.1⟩ HLEN.out).mono ?_
  rw [HM.out]
  rintro e w2 ⟨rfl, hb2⟩
  have HX2 := Lib.hid (HX1.out.later hb2)
  clear hb2 i0 i1 i2 i3 i4 i5 i6
  go_wp2
  go_loopw [3] (fun i wr => ∃ k : Nat, 1 ≤ k ∧ k ≤ 5 ∧ i = .int .i64 k ∧ Hid (One w wr c (.slice xa c.terms.length xc))) (fun i _ => 5 - (intOf i).toNat)
  case atStart => exact ⟨1, by omega, by omega, rfl, HX2⟩
  case round =>
    obtain ⟨k, hk1, hk5, rfl, HW⟩ := hrel
    by_cases hlt : k ≤ 4
    · obtain ⟨_, i0, i1, i2, i3, i4, i5, i6⟩ := HW.out
      have d0 : (k : Int) ≤ 4 := by omega
      have HLT := Lib.hid HW.out.lt
      have q2 : isK (k : Int) (k : Int) = true := by simp [isK]
      obtain ⟨bb, hbb⟩ : ∃ bb, isK c.kind (k : Int) = bb := ⟨_, rfl⟩
      have q3 : ((k : Int) == c.kind) = bb := by rw [← hbb]; exact isK_comm _ _
      go_wp2
      have HW3 := Lib.hid (show One w (wr.alloc (.cells #[.int .i64 (k : Int), .int .i64 c.cost, .int .i64 c.power, .int .i64 c.tough, .int .i64 c.keys, .int .i64 c.whn, .slice xa c.terms.length xc] 65)) c (.slice xa c.terms.length xc) from HW.out.later (below_alloc1 _ _))
      have HD3 := Lib.hid (show Box7 (wr.alloc (.cells #[.int .i64 (k : Int), .int .i64 c.cost, .int .i64 c.power, .int .i64 c.tough, .int .i64 c.keys, .int .i64 c.whn, .slice xa c.terms.length xc] 65)) wr.heap.size { c with kind := (k : Int) } (.slice xa c.terms.length xc) from Box7.new wr { c with kind := (k : Int) } xa _ xc)
      obtain ⟨_, i0, i1, i2, i3, i4, i5, i6⟩ := HW3.out
      obtain ⟨j0, j1, j2, j3, j4, j5, j6⟩ := HD3.out
      have HI := Lib.hid (show Below (wr.alloc (.cells #[.int .i64 (k : Int), .int .i64 c.cost, .int .i64 c.power, .int .i64 c.tough, .int .i64 c.keys, .int .i64 c.whn, .slice xa c.terms.length xc] 65)).heap.size (wr.alloc (.cells #[.int .i64 (k : Int), .int .i64 c.cost, .int .i64 c.power, .int .i64 c.tough, .int .i64 c.keys, .int .i64 c.whn, .slice xa c.terms.length xc] 65)) (wr.alloc (.cells #[.int .i64 (k : Int), .int .i64 c.cost, .int .i64 c.power, .int .i64 c.tough, .int .i64 c.keys, .int .i64 c.whn, .slice xa c.terms.length xc] 65)) ∧ (wr.alloc (.cells #[.int .i64 (k : Int), .int .i64 c.cost, .int .i64 c.power, .int .i64 c.tough, .int .i64 c.keys, .int .i64 c.whn, .slice xa c.terms.length xc] 65)).cell? ⟨w.heap.size, 0, none⟩ = some (.int .i64 c.kind) ∧ (wr.alloc (.cells #[.int .i64 (k : Int), .int .i64 c.cost, .int .i64 c.power, .int .i64 c.tough, .int .i64 c.keys, .int .i64 c.whn, .slice xa c.terms.length xc] 65)).cell? ⟨w.heap.size, 1, none⟩ = some (.int .i64 c.cost) ∧ (wr.alloc (.cells #[.int .i64 (k : Int), .int .i64 c.cost, .int .i64 c.power, .int .i64 c.tough, .int .i64 c.keys, .int .i64 c.whn, .slice xa c.terms.length xc] 65)).cell? ⟨w.heap.size, 2, none⟩ = some (.int .i64 c.power) ∧ (wr.alloc (.cells #[.int .i64 (k : Int), .int .i64 c.cost, .int .i64 c.power, .int .i64 c.tough, .int .i64 c.keys, .int .i64 c.whn, .slice xa c.terms.length xc] 65)).cell? ⟨w.heap.size, 3, none⟩ = some (.int .i64 c.tough) ∧ (wr.alloc (.cells #[.int .i64 (k : Int), .int .i64 c.cost, .int .i64 c.power, .int .i64 c.tough, .int .i64 c.keys, .int .i64 c.whn, .slice xa c.terms.length xc] 65)).cell? ⟨w.heap.size, 4, none⟩ = some (.int .i64 c.keys) ∧ (wr.alloc (.cells #[.int .i64 (k : Int), .int .i64 c.cost, .int .i64 c.power, .int .i64 c.tough, .int .i64 c.keys, .int .i64 c.whn, .slice xa c.terms.length xc] 65)).cell? ⟨w.heap.size, 5, none⟩ = some (.int .i64 c.whn) ∧ (wr.alloc (.cells #[.int .i64 (k : Int), .int .i64 c.cost, .int .i64 c.power, .int .i64 c.tough, .int .i64 c.keys, .int .i64 c.whn, .slice xa c.terms.length xc] 65)).cell? ⟨w.heap.size, 6, none⟩ = some (.slice xa c.terms.length xc) ∧ (wr.alloc (.cells #[.int .i64 (k : Int), .int .i64 c.cost, .int .i64 c.power, .int .i64 c.tough, .int .i64 c.keys, .int .i64 c.whn, .slice xa c.terms.length xc] 65)).cell? ⟨wr.heap.size, 0, none⟩ = some (.int .i64 (k : Int)) ∧ (wr.alloc (.cells #[.int .i64 (k : Int), .int .i64 c.cost, .int .i64 c.power, .int .i64 c.tough, .int .i64 c.keys, .int .i64 c.whn, .slice xa c.terms.length xc] 65)).cell? ⟨wr.heap.size, 1, none⟩ = some (.int .i64 c.cost) ∧ (wr.alloc (.cells #[.int .i64 (k : Int), .int .i64 c.cost, .int .i64 c.power, .int .i64 c.tough, .int .i64 c.keys, .int .i64 c.whn, .slice xa c.terms.length xc] 65)).cell? ⟨wr.heap.size, 2, none⟩ = some (.int .i64 c.power) ∧ (wr.alloc (.cells #[.int .i64 (k : Int), .int .i64 c.cost, .int .i64 c.power, .int .i64 c.tough, .int .i64 c.keys, .int .i64 c.whn, .slice xa c.terms.length xc] 65)).cell? ⟨wr.heap.size, 3, none⟩ = some (.int .i64 c.tough) ∧ (wr.alloc (.cells #[.int .i64 (k : Int), .int .i64 c.cost, .int .i64 c.power, .int .i64 c.tough, .int .i64 c.keys, .int .i64 c.whn, .slice xa c.terms.length xc] 65)).cell? ⟨wr.heap.size, 4, none⟩ = some (.int .i64 c.keys) ∧ (wr.alloc (.cells #[.int .i64 (k : Int), .int .i64 c.cost, .int .i64 c.power, .int .i64 c.tough, .int .i64 c.keys, .int .i64 c.whn, .slice xa c.terms.length xc] 65)).cell? ⟨wr.heap.size, 5, none⟩ = some (.int .i64 c.whn) ∧ (wr.alloc (.cells #[.int .i64 (k : Int), .int .i64 c.cost, .int .i64 c.power, .int .i64 c.tough, .int .i64 c.keys, .int .i64 c.whn, .slice xa c.terms.length xc] 65)).cell? ⟨wr.heap.size, 6, none⟩ = some (.slice xa c.terms.length xc) from ⟨Below.refl _ _, i0, i1, i2, i3, i4, i5, i6, j0, j1, j2, j3, j4, j5, j6⟩)
      go_cut [40] (fun s40 wx => s40 = .bool false ∧ Hid (Below (wr.alloc (.cells #[.int .i64 (k : Int), .int .i64 c.cost, .int .i64 c.power, .int .i64 c.tough, .int .i64 c.keys, .int .i64 c.whn, .slice xa c.terms.length xc] 65)).heap.size (wr.alloc (.cells #[.int .i64 (k : Int), .int .i64 c.cost, .int .i64 c.power, .int .i64 c.tough, .int .i64 c.keys, .int .i64 c.whn, .slice xa c.terms.length xc] 65)) wx))
      case first =>
        go_region_held3 (fun w' => Below (wr.alloc (.cells #[.int .i64 (k : Int), .int .i64 c.cost, .int .i64 c.power, .int .i64 c.tough, .int .i64 c.keys, .int .i64 c.whn, .slice xa c.terms.length xc] 65)).heap.size (wr.alloc (.cells #[.int .i64 (k : Int), .int .i64 c.cost, .int .i64 c.power, .int .i64 c.tough, .int .i64 c.keys, .int .i64 c.whn, .slice xa c.terms.length xc] 65)) w' ∧ w'.cell? ⟨w.heap.size, 0, none⟩ = some (.int .i64 c.kind) ∧ w'.cell? ⟨w.heap.size, 1, none⟩ = some (.int .i64 c.cost) ∧ w'.cell? ⟨w.heap.size, 2, none⟩ = some (.int .i64 c.power) ∧ w'.cell? ⟨w.heap.size, 3, none⟩ = some (.int .i64 c.tough) ∧ w'.cell? ⟨w.heap.size, 4, none⟩ = some (.int .i64 c.keys) ∧ w'.cell? ⟨w.heap.size, 5, none⟩ = some (.int .i64 c.whn) ∧ w'.cell? ⟨w.heap.size, 6, none⟩ = some (.slice xa c.terms.length xc) ∧ w'.cell? ⟨wr.heap.size, 0, none⟩ = some (.int .i64 (k : Int)) ∧ w'.cell? ⟨wr.heap.size, 1, none⟩ = some (.int .i64 c.cost) ∧ w'.cell? ⟨wr.heap.size, 2, none⟩ = some (.int .i64 c.power) ∧ w'.cell? ⟨wr.heap.size, 3, none⟩ = some (.int .i64 c.tough) ∧ w'.cell? ⟨wr.heap.size, 4, none⟩ = some (.int .i64 c.keys) ∧ w'.cell? ⟨wr.heap.size, 5, none⟩ = some (.int .i64 c.whn) ∧ w'.cell? ⟨wr.heap.size, 6, none⟩ = some (.slice xa c.terms.length xc))
          (first | with_reducible assumption | (with_reducible exact keep14 ((Below.refl _ _).drew) HI.out) | (with_reducible exact keep14 hbc (by assumption)) | (with_reducible exact keep14 (below_alloc1 _ _) (by assumption)) | (fail "keep"))
          (first
            | (go_at_call 49; refine (is_one _ _ _ _ _ _ _ _ _ _ _ _ (nums1_at (by simp))).mono ?_; rintro e wc ⟨rfl, hbc⟩)
            | (go_at_call 49; refine (is_one _ _ _ _ _ _ _ _ _ _ _ _ (nums1_drew (by simp))).mono ?_; rintro e wc ⟨rfl, hbc⟩)
            | (fail "arm"))
        have hB : Below (wr.alloc (.cells #[.int .i64 (k : Int), .int .i64 c.cost, .int .i64 c.power, .int .i64 c.tough, .int .i64 c.keys, .int .i64 c.whn, .slice xa c.terms.length xc] 65)).heap.size (wr.alloc (.cells #[.int .i64 (k : Int), .int .i64 c.cost, .int .i64 c.power, .int .i64 c.tough, .int .i64 c.keys, .int .i64 c.whn, .slice xa c.terms.length xc] 65)) wc := And.left (by assumption)
        have HB := Lib.hid hB
        clear hB hbc
        go_wp2_with fail
        go_meet
        exact ⟨by cases bb <;> rfl, HB⟩
      case rest =>
        obtain ⟨rfl, HB⟩ := hcut
        go_wp2
        go_roundw
        case rel => exact ⟨k + 1, by omega, by omega, by go_num, Lib.hid (HW3.out.later HB.out)⟩
        case measure => simp [intOf]; omega
    · obtain rfl : k = 5 := by omega
      have HX3 := HW
      clear HW hk1 hk5 hlt
      obtain ⟨_, i0, i1, i2, i3, i4, i5, i6⟩ := HX3.out
      go_upto_region 12 with fail
      go_cut [5, 6] (fun s5 s6 wx => ∃ b5 b6 : Nat, s5 = .pointer (some ⟨b5, 0, none⟩) ∧ s6 = .pointer (some ⟨b6, 0, none⟩) ∧ Hid (One w wx c (.slice xa c.terms.length xc) ∧ Box7 wx b5 c (.slice xa c.terms.length xc) ∧ Box7 wx b6 c (.slice xa c.terms.length xc) ∧ w.heap.size < b5 ∧ w.heap.size < b6 ∧ b5 ≠ b6 ∧ (∀ j, wx.frozen? ⟨b5, j, none⟩ = false) ∧ (∀ j, wx.frozen? ⟨b6, j, none⟩ = false)))
      case first =>
        have hlt := HX3.out.lt
        have n1 : ¬ w.heap.size = wr.heap.size := by omega
        have n2 : ¬ w.heap.size = wr.heap.size + 1 := by omega
        go_region
        all_goals
          go_wp2_with fail
          go_meet
        · obtain ⟨a1, a2, a3, a4⟩ := pair_new HX3.out
          exact ⟨_, _, rfl, rfl, Lib.hid ⟨a1, a2, a3, hlt, by omega, by omega, a4 _ (.inl rfl), a4 _ (.inr rfl)⟩⟩
        · obtain ⟨a1, a2, a3, a4⟩ := pair_new HX3.out
          exact ⟨_, _, rfl, rfl, Lib.hid ⟨a1, a3, a2, by omega, hlt, by omega, a4 _ (.inr rfl), a4 _ (.inl rfl)⟩⟩
      case rest =>
        obtain ⟨b5, b6, rfl, rfl, HP⟩ := hcut
        obtain ⟨_, h5, h6, hl5, hl6, hne, hf5, hf6⟩ := HP.out
        have f56 := hf5 6
        have f66 := hf6 6
        have k66 := h6.2.2.2.2.2.2
        have k56 := h5.2.2.2.2.2.2
        have g6 := HP.out.1.2.2.2.2.2.2.2
        have n1 : ¬ w.heap.size = b5 := by omega
        have n2 : ¬ b5 = w.heap.size := by omega
        have hb5 : b5 < wc.heap.size := World.block_lt_of_cell? _ _ k56
        have hb6 : b6 < wc.heap.size := World.block_lt_of_cell? _ _ k66
        have hbw : w.heap.size < wc.heap.size := HP.out.1.lt
        clear hf5 hf6 h5 h6
        have HQ13 := Lib.hid (show One w (wc.setCell ⟨b5, 6, none⟩ (.slice none 0 0)) c (.slice xa c.terms.length xc) from ⟨HP.out.1.1.setCell (by simp; omega) _, HP.out.1.2.far (by simp; omega) _⟩)
        have HB5 := Lib.hid (HP.out.2.1.put6 (.slice none 0 0))
        have HB6 := Lib.hid (HP.out.2.2.1.far (p := ⟨b5, 6, none⟩) (by exact hne) (.slice none 0 0))
        go_wp2_with (at_builtin; refine wpList_append_terms rfl _ _ rfl rfl wc.heap.size (.slice (some ⟨wc.heap.size, 0, none⟩) 0 0) 0 [] rfl (own_empty (by simp [World.setCell]) (Nat.le_refl _)) xa _ xc c.terms rfl rfl (HT.out.later (HQ13.out.1.trans ((below_new _ _).mono HQ13.out.1.size))) (by have := H30.out; omega) (by simp [World.setCell]) ?f)
        intro v1 w4 hown hgrow hat
        go_wp2_with (at_builtin; go_loud (refine wpList_append_terms rfl _ _ rfl rfl wc.heap.size v1 _ _ rfl (hown.alloc _) _ 2 2 twoKills rfl rfl (kills_is rfl _) (by have := H30.out; simp [twoKills]; omega) (by have := hgrow.size; simp [World.setCell] at this; simp; omega) ?g))
        intro v2 w5 hown2 hgrow2 hat2
        have hb4 : Below (wc.setCell ⟨b5, 6, none⟩ (.slice none 0 0)).heap.size (wc.setCell ⟨b5, 6, none⟩ (.slice none 0 0)) w4 := ((Below.refl _ _).alloc (Nat.le_refl _) _).grown hgrow (by simp) (fun k hk => by simp [Value.ownBlock] at hk; subst hk; simp [World.setCell])
        have hb5' : Below (wc.setCell ⟨b5, 6, none⟩ (.slice none 0 0)).heap.size (wc.setCell ⟨b5, 6, none⟩ (.slice none 0 0)) w5 := (hb4.alloc hb4.size _).grown hgrow2 (by have := hb4.size; simp at this ⊢; omega) (fun k hk => by have := (hown.lt k hk).1; simp [World.setCell]; omega)
        obtain ⟨n2, hn2⟩ : ∃ n2, c.terms.length + twoKills.length = n2 := ⟨_, rfl⟩
        rw [hn2] at hown2
        obtain ⟨g, cap, rfl, hgB, hglt⟩ := hown2.form (by rw [← hn2]; simp [twoKills])
        obtain ⟨hrow, _⟩ := rowC_of (l := c.terms ++ twoKills) hown2 (by simp [termsV_append]) (by rw [← hn2]; simp)
        have HN2 := Lib.hid hn2
        clear hn2
        have HBX := Lib.hid hb5'
        have HRW := Lib.hid (hrow.far (p := ⟨b6, 6, none⟩) (by simp; omega) (.slice (some ⟨g, 0, none⟩) n2 cap))
        have q66 := (HB6.out.later hb5').2.2.2.2.2.2
        have y66 : w5.frozen? ⟨b6, 6, none⟩ = false := by rw [hb5'.frozen (p := ⟨b6, 6, none⟩) (by simp [World.setCell]; omega)]; simpa using f66
        clear hown hown2 hgrow hgrow2 hat hat2 hb4 hb5' hrow k66 k56 f56 f66 g6
        have HW6 := Lib.hid (show Below (wc.setCell ⟨b5, 6, none⟩ (.slice none 0 0)).heap.size (wc.setCell ⟨b5, 6, none⟩ (.slice none 0 0)) w5 from HBX.out)
        have HX6 := Lib.hid (show One w (w5.setCell ⟨b6, 6, none⟩ (.slice (some ⟨g, 0, none⟩) n2 cap)) c (.slice xa c.terms.length xc) from ⟨(HQ13.out.later HBX.out).1.setCell (by simp; omega) _, (HQ13.out.later HBX.out).2.far (by simp; omega) _⟩)
        have HY5 := Lib.hid ((HB5.out.later HBX.out).far (p := ⟨b6, 6, none⟩) (by simp; omega) (.slice (some ⟨g, 0, none⟩) n2 cap))
        have HY6 := Lib.hid ((HB6.out.later HBX.out).put6 (.slice (some ⟨g, 0, none⟩) n2 cap))
        obtain ⟨V, hV⟩ : ∃ V, w5.setCell ⟨b6, 6, none⟩ (.slice (some ⟨g, 0, none⟩) n2 cap) = V := ⟨_, rfl⟩
        rw [hV] at HX6 HY5 HY6 HRW
        have HNM := Lib.hid (show mayB { c with terms := c.terms ++ twoKills } = false from may_no_more c)
        have HTK := Lib.hid (show TermsIs V (.slice (some ⟨g, 0, none⟩) n2 cap) (c.terms ++ twoKills) by
          have h := HRW.out.is (cap := cap)
          rwa [List.length_append, HN2.out] at h)
        have HLK := Lib.hid (show (c.terms ++ twoKills).length ≤ 9223372036854775807 by have := H30.out; simp [twoKills]; omega)
        obtain ⟨j0, j1, j2, j3, j4, j5, j6⟩ := HY6.out
        go_wp2_with fail
        refine (check_any (c := { c with terms := c.terms ++ twoKills }) ⟨some ⟨g, 0, none⟩, _, cap, rfl, HTK.out⟩ HLK.out).mono ?_
        rw [HNM.out]
        rintro e w7 ⟨rfl, hb7⟩
        have HX7 := Lib.hid (HX6.out.later hb7)
        have HY7 := Lib.hid (HY5.out.later hb7)
        clear hb7 hV j0 j1 j2 j3 j4 j5 j6 q66 y66
        obtain ⟨_, i0, i1, i2, i3, i4, i5, i6⟩ := HX7.out
        obtain ⟨j0, j1, j2, j3, j4, j5, j6⟩ := HY7.out
        have HI := Lib.hid (show Below w7.heap.size w7 w7 ∧ w7.cell? ⟨w.heap.size, 0, none⟩ = some (.int .i64 c.kind) ∧ w7.cell? ⟨w.heap.size, 1, none⟩ = some (.int .i64 c.cost) ∧ w7.cell? ⟨w.heap.size, 2, none⟩ = some (.int .i64 c.power) ∧ w7.cell? ⟨w.heap.size, 3, none⟩ = some (.int .i64 c.tough) ∧ w7.cell? ⟨w.heap.size, 4, none⟩ = some (.int .i64 c.keys) ∧ w7.cell? ⟨w.heap.size, 5, none⟩ = some (.int .i64 c.whn) ∧ w7.cell? ⟨w.heap.size, 6, none⟩ = some (.slice xa c.terms.length xc) ∧ w7.cell? ⟨b5, 0, none⟩ = some (.int .i64 c.kind) ∧ w7.cell? ⟨b5, 1, none⟩ = some (.int .i64 c.cost) ∧ w7.cell? ⟨b5, 2, none⟩ = some (.int .i64 c.power) ∧ w7.cell? ⟨b5, 3, none⟩ = some (.int .i64 c.tough) ∧ w7.cell? ⟨b5, 4, none⟩ = some (.int .i64 c.keys) ∧ w7.cell? ⟨b5, 5, none⟩ = some (.int .i64 c.whn) ∧ w7.cell? ⟨b5, 6, none⟩ = some (.slice none 0 0) from ⟨Below.refl _ _, i0, i1, i2, i3, i4, i5, i6, j0, j1, j2, j3, j4, j5, j6⟩)
        obtain ⟨E0, hE0⟩ : ∃ b, decide (c.terms.length = 0) = b := ⟨_, rfl⟩
        have HE := Lib.hid (show mayB { c with terms := [] } = E0 by rw [← hE0]; exact may_bare c HM.out)
        have hE1 : ((c.terms.length : Int) == 0) = E0 := by rw [← hE0, Bool.eq_iff_iff]; simp
        have hE2 : (cardE E0 == 0) = E0 := by cases E0 <;> rfl
        clear hE0
        have hEE : (E0 == E0) = true := by simp
        by_cases h0 : aimedAt c.terms = 0
        · have a0 : (aimedAt c.terms == 0) = true := by simp [h0]
          clear h0
          go_wp2
          first
          | go_region_with (first
              | (go_at_call 48; refine (check_any (c := { c with terms := [] }) ⟨none, 0, 0, rfl, .inl ⟨none, 0, rfl, rfl⟩⟩ (by simp)).mono ?_; rw [HE.out]; rintro e w8 ⟨rfl, hb8⟩; have HJ := Lib.hid (keep14 hb8 (keep14 ((Below.refl _ _).drew) HI.out)); obtain ⟨_, i0, i1, i2, i3, i4, i5, i6, j0, j1, j2, j3, j4, j5, j6⟩ := HJ.out)
              | (go_at_call 50; refine (aimed_any ⟨xa, _, xc, rfl, HT.out.later (HX7.out.1.trans (HJ.out.1.mono HX7.out.1.size))⟩ HLEN.out).mono ?_; rintro e w9 ⟨rfl, hb9⟩; have HJ := Lib.hid (keep14 hb9 HJ.out); obtain ⟨_, i0, i1, i2, i3, i4, i5, i6, j0, j1, j2, j3, j4, j5, j6⟩ := HJ.out))
          | fail "with"
          all_goals
            have hB := HX7.out.1.trans (HJ.out.1.mono HX7.out.1.size)
            go_wp2
            go_ret
            exact ⟨rfl, hB⟩
        · have a0 : (aimedAt c.terms == 0) = false := by simp [h0]
          rcases may_aimed c HM.out with h | h3 | ⟨h3, h4⟩
          · exact absurd h h0
          · have a1 : (c.kind == 3) = true := beq_iff_eq.2 h3
            clear h0 h3
            go_wp2
            first
            | go_region_with (first
                | (go_at_call 48; refine (check_any (c := { c with terms := [] }) ⟨none, 0, 0, rfl, .inl ⟨none, 0, rfl, rfl⟩⟩ (by simp)).mono ?_; rw [HE.out]; rintro e w8 ⟨rfl, hb8⟩; have HJ := Lib.hid (keep14 hb8 (keep14 ((Below.refl _ _).drew) HI.out)); obtain ⟨_, i0, i1, i2, i3, i4, i5, i6, j0, j1, j2, j3, j4, j5, j6⟩ := HJ.out)
                | (go_at_call 50; refine (aimed_any ⟨xa, _, xc, rfl, HT.out.later (HX7.out.1.trans (HJ.out.1.mono HX7.out.1.size))⟩ HLEN.out).mono ?_; rintro e w9 ⟨rfl, hb9⟩; have HJ := Lib.hid (keep14 hb9 HJ.out); obtain ⟨_, i0, i1, i2, i3, i4, i5, i6, j0, j1, j2, j3, j4, j5, j6⟩ := HJ.out))
            | fail "with"
            all_goals
              have hB := HX7.out.1.trans (HJ.out.1.mono HX7.out.1.size)
              go_wp2
              go_ret
              exact ⟨rfl, hB⟩
          · have a1 : (c.kind == 3) = false := beq_eq_false_iff_ne.2 h3
            have a2 : (c.whn == 1) = true := beq_iff_eq.2 h4
            clear h0 h3 h4
            go_wp2
            first
            | go_region_with (first
                | (go_at_call 48; refine (check_any (c := { c with terms := [] }) ⟨none, 0, 0, rfl, .inl ⟨none, 0, rfl, rfl⟩⟩ (by simp)).mono ?_; rw [HE.out]; rintro e w8 ⟨rfl, hb8⟩; have HJ := Lib.hid (keep14 hb8 (keep14 ((Below.refl _ _).drew) HI.out)); obtain ⟨_, i0, i1, i2, i3, i4, i5, i6, j0, j1, j2, j3, j4, j5, j6⟩ := HJ.out)
                | (go_at_call 50; refine (aimed_any ⟨xa, _, xc, rfl, HT.out.later (HX7.out.1.trans (HJ.out.1.mono HX7.out.1.size))⟩ HLEN.out).mono ?_; rintro e w9 ⟨rfl, hb9⟩; have HJ := Lib.hid (keep14 hb9 HJ.out); obtain ⟨_, i0, i1, i2, i3, i4, i5, i6, j0, j1, j2, j3, j4, j5, j6⟩ := HJ.out))
            | fail "with"
            all_goals
              have hB := HX7.out.1.trans (HJ.out.1.mono HX7.out.1.size)
              go_wp2
              go_ret
              exact ⟨rfl, hB⟩
end Go.Proofs.Ytmmjhhfdloenbaa

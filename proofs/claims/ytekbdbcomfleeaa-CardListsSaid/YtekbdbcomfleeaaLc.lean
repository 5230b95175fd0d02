/- The contracts of List at codecs of terms, and of Put and Next of what it answers (layers 1 and 2). -/
import Derived.Test.YtekbdbcomfleeaaNn
import Derived.Test.YtekbdbcomfleeaaPi
namespace Go.Proofs.Ytekbdbcomfleeaa
open Go.RowKit

def tP : Value := .func (.func 62) #[] #[]
def tN : Value := .func (.func 64) #[] #[]
def lAgg (p q : Nat) : Value := .agg #[.func (.func 57) #[] #[.pointer (some ⟨p, 0, none⟩), .pointer (some ⟨q, 0, none⟩)], .func (.func 59) #[] #[.pointer (some ⟨p, 0, none⟩), .pointer (some ⟨q, 0, none⟩)]]
/-- What the two functions of a codec of lists of terms hold. -/
def LHas (w : World) (p q : Nat) : Prop := w.cell? ⟨p, 0, none⟩ = some tP ∧ w.cell? ⟨p, 1, none⟩ = some tN ∧ w.cell? ⟨q, 0, none⟩ = some (.int .i64 (4 : Nat))
theorem LHas.later {w w' : World} {p q : Nat} (h : LHas w p q) (hb : Below w.heap.size w w') : LHas w' p q := ⟨cell_stays hb h.1, cell_stays hb h.2.1, cell_stays hb h.2.2⟩

set_option maxRecDepth 100000 in
set_option maxHeartbeats 800000 in
theorem make_l (f0 : Fn) (fi0 ca0 : Array Value) (f1 : Fn) (fi1 ca1 : Array Value) (w : World) :
    Calls Try.prog 56 #[.func f0 fi0 ca0, .func f1 fi1 ca1] w fun e w' => e = .returned (.agg #[.func f0 fi0 ca0, .func f1 fi1 ca1]) ∧ Below w.heap.size w w' := by
  have e1 := @eg_func
  have e2 := @eqp_l
  have e3 := @eqn_l
  go_enter Try.func56, Try.ntmps56
  go_wp2
  exact bodyPost_ret (by simp [results, Try.results56, go_sem]) rfl ⟨rfl, (Below.refl _ _).alloc (Nat.le_refl _) _⟩

set_option maxRecDepth 100000 in
set_option maxHeartbeats 800000 in
theorem list_t (w : World) : Calls Try.prog 26 #[tAgg, .int .i64 4] w fun e w' => e = .returned (lAgg w.heap.size (w.heap.size + 1)) ∧ LHas w' w.heap.size (w.heap.size + 1) ∧ Below w.heap.size w w' := by
  have hmf := @mk_func
  have e1 := @eg_func
  unfold tAgg lAgg
  go_enter Try.func26, Try.ntmps26
  go_wp2_with (first | (go_at_call 55; refine (none_t _ _ _ _ _).mono ?_; rintro e w' ⟨rfl, rfl⟩) | (go_at_call 56; refine (make_l _ _ _ _ _ _ _).mono ?_; rintro e w2 ⟨rfl, hb⟩; have hcells := bcell hb))
  have hz := hb.size
  simp at hz
  refine bodyPost_ret (by simp [results, Try.results26, go_sem, hcells, World.cell?_setCell_other]) rfl ⟨rfl, ⟨?_, ?_, ?_⟩, ?_⟩
  · rw [World.cell?_setCell_other _ _ _ _ (by simp), World.cell?_setCell_other _ _ _ _ (by simp), hcells.1 _ _ (by simp; omega)]
    simp [go_sem, tP]
  · rw [World.cell?_setCell_other _ _ _ _ (by simp), World.cell?_setCell_other _ _ _ _ (by simp), hcells.1 _ _ (by simp; omega)]
    simp [go_sem, tN]
  · rw [World.cell?_setCell_other _ _ _ _ (by simp), World.cell?_setCell_other _ _ _ _ (by simp), hcells.1 _ _ (by simp)]
    simp [go_sem]
    rfl
  · exact (((((((Below.refl _ _).alloc (Nat.le_refl _) _).alloc (by simp) _).alloc (by simp; omega) _).alloc (by simp; omega) _).trans (hb.mono (by simp; omega))).setCell (by simp; omega) _).setCell (by simp; omega) _

set_option maxRecDepth 100000 in
set_option maxHeartbeats 800000 in
theorem list1_t {p q : Nat} {v : Value} {l : List TermL} {w : World} (hh : LHas w p q) (h : TermsIs w v l) (hlen : l.length ≤ 9223372036854775807) :
    Calls Try.prog 57 #[v, .pointer (some ⟨p, 0, none⟩), .pointer (some ⟨q, 0, none⟩)] w fun e w' => e = ret2 (tlput l) ∧ Below w.heap.size w w' := by
  have HP := Lib.hid (putList_terms h hlen)
  obtain ⟨c1, c2, c3⟩ := hh
  unfold tP at c1
  unfold tN at c2
  clear h
  go_enter Try.func57, Try.ntmps57
  go_wp2_with fail
  refine HP.out.mono ?_
  rintro e w2 ⟨rfl, hb⟩
  unfold ret2
  go_wp2
  go_ret2
  exact ⟨rfl, hb⟩

set_option maxRecDepth 100000 in
set_option maxHeartbeats 800000 in
theorem list2_t {p q : Nat} (s : ByteArray) (a : Nat) {w : World} (hh : LHas w p q) (hs : s.size ≤ maxLen) (ha : a ≤ s.size) :
    Calls Try.prog 59 #[.string s, .int .i64 a, .pointer (some ⟨p, 0, none⟩), .pointer (some ⟨q, 0, none⟩)] w (Post_l w (rdTerms s (a + 1) (cntAt s a)) ((a : Int) + 1 + 3 * cntAt s a) (listE s a)) := by
  have HP := Lib.hid (nextList_t s a w hs ha)
  obtain ⟨c1, c2, c3⟩ := hh
  unfold tP at c1
  unfold tN at c2
  go_enter Try.func59, Try.ntmps59
  go_wp2_with fail
  refine HP.out.mono ?_
  rintro e w2 ⟨xa, xn, xc, m, rfl, hsl, hb⟩
  unfold Val_l
  have HSL := Lib.hid hsl
  clear hsl
  go_wp2
  go_ret3
  exact ⟨xa, xn, xc, m, rfl, HSL.out, hb⟩

theorem enters_lp : Enters 57 := fun _ _ => by kernel_rfl
theorem enters_ln : Enters 59 := fun _ _ => by kernel_rfl

theorem put_l {p q : Nat} {v : Value} {l : List TermL} {w : World} (hh : LHas w p q) (h : TermsIs w v l) (hlen : l.length ≤ 9223372036854775807) :
    Calls Try.prog 66 #[lAgg p q, v] w fun e w' => e = ret2 (tlput l) ∧ Below w.heap.size w w' := by
  have hn := nrm2_tlput l
  rw [← hn]
  exact putc_l 57 enters_lp #[] #[_, _] _ v (tlput l).1 (tlput l).2 w fun w1 h1 => list1_t (hh.later h1) (h.later h1) hlen

/-- What Next of the codec of lists of terms answers at any place. -/
def tlnextAt (s : ByteArray) (a : Int) : List TermL × Int × Int :=
  if 0 ≤ a ∧ a ≤ s.size then (if listE s a.toNat = 0 then (rdTerms s (a.toNat + 1) (cntAt s a.toNat), a + 1 + 3 * cntAt s a.toNat, 0) else ([], a, listE s a.toNat)) else ([], a, 1)
theorem next_l {p q : Nat} (s : ByteArray) (a : Int) {w : World} (hh : LHas w p q) (hs : s.size ≤ maxLen) :
    Calls Try.prog 67 #[lAgg p q, .string s, .int .i64 a] w (Ret_l w (tlnextAt s a).1 (tlnextAt s a).2.1 (tlnextAt s a).2.2) := by
  unfold tlnextAt
  by_cases ha : 0 ≤ a ∧ a ≤ s.size
  · rw [if_pos ha]
    obtain ⟨n, rfl⟩ := Int.eq_ofNat_of_zero_le ha.1
    have hn : n ≤ s.size := by omega
    rw [Int.toNat_natCast]
    by_cases h : listE s n = 0
    · rw [if_pos h]
      exact nexty_l 59 enters_ln #[] #[_, _] _ _ _ s n _ _ w hn hs fun w1 h1 => by have := list2_t s n (hh.later h1) hs hn; rw [h] at this; exact this
    · rw [if_neg h]
      exact nextn_l 59 enters_ln #[] #[_, _] _ _ _ s n _ _ _ h w hn hs fun w1 h1 => list2_t s n (hh.later h1) hs hn
  · rw [if_neg ha]
    exact nextb_l _ _ _ _ s a w (by omega) hs
end Go.Proofs.Ytekbdbcomfleeaa

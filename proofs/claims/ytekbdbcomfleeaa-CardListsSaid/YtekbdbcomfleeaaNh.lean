/- Plain facts for the law CardLists (layer 2): boxes; joined bytes; what a result in a cell reads. -/
import Derived.Test.YtekbdbcomfleeaaNg
import Derived.Test.YtekbdbcomfleeaaRs
import Derived.Test.YtekbdbcomfleeaaRn
import Derived.RangeFuncLeaves
namespace Go.Proofs.Ytekbdbcomfleeaa
open Go.RowKit

/-- Marks that nobody deferred anything at. -/
def MarksAt (W : World) (Ds : List Nat) : Prop := ∀ D ∈ Ds, W.heap[D]? = some (.deferred (some []))
theorem MarksAt.lt {W : World} {Ds : List Nat} (h : MarksAt W Ds) {D : Nat} (hD : D ∈ Ds) : D < W.heap.size := (Array.getElem?_eq_some_iff.1 (h D hD)).1
theorem MarksAt.others {W W' : World} {Ds : List Nat} (h : MarksAt W Ds) (hk : KeepsOthers W W') : MarksAt W' Ds := fun D hD => hk.same D _ (h D hD) rfl
theorem others_below {W W' : World} (h : Below W.heap.size W W') : KeepsOthers W W' := ⟨h.size, fun k _ hk _ => (h.block k (Array.getElem?_eq_some_iff.1 hk).1).trans hk⟩
theorem marks_own {β : Type} {B : Nat} {Ds : List Nat} (hB : ∀ D ∈ Ds, D < B) : OwnFrom B (fun (_ : β) W => MarksAt W Ds) := fun _ W W' row hs hg hr D hD =>
  (hg.block D (hs.lt hD) (fun e => by have := (hr D e.symm).1; have := hB D hD; omega)).trans (hs D hD)
theorem leaves_marks {F : Fence} {n : Nat} {P : Program} {fn : Func} {tmps : Array Value} {R : Ending → World → Prop} {B : Nat} : ∀ (Ds : List Nat) (W : World), Ds.Nodup → (∀ D ∈ Ds, B ≤ D) → MarksAt W Ds →
    (∀ W', Below B W W' → (∀ (j : Nat) (o : Obj), W.heap[j]? = some o → o.isCells = true → W'.heap[j]? = some o) → LeavesIn F n P fn tmps R [] .returning W') →
    LeavesInM F n P fn tmps R (Ds.map fun D => { target := .collected D, args := #[] }) .returning W
  | [], W, _, _, _, h => h W (Below.refl _ _) (fun _ _ h _ => h)
  | D :: Ds, W, hn, hB, hm, h => by
    have hD := hm D (by simp)
    have hlt := hm.lt (D := D) (by simp)
    have hBD := hB D (by simp)
    rw [List.nodup_cons] at hn
    refine ⟨by simp, .inl ⟨D, W.putObj D (.deferred none), rfl, run_takeDeferred hD, ?_⟩⟩
    refine leaves_marks Ds _ hn.2 (fun D' h' => hB D' (by simp [h'])) (fun D' h' => (World.putObj_heap_other (fun e => hn.1 (by rw [← e]; exact h'))).trans (hm D' (by simp [h']))) (fun W' hb hc => ?_)
    refine h W' ?_ ?_
    · have h1 : Below B W (W.putObj D (.deferred none)) := (Below.refl B W).grown (grownBy_putObj' W D (.deferred none)) (by omega) (fun k e => by cases e; exact hBD)
      exact h1.trans hb
    · intro j o hj ho
      refine hc j o ?_ ho
      refine (World.putObj_heap_other ?_).trans hj
      rintro rfl
      rw [hD] at hj
      cases hj
      cases ho
/-- A box with one value. -/
def HdAt (W : World) (b : Nat) (v : Value) : Prop := ∃ t, W.heap[b]? = some (.cells #[v] t (0, 0))
theorem HdAt.lt {W : World} {b : Nat} {v : Value} (h : HdAt W b v) : b < W.heap.size := by obtain ⟨t, h⟩ := h; exact (Array.getElem?_eq_some_iff.1 h).1
theorem HdAt.of {W W' : World} {b : Nat} {v : Value} (h : HdAt W b v) (he : W'.heap[b]? = W.heap[b]?) : HdAt W' b v := by obtain ⟨t, h⟩ := h; exact ⟨t, he.trans h⟩
theorem HdAt.later {W W' : World} {b : Nat} {v : Value} (h : HdAt W b v) (hb : Below W.heap.size W W') : HdAt W' b v := h.of (hb.block b h.lt)
theorem HdAt.cell {W : World} {b : Nat} {v : Value} (h : HdAt W b v) : W.cell? ⟨b, 0, none⟩ = some v := by obtain ⟨t, h⟩ := h; simp [World.cell?, h]
theorem HdAt.frozen {W : World} {b : Nat} {v : Value} (h : HdAt W b v) : W.frozen? ⟨b, 0, none⟩ = false := by obtain ⟨t, h⟩ := h; simp [World.frozen?, h]
theorem HdAt.new (W : World) (v : Value) (t : TypeId) : HdAt (W.alloc (.cells #[v] t)) W.heap.size v := ⟨t, World.alloc_heap_new W _⟩
theorem HdAt.set {W : World} {b : Nat} {v : Value} (h : HdAt W b v) (u : Value) : HdAt (W.setCell ⟨b, 0, none⟩ u) b u := by
  obtain ⟨t, h⟩ := h
  exact ⟨t, by simp [World.setCell, Array.getElem?_modify, h]⟩
theorem HdAt.other {W : World} {b c j : Nat} {v : Value} (h : HdAt W b v) (hne : b ≠ c) (u : Value) : HdAt (W.setCell ⟨c, j, none⟩ u) b v := h.of (heap_setCell_other W ⟨c, j, none⟩ b u hne)
theorem results_b4 {fn : Func} {tmps : Array Value} {W : World} {b : Nat} {v : Bool} (h : fn.results = #[.cell 4 4]) (ht : tmps.getD 4 undef = .pointer (some ⟨b, 0, none⟩)) (hc : HdAt W b (.bool v)) : (results fn tmps).run Try.prog W = .ok (.bool v) W := by
  have hc := hc.cell
  simp only [Array.getD_eq_getD_getElem?] at ht
  simp [results, h, go_sem, ht, hc]
theorem str_app (x y : List UInt8) : (⟨x.toArray⟩ : ByteArray) ++ ⟨y.toArray⟩ = ⟨(x ++ y).toArray⟩ := by
  apply ByteArray.ext
  simp [ByteArray.data_append]
theorem joined_succ (l : List CardL) (k : Nat) (hk : k < l.length) : joined (l.take (k + 1)) = joined (l.take k) ++ cardBytes l[k] := by
  unfold joined
  rw [List.take_succ_eq_append_getElem hk, List.flatMap_append]
  simp
theorem joined_le (l : List CardL) (h : ∀ c ∈ l, mayB c = true) : (joined l).length ≤ 19 * l.length := by
  induction l with
  | nil => simp [joined]
  | cons c l ih =>
    have h1 := ih (fun x hx => h x (by simp [hx]))
    obtain ⟨_, h4, _⟩ := may_fits (h c (by simp))
    have h2 : joined (c :: l) = cardBytes c ++ joined l := by simp [joined]
    rw [h2, List.length_append, cardBytes_len, List.length_cons]
    omega
theorem ext1 (u : UInt8) (x : List UInt8) : (⟨(u :: x).toArray⟩ : ByteArray).extract 1 (⟨(u :: x).toArray⟩ : ByteArray).size = ⟨x.toArray⟩ := by
  apply ByteArray.ext
  apply Array.toList_inj.1
  rw [ByteArray.data_extract]
  simp [ByteArray.size]
theorem hd_own {β : Type} {B b : Nat} {f : β → Value} (hB : b < B) : OwnFrom B (fun (s : β) W => HdAt W b (f s)) := fun _ _ _ _ hs hg hr => hs.of (hg.block b hs.lt (fun e => by have := (hr b e.symm).1; omega))
/-- What the law's rounds know: how many have been, its counter, all that lay there. -/
def ListI (w5 : World) (l : List CardL) (za : Option Addr) (zc : Nat) (pre : List ItemC) (W : World) : Prop :=
  pre.length ≤ l.length ∧ HdAt W (w5.heap.size + 1) (.int .i64 (pre.length : Int)) ∧ Below w5.heap.size w5 W ∧ HdAt W w5.heap.size (.slice za l.length zc)
def ListX (w5 : World) (l : List CardL) (c : Code) (_ : List ItemC) (W : World) : Prop := c = .exit 2 ∧ HdAt W (w5.heap.size + 1) (.int .i64 (l.length : Int)) ∧ Below w5.heap.size w5 W
theorem listI_own {B : Nat} {w5 : World} {l : List CardL} {za : Option Addr} {zc : Nat} (hB : w5.heap.size + 1 < B) : OwnFrom B (ListI w5 l za zc) :=
  (ownFrom_pure B _).and ((hd_own (f := fun (pre : List ItemC) => .int .i64 (pre.length : Int)) hB).and ((ownFrom_below (Nat.le_refl _) (by omega)).and (hd_own (f := fun _ => _) (by omega))))
theorem listX_own {B : Nat} {w5 : World} {l : List CardL} {c : Code} (hB : w5.heap.size + 1 < B) : OwnFrom B (ListX w5 l c) :=
  (ownFrom_pure B (fun _ => c = .exit 2)).and ((hd_own (f := fun _ => _) hB).and (ownFrom_below (Nat.le_refl _) (by omega)))
/-- Where a chain of cards stands in a string that begins with these cards. -/
theorem chain_off {s : ByteArray} {l : List CardL} (hm : ∀ c ∈ l, mayB c = true) (hr : ReadsAt s 0 (joined l)) : ∀ (pre : List ItemC) (j : Nat) (a : Int), chainC s (offB l j) pre a → j + pre.length ≤ l.length → a = offB l (j + pre.length)
  | [], j, a, h, _ => by obtain rfl : _ = _ := h; simp
  | x :: r, j, a, ⟨h0, _, h1⟩, hlen => by
    rw [List.length_cons] at hlen
    have hn := next_item (a := 0) hm hr j (by omega)
    rw [show ((0 : Nat) : Int) + offB l j = offB l j by omega, h0] at hn
    have e : x.2.1 = offB l (j + 1) := by have := congrArg (fun (r : CardL × Int × Int) => r.2.1) hn; simp at this; exact this
    rw [e] at h1
    have := chain_off hm hr r (j + 1) a h1 (by omega)
    rw [this, List.length_cons, show j + 1 + r.length = j + (r.length + 1) by omega]
end Go.Proofs.Ytekbdbcomfleeaa

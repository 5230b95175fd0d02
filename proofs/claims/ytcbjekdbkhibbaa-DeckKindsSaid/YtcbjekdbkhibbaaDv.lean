/- Marks that ranges over functions leave behind, and how a function leaves with several of them (layer 3). -/
import Derived.Test.YtcbjekdbkhibbaaDt
import Derived.Test.YtcbjekdbkhibbaaDq
import Derived.RangeFuncLeaves
namespace Go.Proofs.Ytcbjekdbkhibbaa
open Go.RowKit

/-- Marks that nobody deferred anything at. -/
def MarksAt (W : World) (Ds : List Nat) : Prop := ∀ D ∈ Ds, W.heap[D]? = some (.deferred (some []))
theorem MarksAt.lt {W : World} {Ds : List Nat} (h : MarksAt W Ds) {D : Nat} (hD : D ∈ Ds) : D < W.heap.size := (Array.getElem?_eq_some_iff.1 (h D hD)).1
theorem MarksAt.others {W W' : World} {Ds : List Nat} (h : MarksAt W Ds) (hk : KeepsOthers W W') : MarksAt W' Ds := fun D hD => hk.same D _ (h D hD) rfl
theorem others_below {W W' : World} (h : Below W.heap.size W W') : KeepsOthers W W' := ⟨h.size, fun k _ hk _ => (h.block k (Array.getElem?_eq_some_iff.1 hk).1).trans hk⟩
theorem marks_own {β : Type} {B : Nat} {Ds : List Nat} (hB : ∀ D ∈ Ds, D < B) : OwnFrom B (fun (_ : β) W => MarksAt W Ds) := fun _ W W' row hs hg hr D hD =>
  (hg.block D (hs.lt hD) (fun e => by have := (hr D e.symm).1; have := hB D hD; omega)).trans (hs D hD)
theorem leaves_marks {F : Fence} {n : Nat} {P : Program} {fn : Func} {tmps : Array Value} {R : Ending → World → Prop} {B : Nat} : ∀ (Ds : List Nat) (W : World), Ds.Nodup → (∀ D ∈ Ds, B ≤ D) → MarksAt W Ds →
    (∀ W', Below B W W' → (∀ (j : Nat) (o : Obj), W.heap[j]? = some o → o.isCells = true → W'.heap[j]? = some o) → LeavesIn F n P fn tmps R [] .returning W') →
    LeavesInM F n P fn tmps R (Ds.map fun D => { target := .collected D, args := #[] }) .returning W
  | [], W, _, _, _, h => h W (Below.refl _ _) (fun _ _ h _ => h)
  | D :: Ds, W, hn, hB, hm, h => by
    have hD := hm D (by simp)
    have hlt := hm.lt (D := D) (by simp)
    have hBD := hB D (by simp)
    rw [List.nodup_cons] at hn
    refine ⟨by simp, .inl ⟨D, W.putObj D (.deferred none), rfl, run_takeDeferred hD, ?_⟩⟩
    refine leaves_marks Ds _ hn.2 (fun D' h' => hB D' (by simp [h'])) (fun D' h' => (World.putObj_heap_other (fun e => hn.1 (by rw [← e]; exact h'))).trans (hm D' (by simp [h']))) (fun W' hb hc => ?_)
    refine h W' ?_ ?_
    · have h1 : Below B W (W.putObj D (.deferred none)) := (Below.refl B W).grown (grownBy_putObj' W D (.deferred none)) (by omega) (fun k e => by cases e; exact hBD)
      exact h1.trans hb
    · intro j o hj ho
      refine hc j o ?_ ho
      refine (World.putObj_heap_other ?_).trans hj
      rintro rfl
      rw [hD] at hj
      cases hj
      cases ho
/-- A list of all kinds together has just the numbers that are the table's. -/
theorem kinds_sum (t : List CardL) (ht : t.all mayB = true) : ∀ l : List Int, (ofL t [1] l).length + (ofL t [2] l).length + (ofL t [3] l).length + (ofL t [4] l).length = (l.filter (inT t.length)).length
  | [] => rfl
  | x :: l => by
    have ih := kinds_sum t ht l
    unfold ofL at ih ⊢
    cases hx : inT t.length x
    · have h0 : ∀ ks, ofB t ks x = false := fun ks => by unfold ofB; rw [hx]; rfl
      simp only [List.filter_cons, h0, hx]
      simpa using ih
    · have hk := kind_in ht hx
      have h1 : ∀ k, ofB t [k] x = (kindAt t x == k) := fun k => by unfold ofB; rw [hx, Bool.true_and, Bool.eq_iff_iff]; simp
      simp only [List.filter_cons, h1, hx]
      have : kindAt t x = 1 ∨ kindAt t x = 2 ∨ kindAt t x = 3 ∨ kindAt t x = 4 := by omega
      rcases this with e | e | e | e <;> simp [e] <;> omega
theorem of_none (t : List CardL) (l : List Int) : ofL t [] l = [] := by
  unfold ofL
  rw [List.filter_eq_nil_iff]
  intro x _
  unfold ofB
  simp
end Go.Proofs.Ytcbjekdbkhibbaa

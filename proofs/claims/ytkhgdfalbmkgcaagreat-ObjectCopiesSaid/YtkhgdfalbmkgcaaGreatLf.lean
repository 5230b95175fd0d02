/- Plain facts for ObjectGoes (layer 6): what is told of the Field, by numbers; what its loops hold. -/
import Derived.Test.YtkhgdfalbmkgcaaGreatLd
import Derived.RangeFuncRecord
import Derived.RangeFuncLeaves
namespace Go.Proofs.YtkhgdfalbmkgcaaGreat
open Go.RowKit Go.Maps

def fldIds (S : StoreL) (os : List Int) : List Int := (S.pl 0 3).filter fun i => ownB os (objOf S i)
theorem field_ids {S : StoreL} (h : WfS S) (hn : 1 ≤ S.seats) (os : List Int) : (fieldL S os).map (·.id) = fldIds S os := by
  unfold fieldL selO fldIds
  rw [List.filter_map, List.map_map]
  have e : ∀ (L : List Int), (∀ x ∈ L, (objOf S x).id = x) → (L.filter (ownB os ∘ objOf S)).map ((·.id) ∘ objOf S) = L.filter fun i => ownB os (objOf S i) := by
    intro L hL
    induction L with
    | nil => rfl
    | cons x L ih =>
      have ih := ih fun y hy => hL y (List.mem_cons_of_mem _ hy)
      have hx := hL x List.mem_cons_self
      simp only [List.filter_cons, Function.comp]
      split
      · rw [List.map_cons]
        simp only [Function.comp] at ih ⊢
        rw [ih, hx]
      · simpa only [Function.comp] using ih
  refine e _ fun x hx => ?_
  obtain ⟨k, hk, rfl, ho, _⟩ := h.onField hn hx
  rw [ho]
  exact (h.ids k hk).1
theorem fldIds_all (S : StoreL) : fldIds S [] = S.pl 0 3 := by
  unfold fldIds
  exact List.filter_eq_self.2 fun _ _ => rfl
theorem inL_field {S : StoreL} (hn : 1 ≤ S.seats) (s : Int) : inL S s 3 = S.pl 0 3 := by
  have hc : canS s 3 = 0 := if_pos (.inl rfl)
  have hk : okI S.seats 0 3 := ⟨by decide, by decide, by show okK _ 0 3; exact ⟨by omega, by decide, by decide, fun _ => rfl⟩⟩
  unfold inL
  rw [hc, if_pos hk]
  rfl
theorem fldIds_len (S : StoreL) (os : List Int) : (fldIds S os).length ≤ (S.pl 0 3).length := List.length_filter_le _ _
theorem filter_snocI (f : Int → Bool) (L : List Int) (x : Int) : (L ++ [x]).filter f = if f x then L.filter f ++ [x] else L.filter f := by
  rw [List.filter_append]
  cases h : f x <;> simp [h]
/-- What the range over all objects holds: how many there were. -/
def AllI (M q8 : Nat) (A Wr : World) (pre : List ObjL) (W : World) : Prop :=
  HdAt W q8 (.int .i64 pre.length) ∧ KpP (fun k => k = q8) (fun _ => False) Wr W ∧ Below A.heap.size A W ∧ pre.length ≤ M
theorem allI_own {M q8 B : Nat} {A Wr : World} (hA : A.heap.size ≤ B) (hB : Wr.heap.size ≤ B) : OwnFrom B (AllI M q8 A Wr) := by
  rintro s X Y row ⟨h1, h2, h3, h4⟩ hg hr
  exact ⟨h1.grown hg fun r e => (hr r e).2, kpP_own (β := Unit) hB () X Y row h2 hg hr, ownFrom_below (β := Unit) (Nat.le_refl _) hA () X Y row h3 hg hr, h4⟩
/-- Where it was left. -/
def AllX (M q8 : Nat) (A Wr : World) (c : Code) (ys : List ObjL) (W : World) : Prop :=
  c = .exit 0 ∧ HdAt W q8 (.int .i64 M) ∧ KpP (fun k => k = q8) (fun _ => False) Wr W ∧ Below A.heap.size A W ∧ M + 1 ≤ ys.length
theorem allX_own {M q8 B : Nat} {A Wr : World} (hA : A.heap.size ≤ B) (hB : Wr.heap.size ≤ B) (c : Code) : OwnFrom B (AllX M q8 A Wr c) := by
  rintro s X Y row ⟨h0, h1, h2, h3, h4⟩ hg hr
  exact ⟨h0, h1.grown hg fun r e => (hr r e).2, kpP_own (β := Unit) hB () X Y row h2 hg hr, ownFrom_below (β := Unit) (Nat.le_refl _) hA () X Y row h3 hg hr, h4⟩
/-- What the ranges over the Field hold: a list of numbers, in a box. -/
def IdsI (q : Nat) (A Wr : World) (pre : List ObjL) (W : World) : Prop :=
  ∃ v, ListIn W A.heap.size q v (pre.map (·.id)) ∧ KpP (fun _ => False) (fun k => k = q) Wr W ∧ Below A.heap.size A W ∧ pre.length ≤ 1000
theorem idsI_own {q B : Nat} {A Wr : World} (hA : A.heap.size ≤ B) (hB : Wr.heap.size ≤ B) : OwnFrom B (IdsI q A Wr) := by
  rintro s X Y row ⟨v, h1, h2, h3, h4⟩ hg hr
  exact ⟨v, h1.grown hg fun r e => (hr r e).2, kpP_own (β := Unit) hB () X Y row h2 hg hr, ownFrom_below (β := Unit) (Nat.le_refl _) hA () X Y row h3 hg hr, h4⟩
theorem kpP_setE {W : World} {l : Nat} (u : Value) : KpP (fun k => k = l) (fun _ => False) W (W.setCell ⟨l, 0, none⟩ u) :=
  ⟨by simp, fun k o ho hE _ => (heap_setCell_other W ⟨l, 0, none⟩ k u hE).trans ho, fun b v hb _ => hb.elim⟩
def MarksO (W : World) (Ds : List Nat) : Prop := ∀ D ∈ Ds, W.heap[D]? = some (.deferred (some []))
theorem MarksO.lt {W : World} {Ds : List Nat} (h : MarksO W Ds) {D : Nat} (hD : D ∈ Ds) : D < W.heap.size := (Array.getElem?_eq_some_iff.1 (h D hD)).1
theorem MarksO.others {W W' : World} {Ds : List Nat} (h : MarksO W Ds) (hk : KeepsOthers W W') : MarksO W' Ds := fun D hD => hk.same D _ (h D hD) rfl
theorem others_belowO {W W' : World} (h : Below W.heap.size W W') : KeepsOthers W W' := ⟨h.size, fun k _ hk _ => (h.block k (Array.getElem?_eq_some_iff.1 hk).1).trans hk⟩
theorem marks_ownO {β : Type} {B : Nat} {Ds : List Nat} (hB : ∀ D ∈ Ds, D < B) : OwnFrom B (fun (_ : β) W => MarksO W Ds) := fun _ W W' row hs hg hr D hD =>
  (hg.block D (hs.lt hD) (fun e => by have := (hr D e.symm).1; have := hB D hD; omega)).trans (hs D hD)
theorem leaves_marksO {F : Fence} {n : Nat} {P : Program} {fn : Func} {tmps : Array Value} {R : Ending → World → Prop} {B : Nat} : ∀ (Ds : List Nat) (W : World), Ds.Nodup → (∀ D ∈ Ds, B ≤ D) → MarksO W Ds →
    (∀ W', Below B W W' → (∀ (j : Nat) (o : Obj), W.heap[j]? = some o → o.isCells = true → W'.heap[j]? = some o) → LeavesIn F n P fn tmps R [] .returning W') →
    LeavesInM F n P fn tmps R (Ds.map fun D => { target := .collected D, args := #[] }) .returning W
  | [], W, _, _, _, h => h W (Below.refl _ _) (fun _ _ h _ => h)
  | D :: Ds, W, hn, hB, hm, h => by
    have hD := hm D (by simp)
    have hlt := hm.lt (D := D) (by simp)
    have hBD := hB D (by simp)
    rw [List.nodup_cons] at hn
    refine ⟨by simp, .inl ⟨D, W.putObj D (.deferred none), rfl, run_takeDeferred hD, ?_⟩⟩
    refine leaves_marksO Ds _ hn.2 (fun D' h' => hB D' (by simp [h'])) (fun D' h' => (World.putObj_heap_other (fun e => hn.1 (by rw [← e]; exact h'))).trans (hm D' (by simp [h']))) (fun W' hb hc => ?_)
    refine h W' ?_ ?_
    · have h1 : Below B W (W.putObj D (.deferred none)) := (Below.refl B W).grown (grownBy_putObj' W D (.deferred none)) (by omega) (fun k e => by cases e; exact hBD)
      exact h1.trans hb
    · intro j o hj ho
      refine hc j o ?_ ho
      refine (World.putObj_heap_other ?_).trans hj
      rintro rfl
      rw [hD] at hj
      cases hj
      cases ho

theorem list_newO (W : World) (lo : Nat) : ListIn (W.alloc (.cells #[.slice none 0 0] 53)) lo W.heap.size (.slice none 0 0) [] := ⟨World.alloc_heap_new W _, World.ownsRow_nil _ _ _ _⟩
theorem off_lO {W : World} {lf s k : Nat} {v : Value} {M : List Int} (hl : ListIn W lf s v M) (h2 : k ≠ s) (h4 : v.ownBlock ≠ some k) : Off (fun k => k = s) W k :=
  ⟨fun e => h2 e, fun c hc => by subst hc; exact ⟨v, hl.head, h4⟩⟩
theorem own_not_box {W : World} {lo s n : Nat} {v u : Value} {xs : List Value} (h : W.ownsRow lo 3 1 v n xs) (hb : W.heap[s]? = some (.cells #[u] 53 (0, 0))) : v.ownBlock ≠ some s := fun e => by
  rcases h.2 with ⟨rfl, _⟩ | ⟨g, cap, cur, rfl, _, hg, _⟩
  · cases e
  · have e : g = s := by injection e
    subst e
    rw [hg] at hb
    injection hb with hb
    injection hb with _ hb _
    exact absurd hb (by decide)
end Go.Proofs.YtkhgdfalbmkgcaaGreat

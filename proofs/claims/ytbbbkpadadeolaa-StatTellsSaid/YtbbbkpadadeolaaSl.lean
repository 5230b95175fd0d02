/- Plain facts for the law StatChanges (layer 8): blocks of the call's own that a store's changes leave; what was changed, as the document says. -/
import Derived.Test.YtbbbkpadadeolaaSi
import Derived.Test.YtbbbkpadadeolaaJx
import Derived.Test.YtbbbkpadadeolaaLc
import Derived.RangeFuncRecord
import Derived.RangeFuncLeaves
namespace Go.Proofs.Ytbbbkpadadeolaa
open Go.RowKit Go.Maps

/-- Blocks that are nobody's stay, whatever becomes of a store. -/
def Kept (W : World) (G : Ghost) (rows : List (Nat × Obj)) : Prop := ∀ p ∈ rows, W.heap[p.1]? = some p.2 ∧ G.tag p.1 = .no
theorem Kept.lt {W : World} {G : Ghost} {rows : List (Nat × Obj)} (h : Kept W G rows) {p : Nat × Obj} (hp : p ∈ rows) : p.1 < W.heap.size := (Array.getElem?_eq_some_iff.1 (h p hp).1).1
theorem Kept.later {W W' : World} {G : Ghost} {rows : List (Nat × Obj)} (h : Kept W G rows) (hb : Below W.heap.size W W') : Kept W' G rows := fun p hp => ⟨(hb.block _ (h.lt hp)).trans (h p hp).1, (h p hp).2⟩
theorem Kept.turn {W W' : World} {G G' : Ghost} {rows : List (Nat × Obj)} (h : Kept W G rows) (ht : Turned W W' G G') : Kept W' G' rows := fun p hp => ⟨(ht.chg.block _ (h.lt hp) (.inl (h p hp).2)).trans (h p hp).1, (ht.tag _ (h.lt hp)).trans (h p hp).2⟩
theorem Kept.cons {W : World} {G : Ghost} {rows : List (Nat × Obj)} {k : Nat} {o : Obj} (h : Kept W G rows) (h1 : W.heap[k]? = some o) (h2 : G.tag k = .no) : Kept W G ((k, o) :: rows) := fun p hp => by
  rcases List.mem_cons.1 hp with rfl | hp
  · exact ⟨h1, h2⟩
  · exact h p hp
theorem Kept.cell {W : World} {G : Ghost} {rows : List (Nat × Obj)} (h : Kept W G rows) {k j : Nat} {xs : Array Value} {t : TypeId} (hp : (k, Obj.cells xs t (0, 0)) ∈ rows) : W.cell? ⟨k, j, none⟩ = xs[j]? := cell_of_row _ _ _ _ _ (0, 0) (h _ hp).1
theorem Kept.head {W : World} {G : Ghost} {rows : List (Nat × Obj)} (h : Kept W G rows) {k : Nat} {v : Value} {t : TypeId} (hp : (k, Obj.cells #[v] t (0, 0)) ∈ rows) : HdAt W k v := ⟨t, (h _ hp).1⟩
theorem Kept.c0 {W : World} {G : Ghost} {r : List (Nat × Obj)} {k : Nat} {xs : Array Value} {t : TypeId} (h : Kept W G ((k, Obj.cells xs t (0, 0)) :: r)) (j : Nat) : W.cell? ⟨k, j, none⟩ = xs[j]? := h.cell (k := k) (xs := xs) (t := t) (by simp)
theorem Kept.c1 {W : World} {G : Ghost} {r : List (Nat × Obj)} {p0 : Nat × Obj} {k : Nat} {xs : Array Value} {t : TypeId} (h : Kept W G (p0 :: (k, Obj.cells xs t (0, 0)) :: r)) (j : Nat) : W.cell? ⟨k, j, none⟩ = xs[j]? := h.cell (k := k) (xs := xs) (t := t) (by simp)
theorem Kept.c2 {W : World} {G : Ghost} {r : List (Nat × Obj)} {p0 p1 : Nat × Obj} {k : Nat} {xs : Array Value} {t : TypeId} (h : Kept W G (p0 :: p1 :: (k, Obj.cells xs t (0, 0)) :: r)) (j : Nat) : W.cell? ⟨k, j, none⟩ = xs[j]? := h.cell (k := k) (xs := xs) (t := t) (by simp)
theorem Kept.h0 {W : World} {G : Ghost} {r : List (Nat × Obj)} {k : Nat} {v : Value} {t : TypeId} (h : Kept W G ((k, Obj.cells #[v] t (0, 0)) :: r)) : HdAt W k v := h.head (k := k) (v := v) (t := t) (by simp)
theorem Kept.h1 {W : World} {G : Ghost} {r : List (Nat × Obj)} {p0 : Nat × Obj} {k : Nat} {v : Value} {t : TypeId} (h : Kept W G (p0 :: (k, Obj.cells #[v] t (0, 0)) :: r)) : HdAt W k v := h.head (k := k) (v := v) (t := t) (by simp)
theorem Kept.h2 {W : World} {G : Ghost} {r : List (Nat × Obj)} {p0 p1 : Nat × Obj} {k : Nat} {v : Value} {t : TypeId} (h : Kept W G (p0 :: p1 :: (k, Obj.cells #[v] t (0, 0)) :: r)) : HdAt W k v := h.head (k := k) (v := v) (t := t) (by simp)
theorem apart_copyO {w w3 : World} {lo b b' : Nat} {G G' : Ghost} {S S' : StoreL} (h : StoreAt w lo b G S) (h' : StoreAt w3 w.heap.size b' G' S') : Apart G G' := fun k => by
  by_cases hk : k < w.heap.size
  · exact .inr (Classical.byContradiction fun hn => by have := h'.low k hn; omega)
  · exact .inl (h.high k (by omega))
theorem below_putO {A W : World} {D : Nat} {o : Obj} (o' : Obj) (h : Below A.heap.size A W) (hD : A.heap.size ≤ D) (ho : W.heap[D]? = some o) (hc : o.isCells = false) : Below A.heap.size A (W.putObj D o') :=
  OwnFrom.putObj (ownFrom_below (β := Unit) (n₀ := A.heap.size) (w₀ := A) (Nat.le_refl _) (Nat.le_refl _)) (s := ()) o' h hD ho hc
theorem results_b6 {fn : Func} {tmps : Array Value} {W : World} {b : Nat} {v : Bool} (h : fn.results = #[.cell 6 4]) (ht : tmps.getD 6 undef = .pointer (some ⟨b, 0, none⟩)) (hc : HdAt W b (.bool v)) : (results fn tmps).run Try.prog W = .ok (.bool v) W := by
  have hc := hc.cell
  simp only [Array.getD_eq_getD_getElem?] at ht
  simp [results, h, go_sem, ht, hc]
theorem kpP_setE {W : World} {l : Nat} (u : Value) : KpP (fun k => k = l) (fun _ => False) W (W.setCell ⟨l, 0, none⟩ u) :=
  ⟨by simp, fun k o ho hE _ => (heap_setCell_other W ⟨l, 0, none⟩ k u hE).trans ho, fun b v hb _ => hb.elim⟩
def MarksO (W : World) (Ds : List Nat) : Prop := ∀ D ∈ Ds, W.heap[D]? = some (.deferred (some []))
theorem MarksO.lt {W : World} {Ds : List Nat} (h : MarksO W Ds) {D : Nat} (hD : D ∈ Ds) : D < W.heap.size := (Array.getElem?_eq_some_iff.1 (h D hD)).1
theorem MarksO.others {W W' : World} {Ds : List Nat} (h : MarksO W Ds) (hk : KeepsOthers W W') : MarksO W' Ds := fun D hD => hk.same D _ (h D hD) rfl
theorem others_belowO {W W' : World} (h : Below W.heap.size W W') : KeepsOthers W W' := ⟨h.size, fun k _ hk _ => (h.block k (Array.getElem?_eq_some_iff.1 hk).1).trans hk⟩
theorem leaves_marksO {F : Fence} {n : Nat} {P : Program} {fn : Func} {tmps : Array Value} {R : Ending → World → Prop} {B : Nat} : ∀ (Ds : List Nat) (W : World), Ds.Nodup → (∀ D ∈ Ds, B ≤ D) → MarksO W Ds →
    (∀ W', Below B W W' → (∀ (j : Nat) (o : Obj), W.heap[j]? = some o → o.isCells = true → W'.heap[j]? = some o) → LeavesIn F n P fn tmps R [] .returning W') →
    LeavesInM F n P fn tmps R (Ds.map fun D => { target := .collected D, args := #[] }) .returning W
  | [], W, _, _, _, h => h W (Below.refl _ _) (fun _ _ h _ => h)
  | D :: Ds, W, hn, hB, hm, h => by
    have hD := hm D (by simp)
    have hlt := hm.lt (D := D) (by simp)
    have hBD := hB D (by simp)
    rw [List.nodup_cons] at hn
    refine ⟨by simp, .inl ⟨D, W.putObj D (.deferred none), rfl, run_takeDeferred hD, ?_⟩⟩
    refine leaves_marksO Ds _ hn.2 (fun D' h' => hB D' (by simp [h'])) (fun D' h' => (World.putObj_heap_other (fun e => hn.1 (by rw [← e]; exact h'))).trans (hm D' (by simp [h']))) (fun W' hb hc => ?_)
    refine h W' ?_ ?_
    · have h1 : Below B W (W.putObj D (.deferred none)) := (Below.refl B W).grown (grownBy_putObj' W D (.deferred none)) (by omega) (fun k e => by cases e; exact hBD)
      exact h1.trans hb
    · intro j o hj ho
      refine hc j o ?_ ho
      refine (World.putObj_heap_other ?_).trans hj
      rintro rfl
      rw [hD] at hj
      cases hj
      cases ho


/-- What was asked for: hurts, counters or boosts. -/
def chgS (m : Int) (S : StoreL) (i n : Int) : StoreL := if m = 0 then hurtS S i n else if m = 1 then countS S i n else boostS S i n
def chgO (m : Int) (o : ObjL) (n : Int) : ObjL := if m = 0 then hurtO o n else if m = 1 then countO o n else boostO o n
theorem chgS_not {S : StoreL} {i : Int} (m n : Int) (h : creE S i ≠ 0) : chgS m S i n = S := by
  unfold chgS hurtS countS boostS
  rw [if_neg h, if_neg h, if_neg h]
  split
  · rfl
  · split <;> rfl
theorem chgS_at {S : StoreL} {k : Nat} (m n : Int) (h : creE S ((k : Int) + 1) = 0) : chgS m S ((k : Int) + 1) n = setL S k (chgO m (objOf S ((k : Int) + 1)) n) := by
  unfold chgS chgO
  rw [hurtS_at n h, countS_at n h, boostS_at n h]
  split
  · rfl
  · split <;> rfl
theorem chgS_wf {S : StoreL} (h : WfS S) (m i n : Int) : WfS (chgS m S i n) := by
  unfold chgS
  split
  · exact hurtS_wf h i n
  · split
    · exact countS_wf h i n
    · exact boostS_wf h i n
theorem chgS_len (m : Int) (S : StoreL) (i n : Int) : (chgS m S i n).objs.length = S.objs.length := by
  unfold chgS
  split
  · exact hurtS_len S i n
  · split
    · exact countS_len S i n
    · exact boostS_len S i n
theorem chgO_same (m : Int) (o : ObjL) (n : Int) : (chgO m o n).id = o.id ∧ (chgO m o n).card = o.card ∧ (chgO m o n).owner = o.owner ∧ (chgO m o n).zone = o.zone := by
  unfold chgO
  split
  · exact ⟨rfl, rfl, rfl, rfl⟩
  · split <;> exact ⟨rfl, rfl, rfl, rfl⟩
theorem fadeL_fade (S : StoreL) : fadeL (fadeL S) = fadeL S := by
  have e : (fadeL (fadeL S)).objs = (fadeL S).objs := by
    unfold fadeL
    dsimp only
    rw [List.map_map]
    refine List.map_congr_left (fun o _ => ?_)
    show (if onF (if onF o then fadeO o else o) then fadeO (if onF o then fadeO o else o) else (if onF o then fadeO o else o)) = _
    by_cases h : onF o = true
    · rw [if_pos h, if_pos (show onF (fadeO o) = true from h)]
      rfl
    · rw [if_neg h, if_neg h]
  show ({ S with objs := (fadeL (fadeL S)).objs } : StoreL) = _
  rw [e]
  rfl
theorem fadeN_fade (S : StoreL) : fadeN (fadeL S) = 0 := by
  unfold fadeN
  rw [List.length_eq_zero_iff, List.filter_eq_nil_iff]
  intro o ho
  unfold fadeL at ho
  obtain ⟨x, _, rfl⟩ := List.mem_map.1 ho
  by_cases h : onF x = true
  · rw [if_pos h]
    simp [fadeO, woundO]
  · rw [if_neg h]
    simp [h]
/-- What the first range holds: how many had hurts or boosts. -/
def CntI (q8 : Nat) (A Wr : World) (pre : List ObjL) (W : World) : Prop :=
  HdAt W q8 (.int .i64 (pre.filter woundO).length) ∧ KpP (fun k => k = q8) (fun _ => False) Wr W ∧ Below A.heap.size A W ∧ pre.length ≤ 1000
theorem cntI_own {q8 B : Nat} {A Wr : World} (hA : A.heap.size ≤ B) (hB : Wr.heap.size ≤ B) : OwnFrom B (CntI q8 A Wr) := by
  rintro s X Y row ⟨h1, h2, h3, h4⟩ hg hr
  exact ⟨h1.grown hg fun r e => (hr r e).2, kpP_own (β := Unit) hB () X Y row h2 hg hr, ownFrom_below (β := Unit) (Nat.le_refl _) hA () X Y row h3 hg hr, h4⟩
theorem Kept.setN {W : World} {G : Ghost} {rows : List (Nat × Obj)} {g j : Nat} {u : Value} (h : Kept W G rows) (hg : ∀ p ∈ rows, p.1 < g) : Kept (W.setCell ⟨g, j, none⟩ u) G rows := fun p hp =>
  ⟨(heap_setCell_other W ⟨g, j, none⟩ p.1 u (fun e => by have := hg p hp; have e' : p.1 = g := e; omega)).trans (h p hp).1, (h p hp).2⟩
theorem Kept.to {W : World} {G H : Ghost} {rows : List (Nat × Obj)} (h : Kept W G rows) {W0 : World} (h0 : Kept W0 H rows) : Kept W H rows := fun p hp => ⟨(h p hp).1, (h0 p hp).2⟩
theorem kp_new {E : Nat → Prop} {W Wb We : World} {qz : Nat} (hq : W.heap.size = qz) (hkw : KpP E (fun _ => False) W Wb) (hsz : Wb.heap.size ≤ We.heap.size) (hk : ∀ k, k < Wb.heap.size → k ≠ qz → We.heap[k]? = Wb.heap[k]?) : KpP E (fun _ => False) W We :=
  ⟨Nat.le_trans hkw.size hsz, fun k o ho hE _ => by
    have h1 := hkw.rest k o ho hE (fun _ => ⟨fun e => e, fun _ e => e.elim⟩)
    have h2 := (Array.getElem?_eq_some_iff.1 ho).1
    exact (hk k (Array.getElem?_eq_some_iff.1 h1).1 (by omega)).trans h1, fun _ _ e => e.elim⟩
theorem keeps_new {B qz : Nat} {Wb We : World} (hsz : Wb.heap.size ≤ We.heap.size) (hk : ∀ k, k < Wb.heap.size → k ≠ qz → We.heap[k]? = Wb.heap[k]?) {C : Array Value} {t : TypeId} (hob : Wb.heap[qz]? = some (.cells C t (0, 0))) : KeepsFrom B Wb We :=
  ⟨hsz, fun k o _ ho hc => by
    refine (hk k (Array.getElem?_eq_some_iff.1 ho).1 (fun e => ?_)).trans ho
    rw [e, hob] at ho
    injection ho with ho
    rw [← ho] at hc
    simp [Obj.isCells] at hc⟩
end Go.Proofs.Ytbbbkpadadeolaa

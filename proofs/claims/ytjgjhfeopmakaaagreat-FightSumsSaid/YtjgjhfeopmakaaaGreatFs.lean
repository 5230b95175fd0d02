/- A range over a function: the iterator tells its rounds which item comes next (T), and the loop's function what the world is in which it ends; a round may leave by a return; what a round keeps (Kp) may speak of the loop's own record. (The guide's laws on such loops say none of these; the steps are theirs.) No program is named here. A range over a function whose rounds' first code makes new memory (a loop's variable in a box). No program is named here. What a round of a loop over a pile keeps; the iterator of All (layer 5), as far as its rounds go on, whatever they make of the pile. All, so and Where (layer 5): the iterator of Where hands those things to its rounds of which a function says so. What the law PileGoes (layer 5) holds: Copy, ranges over nothing, a box with a list that grows, the states of its loops. -/
import Derived.RangeFuncNested
import Derived.RangeFuncBound
import Derived.RangeFuncCalls
import Derived.RangeFuncLeaves
import Derived.RangeFuncBox
import Derived.RangeFuncWrites
import Derived.Shelf.Abstract
import Derived.WalkKit
import Derived.OwnWalkIn
import Derived.TacticsInMore
import Derived.LoopNIn
import Derived.LoopIn
import Derived.Test.YtjgjhfeopmakaaaGreatFh
namespace Go.Proofs.YtjgjhfeopmakaaaGreat
open Go.RowKit

variable {F : Fence} {n : Nat} {P : Program}

/-- An iterator that calls its rounds, each of which keeps Kp, with items that may come next, and ends knowing S (all have come) or Sp (a round has said 'no more') of the world in which it ends. -/
def SeqW {α : Type} (F : Fence) (n : Nat) (P : Program) (g : Nat) (lb : Array Value) (encs : α → Array Value) (Kp : Nat → World → World → Prop) (T : List α → α → Prop) (S Sp : List α → World → Prop) (w : World) : Prop :=
  ∀ (l : Nat) (J Jx : List α → World → Prop) (W : World), Below w.heap.size w W → w.heap.size ≤ l → l < W.heap.size → OwnFrom W.heap.size J → OwnFrom W.heap.size Jx →
    (∀ pre x W1, J pre W1 → T pre x → YieldAt F (n - 1) P l (encs x) W1 fun e W' =>
      (e = .returned (.bool true) ∧ J (pre ++ [x]) W' ∧ Kp l W1 W') ∨ (e = .returned (.bool false) ∧ Jx (pre ++ [x]) W' ∧ Kp l W1 W')) →
    J [] W →
    CallsIn F n P g (#[.func (.yield l) #[] #[]] ++ lb) W fun e W' => (∃ v, e = .returned v) ∧ ((∃ xs, S xs W' ∧ J xs W') ∨ (∃ pre, Sp pre W' ∧ Jx pre W'))

/-- How a round may be left: it goes on, it breaks out, or it returns. -/
def postW {α : Type} (B l : Nat) (Kp : Nat → World → World → Prop) (I : List α → World → Prop) (Ix : Code → List α → World → Prop) (xs : List α) (W : World) : Exit → Act → World → Prop
  | .normal, _, W' => KeepsFrom B W W' ∧ Kp l W W' ∧ I xs W'
  | .exit id, _, W' => KeepsFrom B W W' ∧ Kp l W W' ∧ Ix (.exit id) xs W'
  | .ret, _, W' => KeepsFrom B W W' ∧ Kp l W W' ∧ Ix .ret xs W'
  | _, _, _ => False

theorem range_world {α : Type} {g : Operand} {ps : Array Tmp} {assign body : Code} {Q : Exit → Act → World → Prop} {a : Act} {w : World}
    (hro : F.round = none) (h1 : 1 ≤ n) {gf : Nat} {lb : Array Value} (hg : a.eval g = .func (.func gf) #[] lb) (hFg : F.fn gf) (eg : ∀ args w, (callFunc gf args).run P w = .ok (.enter gf args) w)
    {encs : α → Array Value} {Kp : Nat → World → World → Prop} {T : List α → α → Prop} {S Sp : List α → World → Prop} {w0 : World} (hseq : SeqW F (n - 1) P gf lb encs Kp T S Sp w0)
    (hKt : ∀ {A B C : World}, Kp (w.heap.size + 1) A B → Kp (w.heap.size + 1) B C → Kp (w.heap.size + 1) A C) (hKb : ∀ (W : World) (o o' : Obj), W.heap[w.heap.size + 1]? = some o → o.isCells = false → o.isWalk = false → Kp (w.heap.size + 1) W (W.putObj (w.heap.size + 1) o')) (hb0 : Below w0.heap.size w0 w) (hps : ∀ x, (encs x).size = ps.size)
    (I : List α → World → Prop) (Ix : Code → List α → World → Prop) (hI : OwnFrom w.heap.size I) (hIx : ∀ c, OwnFrom w.heap.size (Ix c)) (hS : OwnFrom w.heap.size S) (hSp : OwnFrom w.heap.size Sp) (h0 : I [] w) (a₁ : α → Act)
    (hassign : ∀ (l : Nat) (x : α) (W : World) (K : Act → World → Prop), K (a₁ x) W →
      assign.wpIn (F.inRound l) (n - 1 - 1) P (Exit.then K (fun _ _ _ => False)) { tmps := (ps.zip (encs x)).foldl (fun t (p, v) => t.setIfInBounds p v) a.tmps, defers := [] } W)
    (hbody : ∀ (pre : List α) (x : α) (W : World), I pre W → T pre x → w.heap.size + 1 < W.heap.size → body.wpIn (F.inRound (w.heap.size + 1)) (n - 1 - 1) P (postW w.heap.size (w.heap.size + 1) Kp I Ix (pre ++ [x]) W) (a₁ x) W)
    (hdone : ∀ (D : Nat) (xs : List α) (W : World), w.heap.size ≤ D → S xs W → I xs W → W.heap[D]? = some (.deferred (some [])) → Q .normal { a with defers := { target := .collected D, args := #[] } :: a.defers } W)
    (hstop : ∀ (D : Nat) (c : Code) (pre : List α) (W : World), w.heap.size ≤ D → Sp pre W → Ix c pre W → W.heap[D]? = some (.deferred (some [])) → c.wpIn F n P Q { a with defers := { target := .collected D, args := #[] } :: a.defers } W) :
    (Code.rangeFunc g ps assign body).wpIn F n P Q a w := by
  refine wpIn_rangeFunc fun fn hfn => ?_
  rw [hro]
  -- the loop's record, as a function of its state and of the pending jump
  generalize hrec : (fun (st : LoopState) (pe : Option Code) => ({ state := st, pending := pe, fn, tmps := a.tmps, params := ps, assign, body, defers := w.heap.size } : Loop)) = rec
  have hrec' : ∀ st pe, rec st pe = ({ state := st, pending := pe, fn, tmps := a.tmps, params := ps, assign, body, defers := w.heap.size } : Loop) := fun st pe => by rw [← hrec]
  generalize hW1 : (w.alloc (.deferred (some []))).alloc (.loop (rec .ready none)) = W1
  have hloop : W1.heap[w.heap.size + 1]? = some (.loop (rec .ready none)) := by
    rw [← hW1]
    have h := World.alloc_heap_new (w.alloc (.deferred (some []))) (.loop (rec .ready none))
    rwa [World.size_alloc] at h
  have hdef : W1.heap[w.heap.size]? = some (.deferred (some [])) := by
    rw [← hW1]
    exact (Below.heap_alloc _ _ _ (by simp)).trans (World.alloc_heap_new w _)
  have hI1 : I [] W1 := by rw [← hW1]; exact hI.alloc _ (hI.alloc _ h0)
  have hsz1 : W1.heap.size = w.heap.size + 1 + 1 := by rw [← hW1]; simp
  have hb1 : Below w0.heap.size w0 W1 := by
    rw [← hW1]
    exact hb0.trans ((((Below.refl _ w).alloc (Nat.le_refl _) _).alloc (by simp) _).mono hb0.size)
  refine ⟨w.heap.size + 1, [{ target := .collected w.heap.size, args := #[] }], W1, { target := .fn (.func gf) lb, args := #[.func (.yield (w.heap.size + 1)) #[] #[]] }, W1, gf, #[.func (.yield (w.heap.size + 1)) #[] #[]] ++ lb, W1, ?_, ?_, ?_, ?_, fun _ => h1, ?_⟩
  · rw [← hW1, hrec']; exact run_enterLoop_outer _ _ _ _ _
  · simp only [resolve, hg]
    simp [go_sem]
  · intro f' hf'
    simp [Target.leads] at hf'
    subst hf'
    exact hFg
  · simp [invoke, go_sem, eg]
  refine (hseq (w.heap.size + 1)
    (fun pre W => I pre W ∧ W.heap[w.heap.size + 1]? = some (.loop (rec .ready none)) ∧ W.heap[w.heap.size]? = some (.deferred (some [])))
    (fun pre W => ∃ c, Ix c pre W ∧ W.heap[w.heap.size + 1]? = some (.loop (rec .done (some c))) ∧ W.heap[w.heap.size]? = some (.deferred (some [])))
    W1 hb1 (by have := hb0.size; omega) (by omega) ?_ ?_ ?_ ⟨hI1, hloop, hdef⟩).mono ?_
  · intro s A B row hs hgr hr
    have keep : ∀ k (o : Obj), k < W1.heap.size → A.heap[k]? = some o → B.heap[k]? = some o := fun k o hk ho => (hgr.block k (Array.getElem?_eq_some_iff.1 ho).1 (fun e => by have := (hr k e.symm).1; omega)).trans ho
    exact ⟨hI s A B row hs.1 hgr (fun r e => ⟨by have := (hr r e).1; omega, (hr r e).2⟩), keep _ _ (by omega) hs.2.1, keep _ _ (by omega) hs.2.2⟩
  · intro s A B row hs hgr hr
    obtain ⟨c, hc, hl, hk⟩ := hs
    have keep : ∀ k (o : Obj), k < W1.heap.size → A.heap[k]? = some o → B.heap[k]? = some o := fun k o hk ho => (hgr.block k (Array.getElem?_eq_some_iff.1 ho).1 (fun e => by have := (hr k e.symm).1; omega)).trans ho
    exact ⟨c, hIx c s A B row hc hgr (fun r e => ⟨by have := (hr r e).1; omega, (hr r e).2⟩), keep _ _ (by omega) hl, keep _ _ (by omega) hk⟩
  · -- one round
    rintro pre x W ⟨hi, hl, hk⟩ hlen
    have hlt : w.heap.size + 1 < W.heap.size := (Array.getElem?_eq_some_iff.1 hl).1
    have hy := run_yield (P := P) (args := encs x) hl (by rw [hrec']; exact hps x)
    rw [hrec'] at hy
    refine ⟨fn, _, assign, body, hy, roundIn_of_wpIn hfn (hassign _ x W _ ⟨_, run_beginRound hl (by rw [hrec']), ?_⟩)⟩
    generalize hWb : W.putObj (w.heap.size + 1) (.loop { rec .ready none with state := .busy }) = Wb
    have hl2 : Wb.heap[w.heap.size + 1]? = some (.loop { rec .ready none with state := .busy }) := by rw [← hWb]; exact World.putObj_heap_same hlt
    have hk2 : Wb.heap[w.heap.size]? = some (.deferred (some [])) := by rw [← hWb]; exact (World.putObj_heap_other (by omega)).trans hk
    have hw2 : Kp (w.heap.size + 1) W Wb := by rw [← hWb]; exact hKb _ _ _ hl rfl rfl
    have hib : I pre Wb := by rw [← hWb]; exact hI.putObj _ hi (by omega) hl rfl
    refine wpIn_mono (hbody pre x _ hib hlen (Array.getElem?_eq_some_iff.1 hl2).1) ?_
    rintro e a3 W3 hp
    have fin : ∀ (jump : Option Code), KeepsFrom w.heap.size Wb W3 →
        (Instr.endRound (w.heap.size + 1) jump).run P W3 = .ok (.bool jump.isNone) (W3.putObj (w.heap.size + 1) (.loop (rec (if jump.isNone then .ready else .done) jump))) ∧
        W3.heap[w.heap.size + 1]? = some (.loop { rec .ready none with state := .busy }) ∧
        (W3.putObj (w.heap.size + 1) (.loop (rec (if jump.isNone then .ready else .done) jump))).heap[w.heap.size + 1]? = some (.loop (rec (if jump.isNone then .ready else .done) jump)) ∧
        (W3.putObj (w.heap.size + 1) (.loop (rec (if jump.isNone then .ready else .done) jump))).heap[w.heap.size]? = some (.deferred (some [])) := fun jump hk3 => by
      have hl3 := hk3.same _ _ (by omega) hl2 rfl
      have hr := run_endRound (P := P) jump hl3
      rw [hrec'] at hr
      refine ⟨by rw [hrec']; exact hr, hl3, World.putObj_heap_same (Array.getElem?_eq_some_iff.1 hl3).1, (World.putObj_heap_other (by omega)).trans (hk3.same _ _ (Nat.le_refl _) hk2 rfl)⟩
    cases e with
    | normal =>
      obtain ⟨hk3, hkp3, hi3⟩ := hp
      obtain ⟨hr, hl3, hl4, hk4⟩ := fin none hk3
      exact ⟨_, _, hr, .inl ⟨rfl, ⟨hI.putObj _ hi3 (by omega) hl3 rfl, hl4, hk4⟩, hKt (hKt hw2 hkp3) (hKb _ _ _ hl3 rfl rfl)⟩⟩
    | exit id =>
      obtain ⟨hk3, hkp3, hi3⟩ := hp
      obtain ⟨hr, hl3, hl4, hk4⟩ := fin (some (.exit id)) hk3
      exact ⟨_, _, hr, .inr ⟨rfl, ⟨.exit id, (hIx _).putObj _ hi3 (by omega) hl3 rfl, hl4, hk4⟩, hKt (hKt hw2 hkp3) (hKb _ _ _ hl3 rfl rfl)⟩⟩
    | ret =>
      obtain ⟨hk3, hkp3, hi3⟩ := hp
      obtain ⟨hr, hl3, hl4, hk4⟩ := fin (some .ret) hk3
      exact ⟨_, _, hr, .inr ⟨rfl, ⟨.ret, (hIx _).putObj _ hi3 (by omega) hl3 rfl, hl4, hk4⟩, hKt (hKt hw2 hkp3) (hKb _ _ _ hl3 rfl rfl)⟩⟩
    | goto t => exact hp.elim
    | panic ch => exact hp.elim
    | outgrown => exact hp.elim
  · -- behind the iterator
    rintro e W2 ⟨⟨v, rfl⟩, hend⟩
    rcases hend with ⟨xs, hSx, hi, hl, hk⟩ | ⟨pre, hSx, c, hi, hl, hk⟩
    · have hr := run_endLoop (P := P) hl (by rw [hrec']; simp)
      refine ⟨none, _, by rw [hr, hrec'], hdone _ xs _ (Nat.le_refl _) (hS.putObj _ hSx (by omega) hl rfl) (hI.putObj _ hi (by omega) hl rfl) ((World.putObj_heap_other (by omega)).trans hk)⟩
    · have hr := run_endLoop (P := P) hl (by rw [hrec']; simp)
      refine ⟨some c, _, by rw [hr, hrec'], hstop _ c pre _ (Nat.le_refl _) (hSp.putObj _ hSx (by omega) hl rfl) ((hIx c).putObj _ hi (by omega) hl rfl) ((World.putObj_heap_other (by omega)).trans hk)⟩
/-- The same, where a round's first code and its body are walked at once. -/
theorem range_world2 {α : Type} {g : Operand} {ps : Array Tmp} {assign body : Code} {Q : Exit → Act → World → Prop} {a : Act} {w : World}
    (hro : F.round = none) (h1 : 1 ≤ n) {gf : Nat} {lb : Array Value} (hg : a.eval g = .func (.func gf) #[] lb) (hFg : F.fn gf) (eg : ∀ args w, (callFunc gf args).run P w = .ok (.enter gf args) w)
    {encs : α → Array Value} {Kp : Nat → World → World → Prop} {T : List α → α → Prop} {S Sp : List α → World → Prop} {w0 : World} (hseq : SeqW F (n - 1) P gf lb encs Kp T S Sp w0)
    (hKt : ∀ {A B C : World}, Kp (w.heap.size + 1) A B → Kp (w.heap.size + 1) B C → Kp (w.heap.size + 1) A C) (hKb : ∀ (W : World) (o o' : Obj), W.heap[w.heap.size + 1]? = some o → o.isCells = false → o.isWalk = false → Kp (w.heap.size + 1) W (W.putObj (w.heap.size + 1) o')) (hb0 : Below w0.heap.size w0 w) (hps : ∀ x, (encs x).size = ps.size)
    (I : List α → World → Prop) (Ix : Code → List α → World → Prop) (hI : OwnFrom w.heap.size I) (hIx : ∀ c, OwnFrom w.heap.size (Ix c)) (hS : OwnFrom w.heap.size S) (hSp : OwnFrom w.heap.size Sp) (h0 : I [] w)
    (hround : ∀ (pre : List α) (x : α) (W Wb : World) (K : Act → World → Prop), I pre Wb → T pre x → w.heap.size + 1 < Wb.heap.size → (∀ a1, body.wpIn (F.inRound (w.heap.size + 1)) (n - 1 - 1) P (postW w.heap.size (w.heap.size + 1) Kp I Ix (pre ++ [x]) Wb) a1 Wb → K a1 W) →
      assign.wpIn (F.inRound (w.heap.size + 1)) (n - 1 - 1) P (Exit.then K (fun _ _ _ => False)) { tmps := (ps.zip (encs x)).foldl (fun t (p, v) => t.setIfInBounds p v) a.tmps, defers := [] } W)
    (hdone : ∀ (D : Nat) (xs : List α) (W : World), w.heap.size ≤ D → S xs W → I xs W → W.heap[D]? = some (.deferred (some [])) → Q .normal { a with defers := { target := .collected D, args := #[] } :: a.defers } W)
    (hstop : ∀ (D : Nat) (c : Code) (pre : List α) (W : World), w.heap.size ≤ D → Sp pre W → Ix c pre W → W.heap[D]? = some (.deferred (some [])) → c.wpIn F n P Q { a with defers := { target := .collected D, args := #[] } :: a.defers } W) :
    (Code.rangeFunc g ps assign body).wpIn F n P Q a w := by
  refine wpIn_rangeFunc fun fn hfn => ?_
  rw [hro]
  -- the loop's record, as a function of its state and of the pending jump
  generalize hrec : (fun (st : LoopState) (pe : Option Code) => ({ state := st, pending := pe, fn, tmps := a.tmps, params := ps, assign, body, defers := w.heap.size } : Loop)) = rec
  have hrec' : ∀ st pe, rec st pe = ({ state := st, pending := pe, fn, tmps := a.tmps, params := ps, assign, body, defers := w.heap.size } : Loop) := fun st pe => by rw [← hrec]
  generalize hW1 : (w.alloc (.deferred (some []))).alloc (.loop (rec .ready none)) = W1
  have hloop : W1.heap[w.heap.size + 1]? = some (.loop (rec .ready none)) := by
    rw [← hW1]
    have h := World.alloc_heap_new (w.alloc (.deferred (some []))) (.loop (rec .ready none))
    rwa [World.size_alloc] at h
  have hdef : W1.heap[w.heap.size]? = some (.deferred (some [])) := by
    rw [← hW1]
    exact (Below.heap_alloc _ _ _ (by simp)).trans (World.alloc_heap_new w _)
  have hI1 : I [] W1 := by rw [← hW1]; exact hI.alloc _ (hI.alloc _ h0)
  have hsz1 : W1.heap.size = w.heap.size + 1 + 1 := by rw [← hW1]; simp
  have hb1 : Below w0.heap.size w0 W1 := by
    rw [← hW1]
    exact hb0.trans ((((Below.refl _ w).alloc (Nat.le_refl _) _).alloc (by simp) _).mono hb0.size)
  refine ⟨w.heap.size + 1, [{ target := .collected w.heap.size, args := #[] }], W1, { target := .fn (.func gf) lb, args := #[.func (.yield (w.heap.size + 1)) #[] #[]] }, W1, gf, #[.func (.yield (w.heap.size + 1)) #[] #[]] ++ lb, W1, ?_, ?_, ?_, ?_, fun _ => h1, ?_⟩
  · rw [← hW1, hrec']; exact run_enterLoop_outer _ _ _ _ _
  · simp only [resolve, hg]
    simp [go_sem]
  · intro f' hf'
    simp [Target.leads] at hf'
    subst hf'
    exact hFg
  · simp [invoke, go_sem, eg]
  refine (hseq (w.heap.size + 1)
    (fun pre W => I pre W ∧ W.heap[w.heap.size + 1]? = some (.loop (rec .ready none)) ∧ W.heap[w.heap.size]? = some (.deferred (some [])))
    (fun pre W => ∃ c, Ix c pre W ∧ W.heap[w.heap.size + 1]? = some (.loop (rec .done (some c))) ∧ W.heap[w.heap.size]? = some (.deferred (some [])))
    W1 hb1 (by have := hb0.size; omega) (by omega) ?_ ?_ ?_ ⟨hI1, hloop, hdef⟩).mono ?_
  · intro s A B row hs hgr hr
    have keep : ∀ k (o : Obj), k < W1.heap.size → A.heap[k]? = some o → B.heap[k]? = some o := fun k o hk ho => (hgr.block k (Array.getElem?_eq_some_iff.1 ho).1 (fun e => by have := (hr k e.symm).1; omega)).trans ho
    exact ⟨hI s A B row hs.1 hgr (fun r e => ⟨by have := (hr r e).1; omega, (hr r e).2⟩), keep _ _ (by omega) hs.2.1, keep _ _ (by omega) hs.2.2⟩
  · intro s A B row hs hgr hr
    obtain ⟨c, hc, hl, hk⟩ := hs
    have keep : ∀ k (o : Obj), k < W1.heap.size → A.heap[k]? = some o → B.heap[k]? = some o := fun k o hk ho => (hgr.block k (Array.getElem?_eq_some_iff.1 ho).1 (fun e => by have := (hr k e.symm).1; omega)).trans ho
    exact ⟨c, hIx c s A B row hc hgr (fun r e => ⟨by have := (hr r e).1; omega, (hr r e).2⟩), keep _ _ (by omega) hl, keep _ _ (by omega) hk⟩
  · -- one round
    rintro pre x W ⟨hi, hl, hk⟩ hlen
    have hlt : w.heap.size + 1 < W.heap.size := (Array.getElem?_eq_some_iff.1 hl).1
    have hy := run_yield (P := P) (args := encs x) hl (by rw [hrec']; exact hps x)
    rw [hrec'] at hy
    generalize hWb : W.putObj (w.heap.size + 1) (.loop { rec .ready none with state := .busy }) = Wb
    have hl2 : Wb.heap[w.heap.size + 1]? = some (.loop { rec .ready none with state := .busy }) := by rw [← hWb]; exact World.putObj_heap_same hlt
    have hk2 : Wb.heap[w.heap.size]? = some (.deferred (some [])) := by rw [← hWb]; exact (World.putObj_heap_other (by omega)).trans hk
    have hw2 : Kp (w.heap.size + 1) W Wb := by rw [← hWb]; exact hKb _ _ _ hl rfl rfl
    have hib : I pre Wb := by rw [← hWb]; exact hI.putObj _ hi (by omega) hl rfl
    refine ⟨fn, _, assign, body, hy, roundIn_of_wpIn hfn (hround pre x W Wb _ hib hlen (Array.getElem?_eq_some_iff.1 hl2).1 (fun a1 hbody => ⟨_, run_beginRound hl (by rw [hrec']), ?_⟩))⟩
    rw [hWb]
    refine wpIn_mono hbody ?_
    rintro e a3 W3 hp
    have fin : ∀ (jump : Option Code), KeepsFrom w.heap.size Wb W3 →
        (Instr.endRound (w.heap.size + 1) jump).run P W3 = .ok (.bool jump.isNone) (W3.putObj (w.heap.size + 1) (.loop (rec (if jump.isNone then .ready else .done) jump))) ∧
        W3.heap[w.heap.size + 1]? = some (.loop { rec .ready none with state := .busy }) ∧
        (W3.putObj (w.heap.size + 1) (.loop (rec (if jump.isNone then .ready else .done) jump))).heap[w.heap.size + 1]? = some (.loop (rec (if jump.isNone then .ready else .done) jump)) ∧
        (W3.putObj (w.heap.size + 1) (.loop (rec (if jump.isNone then .ready else .done) jump))).heap[w.heap.size]? = some (.deferred (some [])) := fun jump hk3 => by
      have hl3 := hk3.same _ _ (by omega) hl2 rfl
      have hr := run_endRound (P := P) jump hl3
      rw [hrec'] at hr
      refine ⟨by rw [hrec']; exact hr, hl3, World.putObj_heap_same (Array.getElem?_eq_some_iff.1 hl3).1, (World.putObj_heap_other (by omega)).trans (hk3.same _ _ (Nat.le_refl _) hk2 rfl)⟩
    cases e with
    | normal =>
      obtain ⟨hk3, hkp3, hi3⟩ := hp
      obtain ⟨hr, hl3, hl4, hk4⟩ := fin none hk3
      exact ⟨_, _, hr, .inl ⟨rfl, ⟨hI.putObj _ hi3 (by omega) hl3 rfl, hl4, hk4⟩, hKt (hKt hw2 hkp3) (hKb _ _ _ hl3 rfl rfl)⟩⟩
    | exit id =>
      obtain ⟨hk3, hkp3, hi3⟩ := hp
      obtain ⟨hr, hl3, hl4, hk4⟩ := fin (some (.exit id)) hk3
      exact ⟨_, _, hr, .inr ⟨rfl, ⟨.exit id, (hIx _).putObj _ hi3 (by omega) hl3 rfl, hl4, hk4⟩, hKt (hKt hw2 hkp3) (hKb _ _ _ hl3 rfl rfl)⟩⟩
    | ret =>
      obtain ⟨hk3, hkp3, hi3⟩ := hp
      obtain ⟨hr, hl3, hl4, hk4⟩ := fin (some .ret) hk3
      exact ⟨_, _, hr, .inr ⟨rfl, ⟨.ret, (hIx _).putObj _ hi3 (by omega) hl3 rfl, hl4, hk4⟩, hKt (hKt hw2 hkp3) (hKb _ _ _ hl3 rfl rfl)⟩⟩
    | goto t => exact hp.elim
    | panic ch => exact hp.elim
    | outgrown => exact hp.elim
  · -- behind the iterator
    rintro e W2 ⟨⟨v, rfl⟩, hend⟩
    rcases hend with ⟨xs, hSx, hi, hl, hk⟩ | ⟨pre, hSx, c, hi, hl, hk⟩
    · have hr := run_endLoop (P := P) hl (by rw [hrec']; simp)
      refine ⟨none, _, by rw [hr, hrec'], hdone _ xs _ (Nat.le_refl _) (hS.putObj _ hSx (by omega) hl rfl) (hI.putObj _ hi (by omega) hl rfl) ((World.putObj_heap_other (by omega)).trans hk)⟩
    · have hr := run_endLoop (P := P) hl (by rw [hrec']; simp)
      refine ⟨some c, _, by rw [hr, hrec'], hstop _ c pre _ (Nat.le_refl _) (hSp.putObj _ hSx (by omega) hl rfl) ((hIx c).putObj _ hi (by omega) hl rfl) ((World.putObj_heap_other (by omega)).trans hk)⟩
end Go.Proofs.YtjgjhfeopmakaaaGreat
namespace Go.Proofs.YtjgjhfeopmakaaaGreat
open Go.RowKit

variable {F : Fence} {n : Nat} {P : Program}

/-- How a round may be left: what it keeps is told from its very beginning on. -/
def postK {α : Type} (B l : Nat) (Kp : Nat → World → World → Prop) (I : List α → World → Prop) (Ix : Code → List α → World → Prop) (xs : List α) (W0 W : World) : Exit → Act → World → Prop
  | .normal, _, W' => KeepsFrom B W W' ∧ Kp l W0 W' ∧ I xs W'
  | .exit id, _, W' => KeepsFrom B W W' ∧ Kp l W0 W' ∧ Ix (.exit id) xs W'
  | .ret, _, W' => KeepsFrom B W W' ∧ Kp l W0 W' ∧ Ix .ret xs W'
  | _, _, _ => False
/-- The same, where a round's first code makes new memory. -/
theorem range_world3 {α : Type} {g : Operand} {ps : Array Tmp} {assign body : Code} {Q : Exit → Act → World → Prop} {a : Act} {w : World}
    (hro : F.round = none) (h1 : 1 ≤ n) {gf : Nat} {lb : Array Value} (hg : a.eval g = .func (.func gf) #[] lb) (hFg : F.fn gf) (eg : ∀ args w, (callFunc gf args).run P w = .ok (.enter gf args) w)
    {encs : α → Array Value} {Kp : Nat → World → World → Prop} {T : List α → α → Prop} {S Sp : List α → World → Prop} {w0 : World} (hseq : SeqW F (n - 1) P gf lb encs Kp T S Sp w0)
    (hKt : ∀ {A B C : World}, Kp (w.heap.size + 1) A B → Kp (w.heap.size + 1) B C → Kp (w.heap.size + 1) A C) (hKb : ∀ (W : World) (o o' : Obj), W.heap[w.heap.size + 1]? = some o → o.isCells = false → o.isWalk = false → Kp (w.heap.size + 1) W (W.putObj (w.heap.size + 1) o')) (hKa : ∀ (W W' : World), Below W.heap.size W W' → Kp (w.heap.size + 1) W W') (hb0 : Below w0.heap.size w0 w) (hps : ∀ x, (encs x).size = ps.size)
    (I : List α → World → Prop) (Ix : Code → List α → World → Prop) (hI : OwnFrom w.heap.size I) (hIx : ∀ c, OwnFrom w.heap.size (Ix c)) (hS : OwnFrom w.heap.size S) (hSp : OwnFrom w.heap.size Sp) (h0 : I [] w)
    (hround : ∀ (pre : List α) (x : α) (W : World) (K : Act → World → Prop), I pre W → T pre x → w.heap.size + 1 < W.heap.size →
      (∀ a1 (W1 : World), Below W.heap.size W W1 → (∀ Wb : World, Wb.heap.size = W1.heap.size → (∀ k, k ≠ w.heap.size + 1 → Wb.heap[k]? = W1.heap[k]?) → Kp (w.heap.size + 1) W Wb → I pre Wb → body.wpIn (F.inRound (w.heap.size + 1)) (n - 1 - 1) P (postK w.heap.size (w.heap.size + 1) Kp I Ix (pre ++ [x]) W Wb) a1 Wb) → K a1 W1) →
      assign.wpIn (F.inRound (w.heap.size + 1)) (n - 1 - 1) P (Exit.then K (fun _ _ _ => False)) { tmps := (ps.zip (encs x)).foldl (fun t (p, v) => t.setIfInBounds p v) a.tmps, defers := [] } W)
    (hdone : ∀ (D : Nat) (xs : List α) (W : World), w.heap.size ≤ D → S xs W → I xs W → W.heap[D]? = some (.deferred (some [])) → Q .normal { a with defers := { target := .collected D, args := #[] } :: a.defers } W)
    (hstop : ∀ (D : Nat) (c : Code) (pre : List α) (W : World), w.heap.size ≤ D → Sp pre W → Ix c pre W → W.heap[D]? = some (.deferred (some [])) → c.wpIn F n P Q { a with defers := { target := .collected D, args := #[] } :: a.defers } W) :
    (Code.rangeFunc g ps assign body).wpIn F n P Q a w := by
  refine wpIn_rangeFunc fun fn hfn => ?_
  rw [hro]
  -- the loop's record, as a function of its state and of the pending jump
  generalize hrec : (fun (st : LoopState) (pe : Option Code) => ({ state := st, pending := pe, fn, tmps := a.tmps, params := ps, assign, body, defers := w.heap.size } : Loop)) = rec
  have hrec' : ∀ st pe, rec st pe = ({ state := st, pending := pe, fn, tmps := a.tmps, params := ps, assign, body, defers := w.heap.size } : Loop) := fun st pe => by rw [← hrec]
  generalize hW1 : (w.alloc (.deferred (some []))).alloc (.loop (rec .ready none)) = W1
  have hloop : W1.heap[w.heap.size + 1]? = some (.loop (rec .ready none)) := by
    rw [← hW1]
    have h := World.alloc_heap_new (w.alloc (.deferred (some []))) (.loop (rec .ready none))
    rwa [World.size_alloc] at h
  have hdef : W1.heap[w.heap.size]? = some (.deferred (some [])) := by
    rw [← hW1]
    exact (Below.heap_alloc _ _ _ (by simp)).trans (World.alloc_heap_new w _)
  have hI1 : I [] W1 := by rw [← hW1]; exact hI.alloc _ (hI.alloc _ h0)
  have hsz1 : W1.heap.size = w.heap.size + 1 + 1 := by rw [← hW1]; simp
  have hb1 : Below w0.heap.size w0 W1 := by
    rw [← hW1]
    exact hb0.trans ((((Below.refl _ w).alloc (Nat.le_refl _) _).alloc (by simp) _).mono hb0.size)
  refine ⟨w.heap.size + 1, [{ target := .collected w.heap.size, args := #[] }], W1, { target := .fn (.func gf) lb, args := #[.func (.yield (w.heap.size + 1)) #[] #[]] }, W1, gf, #[.func (.yield (w.heap.size + 1)) #[] #[]] ++ lb, W1, ?_, ?_, ?_, ?_, fun _ => h1, ?_⟩
  · rw [← hW1, hrec']; exact run_enterLoop_outer _ _ _ _ _
  · simp only [resolve, hg]
    simp [go_sem]
  · intro f' hf'
    simp [Target.leads] at hf'
    subst hf'
    exact hFg
  · simp [invoke, go_sem, eg]
  refine (hseq (w.heap.size + 1)
    (fun pre W => I pre W ∧ W.heap[w.heap.size + 1]? = some (.loop (rec .ready none)) ∧ W.heap[w.heap.size]? = some (.deferred (some [])))
    (fun pre W => ∃ c, Ix c pre W ∧ W.heap[w.heap.size + 1]? = some (.loop (rec .done (some c))) ∧ W.heap[w.heap.size]? = some (.deferred (some [])))
    W1 hb1 (by have := hb0.size; omega) (by omega) ?_ ?_ ?_ ⟨hI1, hloop, hdef⟩).mono ?_
  · intro s A B row hs hgr hr
    have keep : ∀ k (o : Obj), k < W1.heap.size → A.heap[k]? = some o → B.heap[k]? = some o := fun k o hk ho => (hgr.block k (Array.getElem?_eq_some_iff.1 ho).1 (fun e => by have := (hr k e.symm).1; omega)).trans ho
    exact ⟨hI s A B row hs.1 hgr (fun r e => ⟨by have := (hr r e).1; omega, (hr r e).2⟩), keep _ _ (by omega) hs.2.1, keep _ _ (by omega) hs.2.2⟩
  · intro s A B row hs hgr hr
    obtain ⟨c, hc, hl, hk⟩ := hs
    have keep : ∀ k (o : Obj), k < W1.heap.size → A.heap[k]? = some o → B.heap[k]? = some o := fun k o hk ho => (hgr.block k (Array.getElem?_eq_some_iff.1 ho).1 (fun e => by have := (hr k e.symm).1; omega)).trans ho
    exact ⟨c, hIx c s A B row hc hgr (fun r e => ⟨by have := (hr r e).1; omega, (hr r e).2⟩), keep _ _ (by omega) hl, keep _ _ (by omega) hk⟩
  · -- one round
    rintro pre x W ⟨hi, hl, hk⟩ hlen
    have hlt : w.heap.size + 1 < W.heap.size := (Array.getElem?_eq_some_iff.1 hl).1
    have hy := run_yield (P := P) (args := encs x) hl (by rw [hrec']; exact hps x)
    rw [hrec'] at hy
    refine ⟨fn, _, assign, body, hy, roundIn_of_wpIn hfn (hround pre x W _ hi hlen hlt (fun a1 Wa hba hbody => ⟨_, run_beginRound ((hba.block _ hlt).trans hl) (by rw [hrec']), ?_⟩))⟩
    have hla := (hba.block _ hlt).trans hl
    have hka := (hba.block _ (show w.heap.size < W.heap.size by omega)).trans hk
    have hlta : w.heap.size + 1 < Wa.heap.size := Nat.lt_of_lt_of_le hlt hba.size
    generalize hWb : Wa.putObj (w.heap.size + 1) (.loop { rec .ready none with state := .busy }) = Wb
    have hl2 : Wb.heap[w.heap.size + 1]? = some (.loop { rec .ready none with state := .busy }) := by rw [← hWb]; exact World.putObj_heap_same hlta
    have hk2 : Wb.heap[w.heap.size]? = some (.deferred (some [])) := by rw [← hWb]; exact (World.putObj_heap_other (by omega)).trans hka
    have hw2 : Kp (w.heap.size + 1) W Wb := by rw [← hWb]; exact hKt (hKa _ _ hba) (hKb _ _ _ hla rfl rfl)
    have hib : I pre Wb := by rw [← hWb]; exact hI.putObj _ (hI _ W Wa none hi ⟨hba.os, hba.tape, hba.output, hba.size, fun k hk _ => hba.block k hk⟩ (fun r e => by cases e)) (by omega) hla rfl
    have hbb := hbody Wb (by rw [← hWb]; simp) (fun k hk => by rw [← hWb]; exact World.putObj_heap_other hk) hw2 hib
    refine wpIn_mono hbb ?_
    rintro e a3 W3 hp
    have fin : ∀ (jump : Option Code), KeepsFrom w.heap.size Wb W3 →
        (Instr.endRound (w.heap.size + 1) jump).run P W3 = .ok (.bool jump.isNone) (W3.putObj (w.heap.size + 1) (.loop (rec (if jump.isNone then .ready else .done) jump))) ∧
        W3.heap[w.heap.size + 1]? = some (.loop { rec .ready none with state := .busy }) ∧
        (W3.putObj (w.heap.size + 1) (.loop (rec (if jump.isNone then .ready else .done) jump))).heap[w.heap.size + 1]? = some (.loop (rec (if jump.isNone then .ready else .done) jump)) ∧
        (W3.putObj (w.heap.size + 1) (.loop (rec (if jump.isNone then .ready else .done) jump))).heap[w.heap.size]? = some (.deferred (some [])) := fun jump hk3 => by
      have hl3 := hk3.same _ _ (by omega) hl2 rfl
      have hr := run_endRound (P := P) jump hl3
      rw [hrec'] at hr
      refine ⟨by rw [hrec']; exact hr, hl3, World.putObj_heap_same (Array.getElem?_eq_some_iff.1 hl3).1, (World.putObj_heap_other (by omega)).trans (hk3.same _ _ (Nat.le_refl _) hk2 rfl)⟩
    cases e with
    | normal =>
      obtain ⟨hk3, hkp3, hi3⟩ := hp
      obtain ⟨hr, hl3, hl4, hk4⟩ := fin none hk3
      exact ⟨_, _, hr, .inl ⟨rfl, ⟨hI.putObj _ hi3 (by omega) hl3 rfl, hl4, hk4⟩, hKt hkp3 (hKb _ _ _ hl3 rfl rfl)⟩⟩
    | exit id =>
      obtain ⟨hk3, hkp3, hi3⟩ := hp
      obtain ⟨hr, hl3, hl4, hk4⟩ := fin (some (.exit id)) hk3
      exact ⟨_, _, hr, .inr ⟨rfl, ⟨.exit id, (hIx _).putObj _ hi3 (by omega) hl3 rfl, hl4, hk4⟩, hKt hkp3 (hKb _ _ _ hl3 rfl rfl)⟩⟩
    | ret =>
      obtain ⟨hk3, hkp3, hi3⟩ := hp
      obtain ⟨hr, hl3, hl4, hk4⟩ := fin (some .ret) hk3
      exact ⟨_, _, hr, .inr ⟨rfl, ⟨.ret, (hIx _).putObj _ hi3 (by omega) hl3 rfl, hl4, hk4⟩, hKt hkp3 (hKb _ _ _ hl3 rfl rfl)⟩⟩
    | goto t => exact hp.elim
    | panic ch => exact hp.elim
    | outgrown => exact hp.elim
  · -- behind the iterator
    rintro e W2 ⟨⟨v, rfl⟩, hend⟩
    rcases hend with ⟨xs, hSx, hi, hl, hk⟩ | ⟨pre, hSx, c, hi, hl, hk⟩
    · have hr := run_endLoop (P := P) hl (by rw [hrec']; simp)
      refine ⟨none, _, by rw [hr, hrec'], hdone _ xs _ (Nat.le_refl _) (hS.putObj _ hSx (by omega) hl rfl) (hI.putObj _ hi (by omega) hl rfl) ((World.putObj_heap_other (by omega)).trans hk)⟩
    · have hr := run_endLoop (P := P) hl (by rw [hrec']; simp)
      refine ⟨some c, _, by rw [hr, hrec'], hstop _ c pre _ (Nat.le_refl _) (hSp.putObj _ hSx (by omega) hl rfl) ((hIx c).putObj _ hi (by omega) hl rfl) ((World.putObj_heap_other (by omega)).trans hk)⟩
end Go.Proofs.YtjgjhfeopmakaaaGreat
namespace Go.Proofs.YtjgjhfeopmakaaaGreat
open Go.RowKit

/-- A box with one value. -/
def HdAt (W : World) (b : Nat) (v : Value) : Prop := ∃ t, W.heap[b]? = some (.cells #[v] t (0, 0))
theorem HdAt.lt {W : World} {b : Nat} {v : Value} (h : HdAt W b v) : b < W.heap.size := by obtain ⟨t, h⟩ := h; exact (Array.getElem?_eq_some_iff.1 h).1
theorem HdAt.one {W : World} {b : Nat} {v v' : Value} (h : HdAt W b v) (h' : HdAt W b v') : v = v' := by
  obtain ⟨t, h⟩ := h
  obtain ⟨t', h'⟩ := h'
  rw [h] at h'
  injection h' with h'
  injection h' with h' _ _
  injection h' with h'
  injection h' with h' _
theorem HdAt.of {W W' : World} {b : Nat} {v : Value} (h : HdAt W b v) (he : W'.heap[b]? = W.heap[b]?) : HdAt W' b v := by obtain ⟨t, h⟩ := h; exact ⟨t, he.trans h⟩
theorem HdAt.later {W W' : World} {b : Nat} {v : Value} (h : HdAt W b v) (hb : Below W.heap.size W W') : HdAt W' b v := h.of (hb.block b h.lt)
theorem HdAt.cell {W : World} {b : Nat} {v : Value} (h : HdAt W b v) : W.cell? ⟨b, 0, none⟩ = some v := by obtain ⟨t, h⟩ := h; rw [cell_of_row W b 0 _ _ _ h]; rfl
theorem HdAt.frozen {W : World} {b : Nat} {v : Value} (h : HdAt W b v) : W.frozen? ⟨b, 0, none⟩ = false := by obtain ⟨t, h⟩ := h; exact frozen_of_row W b 0 _ _ h
theorem HdAt.new (W : World) (v : Value) (t : TypeId) : HdAt (W.alloc (.cells #[v] t)) W.heap.size v := ⟨t, World.alloc_heap_new W _⟩
theorem HdAt.set {W : World} {b : Nat} {v : Value} (h : HdAt W b v) (u : Value) : HdAt (W.setCell ⟨b, 0, none⟩ u) b u := by
  obtain ⟨t, h⟩ := h
  exact ⟨t, by rw [heap_setCell_same W b 0 _ _ u h]; rfl⟩
theorem HdAt.other {W : World} {b c j : Nat} {v : Value} (h : HdAt W b v) (hne : b ≠ c) (u : Value) : HdAt (W.setCell ⟨c, j, none⟩ u) b v := h.of (heap_setCell_other W ⟨c, j, none⟩ b u hne)
theorem PileAt.head {W : World} {lo b : Nat} {g : Option Nat} {L : List Int} (h : PileAt W lo b g L) : ∃ v, HdAt W b v ∧ v.ownBlock = g := by obtain ⟨v, h1, h2, _⟩ := h; exact ⟨v, ⟨_, h1⟩, h2⟩
theorem newer_ne1 {w : World} {g g' : Option Nat} {k : Nat} (hn : Newer w g g') (hk : k < w.heap.size) (hg : g ≠ some k) : g' ≠ some k := by
  rcases hn with e | ⟨r, e, hr⟩
  · rw [e]; exact hg
  · rw [e]; intro e2; injection e2 with e2; omega
/-- A block that is none of the heads, nor of their rows. -/
def Off (H : Nat → Prop) (W : World) (k : Nat) : Prop := ¬H k ∧ ∀ b, H b → ∃ v, HdAt W b v ∧ v.ownBlock ≠ some k
/-- What a round keeps: all but the blocks E, the heads H and their rows (as they are read off the world). -/
structure KpP (E H : Nat → Prop) (W W' : World) : Prop where
  size : W.heap.size ≤ W'.heap.size
  rest : ∀ k o, W.heap[k]? = some o → ¬E k → (o.isCells = true → Off H W k) → W'.heap[k]? = some o
  head : ∀ b v, H b → HdAt W b v → ∃ v', HdAt W' b v' ∧ Newer W v.ownBlock v'.ownBlock
theorem KpP.off {E H : Nat → Prop} {W W' : World} {k : Nat} (h : KpP E H W W') (ho : Off H W k) (hk : k < W.heap.size) : Off H W' k :=
  ⟨ho.1, fun b hb => by
    obtain ⟨v, h1, h2⟩ := ho.2 b hb
    obtain ⟨v', h3, h4⟩ := h.head b v hb h1
    exact ⟨v', h3, newer_ne1 h4 hk h2⟩⟩
theorem KpP.refl (E H : Nat → Prop) (W : World) : KpP E H W W := ⟨Nat.le_refl _, fun _ _ h _ _ => h, fun _ v _ h => ⟨v, h, .inl rfl⟩⟩
theorem KpP.trans {E H : Nat → Prop} {A B C : World} (h : KpP E H A B) (k : KpP E H B C) : KpP E H A C :=
  ⟨Nat.le_trans h.size k.size, fun i o ho hE hH => k.rest i o (h.rest i o ho hE hH) hE (fun hc => h.off (hH hc) (Array.getElem?_eq_some_iff.1 ho).1), fun b v hb hv => by
    obtain ⟨v1, h1, n1⟩ := h.head b v hb hv
    obtain ⟨v2, h2, n2⟩ := k.head b v1 hb h1
    refine ⟨v2, h2, ?_⟩
    rcases n2 with e | ⟨r, e, hr⟩
    · rw [e]; exact n1
    · exact .inr ⟨r, e, Nat.le_trans h.size hr⟩⟩
theorem KpP.mono {E E' H : Nat → Prop} {W W' : World} (h : KpP E H W W') (hE : ∀ k, E k → E' k) : KpP E' H W W' := ⟨h.size, fun k o ho hn hH => h.rest k o ho (fun e => hn (hE k e)) hH, h.head⟩
theorem KpP.of_below {W W' : World} (E H : Nat → Prop) (h : Below W.heap.size W W') : KpP E H W W' :=
  ⟨h.size, fun k _ ho _ _ => (h.block k (Array.getElem?_eq_some_iff.1 ho).1).trans ho, fun _ v _ hv => ⟨v, hv.later h, .inl rfl⟩⟩
theorem KpP.from {E H : Nat → Prop} {W W' : World} {B : Nat} (h : KpP E H W W') (hE : ∀ k, E k → k < B) : KeepsFrom B W W' :=
  ⟨h.size, fun k o hB ho hc => h.rest k o ho (fun e => by have := hE k e; omega) (fun hc' => by rw [hc] at hc'; cases hc')⟩
theorem KpP.put {E H : Nat → Prop} {W : World} {l : Nat} {o : Obj} (o' : Obj) (hl : E l) (ho : W.heap[l]? = some o) (hc : o.isCells = false) : KpP E H W (W.putObj l o') :=
  ⟨by simp, fun k _ hk hE _ => (World.putObj_heap_other (fun e => hE (by rw [e]; exact hl))).trans hk, fun _ v _ hv => by
    refine ⟨v, hv.of (World.putObj_heap_other (fun e => ?_)), .inl rfl⟩
    obtain ⟨t, hv⟩ := hv
    rw [e, ho] at hv
    injection hv with hv
    rw [hv] at hc
    simp [Obj.isCells] at hc⟩
theorem own_cells {W : World} {lo n : Nat} {t : TypeId} {v : Value} {xs : List Value} (h : W.ownsRow lo t 1 v n xs) : ∀ k, v.ownBlock = some k → ∃ o, W.heap[k]? = some o ∧ o.isCells = true := by
  intro k hk
  rcases h.2 with ⟨rfl, _⟩ | ⟨g', cap, cur, rfl, _, hg, _⟩
  · simp [Value.ownBlock] at hk
  · obtain rfl : g' = k := by simpa [Value.ownBlock] using hk
    exact ⟨_, hg, rfl⟩
theorem PileAt.cells {W : World} {lo b : Nat} {g : Option Nat} {L : List Int} (h : PileAt W lo b g L) : ∀ k o, W.heap[k]? = some o → o.isCells = false → k ≠ b ∧ g ≠ some k := by
  obtain ⟨v, h1, h2, _, h4⟩ := h
  intro k o ho hc
  refine ⟨fun e => ?_, fun e => ?_⟩
  · rw [e, h1] at ho; injection ho with ho; rw [← ho] at hc; simp [Obj.isCells] at hc
  · rw [← h2] at e
    obtain ⟨o', ho', hc'⟩ := own_cells h4 k e
    rw [ho] at ho'; injection ho' with ho'; rw [ho', hc'] at hc; cases hc
/-- A pile's change is such a step. -/
theorem KpP.of_chg {E H : Nat → Prop} {W W' : World} {lo lo' b : Nat} {g g' : Option Nat} {L L' : List Int} (hc : Chg W W' b g) (hp : PileAt W lo b g L) (hp' : PileAt W' lo' b g' L') (hn : Newer W g g') (hb : H b) (hs : ∀ c, H c → c ≠ b → g ≠ some c) : KpP E H W W' := by
  obtain ⟨v0, hv0, hg0⟩ := hp.head
  refine ⟨hc.size, fun k o ho _ hH => ?_, fun c v hcH hv => ?_⟩
  · have hkb : k ≠ b ∧ g ≠ some k := by
      cases hx : o.isCells with
      | false => exact hp.cells k o ho hx
      | true =>
        have hO := hH hx
        obtain ⟨v, h1, h2⟩ := hO.2 b hb
        exact ⟨fun e => hO.1 (e ▸ hb), by rw [← hg0, hv0.one h1]; exact h2⟩
    exact (hc.block k (Array.getElem?_eq_some_iff.1 ho).1 hkb.1 hkb.2).trans ho
  · by_cases hcb : c = b
    · subst hcb
      obtain ⟨v1, hv1, hg1⟩ := hp'.head
      exact ⟨v1, hv1, by rw [hv.one hv0, hg0, hg1]; exact hn⟩
    · exact ⟨v, hv.of (hc.block c hv.lt hcb (hs c hcH hcb)), .inl rfl⟩
theorem KpP.of_chg2 {E H : Nat → Prop} {W W' : World} {lo lo' b c : Nat} {g g' gc gc' : Option Nat} {L L' M M' : List Int} (hc : Chg2 W W' b g c gc) (hp : PileAt W lo b g L) (hp' : PileAt W' lo' b g' L') (hn : Newer W g g') (hb : H b)
    (hq : PileAt W lo c gc M) (hq' : PileAt W' lo' c gc' M') (hm : Newer W gc gc') (hcH : H c) (hs : ∀ d, H d → d ≠ b → d ≠ c → g ≠ some d ∧ gc ≠ some d) : KpP E H W W' := by
  obtain ⟨v0, hv0, hg0⟩ := hp.head
  obtain ⟨u0, hu0, hk0⟩ := hq.head
  refine ⟨hc.size, fun k o ho _ hH => ?_, fun d v hdH hv => ?_⟩
  · have hkb : (k ≠ b ∧ g ≠ some k) ∧ k ≠ c ∧ gc ≠ some k := by
      cases hx : o.isCells with
      | false => exact ⟨hp.cells k o ho hx, hq.cells k o ho hx⟩
      | true =>
        have hO := hH hx
        obtain ⟨v, h1, h2⟩ := hO.2 b hb
        obtain ⟨u, h3, h4⟩ := hO.2 c hcH
        exact ⟨⟨fun e => hO.1 (e ▸ hb), by rw [← hg0, hv0.one h1]; exact h2⟩, fun e => hO.1 (e ▸ hcH), by rw [← hk0, hu0.one h3]; exact h4⟩
    exact (hc.block k (Array.getElem?_eq_some_iff.1 ho).1 hkb.1.1 hkb.1.2 hkb.2.1 hkb.2.2).trans ho
  · by_cases hdb : d = b
    · subst hdb
      obtain ⟨v1, hv1, hg1⟩ := hp'.head
      exact ⟨v1, hv1, by rw [hv.one hv0, hg0, hg1]; exact hn⟩
    · by_cases hdc : d = c
      · subst hdc
        obtain ⟨v1, hv1, hg1⟩ := hq'.head
        exact ⟨v1, hv1, by rw [hv.one hu0, hk0, hg1]; exact hm⟩
      · exact ⟨v, hv.of (hc.block d hv.lt hdb (hs d hdH hdb hdc).1 hdc (hs d hdH hdb hdc).2), .inl rfl⟩
theorem Off.later {H : Nat → Prop} {W W' : World} {k : Nat} (h : Off H W k) (hb : Below W.heap.size W W') : Off H W' k := ⟨h.1, fun b hb' => by obtain ⟨v, h1, h2⟩ := h.2 b hb'; exact ⟨v, h1.later hb, h2⟩⟩
theorem HdAt.grown {A B : World} {b : Nat} {v : Value} {row : Option Nat} (h : HdAt A b v) (hg : A.grownBy B row) (hr : ∀ r, row = some r → ∃ o : Obj, A.heap[r]? = some o ∧ o.isCells = false) : HdAt B b v := by
  obtain ⟨t, h⟩ := h
  exact ⟨t, (grownBy_keeps_cells hg hr h rfl).trans h⟩
theorem Off.grown {H : Nat → Prop} {A B : World} {k : Nat} {row : Option Nat} (h : Off H A k) (hg : A.grownBy B row) (hr : ∀ r, row = some r → ∃ o : Obj, A.heap[r]? = some o ∧ o.isCells = false) : Off H B k :=
  ⟨h.1, fun b hb' => by obtain ⟨v, h1, h2⟩ := h.2 b hb'; exact ⟨v, h1.grown hg hr, h2⟩⟩
theorem PileAt.grown {A B : World} {lo b : Nat} {g : Option Nat} {L : List Int} {row : Option Nat} (h : PileAt A lo b g L) (hg : A.grownBy B row) (hr : ∀ r, row = some r → ∃ o : Obj, A.heap[r]? = some o ∧ o.isCells = false) : PileAt B lo b g L := by
  obtain ⟨v, h1, h2, h3, h4⟩ := h
  refine ⟨v, (grownBy_keeps_cells hg hr h1 rfl).trans h1, h2, h3, h4.1, ?_⟩
  rcases h4.2 with h5 | ⟨g', cap, cur, e, hb2, hg2, r⟩
  · exact .inl h5
  · exact .inr ⟨g', cap, cur, e, hb2, (grownBy_keeps_cells hg hr hg2 rfl).trans hg2, r⟩
/-- A slice's row stays. -/
theorem vals_kp {E H : Nat → Prop} {W W' : World} {v : Value} {xs : List Value} (h : ValsAt W v xs) (hk : KpP E H W W') (hv : ∀ k, v.ownBlock = some k → ¬E k ∧ Off H W k) : ValsAt W' v xs := by
  rcases h with h | ⟨r, off, cap, rfl, hlt, hcell⟩
  · exact .inl h
  · obtain ⟨h1, h2⟩ := hv r rfl
    obtain ⟨o, ho⟩ : ∃ o, W.heap[r]? = some o := ⟨_, Array.getElem?_eq_getElem hlt⟩
    refine .inr ⟨r, off, cap, rfl, Nat.lt_of_lt_of_le hlt hk.size, fun i hi => ?_⟩
    rw [World.cell?_of_block (w := W) (a := ⟨r, off + i, none⟩) ((hk.rest r o ho h1 (fun _ => h2)).trans ho.symm)]
    exact hcell i hi
/-- Boxes that stay. -/
def Boxes (H : Nat → Prop) (ks : List (Nat × Value)) (W : World) : Prop := ∀ q ∈ ks, HdAt W q.1 q.2 ∧ Off H W q.1
theorem Boxes.kept {E H : Nat → Prop} {ks : List (Nat × Value)} {W W' : World} (h : Boxes H ks W) (hk : KpP E H W W') (hE : ∀ q ∈ ks, ¬E q.1) : Boxes H ks W' := fun q hq => by
  obtain ⟨h1, h2⟩ := h q hq
  refine ⟨?_, hk.off h2 h1.lt⟩
  obtain ⟨t, h1⟩ := h1
  exact ⟨t, hk.rest q.1 _ h1 (hE q hq) (fun _ => h2)⟩
theorem Boxes.later {H : Nat → Prop} {ks : List (Nat × Value)} {W W' : World} (h : Boxes H ks W) (hb : Below W.heap.size W W') : Boxes H ks W' := fun q hq => ⟨(h q hq).1.later hb, (h q hq).2.later hb⟩
theorem Boxes.grown {H : Nat → Prop} {ks : List (Nat × Value)} {A B : World} {row : Option Nat} (h : Boxes H ks A) (hg : A.grownBy B row) (hr : ∀ r, row = some r → ∃ o : Obj, A.heap[r]? = some o ∧ o.isCells = false) : Boxes H ks B := fun q hq => ⟨(h q hq).1.grown hg hr, (h q hq).2.grown hg hr⟩
/-- The heads lie there, with rows. -/
def Heads (H : Nat → Prop) (W : World) : Prop := ∀ b, H b → ∃ v, HdAt W b v ∧ ∀ k, v.ownBlock = some k → k < W.heap.size
theorem Heads.later {H : Nat → Prop} {W W' : World} (h : Heads H W) (hb : Below W.heap.size W W') : Heads H W' := fun b hb' => by obtain ⟨v, h1, h2⟩ := h b hb'; exact ⟨v, h1.later hb, fun k hk => Nat.lt_of_lt_of_le (h2 k hk) hb.size⟩
theorem Heads.off {H : Nat → Prop} {W : World} {k : Nat} (h : Heads H W) (hk : W.heap.size ≤ k) {W' : World} (hb : Below W.heap.size W W') : Off H W' k :=
  ⟨fun e => by obtain ⟨v, h1, _⟩ := h k e; have := h1.lt; omega, fun b hb' => by obtain ⟨v, h1, h2⟩ := h b hb'; exact ⟨v, h1.later hb, fun e => by have := h2 k e; omega⟩⟩
theorem zip_at (L : List Int) (k : Nat) (h : k < L.length) : L.zipIdx.take (k + 1) = L.zipIdx.take k ++ [(L[k], k)] := by
  rw [take_last _ _ (by simpa using h)]
  simp
theorem own_below {W W' : World} (h : Below W.heap.size W W') : W.grownBy W' none := ⟨h.os, h.tape, h.output, h.size, fun k hk _ => h.block k hk⟩
theorem OwnFrom.later {β : Type} {B : Nat} {J : β → World → Prop} (h : OwnFrom B J) {s : β} {W W' : World} (hs : J s W) (hb : Below W.heap.size W W') : J s W' := h s W W' none hs (own_below hb) (fun r e => by cases e)

abbrev AItem := Int × Nat
def encA (x : AItem) : Array Value := #[.int .i64 (x.2 : Int), .int .i64 x.1]
end Go.Proofs.YtjgjhfeopmakaaaGreat
namespace Go.Proofs.YtjgjhfeopmakaaaGreat
open Go.RowKit
attribute [local go_sem] Oper.semAt_some

def RetFn (w : World) (f : Nat) (v : Value) (e : Ending) (w' : World) : Prop := e = .returned (.func (.func f) #[] #[.pointer (some ⟨w.heap.size, 0, none⟩)]) ∧ HdAt w' w.heap.size v ∧ Below w.heap.size w w'
def RetFn2 (w : World) (f : Nat) (u v : Value) (e : Ending) (w' : World) : Prop := e = .returned (.func (.func f) #[] #[.pointer (some ⟨w.heap.size + 1, 0, none⟩), .pointer (some ⟨w.heap.size, 0, none⟩)]) ∧ HdAt w' (w.heap.size + 1) u ∧ HdAt w' w.heap.size v ∧ Below w.heap.size w w'
theorem roundIn_wide {n m : Nat} {P : Program} {l : Nat} {f : FuncId} {tmps : Array Value} {assign body : Code} {w : World} {R : Ending → World → Prop} (h : RoundIn Fence.wide n P l f tmps assign body w R) : RoundIn Fence.wide m P l f tmps assign body w R := by
  exact ⟨h.1, fun c cs _ => h.2 c cs (room_wide _)⟩
def filtA (f : Int → Bool) (pre : List AItem) : List Int := (pre.map (·.1)).filter f
theorem filt_snoc (f : Int → Bool) (pre : List AItem) (x : AItem) : filtA f (pre ++ [x]) = if f x.1 then filtA f pre ++ [x.1] else filtA f pre := by
  cases h : f x.1 <;> simp [filtA, h]
theorem filt_all (f : Int → Bool) (L : List Int) : filtA f L.zipIdx = L.filter f := by
  simp [filtA]
theorem filt_pre (f : Int → Bool) {L : List Int} {pre : List AItem} (h : pre <+: L.zipIdx) : filtA f pre <+: L.filter f := by
  rw [← filt_all]
  exact (h.map _).filter _
def encW (x : Int) : Array Value := #[.int .i64 x]
end Go.Proofs.YtjgjhfeopmakaaaGreat
namespace Go.Proofs.YtjgjhfeopmakaaaGreat
open Go.RowKit
theorem list_nil (w : World) : Calls Tryz.prog 97 #[.pointer none] w (RetV w (.slice none 0 0)) := by
  go_enter Tryz.func97, Tryz.ntmps97
  go_wp2
  go_ret
  exact ⟨rfl, Below.refl _ _⟩
theorem vals_grownN {A B : World} {v : Value} {xs : List Value} {row : Option Nat} (h : ValsAt A v xs) (hg : A.grownBy B row) (hr : ∀ r, row = some r → ∃ o : Obj, A.heap[r]? = some o ∧ o.isCells = false) : ValsAt B v xs := by
  rcases h with h | ⟨r, off, cap, rfl, hlt, hcell⟩
  · exact .inl h
  · refine .inr ⟨r, off, cap, rfl, Nat.lt_of_lt_of_le hlt hg.size, fun i hi => ?_⟩
    have hc := hcell i hi
    obtain ⟨o, ho⟩ : ∃ o, A.heap[r]? = some o := ⟨_, Array.getElem?_eq_getElem hlt⟩
    have hx : o.isCells = true := by
      unfold World.cell? at hc
      rw [ho] at hc
      cases o <;> simp_all [Obj.isCells]
    rw [World.cell?_of_block (w := A) (a := ⟨r, off + i, none⟩) (grownBy_keeps_cells hg hr ho hx)]
    exact hc
attribute [local go_sem] Oper.semAt_some

def RetCopy (w : World) (L : List Int) (e : Ending) (w' : World) : Prop := ∃ b g, e = .returned (.pointer (some ⟨b, 0, none⟩)) ∧ PileAt w' w.heap.size b g L ∧ Below w.heap.size w w'
set_option maxRecDepth 100000 in
theorem copy_any {w : World} {lo b : Nat} {g : Option Nat} {L : List Int} (h : PileAt w lo b g L) (hL : L.length ≤ 1000) :
    Calls Tryz.prog 58 #[.pointer (some ⟨b, 0, none⟩)] w (RetCopy w L) := by
  have HP := Lib.hid (list_any h hL)
  clear h
  go_enter Tryz.func58, Tryz.ntmps58
  go_wp2_with fail
  refine HP.out.mono ?_
  rintro e w1 ⟨v, rfl, ho, hb1⟩
  have HO := Lib.hid ho
  have HB := Lib.hid hb1
  obtain ⟨xa, xc, rfl⟩ := (own_ints ho).form
  clear ho hb1
  go_wp2
  go_ret
  have hb2 := below_new w1 (.cells #[.slice xa L.length xc] 145)
  refine ⟨w1.heap.size, _, rfl, ⟨_, World.alloc_heap_new w1 _, rfl, HB.out.size, own_later HO.out hb2⟩, stepB HB.out hb2⟩
/-- A range whose two ends are one: all have come, or a round has broken out by c0. -/
theorem range_both {F : Fence} {n : Nat} {P : Program} {α : Type} {g : Operand} {ps : Array Tmp} {assign body : Code} {Q : Exit → Act → World → Prop} {a : Act} {w : World} (c0 : Code)
    (hro : F.round = none) (h1 : 1 ≤ n) {gf : Nat} {lb : Array Value} (hg : a.eval g = .func (.func gf) #[] lb) (hFg : F.fn gf) (eg : ∀ args w, (callFunc gf args).run P w = .ok (.enter gf args) w)
    {encs : α → Array Value} {Kp : Nat → World → World → Prop} {T : List α → α → Prop} {S Sp : List α → World → Prop} {w0 : World} (hseq : SeqW F (n - 1) P gf lb encs Kp T S Sp w0)
    (hKt : ∀ {A B C : World}, Kp (w.heap.size + 1) A B → Kp (w.heap.size + 1) B C → Kp (w.heap.size + 1) A C) (hKb : ∀ (W : World) (o o' : Obj), W.heap[w.heap.size + 1]? = some o → o.isCells = false → o.isWalk = false → Kp (w.heap.size + 1) W (W.putObj (w.heap.size + 1) o')) (hb0 : Below w0.heap.size w0 w) (hps : ∀ x, (encs x).size = ps.size)
    (I Ix : List α → World → Prop) (hI : OwnFrom w.heap.size I) (hIx : OwnFrom w.heap.size Ix) (hS : OwnFrom w.heap.size S) (hSp : OwnFrom w.heap.size Sp) (h0 : I [] w)
    (hround : ∀ (pre : List α) (x : α) (W Wb : World) (K : Act → World → Prop), I pre Wb → T pre x → w.heap.size + 1 < Wb.heap.size → (∀ a1, body.wpIn (F.inRound (w.heap.size + 1)) (n - 1 - 1) P (postW w.heap.size (w.heap.size + 1) Kp I (fun c pre W => c = c0 ∧ Ix pre W) (pre ++ [x]) Wb) a1 Wb → K a1 W) →
      assign.wpIn (F.inRound (w.heap.size + 1)) (n - 1 - 1) P (Exit.then K (fun _ _ _ => False)) { tmps := (ps.zip (encs x)).foldl (fun t (p, v) => t.setIfInBounds p v) a.tmps, defers := [] } W)
    (hx : ∀ a W, Q .normal a W → c0.wpIn F n P Q a W)
    (hend : ∀ (D : Nat) (W : World), w.heap.size ≤ D → ((∃ xs, S xs W ∧ I xs W) ∨ ∃ pre, Sp pre W ∧ Ix pre W) → W.heap[D]? = some (.deferred (some [])) → Q .normal { a with defers := { target := .collected D, args := #[] } :: a.defers } W) :
    (Code.rangeFunc g ps assign body).wpIn F n P Q a w := by
  refine range_world2 hro h1 hg hFg eg hseq hKt hKb hb0 hps I (fun c pre W => c = c0 ∧ Ix pre W) hI (fun c s A B row hs hg hr => ⟨hs.1, hIx s A B row hs.2 hg hr⟩) hS hSp h0 hround
    (fun D xs W hD hSx hIx hK => hend D W hD (.inl ⟨xs, hSx, hIx⟩) hK) ?_
  rintro D c pre W hD hSp ⟨rfl, hi⟩ hK
  exact hx _ _ (hend D W hD (.inr ⟨pre, hSp, hi⟩) hK)
set_option maxRecDepth 100000 in
theorem wpListIn_append_ints {F : Fence} {m : Nat} {w : World} {ops : Array Oper} {rest : List Oper} {o : Oper} {a : Act} {Q : Exit → Act → World → Prop} (hgd : o.guard = none) (s x : Operand)
    (ho : o.op = .call { callee := .builtin .append, args := #[s, x], argTypes := #[79, 79] }) (hty : o.type = 79) (base : Nat) (v : Value) (n : Nat) (xs : List Value) (hs : a.eval s = v)
    (hown : w.ownsRow base 3 1 v n xs) (xa : Option Addr) (xn xc : Nat) (l : List Int) (hx : a.eval x = .slice xa xn xc) (hn : xn = l.length) (ht : IntsAt w (.slice xa xn xc) l) (h1 : n + l.length ≤ 1000) (hbase : base ≤ w.heap.size)
    (h : ∀ v' w', w'.ownsRow base 3 1 v' (n + l.length) (xs ++ intsV l) → w.grownBy w' v.ownBlock → (v'.ownBlock = v.ownBlock ∨ v'.ownBlock = some w.heap.size) → wpListIn F m Tryz.prog ops Q rest (a.put o.dst v') w') : wpListIn F m Tryz.prog ops Q (o :: rest) a w := by
  subst hn
  obtain ⟨v', w', hrun, h2, h3, h4⟩ := append_ints w base v n xs hown xa xc l ht h1 hbase
  refine wpListIn_plain hgd fun K hK' => ?_
  unfold Oper.wpIn
  refine ⟨?_, ?_⟩
  · simp [Oper.about, ho, resolve, Target.leads, Sem.run_pure]
  · rw [Oper.semAt_plain F _ _ (by rw [ho]; intro c hc'; cases hc')]
    simp [execOp, ho, resolve, invoke, builtin, hs, hx, hty, hrun, Result.andThen]
    exact hK' _ _ (h v' w' h2 h3 h4)
/-- The rest stays, as far as a world that lies before a loop tells it. -/
theorem kpP_own {β : Type} {E H : Nat → Prop} {A : World} {B : Nat} (hB : A.heap.size ≤ B) : OwnFrom B (fun (_ : β) W => KpP E H A W) := fun _ X Y row hs hg hr => by
  have hr' : ∀ r, row = some r → ∃ o : Obj, X.heap[r]? = some o ∧ o.isCells = false := fun r e => (hr r e).2
  refine ⟨Nat.le_trans hs.size hg.size, fun k o ho hE hO => ?_, fun b v hb hv => ?_⟩
  · have h1 := (Array.getElem?_eq_some_iff.1 ho).1
    have h2 := hs.rest k o ho hE hO
    exact (hg.block k (Array.getElem?_eq_some_iff.1 h2).1 (fun e => by have := (hr k e.symm).1; omega)).trans h2
  · obtain ⟨v', h1, h2⟩ := hs.head b v hb hv
    exact ⟨v', h1.grown hg hr', h2⟩
/-- A box with a list of the call's own: it grows. -/
structure ListIn (W : World) (lo s : Nat) (v : Value) (L : List Int) : Prop where
  box : W.heap[s]? = some (.cells #[v] 79 (0, 0))
  own : W.ownsRow lo 3 1 v L.length (intsV L)
theorem ListIn.head {W : World} {lo s : Nat} {v : Value} {L : List Int} (h : ListIn W lo s v L) : HdAt W s v := ⟨_, h.box⟩
theorem ListIn.row {W : World} {lo s : Nat} {v : Value} {L : List Int} (h : ListIn W lo s v L) : ∀ k, v.ownBlock = some k → lo ≤ k ∧ k < W.heap.size ∧ k ≠ s := fun k hk => by
  have := World.ownsRow.lt h.own k hk
  refine ⟨this.1, this.2, fun e => ?_⟩
  rcases h.own.2 with ⟨rfl, _⟩ | ⟨g', cap, cur, rfl, _, hg, _⟩
  · simp [Value.ownBlock] at hk
  · obtain rfl : g' = k := by simpa [Value.ownBlock] using hk
    rw [e, h.box] at hg
    injection hg with hg
    injection hg with _ ht
    exact absurd ht (by decide)
theorem ListIn.later {W W' : World} {lo s : Nat} {v : Value} {L : List Int} (h : ListIn W lo s v L) (hb : Below W.heap.size W W') : ListIn W' lo s v L :=
  ⟨(hb.block s (Array.getElem?_eq_some_iff.1 h.box).1).trans h.box, own_later h.own hb⟩
theorem own_grownN {A B : World} {lo n : Nat} {t : TypeId} {v : Value} {xs : List Value} {row : Option Nat} (h : A.ownsRow lo t 1 v n xs) (hg : A.grownBy B row) (hr : ∀ r, row = some r → ∃ o : Obj, A.heap[r]? = some o ∧ o.isCells = false) : B.ownsRow lo t 1 v n xs := by
  refine ⟨h.1, ?_⟩
  rcases h.2 with h5 | ⟨g', cap, cur, e, hb2, hg2, r⟩
  · exact .inl h5
  · exact .inr ⟨g', cap, cur, e, hb2, (grownBy_keeps_cells hg hr hg2 rfl).trans hg2, r⟩
theorem ListIn.grown {A B : World} {lo s : Nat} {v : Value} {L : List Int} {row : Option Nat} (h : ListIn A lo s v L) (hg : A.grownBy B row) (hr : ∀ r, row = some r → ∃ o : Obj, A.heap[r]? = some o ∧ o.isCells = false) : ListIn B lo s v L :=
  ⟨(grownBy_keeps_cells hg hr h.box rfl).trans h.box, own_grownN h.own hg hr⟩
/-- One more is put behind. -/
theorem ListIn.snoc {E H : Nat → Prop} {W w6 : World} {lo s : Nat} {v v' : Value} {L : List Int} {x : Int} {o : Obj} (h : ListIn W lo s v L) (hs : H s) (hg : (W.alloc o).grownBy w6 v.ownBlock) (hown : w6.ownsRow lo 3 1 v' (L.length + 1) (intsV L ++ intsV [x]))
    (hn : v'.ownBlock = v.ownBlock ∨ v'.ownBlock = some (W.alloc o).heap.size) (hsep : ∀ b, H b → v.ownBlock ≠ some b) :
    ListIn (w6.setCell ⟨s, 0, none⟩ v') lo s v' (L ++ [x]) ∧ KpP E H W (w6.setCell ⟨s, 0, none⟩ v') ∧ HdAt w6 s v := by
  have hsl := (Array.getElem?_eq_some_iff.1 h.box).1
  have hblk : ∀ k, k < W.heap.size → v.ownBlock ≠ some k → w6.heap[k]? = W.heap[k]? := fun k hk hv => (hg.block k (by simp; omega) (Ne.symm hv)).trans ((below_new W o).block k hk)
  have h6 := (hblk s hsl (hsep s hs)).trans h.box
  have hnew : Newer W v.ownBlock v'.ownBlock := by
    rcases hn with e | e
    · exact .inl e
    · exact .inr ⟨_, e, by simp⟩
  have hne : v'.ownBlock ≠ some s := newer_ne1 hnew hsl (hsep s hs)
  refine ⟨⟨?_, ?_⟩, ⟨?_, fun k ob ho _ hO => ?_, fun b u hb hu => ?_⟩, ⟨_, h6⟩⟩
  · rw [heap_setCell_same w6 s 0 _ _ v' h6]; rfl
  · have h7 := own_set (j := 0) (u := v') hown hne
    simpa [intsV] using h7
  · have := hg.size; simp at this ⊢; omega
  · have hk := (Array.getElem?_eq_some_iff.1 ho).1
    have hks : k ≠ s ∧ v.ownBlock ≠ some k := by
      cases hx : ob.isCells with
      | true =>
        have hO' := hO hx
        obtain ⟨u, h1, h2⟩ := hO'.2 s hs
        exact ⟨fun e => hO'.1 (by rw [e]; exact hs), by rw [← h1.one h.head]; exact h2⟩
      | false =>
        refine ⟨fun e => ?_, fun e => ?_⟩
        · rw [e, h.box] at ho; injection ho with ho; rw [← ho] at hx; simp [Obj.isCells] at hx
        · obtain ⟨o', ho', hc'⟩ := own_cells h.own k e
          rw [ho] at ho'; injection ho' with ho'; rw [ho', hc'] at hx; cases hx
    rw [heap_setCell_other w6 ⟨s, 0, none⟩ k v' hks.1, hblk k hk hks.2]
    exact ho
  · by_cases hbs : b = s
    · subst hbs
      exact ⟨v', HdAt.set ⟨_, h6⟩ v', by rw [hu.one h.head]; exact hnew⟩
    · exact ⟨u, (hu.of (hblk b hu.lt (hsep b hb))).other hbs v', .inl rfl⟩
theorem PileAt.kept {E H : Nat → Prop} {W W' : World} {lo b : Nat} {g : Option Nat} {L : List Int} (h : PileAt W lo b g L) (hk : KpP E H W W') (h1 : ¬E b ∧ Off H W b) (h2 : ∀ k, g = some k → ¬E k ∧ Off H W k) : PileAt W' lo b g L := by
  obtain ⟨v, hv, hg, hlo, how⟩ := h
  refine ⟨v, hk.rest b _ hv h1.1 (fun _ => h1.2), hg, hlo, how.1, ?_⟩
  rcases how.2 with h5 | ⟨g', cap, cur, e, hb2, hg2, r⟩
  · exact .inl h5
  · have h3 := h2 g' (by rw [← hg, e]; rfl)
    exact .inr ⟨g', cap, cur, e, hb2, hk.rest g' _ hg2 h3.1 (fun _ => h3.2), r⟩
theorem ListIn.kept {E H : Nat → Prop} {W W' : World} {lo s : Nat} {v : Value} {L : List Int} (h : ListIn W lo s v L) (hk : KpP E H W W') (h1 : ¬E s ∧ Off H W s) (h2 : ∀ k, v.ownBlock = some k → ¬E k ∧ Off H W k) : ListIn W' lo s v L := by
  refine ⟨hk.rest s _ h.box h1.1 (fun _ => h1.2), ?_⟩
  refine ⟨h.own.1, ?_⟩
  rcases h.own.2 with h5 | ⟨g', cap, cur, e, hb2, hg2, r⟩
  · exact .inl h5
  · have h3 := h2 g' (by rw [e]; rfl)
    exact .inr ⟨g', cap, cur, e, hb2, hk.rest g' _ hg2 h3.1 (fun _ => h3.2), r⟩
theorem PileAt.grow {W W' : World} {lo b : Nat} {g row : Option Nat} {L : List Int} (h : PileAt W lo b g L) (hg : W.grownBy W' row) (h1 : row ≠ some b) (h2 : ∀ k, g = some k → row ≠ some k) : PileAt W' lo b g L := by
  obtain ⟨v, hv, hg', hlo, how⟩ := h
  refine ⟨v, (hg.block b (Array.getElem?_eq_some_iff.1 hv).1 (Ne.symm h1)).trans hv, hg', hlo, how.1, ?_⟩
  rcases how.2 with h5 | ⟨g', cap, cur, e, hb2, hg2, r⟩
  · exact .inl h5
  · have h3 := h2 g' (by rw [← hg', e]; rfl)
    exact .inr ⟨g', cap, cur, e, hb2, (hg.block g' (Array.getElem?_eq_some_iff.1 hg2).1 (Ne.symm h3)).trans hg2, r⟩
end Go.Proofs.YtjgjhfeopmakaaaGreat

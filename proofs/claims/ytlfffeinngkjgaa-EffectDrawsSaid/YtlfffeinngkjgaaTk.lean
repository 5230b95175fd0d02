/- The document's example of teams; the iterator of Foes, whatever its rounds make; what is answered of no teams (layer 9). What is answered of no teams (layer 9); the marks that ranges over functions leave. -/
import Derived.Test.YtlfffeinngkjgaaTi
import Derived.Test.YtlfffeinngkjgaaFs
import Derived.RangeFuncRecord
import Derived.RangeFuncLeaves
import Derived.RangeFuncFrom
namespace Go.Proofs.Ytlfffeinngkjgaa
open Go.RowKit
attribute [local go_sem] Oper.semAt_some

theorem own_to {A w w' : World} {lo b s r : Nat} {T : TeamL} (hA : Below A.heap.size A w) (hlo : A.heap.size ≤ lo) (h : TeamAt w lo b s r T) (hg : w.grownBy w' (some r)) : Below A.heap.size A w' := grown_to hA hg (Nat.le_trans hlo h.lr)
theorem upTo_pre (p : Nat → Bool) (j : Nat) : ∀ m, j ≤ m → upTo p j <+: upTo p m
  | 0, h => by
    obtain rfl : j = 0 := by omega
    exact List.prefix_refl _
  | m + 1, h => by
    by_cases hj : j = m + 1
    · subst hj; exact List.prefix_refl _
    · refine (upTo_pre p j m (by omega)).trans ?_
      cases hp : p m with
      | true => rw [upTo_yes hp]; exact List.prefix_append _ _
      | false => rw [upTo_no hp]; exact List.prefix_refl _
theorem TeamAt.kept {E H : Nat → Prop} {w w' : World} {lo b s r : Nat} {T : TeamL} (h : TeamAt w lo b s r T) (hk : KpP E H w w') (ho : ∀ q, q = b ∨ q = s ∨ q = r → ¬E q ∧ Off H w q) : TeamAt w' lo b s r T := by
  obtain ⟨c1, c2, h0⟩ := h.hd
  obtain ⟨cur, hr, ht⟩ := h.rw
  have hb := ho b (.inl rfl)
  have hs := ho s (.inr (.inl rfl))
  have hrr := ho r (.inr (.inr rfl))
  refine ⟨⟨c1, c2, hk.rest b _ h0 hb.1 fun _ => hb.2⟩, ⟨Nat.lt_of_lt_of_le h.sd.1 hk.size, fun k hkk => ?_⟩, ⟨cur, hk.rest r _ hr hrr.1 fun _ => hrr.2, ht⟩, h.lb, h.ls, h.lr, h.br, h.sr, h.n1, h.n2, h.nd⟩
  obtain ⟨o, hso⟩ : ∃ o, w.heap[s]? = some o := ⟨_, Array.getElem?_eq_getElem h.sd.1⟩
  rw [World.cell?_of_block (w := w) (a := ⟨s, k, none⟩) ((hk.rest s o hso hs.1 (fun _ => hs.2)).trans hso.symm)]
  exact h.sd.2 k hkk
theorem HdAt.kept {E H : Nat → Prop} {w w' : World} {q : Nat} {v : Value} (h : HdAt w q v) (hk : KpP E H w w') (ho : ¬E q ∧ Off H w q) : HdAt w' q v := by
  obtain ⟨t, h⟩ := h
  exact ⟨t, hk.rest q _ h ho.1 fun _ => ho.2⟩
def foeB (T : TeamL) (k : Int) (n : Nat) : Bool := ((n : Int) != k) && !lostT T n
def foesT (T : TeamL) (k : Int) : List Int := upTo (foeB T k) T.sh.length
def encF (x : Int) : Array Value := #[.int .i64 x]
end Go.Proofs.Ytlfffeinngkjgaa
namespace Go.Proofs.Ytlfffeinngkjgaa
open Go.RowKit
attribute [local go_sem] Oper.semAt_some

set_option maxRecDepth 100000 in
theorem seats_nil (w : World) : Calls Try.prog 26 #[.pointer none] w (Same w (.int .i64 0)) := by
  go_enter Try.func26, Try.ntmps26
  go_wp2
  go_ret
  exact ⟨rfl, rfl⟩
set_option maxRecDepth 100000 in
theorem of_nil (x : Int) (w : World) : Calls Try.prog 31 #[.pointer none, .int .i64 x] w (Same w (.int .i64 (-1))) := by
  by_cases h0 : 0 ≤ x
  · have d0 : decide (x < 0) = false := decide_eq_false (by omega)
    have d1 : decide (0 ≤ x) = true := decide_eq_true h0
    go_enter Try.func31, Try.ntmps31
    go_wp2_with fail
    refine (seats_nil w).mono ?_
    rintro e w1 ⟨rfl, rfl⟩
    go_wp2
    go_ret
    exact ⟨rfl, rfl⟩
  · have d0 : decide (x < 0) = true := decide_eq_true (by omega)
    go_enter Try.func31, Try.ntmps31
    go_wp2
    go_ret
    exact ⟨rfl, rfl⟩
set_option maxRecDepth 100000 in
theorem copy_nil (w : World) : Calls Try.prog 28 #[.pointer none] w (Same w (.pointer none)) := by
  go_enter Try.func28, Try.ntmps28
  go_wp2
  go_ret
  exact ⟨rfl, rfl⟩
theorem results_c6 {fn : Func} {tmps : Array Value} {W : World} {b : Nat} {v : Bool} (h : fn.results = #[.cell 6 4]) (ht : tmps.getD 6 undef = .pointer (some ⟨b, 0, none⟩)) (hc : HdAt W b (.bool v)) : (results fn tmps).run Try.prog W = .ok (.bool v) W := by
  have hc := hc.cell
  simp only [Array.getD_eq_getD_getElem?] at ht
  simp [results, h, go_sem, ht, hc]
theorem kpP_setE {W : World} {l : Nat} (u : Value) : KpP (fun k => k = l) (fun _ => False) W (W.setCell ⟨l, 0, none⟩ u) :=
  ⟨by simp, fun k o ho hE _ => (heap_setCell_other W ⟨l, 0, none⟩ k u hE).trans ho, fun b v hb _ => hb.elim⟩
def MarksO (W : World) (Ds : List Nat) : Prop := ∀ D ∈ Ds, W.heap[D]? = some (.deferred (some []))
theorem MarksO.lt {W : World} {Ds : List Nat} (h : MarksO W Ds) {D : Nat} (hD : D ∈ Ds) : D < W.heap.size := (Array.getElem?_eq_some_iff.1 (h D hD)).1
theorem MarksO.others {W W' : World} {Ds : List Nat} (h : MarksO W Ds) (hk : KeepsOthers W W') : MarksO W' Ds := fun D hD => hk.same D _ (h D hD) rfl
theorem others_belowO {W W' : World} (h : Below W.heap.size W W') : KeepsOthers W W' := ⟨h.size, fun k _ hk _ => (h.block k (Array.getElem?_eq_some_iff.1 hk).1).trans hk⟩
theorem marks_ownO {β : Type} {B : Nat} {Ds : List Nat} (hB : ∀ D ∈ Ds, D < B) : OwnFrom B (fun (_ : β) W => MarksO W Ds) := fun _ W W' row hs hg hr D hD =>
  (hg.block D (hs.lt hD) (fun e => by have := (hr D e.symm).1; have := hB D hD; omega)).trans (hs D hD)
theorem leaves_marksO {F : Fence} {n : Nat} {P : Program} {fn : Func} {tmps : Array Value} {R : Ending → World → Prop} {B : Nat} : ∀ (Ds : List Nat) (W : World), Ds.Nodup → (∀ D ∈ Ds, B ≤ D) → MarksO W Ds →
    (∀ W', Below B W W' → (∀ (j : Nat) (o : Obj), W.heap[j]? = some o → o.isCells = true → W'.heap[j]? = some o) → LeavesIn F n P fn tmps R [] .returning W') →
    LeavesInM F n P fn tmps R (Ds.map fun D => { target := .collected D, args := #[] }) .returning W
  | [], W, _, _, _, h => h W (Below.refl _ _) (fun _ _ h _ => h)
  | D :: Ds, W, hn, hB, hm, h => by
    have hD := hm D (by simp)
    have hlt := hm.lt (D := D) (by simp)
    have hBD := hB D (by simp)
    rw [List.nodup_cons] at hn
    refine ⟨by simp, .inl ⟨D, W.putObj D (.deferred none), rfl, run_takeDeferred hD, ?_⟩⟩
    refine leaves_marksO Ds _ hn.2 (fun D' h' => hB D' (by simp [h'])) (fun D' h' => (World.putObj_heap_other (fun e => hn.1 (by rw [← e]; exact h'))).trans (hm D' (by simp [h']))) (fun W' hb hc => ?_)
    refine h W' ?_ ?_
    · have h1 : Below B W (W.putObj D (.deferred none)) := (Below.refl B W).grown (grownBy_putObj' W D (.deferred none)) (by omega) (fun k e => by cases e; exact hBD)
      exact h1.trans hb
    · intro j o hj ho
      refine hc j o ?_ ho
      refine (World.putObj_heap_other ?_).trans hj
      rintro rfl
      rw [hD] at hj
      cases hj
      cases ho

theorem list_newO (W : World) (lo : Nat) : ListIn (W.alloc (.cells #[.slice none 0 0] 26)) lo W.heap.size (.slice none 0 0) [] := ⟨World.alloc_heap_new W _, World.ownsRow_nil _ _ _ _⟩
theorem off_lO {W : World} {lf s k : Nat} {v : Value} {M : List Int} (hl : ListIn W lf s v M) (h2 : k ≠ s) (h4 : v.ownBlock ≠ some k) : Off (fun k => k = s) W k :=
  ⟨fun e => h2 e, fun c hc => by subst hc; exact ⟨v, hl.head, h4⟩⟩
theorem own_not_box {W : World} {lo s n : Nat} {v u : Value} {xs : List Value} (h : W.ownsRow lo 3 1 v n xs) (hb : W.heap[s]? = some (.cells #[u] 26 (0, 0))) : v.ownBlock ≠ some s := fun e => by
  rcases h.2 with ⟨rfl, _⟩ | ⟨g, cap, cur, rfl, _, hg, _⟩
  · cases e
  · have e : g = s := by injection e
    subst e
    rw [hg] at hb
    injection hb with hb
    injection hb with _ hb _
    exact absurd hb (by decide)
end Go.Proofs.Ytlfffeinngkjgaa

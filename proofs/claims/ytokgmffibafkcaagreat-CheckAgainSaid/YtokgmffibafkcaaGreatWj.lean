/- The law CheckAgain, walked. -/
import Derived.Test.YtokgmffibafkcaaGreatWi
import Derived.Deep.Cut
import Derived.Deep.DeepCutAuto
namespace Go.Proofs.YtokgmffibafkcaaGreat
open Go.RowKit Go.Maps
attribute [local go_sem] Oper.semAt_some

theorem BothAt.far {w w' : World} {lo lo' b : Nat} {g : GhostB} {gk : Option Nat} {B : BoardL} {L : List EntL} {a a' : Nat → Prop} (h : BothAt w lo lo' g b gk B L) (ht : TurnedO w w' a a') (ha : ∀ k, a k → ¬own2 g b gk k) : BothAt w' lo lo' g b gk B L ∧ ∀ k, a' k → ¬own2 g b gk k :=
  ⟨⟨h.bd.farO ht (fun k hk e => ha k hk (.inl e)), h.sk.farO ht (fun k hk e => ha k hk (.inr e)), h.ap⟩, apart_o ht ha (fun _ hk => h.ownLt hk)⟩
theorem keepA {w : World} {o : Obj} {a : Addr} {v : Value} (h : w.cell? a = some v) : (w.alloc o).cell? a = some v := cell_stays (below_new _ _) h
theorem keepD {w : World} {a : Addr} {v : Value} (h : w.cell? a = some v) : w.drew.cell? a = some v := cell_stays (Below.refl _ _).drew h
theorem keepS3 {w : World} {q p i j k m : Nat} {v u0 u1 u2 : Value} (h : w.cell? ⟨q, i, none⟩ = some v) (hne : q ≠ p) : (((w.setCell ⟨p, j, none⟩ u0).setCell ⟨p, k, none⟩ u1).setCell ⟨p, m, none⟩ u2).cell? ⟨q, i, none⟩ = some v := by
  have e : (((w.setCell ⟨p, j, none⟩ u0).setCell ⟨p, k, none⟩ u1).setCell ⟨p, m, none⟩ u2).heap[q]? = w.heap[q]? := by rw [heap_setCell_other _ ⟨p, m, none⟩ q _ hne, heap_setCell_other _ ⟨p, k, none⟩ q _ hne, heap_setCell_other _ ⟨p, j, none⟩ q _ hne]
  rw [← h]
  simp [World.cell?, e]
theorem row_keptW {V W X : World} {k : Nat} {o : Obj} (h : ∀ k, V.heap.size ≤ k → k < W.heap.size → X.heap[k]? = W.heap[k]?) (ho : W.heap[k]? = some o) (hk : V.heap.size ≤ k) : X.heap[k]? = some o := (h k hk (Array.getElem?_eq_some_iff.1 ho).1).trans ho
theorem row_drew {W : World} {k : Nat} {o : Obj} (ho : W.heap[k]? = some o) : W.drew.heap[k]? = some o := ho
theorem row_next {W : World} {k : Nat} {o o' : Obj} (ho : W.heap[k]? = some o) : (W.alloc o').heap[k]? = some o := ((below_new W o').block k (Array.getElem?_eq_some_iff.1 ho).1).trans ho
theorem row_later {W X : World} {k : Nat} {o : Obj} (hb : Below W.heap.size W X) (ho : W.heap[k]? = some o) : X.heap[k]? = some o := (hb.block k (Array.getElem?_eq_some_iff.1 ho).1).trans ho
theorem row_c0 {W : World} {k : Nat} (h : W.heap[k]? = some (.cells #[.slice none 0 0, .slice none 0 0, .int .i64 0] 54 (0, 0))) : W.cell? ⟨k, 0, none⟩ = some (.slice none 0 0) := cell_of_row W k 0 _ _ (0, 0) h
theorem row_c1 {W : World} {k : Nat} (h : W.heap[k]? = some (.cells #[.slice none 0 0, .slice none 0 0, .int .i64 0] 54 (0, 0))) : W.cell? ⟨k, 1, none⟩ = some (.slice none 0 0) := cell_of_row W k 1 _ _ (0, 0) h
theorem row_c2 {W : World} {k : Nat} (h : W.heap[k]? = some (.cells #[.slice none 0 0, .slice none 0 0, .int .i64 0] 54 (0, 0))) : W.cell? ⟨k, 2, none⟩ = some (.int .i64 0) := cell_of_row W k 2 _ _ (0, 0) h
theorem row_f {W : World} {k : Nat} (j : Nat) (h : W.heap[k]? = some (.cells #[.slice none 0 0, .slice none 0 0, .int .i64 0] 54 (0, 0))) : W.frozen? ⟨k, j, none⟩ = false := frozen_of_row W k j _ _ h
theorem calls_at {P : Program} {f : Nat} {args : Array Value} {W' V : World} {R : World → Ending → World → Prop} {post : Ending → World → Prop} (h : ∀ w', Below V.heap.size V w' → Calls P f args w' (R w')) (hb : Below V.heap.size V W') (hm : ∀ e w'', Below V.heap.size V W' → R W' e w'' → post e w'') : Calls P f args W' post :=
  (h W' hb).mono fun e w'' hr => hm e w'' hb hr
/-- Both boards and stacks have been checked; the rows of both reports. -/
structure PairR (w V X : World) (la lb lc ld : Nat) (g : GhostB) (b1 : Nat) (k1 : Option Nat) (gc : GhostB) (b2 : Nat) (k2 : Option Nat) (B : BoardL) (K : List EntL) (v1 v2 u1 u2 : Value) (D Xs : List Int) : Prop where
  p1 : BothAt X la lb g b1 k1 B K
  p2 : BothAt X lc ld gc b2 k2 B K
  ap : ∀ k, own2 g b1 k1 k → ¬own2 gc b2 k2 k
  r1 : X.ownsRow V.heap.size 3 1 v1 D.length (intsV D)
  r2 : X.ownsRow V.heap.size 3 1 v2 Xs.length (intsV Xs)
  r3 : X.ownsRow V.heap.size 3 1 u1 D.length (intsV D)
  r4 : X.ownsRow V.heap.size 3 1 u2 Xs.length (intsV Xs)
  be : Below w.heap.size w X
theorem pair7 {w V w6 X : World} {la lb lc ld b1 b2 : Nat} {g gc gc' : GhostB} {k1 k2 k2' : Option Nat} {B : BoardL} {K : List EntL} {v1 v2 u1 u2 : Value} {D Xs : List Int} {own : Nat → Prop} {A : World} (h1 : BothAt w6 la lb g b1 k1 B K) (h2 : BothAt X lc ld gc' b2 k2' B K) (ht : TurnedO w6 X (own2 gc b2 k2) (own2 gc' b2 k2')) (hap : ∀ k, own2 g b1 k1 k → ¬own2 gc b2 k2 k) (hlt : ∀ k, own2 gc b2 k2 k → w.heap.size ≤ k ∧ k < V.heap.size)
    (_ : ∀ k, V.heap.size ≤ k → k < A.heap.size → ¬own2 g b1 k1 k) (r1 : w6.ownsRow V.heap.size 3 1 v1 D.length (intsV D)) (r2 : w6.ownsRow V.heap.size 3 1 v2 Xs.length (intsV Xs)) (hV : V.heap.size ≤ w6.heap.size) (hd : RepAt X w6.heap.size own u1 D) (hx : RepAt X w6.heap.size own u2 Xs) (hb : Below w.heap.size w w6) : PairR w V X la lb lc ld g b1 k1 gc' b2 k2' B K v1 v2 u1 u2 D Xs := by
  have hf := BothAt.far h1 ht (fun k h1 h2 => hap k h2 h1)
  have hk : ∀ {v : Value} {L : List Int}, w6.ownsRow V.heap.size 3 1 v L.length (intsV L) → X.ownsRow V.heap.size 3 1 v L.length (intsV L) := fun {v L} r => own_keepS r (fun k e => ht.block k (World.ownsRow.lt r k e).2 (fun h => by have h1 := (World.ownsRow.lt r k e).1; have h2 := (hlt k h).2; omega))
  exact ⟨hf.1, h2, fun k h1 h2 => hf.2 k h2 h1, hk r1, hk r2, own_mono hd.row hV, own_mono hx.row hV, ht.below hb (fun k hk => (hlt k hk).1)⟩
/-- A world with two rows laid anew: old ones or new ones. -/
structure Shape (w7 X : World) (p p' : Nat) (r1 r2 : Obj) : Prop where
  os : X.os = w7.os
  tape : X.tape = w7.tape
  output : X.output = w7.output
  size : w7.heap.size ≤ X.heap.size
  at1 : X.heap[p]? = some r1
  at2 : X.heap[p']? = some r2
  rest : ∀ k, k < w7.heap.size → k ≠ p → k ≠ p' → X.heap[k]? = w7.heap[k]?
theorem Shape.flip {w7 X : World} {p p' : Nat} {r1 r2 : Obj} (h : Shape w7 X p p' r1 r2) : Shape w7 X p' p r2 r1 := ⟨h.os, h.tape, h.output, h.size, h.at2, h.at1, fun k a b c => h.rest k a c b⟩
theorem set3 {W : World} {p : Nat} {x0 x1 x2 v0 v1 v2 : Value} {T : TypeId} (h : W.heap[p]? = some (.cells #[x0, x1, x2] T (0, 0))) : (((W.setCell ⟨p, 0, none⟩ v0).setCell ⟨p, 1, none⟩ v1).setCell ⟨p, 2, none⟩ v2).heap[p]? = some (.cells #[v0, v1, v2] T (0, 0)) := rep2 v2 (rep1 v1 (rep0 v0 h))
theorem set3o {W : World} {p k : Nat} {v0 v1 v2 : Value} (h : k ≠ p) : (((W.setCell ⟨p, 0, none⟩ v0).setCell ⟨p, 1, none⟩ v1).setCell ⟨p, 2, none⟩ v2).heap[k]? = W.heap[k]? := by
  rw [heap_setCell_other _ ⟨p, 2, none⟩ k _ h, heap_setCell_other _ ⟨p, 1, none⟩ k _ h, heap_setCell_other _ ⟨p, 0, none⟩ k _ h]
theorem set3_os (W : World) (p : Nat) (v0 v1 v2 : Value) : (((W.setCell ⟨p, 0, none⟩ v0).setCell ⟨p, 1, none⟩ v1).setCell ⟨p, 2, none⟩ v2).os = W.os ∧ (((W.setCell ⟨p, 0, none⟩ v0).setCell ⟨p, 1, none⟩ v1).setCell ⟨p, 2, none⟩ v2).tape = W.tape ∧ (((W.setCell ⟨p, 0, none⟩ v0).setCell ⟨p, 1, none⟩ v1).setCell ⟨p, 2, none⟩ v2).output = W.output ∧ (((W.setCell ⟨p, 0, none⟩ v0).setCell ⟨p, 1, none⟩ v1).setCell ⟨p, 2, none⟩ v2).heap.size = W.heap.size := ⟨rfl, rfl, rfl, by simp⟩
theorem shape2 (w7 : World) (c1 c2 : Array Value) (T : TypeId) : Shape w7 ((w7.alloc (.cells c1 T)).alloc (.cells c2 T)) w7.heap.size (w7.heap.size + 1) (.cells c1 T (0, 0)) (.cells c2 T (0, 0)) := by
  refine ⟨rfl, rfl, rfl, by simp; omega, row_next (heap_alloc_new w7 _), heap_two _ _ _, fun k hk _ _ => ?_⟩
  exact ((below_alloc2 (below_new w7 (.cells c1 T)) (.cells c2 T)).block k hk)
theorem shape1 (w7 : World) {p : Nat} {x0 x1 x2 v0 v1 v2 : Value} {T : TypeId} (c2 : Array Value) (h : w7.heap[p]? = some (.cells #[x0, x1, x2] T (0, 0))) : Shape w7 ((((w7.setCell ⟨p, 0, none⟩ v0).setCell ⟨p, 1, none⟩ v1).setCell ⟨p, 2, none⟩ v2).alloc (.cells c2 T)) p w7.heap.size (.cells #[v0, v1, v2] T (0, 0)) (.cells c2 T (0, 0)) := by
  have hs : (((w7.setCell ⟨p, 0, none⟩ v0).setCell ⟨p, 1, none⟩ v1).setCell ⟨p, 2, none⟩ v2).heap.size = w7.heap.size := by simp
  refine ⟨rfl, rfl, rfl, by simp, row_next (set3 h), ?_, fun k hk h1 _ => ?_⟩
  · have := heap_alloc_new (((w7.setCell ⟨p, 0, none⟩ v0).setCell ⟨p, 1, none⟩ v1).setCell ⟨p, 2, none⟩ v2) (.cells c2 T)
    rw [hs] at this
    exact this
  · exact ((below_new _ (.cells c2 T)).block k (by rw [hs]; exact hk)).trans (set3o h1)
theorem shape0 (w7 : World) {p p' : Nat} {x0 x1 x2 y0 y1 y2 v0 v1 v2 u0 u1 u2 : Value} {T : TypeId} (h : w7.heap[p]? = some (.cells #[x0, x1, x2] T (0, 0))) (h' : w7.heap[p']? = some (.cells #[y0, y1, y2] T (0, 0))) (hne : p ≠ p') :
    Shape w7 ((((((w7.setCell ⟨p, 0, none⟩ v0).setCell ⟨p, 1, none⟩ v1).setCell ⟨p, 2, none⟩ v2).setCell ⟨p', 0, none⟩ u0).setCell ⟨p', 1, none⟩ u1).setCell ⟨p', 2, none⟩ u2) p p' (.cells #[v0, v1, v2] T (0, 0)) (.cells #[u0, u1, u2] T (0, 0)) :=
  ⟨(set3_os _ _ _ _ _).1.trans (set3_os _ _ _ _ _).1, (set3_os _ _ _ _ _).2.1.trans (set3_os _ _ _ _ _).2.1, (set3_os _ _ _ _ _).2.2.1.trans (set3_os _ _ _ _ _).2.2.1, Nat.le_of_eq ((set3_os _ _ _ _ _).2.2.2.trans (set3_os _ _ _ _ _).2.2.2).symm, (set3o hne).trans (set3 h), set3 ((set3o (Ne.symm hne)).trans h'), fun _ _ h1 h2 => (set3o h2).trans (set3o h1)⟩
/-- A block that may be written: nobody's, new or a report's. -/
def FreeAt (w w7 : World) (own own' : Nat → Prop) (p : Nat) : Prop := w.heap.size ≤ p ∧ ¬own p ∧ ¬own' p ∧ (w7.heap[p]? = some (.cells #[.slice none 0 0, .slice none 0 0, .int .i64 0] 54 (0, 0)) ∨ w7.heap.size ≤ p)
theorem FreeAt.row {w w7 : World} {own own' : Nat → Prop} {p base n : Nat} {v : Value} {xs : List Value} (h : FreeAt w w7 own own' p) (hr : w7.ownsRow base 3 1 v n xs) : ∀ k, v.ownBlock = some k → k ≠ p := fun k e hk => by
  rcases h.2.2.2 with h7 | h7
  · exact own_ne hr h7 k e hk
  · have := (World.ownsRow.lt hr k e).2
    omega
theorem PairR.shape {w V w7 X : World} {la lb lc ld b1 b2 p p' : Nat} {g gc : GhostB} {k1 k2 : Option Nat} {B : BoardL} {K : List EntL} {v1 v2 u1 u2 : Value} {D Xs : List Int} {r1 r2 : Obj} (h : PairR w V w7 la lb lc ld g b1 k1 gc b2 k2 B K v1 v2 u1 u2 D Xs) (hs : Shape w7 X p p' r1 r2)
    (hp : FreeAt w w7 (own2 g b1 k1) (own2 gc b2 k2) p) (hp' : FreeAt w w7 (own2 g b1 k1) (own2 gc b2 k2) p') : PairR w V X la lb lc ld g b1 k1 gc b2 k2 B K v1 v2 u1 u2 D Xs := by
  have k1' : ∀ k, own2 g b1 k1 k → X.heap[k]? = w7.heap[k]? := fun k hk => hs.rest k (h.p1.ownLt hk) (fun e => hp.2.1 (by rw [← e]; exact hk)) (fun e => hp'.2.1 (by rw [← e]; exact hk))
  have k2' : ∀ k, own2 gc b2 k2 k → X.heap[k]? = w7.heap[k]? := fun k hk => hs.rest k (h.p2.ownLt hk) (fun e => hp.2.2.1 (by rw [← e]; exact hk)) (fun e => hp'.2.2.1 (by rw [← e]; exact hk))
  have kr : ∀ {v : Value} {L : List Int}, w7.ownsRow V.heap.size 3 1 v L.length (intsV L) → X.ownsRow V.heap.size 3 1 v L.length (intsV L) := fun {v L} r => own_keepS r (fun k e => hs.rest k (World.ownsRow.lt r k e).2 (hp.row r k e) (hp'.row r k e))
  exact ⟨⟨h.p1.bd.kept hs.size (fun k hk => k1' k (.inl hk)), h.p1.sk.kept (k1' b1 (.inr (.inl rfl))) (fun k e => k1' k (.inr (.inr e))), h.p1.ap⟩, ⟨h.p2.bd.kept hs.size (fun k hk => k2' k (.inl hk)), h.p2.sk.kept (k2' b2 (.inr (.inl rfl))) (fun k e => k2' k (.inr (.inr e))), h.p2.ap⟩, h.ap, kr h.r1, kr h.r2, kr h.r3, kr h.r4,
    ⟨hs.os.trans h.be.os, hs.tape.trans h.be.tape, hs.output.trans h.be.output, Nat.le_trans h.be.size hs.size, fun k hk => (hs.rest k (Nat.lt_of_lt_of_le hk h.be.size) (by have := hp.1; omega) (by have := hp'.1; omega)).trans (h.be.block k hk)⟩⟩
theorem fin8 {W V w7 X : World} {la l1 l2 l3 b1 b2 p p' n q qc : Nat} {s11 s12 : Value} {g6 g7 : GhostB} {k6 k7 : Option Nat} {B : BoardL} {K : List EntL} {v1 v2 u1 u2 : Value} {D Xs : List Int} (h : PairR W V w7 la l1 l2 l3 g6 b1 k6 g7 b2 k7 B K v1 v2 u1 u2 D Xs) (hq : Hid (g6.q = q)) (hqc : Hid (g7.q = qc)) (e1 : s11 = .pointer (some ⟨p, 0, none⟩)) (e2 : s12 = .pointer (some ⟨p', 0, none⟩))
    (hs : Shape w7 X p p' (.cells #[v1, v2, .int .i64 n] 54 (0, 0)) (.cells #[u1, u2, .int .i64 n] 54 (0, 0))) (f1 : FreeAt W w7 (own2 g6 b1 k6) (own2 g7 b2 k7) p) (f2 : FreeAt W w7 (own2 g6 b1 k6) (own2 g7 b2 k7) p') :
    ∃ (p p' : Nat) (v1 v2 u1 u2 : Value) (g6 : GhostB) (k6 : Option Nat) (g7 : GhostB) (k7 : Option Nat), s11 = .pointer (some ⟨p, 0, none⟩) ∧ s12 = .pointer (some ⟨p', 0, none⟩) ∧ Hid (X.heap[p]? = some (.cells #[v1, v2, .int .i64 n] 54 (0, 0))) ∧ Hid (X.heap[p']? = some (.cells #[u1, u2, .int .i64 n] 54 (0, 0))) ∧ Hid (PairR W V X la l1 l2 l3 g6 b1 k6 g7 b2 k7 B K v1 v2 u1 u2 D Xs) ∧ Hid (g6.q = q) ∧ Hid (g7.q = qc) ∧ Hid (W.heap.size ≤ p ∧ W.heap.size ≤ p') :=
  ⟨p, p', v1, v2, u1, u2, g6, k6, g7, k7, e1, e2, Lib.hid hs.at1, Lib.hid hs.at2, Lib.hid (h.shape hs f1 f2), hq, hqc, Lib.hid ⟨f1.1, f2.1⟩⟩
theorem keep6 {w V w' X : World} {a a' : Nat → Prop} (ht : TurnedO w' X a a') (hlt : ∀ k, a k → w.heap.size ≤ k ∧ k < V.heap.size) : ∀ k, V.heap.size ≤ k → k < w'.heap.size → X.heap[k]? = w'.heap[k]? := fun k h1 h2 => ht.block k h2 (fun e => by have := (hlt k e).2; omega)
theorem free6 {w V w' X : World} {a a' : Nat → Prop} (ht : TurnedO w' X a a') (hlt : ∀ k, a k → w.heap.size ≤ k ∧ k < V.heap.size) : ∀ k, V.heap.size ≤ k → k < w'.heap.size → ¬a' k := fun k h1 h2 e => by have := (hlt k (ht.own k h2 e)).2; omega
set_option maxRecDepth 100000 in
set_option maxHeartbeats 400000000 in
theorem checkAgain_walk (a b : Int) {w : World} {v u : Value} {l : List TriL} {x : StL} (hv : TrisAt w v l) (hw : ∀ x ∈ l, Wf x.y ∧ Wf x.z) (hlen : l.length ≤ 9223372036854775807) (hu : StAt w u x) :
    Calls Tryz.prog 6 #[v, .agg #[.int .i64 a, .int .i64 b], u] w (RetV w (.bool true)) := by
  have HAW := Lib.hid (fun (w' : World) => awake14_any w')
  have HNK := Lib.hid (fun (w' : World) => new_stk (w := w') (v := .slice none 0 0) (l := []) (.inl ⟨none, 0, rfl, rfl⟩) (by decide))
  obtain ⟨s, hs4, hse⟩ := and3 a
  have hs8 : IntKind.u8.wrap (s : Int) = (s : Int) := by simp [IntKind.wrap, IntKind.signed, IntKind.bits]; omega
  have HBO := Lib.hid (fun (w' : World) (hb : Below w.heap.size w w') => board14_any (hv.later hb) hw hlen s (by omega) (hu.later hb))
  obtain ⟨u0, u1, u2, u3, rfl, i0, i1, i2, i3⟩ := hu
  obtain ⟨y0, z0, rfl⟩ := i0.form
  obtain ⟨y1, z1, rfl⟩ := i1.form
  obtain ⟨y2, z2, rfl⟩ := i2.form
  obtain ⟨y3, z3, rfl⟩ := i3.form
  obtain ⟨va, vc, rfl⟩ := hv.form
  have hb0 := below_alloc2 (below_new w (.cells #[.int .i64 a, .int .i64 b] 23)) (.cells #[.slice y0 x.hu.length z0, .slice y1 x.co.length z1, .slice y2 x.ga.length z2, .slice y3 x.po.length z3, .int .i64 x.dry] 26)
  have hri : ((w.alloc (.cells #[.int .i64 a, .int .i64 b] 23)).alloc (.cells #[.slice y0 x.hu.length z0, .slice y1 x.co.length z1, .slice y2 x.ga.length z2, .slice y3 x.po.length z3, .int .i64 x.dry] 26)).heap[w.heap.size]? = some (.cells #[.int .i64 a, .int .i64 b] 23 (0, 0)) := ((below_new (w.alloc (.cells #[.int .i64 a, .int .i64 b] 23)) (.cells #[.slice y0 x.hu.length z0, .slice y1 x.co.length z1, .slice y2 x.ga.length z2, .slice y3 x.po.length z3, .int .i64 x.dry] 26)).block _ (by simp)).trans (heap_alloc_new w (.cells #[.int .i64 a, .int .i64 b] 23))
  have hrs : ((w.alloc (.cells #[.int .i64 a, .int .i64 b] 23)).alloc (.cells #[.slice y0 x.hu.length z0, .slice y1 x.co.length z1, .slice y2 x.ga.length z2, .slice y3 x.po.length z3, .int .i64 x.dry] 26)).heap[w.heap.size + 1]? = some (.cells #[.slice y0 x.hu.length z0, .slice y1 x.co.length z1, .slice y2 x.ga.length z2, .slice y3 x.po.length z3, .int .i64 x.dry] 26 (0, 0)) := heap_two _ _ _
  obtain ⟨W, hW⟩ : ∃ W, (w.alloc (.cells #[.int .i64 a, .int .i64 b] 23)).alloc (.cells #[.slice y0 x.hu.length z0, .slice y1 x.co.length z1, .slice y2 x.ga.length z2, .slice y3 x.po.length z3, .int .i64 x.dry] 26) = W := ⟨_, rfl⟩
  obtain ⟨q4, hq4⟩ : ∃ q4, w.heap.size = q4 := ⟨_, rfl⟩
  obtain ⟨q5, hq5⟩ : ∃ q5, w.heap.size + 1 = q5 := ⟨_, rfl⟩
  rw [hW] at hb0 hri hrs
  rw [hq5] at hrs
  rw [hq4] at hri
  have HB0 := Lib.hid hb0
  have HW := Lib.hid hW
  have HQ4 := Lib.hid hq4
  have HQ5 := Lib.hid hq5
  have HIX := Lib.hid (show ∀ w' : World, Below W.heap.size W w' → w'.cell? ⟨q4, 0, none⟩ = some (.int .i64 a) ∧ w'.cell? ⟨q4, 1, none⟩ = some (.int .i64 b) ∧ w'.cell? ⟨q5, 0, none⟩ = some (.slice y0 x.hu.length z0) ∧ w'.cell? ⟨q5, 1, none⟩ = some (.slice y1 x.co.length z1) ∧ w'.cell? ⟨q5, 2, none⟩ = some (.slice y2 x.ga.length z2) ∧ w'.cell? ⟨q5, 3, none⟩ = some (.slice y3 x.po.length z3) ∧ w'.cell? ⟨q5, 4, none⟩ = some (.int .i64 x.dry) from fun w' hb => by
    have h1 := (hb.block _ (Array.getElem?_eq_some_iff.1 hri).1).trans hri
    have h2 := (hb.block _ (Array.getElem?_eq_some_iff.1 hrs).1).trans hrs
    exact ⟨cell_of_row w' q4 0 _ _ (0, 0) h1, cell_of_row w' q4 1 _ _ (0, 0) h1, cell_of_row w' q5 0 _ _ (0, 0) h2, cell_of_row w' q5 1 _ _ (0, 0) h2, cell_of_row w' q5 2 _ _ (0, 0) h2, cell_of_row w' q5 3 _ _ (0, 0) h2, cell_of_row w' q5 4 _ _ (0, 0) h2⟩)
  clear hv hw hlen i0 i1 i2 i3 hb0 hri hrs hW hq4 hq5
  go_enter Tryz.func6, Tryz.ntmps6
  go_upto_region 1 with fail
  rw [HW.out]
  try simp only [World.size_alloc]
  rw [HQ5.out, HQ4.out]
  go_wp2_with fail
  refine (HAW.out _).mono ?_
  rintro e w1 ⟨rfl, hb1⟩
  have HB1 := Lib.hid hb1
  obtain ⟨c0, c1, c2, c3, c4, c5, c6⟩ := HIX.out w1 HB1.out
  clear hb1 HAW
  dsimp only
  go_wp2_with fail
  refine (HBO.out _ (stepB HB0.out HB1.out)).mono ?_
  rintro e w2 (⟨hp, lo, g, rfl, hbd, hlo, hb2⟩ | ⟨_, rfl, hb2⟩)
  case inr =>
    have HB2 := Lib.hid (stepB HB0.out (stepB HB1.out hb2))
    clear hb2
    dsimp only
    go_wp2
    go_ret
    exact ⟨rfl, HB2.out⟩
  have HB2 := Lib.hid (stepB HB1.out hb2)
  have hln : (board14 l s x).S.objs.length ≤ 800 := by rw [b14_len hp.1.2]; have := hp.1.1; omega
  obtain ⟨B, hB⟩ : ∃ B, board14 l s x = B := ⟨_, rfl⟩
  rw [hB] at hbd hln
  have HLN := Lib.hid hln
  have HOW := Lib.hid (show ∀ k, g.own k → W.heap.size ≤ k ∧ k < w2.heap.size from fun k hk => ⟨Nat.le_trans HB1.out.size (Nat.le_trans hlo (hbd.ownLo hk)), hbd.ownLt hk⟩)
  have HBD := Lib.hid hbd
  have HCP := Lib.hid (bcopy_any hbd)
  have HSR := Lib.hid (stable_round hbd.wf hbd.st.n1)
  have HSW := Lib.hid (And.intro hbd.wf hbd.st.n1)
  have HSX := Lib.hid hbd.tm.n2
  obtain ⟨q, hq⟩ : ∃ q, g.q = q := ⟨_, rfl⟩
  have HQ := Lib.hid hq
  rw [hq] at HCP ⊢
  clear hp hbd hlo hb2 hln hB hq HBO
  dsimp only
  go_wp2_with fail
  refine HCP.out.mono ?_
  rintro e w3 ⟨gc, rfl, hbc, hb3⟩
  have HBC := Lib.hid hbc
  have HOC := Lib.hid (show ∀ k, gc.own k → w2.heap.size ≤ k ∧ k < w3.heap.size from fun k hk => ⟨hbc.ownLo hk, hbc.ownLt hk⟩)
  have HBD3 := Lib.hid (HBD.out.later hb3)
  have HB3 := Lib.hid (stepB HB2.out hb3)
  have HZ3 := Lib.hid hb3.size
  obtain ⟨qc, hqc⟩ : ∃ qc, gc.q = qc := ⟨_, rfl⟩
  have HQC := Lib.hid hqc
  rw [hqc]
  clear hbc hb3 hqc HCP
  dsimp only
  go_wp2_with fail
  refine (HNK.out w3).mono ?_
  rintro e w4 ⟨b1, k1, rfl, hs1, hb4⟩
  rw [show List.take 8 ([] : List EntL) = [] from rfl] at hs1
  have HP1a := Lib.hid (both_new HBD3.out hb4 hs1)
  have HO1 := Lib.hid (show ∀ k, ownK b1 k1 k → w3.heap.size ≤ k ∧ k < w4.heap.size from fun k hk => ⟨hs1.ownLo hk, hs1.ownLt hk⟩)
  have HBC4 := Lib.hid (HBC.out.later hb4)
  have HB4 := Lib.hid (stepB HB3.out hb4)
  have HZ4 := Lib.hid hb4.size
  clear hs1 hb4
  dsimp only
  go_wp2_with fail
  refine (HNK.out w4).mono ?_
  rintro e V ⟨b2, k2, rfl, hs2, hb5⟩
  rw [show List.take 8 ([] : List EntL) = [] from rfl] at hs2
  have HP1 := Lib.hid (HP1a.out.later hb5)
  have HP2 := Lib.hid (both_new HBC4.out hb5 hs2)
  have HO2 := Lib.hid (show ∀ k, ownK b2 k2 k → w4.heap.size ≤ k ∧ k < V.heap.size from fun k hk => ⟨hs2.ownLo hk, hs2.ownLt hk⟩)
  have HBV := Lib.hid (stepB HB4.out hb5)
  have HZ5 := Lib.hid hb5.size
  clear hs2 hb5
  have HLT1 := Lib.hid (show ∀ k, own2 g b1 k1 k → W.heap.size ≤ k ∧ k < V.heap.size from fun k hk => by
    have h3 := HZ3.out
    have h4 := HZ4.out
    have h5 := HZ5.out
    have hw := HB2.out.size
    rcases hk with hk | hk
    · have := HOW.out k hk
      omega
    · have := HO1.out k hk
      omega)
  have HLT2 := Lib.hid (show ∀ k, own2 gc b2 k2 k → W.heap.size ≤ k ∧ k < V.heap.size from fun k hk => by
    have h3 := HZ3.out
    have h4 := HZ4.out
    have h5 := HZ5.out
    have hw := HB2.out.size
    rcases hk with hk | hk
    · have := HOC.out k hk
      omega
    · have := HO2.out k hk
      omega)
  have HAP := Lib.hid (show ∀ k, own2 g b1 k1 k → ¬own2 gc b2 k2 k from fun k h1 h2 => by
    have h3 := HZ3.out
    have h4 := HZ4.out
    have h5 := HZ5.out
    rcases h1 with h1 | h1 <;> rcases h2 with h2 | h2
    · have := HOW.out k h1
      have := HOC.out k h2
      omega
    · have := HOW.out k h1
      have := HO2.out k h2
      omega
    · have := HO1.out k h1
      have := HOC.out k h2
      omega
    · have := HO1.out k h1
      have := HO2.out k h2
      omega)
  obtain ⟨l1, hl1⟩ : ∃ l1, w3.heap.size = l1 := ⟨_, rfl⟩
  obtain ⟨l2, hl2⟩ : ∃ l2, w2.heap.size = l2 := ⟨_, rfl⟩
  obtain ⟨l3, hl3⟩ : ∃ l3, w4.heap.size = l3 := ⟨_, rfl⟩
  rw [hl1] at HP1
  rw [hl2, hl3] at HP2
  have HL3 := Lib.hid (show W.heap.size ≤ l3 from by rw [← hl3]; exact HB4.out.size)
  clear hl1 hl2 hl3
  have HR1 := Lib.hid (fun (w' : World) (hb : Below V.heap.size V w') => run_any (HP1.out.later hb) HLN.out (by decide) b)
  rw [HQ.out] at HR1
  have HZW := Lib.hid (show q4 < W.heap.size from by have h1 := HQ4.out; have h2 := HW.out; rw [← h2, ← h1]; simp; omega)
  obtain ⟨d0, d1, d2, d3, d4, d5, d6⟩ := HIX.out V HBV.out
  clear d0 d2 d3 d4 d5 d6 c0 c1 c2 c3 c4 c5 c6 HO1 HO2 HOW HOC HZ3 HZ4 HZ5 HBD HBD3 HBC HBC4 HP1a
  dsimp only
  go_upto_region 8 with fail
  have hq4V : q4 < V.heap.size := by have h1 := HQ4.out; have h2 := HB0.out.size; have h3 := HBV.out.size; have h4 := HZW.out; omega
  go_cut [11, 12] from 29 to 38 (fun s11 s12 wx => ∃ (p p' : Nat) (v1 v2 u1 u2 : Value) (g6 : GhostB) (k6 : Option Nat) (g7 : GhostB) (k7 : Option Nat), s11 = .pointer (some ⟨p, 0, none⟩) ∧ s12 = .pointer (some ⟨p', 0, none⟩) ∧ Hid (wx.heap[p]? = some (.cells #[v1, v2, .int .i64 (runN B)] 54 (0, 0))) ∧ Hid (wx.heap[p']? = some (.cells #[u1, u2, .int .i64 (runN B)] 54 (0, 0))) ∧ Hid (PairR W V wx lo l1 l2 l3 g6 b1 k6 g7 b2 k7 (runB B) (runK B b []) v1 v2 u1 u2 (runD B) (runX B)) ∧ Hid (g6.q = q) ∧ Hid (g7.q = qc) ∧ Hid (W.heap.size ≤ p ∧ W.heap.size ≤ p'))
  case rest =>
    obtain ⟨p, p', v1, v2, u1, u2, g6, k6, g7, k7, rfl, rfl, HR1a, HR2a, HPR, HQ6, HQ7, HPP⟩ := hcut
    obtain ⟨wP, rfl⟩ : ∃ wP, wP = wc := ⟨_, rfl⟩
    obtain ⟨a1, n1, rfl⟩ := own_form1 HPR.out.r1
    obtain ⟨a2, n2, rfl⟩ := own_form1 HPR.out.r2
    obtain ⟨a3, n3, rfl⟩ := own_form1 HPR.out.r3
    obtain ⟨a4, n4, rfl⟩ := own_form1 HPR.out.r4
    obtain ⟨rn, hrn⟩ : ∃ rn, runN B = rn := ⟨_, rfl⟩
    have HRNN := Lib.hid hrn
    rw [hrn] at HR1a HR2a
    have HBR := Lib.hid (show stableT (runB B) = true ∧ (runB B).S.objs.length ≤ 800 from by
      unfold runB
      cases hz : stableT B with
      | true => rw [if_pos rfl]; exact ⟨hz, HLN.out⟩
      | false => rw [if_neg (by decide)]; exact ⟨HSR.out, by rw [show (roundB B).S = buryS B.S (diesL B.S) from rfl, (keeps_bury _ _).len]; exact HLN.out⟩)
    have HKL := Lib.hid (show (runK B b []).length ≤ 8 from runK_len (by decide))
    have hdl : (runD B).length ≤ 1000 := by
      unfold runD
      split
      · simp
      · exact Nat.le_trans (dies_len HSW.out.1 HSW.out.2) (by have := HLN.out; omega)
    have hxl : (runX B).length ≤ 1000 := by
      unfold runX
      split
      · simp
      · exact Nat.le_trans (upTo_len _ _) (by have := HSX.out; omega)
    obtain ⟨D, hD⟩ : ∃ D, runD B = D := ⟨_, rfl⟩
    obtain ⟨Xs, hXs⟩ : ∃ Xs, runX B = Xs := ⟨_, rfl⟩
    obtain ⟨Bf, hBf⟩ : ∃ Bf, runB B = Bf := ⟨_, rfl⟩
    obtain ⟨Kf, hKf⟩ : ∃ Kf, runK B b [] = Kf := ⟨_, rfl⟩
    rw [hD, hXs, hBf, hKf] at HPR
    rw [hD] at HR1a HR2a hdl
    rw [hXs] at HR1a HR2a hxl
    rw [hBf] at HBR
    rw [hKf] at HKL
    clear hrn hD hXs hBf hKf
    have HRW := Lib.hid (fun (w' : World) (hb : Below wP.heap.size wP w') => show w'.cell? ⟨p, 0, none⟩ = some (.slice a1 D.length n1) ∧ w'.cell? ⟨p, 1, none⟩ = some (.slice a2 Xs.length n2) ∧ w'.cell? ⟨p, 2, none⟩ = some (.int .i64 rn) ∧ w'.cell? ⟨p', 0, none⟩ = some (.slice a3 D.length n3) ∧ w'.cell? ⟨p', 1, none⟩ = some (.slice a4 Xs.length n4) ∧ w'.cell? ⟨p', 2, none⟩ = some (.int .i64 rn) from ⟨cell_stays hb (cell_of_row wP p 0 _ _ (0, 0) HR1a.out), cell_stays hb (cell_of_row wP p 1 _ _ (0, 0) HR1a.out), cell_stays hb (cell_of_row wP p 2 _ _ (0, 0) HR1a.out), cell_stays hb (cell_of_row wP p' 0 _ _ (0, 0) HR2a.out), cell_stays hb (cell_of_row wP p' 1 _ _ (0, 0) HR2a.out), cell_stays hb (cell_of_row wP p' 2 _ _ (0, 0) HR2a.out)⟩)
    have HSM := Lib.hid (bsame_any (S := Bf.S) (T := Bf.T) (D := Bf.D) (E := Bf.D) HPR.out.p1.bd HPR.out.p2.bd)
    rw [eqD_self, HQ6.out, HQ7.out] at HSM
    clear HR1 HAP HLT1 HLT2 HP1 HP2 d1
    go_wp2_with fail
    refine HSM.out.mono ?_
    rintro e wB ⟨rfl, hbB⟩
    have HBB := Lib.hid hbB
    clear hbB HSM
    have HSK := Lib.hid (same_stk (HPR.out.p1.sk.later HBB.out) (HPR.out.p2.sk.later HBB.out) (by have := HKL.out; omega))
    rw [decide_eq_true rfl] at HSK
    go_wp2_with fail
    refine HSK.out.mono ?_
    rintro e wC ⟨rfl, nC, hwC⟩
    have HBC2 := Lib.hid (show Below wP.heap.size wP wC from by rw [hwC]; exact below_drewN HBB.out nC)
    clear hwC HSK
    obtain ⟨x0, x1, x2, x3, x4, x5⟩ := HRW.out wC HBC2.out
    go_wp2_with fail
    refine (ints_no_at ((own_ints HPR.out.r1).later HBC2.out) ((own_ints HPR.out.r3).later HBC2.out) hdl rfl).mono ?_
    rintro e wE ⟨rfl, hbE⟩
    have HBE := Lib.hid (stepB HBC2.out hbE)
    obtain ⟨x0, x1, x2, x3, x4, x5⟩ := HRW.out wE HBE.out
    clear hbE
    go_wp2_with fail
    refine (ints_no_at ((own_ints HPR.out.r2).later HBE.out) ((own_ints HPR.out.r4).later HBE.out) hxl rfl).mono ?_
    rintro e wF ⟨rfl, hbF⟩
    have HBF := Lib.hid (stepB HBE.out hbF)
    obtain ⟨x0, x1, x2, x3, x4, x5⟩ := HRW.out wF HBF.out
    clear hbF
    have HP1F := Lib.hid (HPR.out.p1.later HBF.out)
    have HCP2 := Lib.hid (bcopy_any HP1F.out.bd)
    rw [HQ6.out] at HCP2
    go_wp2_with fail
    refine HCP2.out.mono ?_
    rintro e wG ⟨gz, rfl, hbz, hbG⟩
    have HBG := Lib.hid (stepB HBF.out hbG)
    have HP1G := Lib.hid (HP1F.out.later hbG)
    have HP2G := Lib.hid (HPR.out.p2.later HBG.out)
    have HBZ := Lib.hid (show BothAt wG wF.heap.size l3 gz b2 k7 Bf Kf from ⟨hbz, HP2G.out.sk, fun k h1 h2 => by
      have h3 := hbz.ownLo h1
      have h4 := (HPR.out.p2.later HBF.out).ownLt (.inr h2)
      omega⟩)
    have HZA := Lib.hid (show ∀ k, own2 gz b2 k7 k → ¬own2 g6 b1 k6 k from fun k h1 h2 => by
      rcases h1 with h1 | h1
      · have h3 := hbz.ownLo h1
        have h4 := HP1F.out.ownLt h2
        omega
      · exact HPR.out.ap k h2 (.inr h1))
    have HRZ := Lib.hid (run_any HBZ.out HBR.out.2 HKL.out b)
    obtain ⟨qz, hqz⟩ : ∃ qz, gz.q = qz := ⟨_, rfl⟩
    have HQZ := Lib.hid hqz
    rw [hqz] at HRZ ⊢
    have cb := (HIX.out wG (stepB HPR.out.be HBG.out)).2.1
    have HZLO := Lib.hid (show ∀ k, own2 gz b2 k7 k → W.heap.size ≤ k from fun k hk => by
      rcases hk with hk | hk
      · have := hbz.ownLo hk
        have h5 := (stepB HPR.out.be HBF.out).size
        omega
      · have h6 := HPR.out.p2.sk.ownLo hk
        have := HL3.out
        omega)
    clear hbz hbG hqz HCP2
    dsimp only
    go_wp2_with fail
    refine HRZ.out.mono ?_
    rintro e wH ⟨r1, r2, gy, ky, rfl, hboy, hqy, hty, hdy, hxy⟩
    unfold runB runK at hboy
    unfold runD at hdy
    unfold runX at hxy
    unfold runN
    rw [HBR.out.1, if_pos rfl] at hdy hxy ⊢
    rw [HBR.out.1, if_pos rfl, if_pos rfl] at hboy
    obtain ⟨ra1, rc1, rfl⟩ := own_form1 hdy.row
    obtain ⟨ra2, rc2, rfl⟩ := own_form1 hxy.row
    have hfa := BothAt.far HP1G.out hty HZA.out
    have hb9 := below_new wH (.cells #[.slice ra1 ([] : List Int).length rc1, .slice ra2 ([] : List Int).length rc2, .int .i64 (0 : Nat)] 54)
    have HBH := Lib.hid (show Below W.heap.size W wH from hty.below (stepB HPR.out.be HBG.out) HZLO.out)
    have HSY := Lib.hid (bsame_any (S := Bf.S) (T := Bf.T) (D := Bf.D) (E := Bf.D) (hboy.bd.later hb9) (hfa.1.bd.later hb9))
    rw [eqD_self, HQ6.out, hqy, HQZ.out] at HSY
    have HS9 := Lib.hid (hfa.1.sk.later hb9)
    have HT9 := Lib.hid (hboy.sk.later hb9)
    have HB9 := Lib.hid (stepB HBH.out hb9)
    have hr9 := heap_alloc_new wH (.cells #[.slice ra1 ([] : List Int).length rc1, .slice ra2 ([] : List Int).length rc2, .int .i64 (0 : Nat)] 54)
    have z2 := cell_of_row _ wH.heap.size 2 _ _ (0, 0) hr9
    clear hboy hqy hty hdy hxy hfa hb9 hr9 HRZ cb
    dsimp only
    go_wp2_with fail
    refine HSY.out.mono ?_
    rintro e wI ⟨rfl, hbI⟩
    have z3' := cell_stays hbI z2
    have HSK9 := Lib.hid (same_stk (HS9.out.later hbI) (HT9.out.later hbI) (by have := HKL.out; omega))
    rw [decide_eq_true rfl] at HSK9
    have HBI := Lib.hid (stepB HB9.out hbI)
    clear hbI HSY z2
    go_wp2_with fail
    refine HSK9.out.mono ?_
    rintro e wJ ⟨rfl, nJ, hwJ⟩
    have z4 : wJ.cell? ⟨wH.heap.size, 2, none⟩ = some (.int .i64 0) := by rw [hwJ]; exact cell_stays (below_drewN (Below.refl _ _) nJ) z3'
    have HBJ := Lib.hid (show Below w.heap.size w wJ from stepB HB0.out (by rw [hwJ]; exact below_drewN HBI.out nJ))
    clear hwJ HSK9 z3'
    go_wp2
    go_ret
    exact ⟨rfl, HBJ.out⟩
  case first =>
   go_region_held3 (fun w' => w'.cell? ⟨q4, 1, none⟩ = some (.int .i64 b))
    (((repeat (first | (with_reducible refine keepA ?_) | (with_reducible refine keepS3 ?_ (by omega)) | (with_reducible refine keepD ?_))); (with_reducible assumption)))
    ((first | (go_at_call_of 26 (Value.pointer (some ⟨q, 0, none⟩)); refine calls_at HR1.out (by with_reducible exact (below_alloc2 (below_new _ _) _).drew) ?_; rintro e w6 hBV ⟨v1, v2, g6, k6, rfl, hbo6, hq6, ht6, hd6, hx6⟩; obtain ⟨xa1, xc1, rfl⟩ := own_form1 hd6.row; obtain ⟨xa2, xc2, rfl⟩ := own_form1 hx6.row; have hSZ := hBV.size; have hSX := ht6.size; have HK6 := Lib.hid (keep6 ht6 HLT1.out); have HF6 := Lib.hid (free6 ht6 HLT1.out); have HBO6 := Lib.hid hbo6; have HC6 := Lib.hid (BothAt.far (HP2.out.later hBV) ht6 HAP.out); have HD6 := Lib.hid (own_mono hd6.row hSZ); have HX6 := Lib.hid (own_mono hx6.row hSZ); have HB6 := Lib.hid (ht6.below (stepB HBV.out hBV) (fun k hk => (HLT1.out k hk).1)); have HQ6 := Lib.hid (hq6.trans HQ.out); have hV6 : V.heap.size ≤ w6.heap.size := Nat.le_trans hSZ hSX; have HR2 := Lib.hid (fun (w' : World) (hb : Below w6.heap.size w6 w') => run_any (HC6.out.1.later hb) HLN.out (by decide) b); rw [HQC.out] at HR2; have hS6 : w6.cell? ⟨q4, 1, none⟩ = some (.int .i64 b) := (HIX.out w6 HB6.out).2.1; have LT6A : V.heap.size < ((V.alloc (.cells #[.slice none 0 0, .slice none 0 0, .int .i64 0] 54)).alloc (.cells #[.slice none 0 0, .slice none 0 0, .int .i64 0] 54)).drew.heap.size := (Array.getElem?_eq_some_iff.1 (row_drew (row_next (heap_alloc_new V (.cells #[.slice none 0 0, .slice none 0 0, .int .i64 0] 54))))).1; have LT6B : V.heap.size + 1 < ((V.alloc (.cells #[.slice none 0 0, .slice none 0 0, .int .i64 0] 54)).alloc (.cells #[.slice none 0 0, .slice none 0 0, .int .i64 0] 54)).drew.heap.size := (Array.getElem?_eq_some_iff.1 (row_drew (heap_two V (.cells #[.slice none 0 0, .slice none 0 0, .int .i64 0] 54) (.cells #[.slice none 0 0, .slice none 0 0, .int .i64 0] 54)))).1; have HA6 : Hid (w6.heap[V.heap.size]? = some (.cells #[.slice none 0 0, .slice none 0 0, .int .i64 0] 54 (0, 0))) := Lib.hid (row_keptW HK6.out (row_drew (row_next (heap_alloc_new V (.cells #[.slice none 0 0, .slice none 0 0, .int .i64 0] 54)))) (Nat.le_refl _)); have HA7 : Hid (w6.heap[V.heap.size + 1]? = some (.cells #[.slice none 0 0, .slice none 0 0, .int .i64 0] 54 (0, 0))) := Lib.hid (row_keptW HK6.out (row_drew (heap_two V (.cells #[.slice none 0 0, .slice none 0 0, .int .i64 0] 54) (.cells #[.slice none 0 0, .slice none 0 0, .int .i64 0] 54))) (Nat.le_succ _)); clear hbo6 hq6 ht6 hd6 hx6 hSZ hSX hBV) | (go_at_call_of 26 (Value.pointer (some ⟨q, 0, none⟩)); refine calls_at HR1.out (by with_reducible exact (below_new _ _).drew) ?_; rintro e w6 hBV ⟨v1, v2, g6, k6, rfl, hbo6, hq6, ht6, hd6, hx6⟩; obtain ⟨xa1, xc1, rfl⟩ := own_form1 hd6.row; obtain ⟨xa2, xc2, rfl⟩ := own_form1 hx6.row; have hSZ := hBV.size; have hSX := ht6.size; have HK6 := Lib.hid (keep6 ht6 HLT1.out); have HF6 := Lib.hid (free6 ht6 HLT1.out); have HBO6 := Lib.hid hbo6; have HC6 := Lib.hid (BothAt.far (HP2.out.later hBV) ht6 HAP.out); have HD6 := Lib.hid (own_mono hd6.row hSZ); have HX6 := Lib.hid (own_mono hx6.row hSZ); have HB6 := Lib.hid (ht6.below (stepB HBV.out hBV) (fun k hk => (HLT1.out k hk).1)); have HQ6 := Lib.hid (hq6.trans HQ.out); have hV6 : V.heap.size ≤ w6.heap.size := Nat.le_trans hSZ hSX; have HR2 := Lib.hid (fun (w' : World) (hb : Below w6.heap.size w6 w') => run_any (HC6.out.1.later hb) HLN.out (by decide) b); rw [HQC.out] at HR2; have hS6 : w6.cell? ⟨q4, 1, none⟩ = some (.int .i64 b) := (HIX.out w6 HB6.out).2.1; have LT6A : V.heap.size < (V.alloc (.cells #[.slice none 0 0, .slice none 0 0, .int .i64 0] 54)).drew.heap.size := (Array.getElem?_eq_some_iff.1 (row_drew (heap_alloc_new V (.cells #[.slice none 0 0, .slice none 0 0, .int .i64 0] 54)))).1; have HA6 : Hid (w6.heap[V.heap.size]? = some (.cells #[.slice none 0 0, .slice none 0 0, .int .i64 0] 54 (0, 0))) := Lib.hid (row_keptW HK6.out (row_drew (heap_alloc_new V (.cells #[.slice none 0 0, .slice none 0 0, .int .i64 0] 54))) (Nat.le_refl _)); clear hbo6 hq6 ht6 hd6 hx6 hSZ hSX hBV) | (go_at_call_of 26 (Value.pointer (some ⟨q, 0, none⟩)); refine calls_at HR1.out (by with_reducible exact (Below.refl _ _).drew) ?_; rintro e w6 hBV ⟨v1, v2, g6, k6, rfl, hbo6, hq6, ht6, hd6, hx6⟩; obtain ⟨xa1, xc1, rfl⟩ := own_form1 hd6.row; obtain ⟨xa2, xc2, rfl⟩ := own_form1 hx6.row; have hSZ := hBV.size; have hSX := ht6.size; have HK6 := Lib.hid (keep6 ht6 HLT1.out); have HF6 := Lib.hid (free6 ht6 HLT1.out); have HBO6 := Lib.hid hbo6; have HC6 := Lib.hid (BothAt.far (HP2.out.later hBV) ht6 HAP.out); have HD6 := Lib.hid (own_mono hd6.row hSZ); have HX6 := Lib.hid (own_mono hx6.row hSZ); have HB6 := Lib.hid (ht6.below (stepB HBV.out hBV) (fun k hk => (HLT1.out k hk).1)); have HQ6 := Lib.hid (hq6.trans HQ.out); have hV6 : V.heap.size ≤ w6.heap.size := Nat.le_trans hSZ hSX; have HR2 := Lib.hid (fun (w' : World) (hb : Below w6.heap.size w6 w') => run_any (HC6.out.1.later hb) HLN.out (by decide) b); rw [HQC.out] at HR2; have hS6 : w6.cell? ⟨q4, 1, none⟩ = some (.int .i64 b) := (HIX.out w6 HB6.out).2.1; clear hbo6 hq6 ht6 hd6 hx6 hSZ hSX hBV) | (go_at_call_of 26 (Value.pointer (some ⟨qc, 0, none⟩)); refine calls_at HR2.out (by with_reducible exact (below_alloc2 (below_new _ _) _)) ?_; rintro e w7 hB6 ⟨u1, u2, g7, k7, rfl, hbo7, hq7, ht7, hd7, hx7⟩; obtain ⟨ya1, yc1, rfl⟩ := own_form1 hd7.row; obtain ⟨ya2, yc2, rfl⟩ := own_form1 hx7.row; have hSZ := hB6.size; have hSX := ht7.size; have h67 : w6.heap.size ≤ w7.heap.size := Nat.le_trans hSZ hSX; have HPR := Lib.hid (pair7 (HBO6.out.later hB6) hbo7 ht7 HC6.out.2 HLT2.out HF6.out (own_later HD6.out hB6) (own_later HX6.out hB6) (Nat.le_trans hV6 hSZ) hd7 hx7 (stepB HB6.out hB6)); have HQ7 := Lib.hid (hq7.trans HQC.out); have hS7 : w7.cell? ⟨q4, 1, none⟩ = some (.int .i64 b) := (HIX.out w7 HPR.out.be).2.1; have HK7 := Lib.hid (keep6 ht7 HLT2.out); have HF7 := Lib.hid (free6 ht7 HLT2.out); (first | (have HX1 : Hid (w7.heap[V.heap.size]? = some (.cells #[.slice none 0 0, .slice none 0 0, .int .i64 0] 54 (0, 0))) := Lib.hid (row_keptW HK7.out (row_later hB6 HA6.out) (Nat.le_refl _))) | skip); (first | (have HX2 : Hid (w7.heap[V.heap.size + 1]? = some (.cells #[.slice none 0 0, .slice none 0 0, .int .i64 0] 54 (0, 0))) := Lib.hid (row_keptW HK7.out (row_later hB6 HA7.out) (Nat.le_succ _))) | skip); have HX3 : Hid (w7.heap[w6.heap.size]? = some (.cells #[.slice none 0 0, .slice none 0 0, .int .i64 0] 54 (0, 0))) := Lib.hid (row_keptW HK7.out (row_next (heap_alloc_new w6 (.cells #[.slice none 0 0, .slice none 0 0, .int .i64 0] 54))) hV6); have HX4 : Hid (w7.heap[w6.heap.size + 1]? = some (.cells #[.slice none 0 0, .slice none 0 0, .int .i64 0] 54 (0, 0))) := Lib.hid (row_keptW HK7.out (heap_two w6 (.cells #[.slice none 0 0, .slice none 0 0, .int .i64 0] 54) (.cells #[.slice none 0 0, .slice none 0 0, .int .i64 0] 54)) (Nat.le_succ_of_le hV6)); (first | (have hl1 := (Array.getElem?_eq_some_iff.1 HX1.out).1; have c10 := row_c0 HX1.out; have c11 := row_c1 HX1.out; have c12 := row_c2 HX1.out; have f10 := row_f 0 HX1.out; have f11 := row_f 1 HX1.out; have f12 := row_f 2 HX1.out) | skip); (first | (have hl2 := (Array.getElem?_eq_some_iff.1 HX2.out).1; have c20 := row_c0 HX2.out; have c21 := row_c1 HX2.out; have c22 := row_c2 HX2.out; have f20 := row_f 0 HX2.out; have f21 := row_f 1 HX2.out; have f22 := row_f 2 HX2.out) | skip); (first | (have hl3 := (Array.getElem?_eq_some_iff.1 HX3.out).1; have c30 := row_c0 HX3.out; have c31 := row_c1 HX3.out; have c32 := row_c2 HX3.out; have f30 := row_f 0 HX3.out; have f31 := row_f 1 HX3.out; have f32 := row_f 2 HX3.out) | skip); (first | (have hl4 := (Array.getElem?_eq_some_iff.1 HX4.out).1; have c40 := row_c0 HX4.out; have c41 := row_c1 HX4.out; have c42 := row_c2 HX4.out; have f40 := row_f 0 HX4.out; have f41 := row_f 1 HX4.out; have f42 := row_f 2 HX4.out) | skip); (first | (have HY1 := Lib.hid (row_next (o' := (.cells #[.slice none 0 0, .slice none 0 0, .int .i64 0] 54)) HX1.out); have e10 := row_c0 HY1.out; have e11 := row_c1 HY1.out; have e12 := row_c2 HY1.out; have h10 := row_f 0 HY1.out; have h11 := row_f 1 HY1.out; have h12 := row_f 2 HY1.out) | skip); (first | (have HY2 := Lib.hid (row_next (o' := (.cells #[.slice none 0 0, .slice none 0 0, .int .i64 0] 54)) HX2.out); have e20 := row_c0 HY2.out; have e21 := row_c1 HY2.out; have e22 := row_c2 HY2.out; have h20 := row_f 0 HY2.out; have h21 := row_f 1 HY2.out; have h22 := row_f 2 HY2.out) | skip); (first | (have HY3 := Lib.hid (row_next (o' := (.cells #[.slice none 0 0, .slice none 0 0, .int .i64 0] 54)) HX3.out); have e30 := row_c0 HY3.out; have e31 := row_c1 HY3.out; have e32 := row_c2 HY3.out; have h30 := row_f 0 HY3.out; have h31 := row_f 1 HY3.out; have h32 := row_f 2 HY3.out) | skip); (first | (have HY4 := Lib.hid (row_next (o' := (.cells #[.slice none 0 0, .slice none 0 0, .int .i64 0] 54)) HX4.out); have e40 := row_c0 HY4.out; have e41 := row_c1 HY4.out; have e42 := row_c2 HY4.out; have h40 := row_f 0 HY4.out; have h41 := row_f 1 HY4.out; have h42 := row_f 2 HY4.out) | skip); (first | (have hA := (Array.getElem?_eq_some_iff.1 HA6.out).1; have n1 : ¬ V.heap.size = w6.heap.size := Nat.ne_of_lt hA; have n2 : ¬ w6.heap.size = V.heap.size := fun e => n1 e.symm; have m1 : ¬ V.heap.size = w7.heap.size := Nat.ne_of_lt (Nat.lt_of_lt_of_le hA h67); have m2 : ¬ w7.heap.size = V.heap.size := fun e => m1 e.symm) | skip); (first | (have m3 : ¬ w6.heap.size = w7.heap.size := Nat.ne_of_lt hl3; have m4 : ¬ w7.heap.size = w6.heap.size := fun e => m3 e.symm) | skip); have HFN := Lib.hid (show ∀ p, w7.heap.size ≤ p → FreeAt W w7 (own2 g6 b1 k6) (own2 g7 b2 k7) p from fun p hp => ⟨Nat.le_trans HPR.out.be.size hp, fun h => by have := HPR.out.p1.ownLt h; omega, fun h => by have := HPR.out.p2.ownLt h; omega, .inr hp⟩); have HFC := Lib.hid (show ∀ p, w6.heap.size ≤ p → w7.heap[p]? = some (.cells #[.slice none 0 0, .slice none 0 0, .int .i64 0] 54 (0, 0)) → (∀ k, V.heap.size ≤ k → k < w7.heap.size → (¬own2 g7 b2 k7 k) → True) → ¬own2 g7 b2 k7 p → FreeAt W w7 (own2 g6 b1 k6) (own2 g7 b2 k7) p from fun p hp hz _ ho => ⟨by have := HB6.out.size; omega, fun h => by have := HBO6.out.ownLt h; omega, ho, .inl hz⟩); (first | (have FR1 := Lib.hid (show FreeAt W w7 (own2 g6 b1 k6) (own2 g7 b2 k7) V.heap.size from ⟨HBV.out.size, HF6.out _ (Nat.le_refl _) LT6A, HF7.out _ (Nat.le_refl _) (Nat.lt_of_lt_of_le (Array.getElem?_eq_some_iff.1 HA6.out).1 hB6.size), .inl HX1.out⟩)) | skip); (first | (have FR2 := Lib.hid (show FreeAt W w7 (own2 g6 b1 k6) (own2 g7 b2 k7) (V.heap.size + 1) from ⟨Nat.le_succ_of_le HBV.out.size, HF6.out _ (Nat.le_succ _) LT6B, HF7.out _ (Nat.le_succ _) (Nat.lt_of_lt_of_le (Array.getElem?_eq_some_iff.1 HA7.out).1 hB6.size), .inl HX2.out⟩)) | skip); (first | (have FR3 := Lib.hid (HFC.out _ (Nat.le_refl _) HX3.out (fun _ _ _ _ => trivial) (HF7.out _ hV6 (by simp only [World.size_alloc]; omega)))) | skip); (first | (have FR4 := Lib.hid (HFC.out _ (Nat.le_succ _) HX4.out (fun _ _ _ _ => trivial) (HF7.out _ (Nat.le_succ_of_le hV6) (by simp only [World.size_alloc]; omega)))) | skip); clear hbo7 hq7 hd7 hx7 hSZ hSX) | (go_at_call_of 26 (Value.pointer (some ⟨qc, 0, none⟩)); refine calls_at HR2.out (by with_reducible exact (below_new _ _)) ?_; rintro e w7 hB6 ⟨u1, u2, g7, k7, rfl, hbo7, hq7, ht7, hd7, hx7⟩; obtain ⟨ya1, yc1, rfl⟩ := own_form1 hd7.row; obtain ⟨ya2, yc2, rfl⟩ := own_form1 hx7.row; have hSZ := hB6.size; have hSX := ht7.size; have h67 : w6.heap.size ≤ w7.heap.size := Nat.le_trans hSZ hSX; have HPR := Lib.hid (pair7 (HBO6.out.later hB6) hbo7 ht7 HC6.out.2 HLT2.out HF6.out (own_later HD6.out hB6) (own_later HX6.out hB6) (Nat.le_trans hV6 hSZ) hd7 hx7 (stepB HB6.out hB6)); have HQ7 := Lib.hid (hq7.trans HQC.out); have hS7 : w7.cell? ⟨q4, 1, none⟩ = some (.int .i64 b) := (HIX.out w7 HPR.out.be).2.1; have HK7 := Lib.hid (keep6 ht7 HLT2.out); have HF7 := Lib.hid (free6 ht7 HLT2.out); (first | (have HX1 : Hid (w7.heap[V.heap.size]? = some (.cells #[.slice none 0 0, .slice none 0 0, .int .i64 0] 54 (0, 0))) := Lib.hid (row_keptW HK7.out (row_later hB6 HA6.out) (Nat.le_refl _))) | skip); (first | (have HX2 : Hid (w7.heap[V.heap.size + 1]? = some (.cells #[.slice none 0 0, .slice none 0 0, .int .i64 0] 54 (0, 0))) := Lib.hid (row_keptW HK7.out (row_later hB6 HA7.out) (Nat.le_succ _))) | skip); have HX3 : Hid (w7.heap[w6.heap.size]? = some (.cells #[.slice none 0 0, .slice none 0 0, .int .i64 0] 54 (0, 0))) := Lib.hid (row_keptW HK7.out (heap_alloc_new w6 (.cells #[.slice none 0 0, .slice none 0 0, .int .i64 0] 54)) hV6); (first | (have hl1 := (Array.getElem?_eq_some_iff.1 HX1.out).1; have c10 := row_c0 HX1.out; have c11 := row_c1 HX1.out; have c12 := row_c2 HX1.out; have f10 := row_f 0 HX1.out; have f11 := row_f 1 HX1.out; have f12 := row_f 2 HX1.out) | skip); (first | (have hl2 := (Array.getElem?_eq_some_iff.1 HX2.out).1; have c20 := row_c0 HX2.out; have c21 := row_c1 HX2.out; have c22 := row_c2 HX2.out; have f20 := row_f 0 HX2.out; have f21 := row_f 1 HX2.out; have f22 := row_f 2 HX2.out) | skip); (first | (have hl3 := (Array.getElem?_eq_some_iff.1 HX3.out).1; have c30 := row_c0 HX3.out; have c31 := row_c1 HX3.out; have c32 := row_c2 HX3.out; have f30 := row_f 0 HX3.out; have f31 := row_f 1 HX3.out; have f32 := row_f 2 HX3.out) | skip); (first | (have hl4 := (Array.getElem?_eq_some_iff.1 HX4.out).1; have c40 := row_c0 HX4.out; have c41 := row_c1 HX4.out; have c42 := row_c2 HX4.out; have f40 := row_f 0 HX4.out; have f41 := row_f 1 HX4.out; have f42 := row_f 2 HX4.out) | skip); (first | (have HY1 := Lib.hid (row_next (o' := (.cells #[.slice none 0 0, .slice none 0 0, .int .i64 0] 54)) HX1.out); have e10 := row_c0 HY1.out; have e11 := row_c1 HY1.out; have e12 := row_c2 HY1.out; have h10 := row_f 0 HY1.out; have h11 := row_f 1 HY1.out; have h12 := row_f 2 HY1.out) | skip); (first | (have HY2 := Lib.hid (row_next (o' := (.cells #[.slice none 0 0, .slice none 0 0, .int .i64 0] 54)) HX2.out); have e20 := row_c0 HY2.out; have e21 := row_c1 HY2.out; have e22 := row_c2 HY2.out; have h20 := row_f 0 HY2.out; have h21 := row_f 1 HY2.out; have h22 := row_f 2 HY2.out) | skip); (first | (have HY3 := Lib.hid (row_next (o' := (.cells #[.slice none 0 0, .slice none 0 0, .int .i64 0] 54)) HX3.out); have e30 := row_c0 HY3.out; have e31 := row_c1 HY3.out; have e32 := row_c2 HY3.out; have h30 := row_f 0 HY3.out; have h31 := row_f 1 HY3.out; have h32 := row_f 2 HY3.out) | skip); (first | (have HY4 := Lib.hid (row_next (o' := (.cells #[.slice none 0 0, .slice none 0 0, .int .i64 0] 54)) HX4.out); have e40 := row_c0 HY4.out; have e41 := row_c1 HY4.out; have e42 := row_c2 HY4.out; have h40 := row_f 0 HY4.out; have h41 := row_f 1 HY4.out; have h42 := row_f 2 HY4.out) | skip); (first | (have hA := (Array.getElem?_eq_some_iff.1 HA6.out).1; have n1 : ¬ V.heap.size = w6.heap.size := Nat.ne_of_lt hA; have n2 : ¬ w6.heap.size = V.heap.size := fun e => n1 e.symm; have m1 : ¬ V.heap.size = w7.heap.size := Nat.ne_of_lt (Nat.lt_of_lt_of_le hA h67); have m2 : ¬ w7.heap.size = V.heap.size := fun e => m1 e.symm) | skip); (first | (have m3 : ¬ w6.heap.size = w7.heap.size := Nat.ne_of_lt hl3; have m4 : ¬ w7.heap.size = w6.heap.size := fun e => m3 e.symm) | skip); have HFN := Lib.hid (show ∀ p, w7.heap.size ≤ p → FreeAt W w7 (own2 g6 b1 k6) (own2 g7 b2 k7) p from fun p hp => ⟨Nat.le_trans HPR.out.be.size hp, fun h => by have := HPR.out.p1.ownLt h; omega, fun h => by have := HPR.out.p2.ownLt h; omega, .inr hp⟩); have HFC := Lib.hid (show ∀ p, w6.heap.size ≤ p → w7.heap[p]? = some (.cells #[.slice none 0 0, .slice none 0 0, .int .i64 0] 54 (0, 0)) → (∀ k, V.heap.size ≤ k → k < w7.heap.size → (¬own2 g7 b2 k7 k) → True) → ¬own2 g7 b2 k7 p → FreeAt W w7 (own2 g6 b1 k6) (own2 g7 b2 k7) p from fun p hp hz _ ho => ⟨by have := HB6.out.size; omega, fun h => by have := HBO6.out.ownLt h; omega, ho, .inl hz⟩); (first | (have FR1 := Lib.hid (show FreeAt W w7 (own2 g6 b1 k6) (own2 g7 b2 k7) V.heap.size from ⟨HBV.out.size, HF6.out _ (Nat.le_refl _) LT6A, HF7.out _ (Nat.le_refl _) (Nat.lt_of_lt_of_le (Array.getElem?_eq_some_iff.1 HA6.out).1 hB6.size), .inl HX1.out⟩)) | skip); (first | (have FR2 := Lib.hid (show FreeAt W w7 (own2 g6 b1 k6) (own2 g7 b2 k7) (V.heap.size + 1) from ⟨Nat.le_succ_of_le HBV.out.size, HF6.out _ (Nat.le_succ _) LT6B, HF7.out _ (Nat.le_succ _) (Nat.lt_of_lt_of_le (Array.getElem?_eq_some_iff.1 HA7.out).1 hB6.size), .inl HX2.out⟩)) | skip); (first | (have FR3 := Lib.hid (HFC.out _ (Nat.le_refl _) HX3.out (fun _ _ _ _ => trivial) (HF7.out _ hV6 (by simp only [World.size_alloc]; omega)))) | skip); (first | (have FR4 := Lib.hid (HFC.out _ (Nat.le_succ _) HX4.out (fun _ _ _ _ => trivial) (HF7.out _ (Nat.le_succ_of_le hV6) (by simp only [World.size_alloc]; omega)))) | skip); clear hbo7 hq7 hd7 hx7 hSZ hSX) | (go_at_call_of 26 (Value.pointer (some ⟨qc, 0, none⟩)); refine calls_at HR2.out (by with_reducible exact (Below.refl _ _)) ?_; rintro e w7 hB6 ⟨u1, u2, g7, k7, rfl, hbo7, hq7, ht7, hd7, hx7⟩; obtain ⟨ya1, yc1, rfl⟩ := own_form1 hd7.row; obtain ⟨ya2, yc2, rfl⟩ := own_form1 hx7.row; have hSZ := hB6.size; have hSX := ht7.size; have h67 : w6.heap.size ≤ w7.heap.size := Nat.le_trans hSZ hSX; have HPR := Lib.hid (pair7 (HBO6.out.later hB6) hbo7 ht7 HC6.out.2 HLT2.out HF6.out (own_later HD6.out hB6) (own_later HX6.out hB6) (Nat.le_trans hV6 hSZ) hd7 hx7 (stepB HB6.out hB6)); have HQ7 := Lib.hid (hq7.trans HQC.out); have hS7 : w7.cell? ⟨q4, 1, none⟩ = some (.int .i64 b) := (HIX.out w7 HPR.out.be).2.1; have HK7 := Lib.hid (keep6 ht7 HLT2.out); have HF7 := Lib.hid (free6 ht7 HLT2.out); (first | (have HX1 : Hid (w7.heap[V.heap.size]? = some (.cells #[.slice none 0 0, .slice none 0 0, .int .i64 0] 54 (0, 0))) := Lib.hid (row_keptW HK7.out (row_later hB6 HA6.out) (Nat.le_refl _))) | skip); (first | (have HX2 : Hid (w7.heap[V.heap.size + 1]? = some (.cells #[.slice none 0 0, .slice none 0 0, .int .i64 0] 54 (0, 0))) := Lib.hid (row_keptW HK7.out (row_later hB6 HA7.out) (Nat.le_succ _))) | skip); (first | (have hl1 := (Array.getElem?_eq_some_iff.1 HX1.out).1; have c10 := row_c0 HX1.out; have c11 := row_c1 HX1.out; have c12 := row_c2 HX1.out; have f10 := row_f 0 HX1.out; have f11 := row_f 1 HX1.out; have f12 := row_f 2 HX1.out) | skip); (first | (have hl2 := (Array.getElem?_eq_some_iff.1 HX2.out).1; have c20 := row_c0 HX2.out; have c21 := row_c1 HX2.out; have c22 := row_c2 HX2.out; have f20 := row_f 0 HX2.out; have f21 := row_f 1 HX2.out; have f22 := row_f 2 HX2.out) | skip); (first | (have hl3 := (Array.getElem?_eq_some_iff.1 HX3.out).1; have c30 := row_c0 HX3.out; have c31 := row_c1 HX3.out; have c32 := row_c2 HX3.out; have f30 := row_f 0 HX3.out; have f31 := row_f 1 HX3.out; have f32 := row_f 2 HX3.out) | skip); (first | (have hl4 := (Array.getElem?_eq_some_iff.1 HX4.out).1; have c40 := row_c0 HX4.out; have c41 := row_c1 HX4.out; have c42 := row_c2 HX4.out; have f40 := row_f 0 HX4.out; have f41 := row_f 1 HX4.out; have f42 := row_f 2 HX4.out) | skip); (first | (have HY1 := Lib.hid (row_next (o' := (.cells #[.slice none 0 0, .slice none 0 0, .int .i64 0] 54)) HX1.out); have e10 := row_c0 HY1.out; have e11 := row_c1 HY1.out; have e12 := row_c2 HY1.out; have h10 := row_f 0 HY1.out; have h11 := row_f 1 HY1.out; have h12 := row_f 2 HY1.out) | skip); (first | (have HY2 := Lib.hid (row_next (o' := (.cells #[.slice none 0 0, .slice none 0 0, .int .i64 0] 54)) HX2.out); have e20 := row_c0 HY2.out; have e21 := row_c1 HY2.out; have e22 := row_c2 HY2.out; have h20 := row_f 0 HY2.out; have h21 := row_f 1 HY2.out; have h22 := row_f 2 HY2.out) | skip); (first | (have HY3 := Lib.hid (row_next (o' := (.cells #[.slice none 0 0, .slice none 0 0, .int .i64 0] 54)) HX3.out); have e30 := row_c0 HY3.out; have e31 := row_c1 HY3.out; have e32 := row_c2 HY3.out; have h30 := row_f 0 HY3.out; have h31 := row_f 1 HY3.out; have h32 := row_f 2 HY3.out) | skip); (first | (have HY4 := Lib.hid (row_next (o' := (.cells #[.slice none 0 0, .slice none 0 0, .int .i64 0] 54)) HX4.out); have e40 := row_c0 HY4.out; have e41 := row_c1 HY4.out; have e42 := row_c2 HY4.out; have h40 := row_f 0 HY4.out; have h41 := row_f 1 HY4.out; have h42 := row_f 2 HY4.out) | skip); (first | (have hA := (Array.getElem?_eq_some_iff.1 HA6.out).1; have n1 : ¬ V.heap.size = w6.heap.size := Nat.ne_of_lt hA; have n2 : ¬ w6.heap.size = V.heap.size := fun e => n1 e.symm; have m1 : ¬ V.heap.size = w7.heap.size := Nat.ne_of_lt (Nat.lt_of_lt_of_le hA h67); have m2 : ¬ w7.heap.size = V.heap.size := fun e => m1 e.symm) | skip); (first | (have m3 : ¬ w6.heap.size = w7.heap.size := Nat.ne_of_lt hl3; have m4 : ¬ w7.heap.size = w6.heap.size := fun e => m3 e.symm) | skip); have HFN := Lib.hid (show ∀ p, w7.heap.size ≤ p → FreeAt W w7 (own2 g6 b1 k6) (own2 g7 b2 k7) p from fun p hp => ⟨Nat.le_trans HPR.out.be.size hp, fun h => by have := HPR.out.p1.ownLt h; omega, fun h => by have := HPR.out.p2.ownLt h; omega, .inr hp⟩); have HFC := Lib.hid (show ∀ p, w6.heap.size ≤ p → w7.heap[p]? = some (.cells #[.slice none 0 0, .slice none 0 0, .int .i64 0] 54 (0, 0)) → (∀ k, V.heap.size ≤ k → k < w7.heap.size → (¬own2 g7 b2 k7 k) → True) → ¬own2 g7 b2 k7 p → FreeAt W w7 (own2 g6 b1 k6) (own2 g7 b2 k7) p from fun p hp hz _ ho => ⟨by have := HB6.out.size; omega, fun h => by have := HBO6.out.ownLt h; omega, ho, .inl hz⟩); (first | (have FR1 := Lib.hid (show FreeAt W w7 (own2 g6 b1 k6) (own2 g7 b2 k7) V.heap.size from ⟨HBV.out.size, HF6.out _ (Nat.le_refl _) LT6A, HF7.out _ (Nat.le_refl _) (Nat.lt_of_lt_of_le (Array.getElem?_eq_some_iff.1 HA6.out).1 hB6.size), .inl HX1.out⟩)) | skip); (first | (have FR2 := Lib.hid (show FreeAt W w7 (own2 g6 b1 k6) (own2 g7 b2 k7) (V.heap.size + 1) from ⟨Nat.le_succ_of_le HBV.out.size, HF6.out _ (Nat.le_succ _) LT6B, HF7.out _ (Nat.le_succ _) (Nat.lt_of_lt_of_le (Array.getElem?_eq_some_iff.1 HA7.out).1 hB6.size), .inl HX2.out⟩)) | skip); (first | (have FR3 := Lib.hid (HFC.out _ (Nat.le_refl _) HX3.out (fun _ _ _ _ => trivial) (HF7.out _ hV6 (by simp only [World.size_alloc]; omega)))) | skip); (first | (have FR4 := Lib.hid (HFC.out _ (Nat.le_succ _) HX4.out (fun _ _ _ _ => trivial) (HF7.out _ (Nat.le_succ_of_le hV6) (by simp only [World.size_alloc]; omega)))) | skip); clear hbo7 hq7 hd7 hx7 hSZ hSX)))
   all_goals
    go_wp2
    go_meet
    case rel =>
      first
      | exact fin8 HPR.out HQ6 HQ7 rfl rfl (by with_reducible exact shape2 w7 _ _ _) (HFN.out _ (Nat.le_refl _)) (HFN.out _ (Nat.le_succ _))
      | exact fin8 HPR.out HQ6 HQ7 rfl rfl (by with_reducible exact (shape2 w7 _ _ _).flip) (HFN.out _ (Nat.le_succ _)) (HFN.out _ (Nat.le_refl _))
      | exact fin8 HPR.out HQ6 HQ7 rfl rfl (by with_reducible exact shape1 w7 _ HX1.out) FR1.out (HFN.out _ (Nat.le_refl _))
      | exact fin8 HPR.out HQ6 HQ7 rfl rfl (by with_reducible exact (shape1 w7 _ HX1.out).flip) (HFN.out _ (Nat.le_refl _)) FR1.out
      | exact fin8 HPR.out HQ6 HQ7 rfl rfl (by with_reducible exact shape1 w7 _ HX3.out) FR3.out (HFN.out _ (Nat.le_refl _))
      | exact fin8 HPR.out HQ6 HQ7 rfl rfl (by with_reducible exact (shape1 w7 _ HX3.out).flip) (HFN.out _ (Nat.le_refl _)) FR3.out
      | exact fin8 HPR.out HQ6 HQ7 rfl rfl (by with_reducible exact shape0 w7 HX1.out HX2.out (by omega)) FR1.out FR2.out
      | exact fin8 HPR.out HQ6 HQ7 rfl rfl (by with_reducible exact shape0 w7 HX2.out HX1.out (by omega)) FR2.out FR1.out
      | exact fin8 HPR.out HQ6 HQ7 rfl rfl (by with_reducible exact shape0 w7 HX3.out HX4.out (by omega)) FR3.out FR4.out
      | exact fin8 HPR.out HQ6 HQ7 rfl rfl (by with_reducible exact shape0 w7 HX4.out HX3.out (by omega)) FR4.out FR3.out
      | exact fin8 HPR.out HQ6 HQ7 rfl rfl (by with_reducible exact shape0 w7 HX1.out HX3.out n1) FR1.out FR3.out
      | exact fin8 HPR.out HQ6 HQ7 rfl rfl (by with_reducible exact shape0 w7 HX3.out HX1.out n2) FR3.out FR1.out
      | (trace_state; fail "leaf")
end Go.Proofs.YtokgmffibafkcaaGreat

/- Plain facts for the laws of layer 6: what a move leaves; blocks of the call's own that a store's changes leave. -/
import Derived.Test.YtkhgdfalbmkgcaaGreatLa
import Derived.Test.YtkhgdfalbmkgcaaGreatLc
import Derived.Test.YtkhgdfalbmkgcaaGreatJw
import Derived.Test.YtkhgdfalbmkgcaaGreatHo
namespace Go.Proofs.YtkhgdfalbmkgcaaGreat
open Go.RowKit Go.Maps

/-- Blocks that are nobody's stay, whatever becomes of a store. -/
def Kept (W : World) (G : Ghost) (rows : List (Nat × Obj)) : Prop := ∀ p ∈ rows, W.heap[p.1]? = some p.2 ∧ G.tag p.1 = .no
theorem Kept.lt {W : World} {G : Ghost} {rows : List (Nat × Obj)} (h : Kept W G rows) {p : Nat × Obj} (hp : p ∈ rows) : p.1 < W.heap.size := (Array.getElem?_eq_some_iff.1 (h p hp).1).1
theorem Kept.later {W W' : World} {G : Ghost} {rows : List (Nat × Obj)} (h : Kept W G rows) (hb : Below W.heap.size W W') : Kept W' G rows := fun p hp => ⟨(hb.block _ (h.lt hp)).trans (h p hp).1, (h p hp).2⟩
theorem Kept.turn {W W' : World} {G G' : Ghost} {rows : List (Nat × Obj)} (h : Kept W G rows) (ht : Turned W W' G G') : Kept W' G' rows := fun p hp => ⟨(ht.chg.block _ (h.lt hp) (.inl (h p hp).2)).trans (h p hp).1, (ht.tag _ (h.lt hp)).trans (h p hp).2⟩
theorem Kept.cons {W : World} {G : Ghost} {rows : List (Nat × Obj)} {k : Nat} {o : Obj} (h : Kept W G rows) (h1 : W.heap[k]? = some o) (h2 : G.tag k = .no) : Kept W G ((k, o) :: rows) := fun p hp => by
  rcases List.mem_cons.1 hp with rfl | hp
  · exact ⟨h1, h2⟩
  · exact h p hp
theorem Kept.cell {W : World} {G : Ghost} {rows : List (Nat × Obj)} (h : Kept W G rows) {k j : Nat} {xs : Array Value} {t : TypeId} (hp : (k, Obj.cells xs t (0, 0)) ∈ rows) : W.cell? ⟨k, j, none⟩ = xs[j]? := cell_of_row _ _ _ _ _ (0, 0) (h _ hp).1
theorem Kept.head {W : World} {G : Ghost} {rows : List (Nat × Obj)} (h : Kept W G rows) {k : Nat} {v : Value} {t : TypeId} (hp : (k, Obj.cells #[v] t (0, 0)) ∈ rows) : HdAt W k v := ⟨t, (h _ hp).1⟩
theorem Kept.c0 {W : World} {G : Ghost} {r : List (Nat × Obj)} {k : Nat} {xs : Array Value} {t : TypeId} (h : Kept W G ((k, Obj.cells xs t (0, 0)) :: r)) (j : Nat) : W.cell? ⟨k, j, none⟩ = xs[j]? := h.cell (k := k) (xs := xs) (t := t) (by simp)
theorem Kept.c1 {W : World} {G : Ghost} {r : List (Nat × Obj)} {p0 : Nat × Obj} {k : Nat} {xs : Array Value} {t : TypeId} (h : Kept W G (p0 :: (k, Obj.cells xs t (0, 0)) :: r)) (j : Nat) : W.cell? ⟨k, j, none⟩ = xs[j]? := h.cell (k := k) (xs := xs) (t := t) (by simp)
theorem Kept.c2 {W : World} {G : Ghost} {r : List (Nat × Obj)} {p0 p1 : Nat × Obj} {k : Nat} {xs : Array Value} {t : TypeId} (h : Kept W G (p0 :: p1 :: (k, Obj.cells xs t (0, 0)) :: r)) (j : Nat) : W.cell? ⟨k, j, none⟩ = xs[j]? := h.cell (k := k) (xs := xs) (t := t) (by simp)
theorem Kept.c3 {W : World} {G : Ghost} {r : List (Nat × Obj)} {p0 p1 p2 : Nat × Obj} {k : Nat} {xs : Array Value} {t : TypeId} (h : Kept W G (p0 :: p1 :: p2 :: (k, Obj.cells xs t (0, 0)) :: r)) (j : Nat) : W.cell? ⟨k, j, none⟩ = xs[j]? := h.cell (k := k) (xs := xs) (t := t) (by simp)
theorem Kept.c4 {W : World} {G : Ghost} {r : List (Nat × Obj)} {p0 p1 p2 p3 : Nat × Obj} {k : Nat} {xs : Array Value} {t : TypeId} (h : Kept W G (p0 :: p1 :: p2 :: p3 :: (k, Obj.cells xs t (0, 0)) :: r)) (j : Nat) : W.cell? ⟨k, j, none⟩ = xs[j]? := h.cell (k := k) (xs := xs) (t := t) (by simp)
theorem Kept.c5 {W : World} {G : Ghost} {r : List (Nat × Obj)} {p0 p1 p2 p3 p4 : Nat × Obj} {k : Nat} {xs : Array Value} {t : TypeId} (h : Kept W G (p0 :: p1 :: p2 :: p3 :: p4 :: (k, Obj.cells xs t (0, 0)) :: r)) (j : Nat) : W.cell? ⟨k, j, none⟩ = xs[j]? := h.cell (k := k) (xs := xs) (t := t) (by simp)
theorem Kept.h0 {W : World} {G : Ghost} {r : List (Nat × Obj)} {k : Nat} {v : Value} {t : TypeId} (h : Kept W G ((k, Obj.cells #[v] t (0, 0)) :: r)) : HdAt W k v := h.head (k := k) (v := v) (t := t) (by simp)
theorem Kept.h1 {W : World} {G : Ghost} {r : List (Nat × Obj)} {p0 : Nat × Obj} {k : Nat} {v : Value} {t : TypeId} (h : Kept W G (p0 :: (k, Obj.cells #[v] t (0, 0)) :: r)) : HdAt W k v := h.head (k := k) (v := v) (t := t) (by simp)
theorem Kept.h2 {W : World} {G : Ghost} {r : List (Nat × Obj)} {p0 p1 : Nat × Obj} {k : Nat} {v : Value} {t : TypeId} (h : Kept W G (p0 :: p1 :: (k, Obj.cells #[v] t (0, 0)) :: r)) : HdAt W k v := h.head (k := k) (v := v) (t := t) (by simp)
theorem Kept.h3 {W : World} {G : Ghost} {r : List (Nat × Obj)} {p0 p1 p2 : Nat × Obj} {k : Nat} {v : Value} {t : TypeId} (h : Kept W G (p0 :: p1 :: p2 :: (k, Obj.cells #[v] t (0, 0)) :: r)) : HdAt W k v := h.head (k := k) (v := v) (t := t) (by simp)
theorem Kept.h4 {W : World} {G : Ghost} {r : List (Nat × Obj)} {p0 p1 p2 p3 : Nat × Obj} {k : Nat} {v : Value} {t : TypeId} (h : Kept W G (p0 :: p1 :: p2 :: p3 :: (k, Obj.cells #[v] t (0, 0)) :: r)) : HdAt W k v := h.head (k := k) (v := v) (t := t) (by simp)
theorem Kept.h5 {W : World} {G : Ghost} {r : List (Nat × Obj)} {p0 p1 p2 p3 p4 : Nat × Obj} {k : Nat} {v : Value} {t : TypeId} (h : Kept W G (p0 :: p1 :: p2 :: p3 :: p4 :: (k, Obj.cells #[v] t (0, 0)) :: r)) : HdAt W k v := h.head (k := k) (v := v) (t := t) (by simp)
theorem apart_copyO {w w3 : World} {lo b b' : Nat} {G G' : Ghost} {S S' : StoreL} (h : StoreAt w lo b G S) (h' : StoreAt w3 w.heap.size b' G' S') : Apart G G' := fun k => by
  by_cases hk : k < w.heap.size
  · exact .inr (Classical.byContradiction fun hn => by have := h'.low k hn; omega)
  · exact .inl (h.high k (by omega))
theorem inL_nat {S : StoreL} {ow z : Nat} (ho : ow < S.seats) (h1 : 1 ≤ z) (h7 : z ≤ 7) : inL S (ow : Int) (z : Int) = S.pl (canN ow z) z := by
  unfold inL
  rw [canN_cast, if_pos (okI_nat.2 (canN_ok ho h1 h7))]
  simp
theorem inL_len {S : StoreL} (h : ShortS S) (s z : Int) : (inL S s z).length ≤ 1000 := by
  unfold inL
  split
  · exact h.2 _ _ (okK_of ‹_›)
  · simp
theorem below_putO {A W : World} {D : Nat} {o : Obj} (o' : Obj) (h : Below A.heap.size A W) (hD : A.heap.size ≤ D) (ho : W.heap[D]? = some o) (hc : o.isCells = false) : Below A.heap.size A (W.putObj D o') :=
  OwnFrom.putObj (ownFrom_below (β := Unit) (n₀ := A.heap.size) (w₀ := A) (Nat.le_refl _) (Nat.le_refl _)) (s := ()) o' h hD ho hc
structure MovedS (S S1 : StoreL) (j : Nat) (X : ObjL) (z : Nat) (un : Bool) : Prop where
  wf : WfS S1
  objs : S1.objs = S.objs.set j (freshO S.T ((j : Int) + 1) X.card X.owner z)
  T : S1.T = S.T
  seats : S1.seats = S.seats
  pl : ∃ L', S1.pl (canN X.owner.toNat z) z = insL L' (if un then L'.length else 0) ((j : Int) + 1)
theorem move_step {S : StoreL} (h : WfS S) {j : Nat} (hj : j < S.objs.length) {X : ObjL} (hX : S.objs[j] = X) {z : Nat} (h1 : 1 ≤ z) (h7 : z ≤ 7) (un : Bool) : MovedS S (moveL S j X z un) j X z un := by
  subst hX
  refine ⟨h.move hj h1 h7 un, rfl, rfl, rfl, ?_⟩
  rw [moveL_pl h hj h1 h7 un, upd_same]
  exact ⟨_, rfl⟩
theorem MovedS.len {S S1 : StoreL} {j : Nat} {X : ObjL} {z : Nat} {un : Bool} (h : MovedS S S1 j X z un) : S1.objs.length = S.objs.length := by rw [h.objs, List.length_set]
theorem MovedS.same {S S1 : StoreL} {j : Nat} {X : ObjL} {z : Nat} {un : Bool} (h : MovedS S S1 j X z un) (hj : j < S1.objs.length) : S1.objs[j] = freshO S.T ((j : Int) + 1) X.card X.owner z := by
  have e := h.objs
  have : ∀ (L : List ObjL) (hL : L = S.objs.set j (freshO S.T ((j : Int) + 1) X.card X.owner z)) (hh : j < L.length), L[j]'hh = freshO S.T ((j : Int) + 1) X.card X.owner z := by
    rintro L rfl hh
    exact List.getElem_set_self _
  exact this _ e hj
theorem MovedS.other {S S1 : StoreL} {j k : Nat} {X : ObjL} {z : Nat} {un : Bool} (h : MovedS S S1 j X z un) (hk : k < S1.objs.length) (hk' : k < S.objs.length) (hne : j ≠ k) : S1.objs[k] = S.objs[k] := by
  have e := h.objs
  have : ∀ (L : List ObjL) (hL : L = S.objs.set j (freshO S.T ((j : Int) + 1) X.card X.owner z)) (hh : k < L.length), L[k]'hh = S.objs[k] := by
    rintro L rfl hh
    exact List.getElem_set_ne hne _
  exact this _ e hk
theorem MovedS.in_home {S S1 : StoreL} {j ow z : Nat} {X : ObjL} {un : Bool} (h : MovedS S S1 j X z un) (ho : X.owner = ow) (hs : ow < S.seats) (h1 : 1 ≤ z) (h7 : z ≤ 7) : ∃ L', inL S1 (ow : Int) (z : Int) = if un then L' ++ [(j : Int) + 1] else ((j : Int) + 1) :: L' := by
  obtain ⟨L', hL⟩ := h.pl
  rw [ho, Int.toNat_natCast] at hL
  rw [inL_nat (by rw [h.seats]; exact hs) h1 h7, hL]
  refine ⟨L', ?_⟩
  cases un
  · exact insL_top _ _
  · exact insL_end _ _
theorem fresh_form (T : List Crd.CardL) (i n o z : Int) : ∃ s0, freshO T i n o z = ⟨i, n, o, z, false, s0, 0, 0, 0, 0, false⟩ := ⟨_, rfl⟩
theorem results_b6 {fn : Func} {tmps : Array Value} {W : World} {b : Nat} {v : Bool} (h : fn.results = #[.cell 6 4]) (ht : tmps.getD 6 undef = .pointer (some ⟨b, 0, none⟩)) (hc : HdAt W b (.bool v)) : (results fn tmps).run Tryz.prog W = .ok (.bool v) W := by
  have hc := hc.cell
  simp only [Array.getD_eq_getD_getElem?] at ht
  simp [results, h, go_sem, ht, hc]
end Go.Proofs.YtkhgdfalbmkgcaaGreat

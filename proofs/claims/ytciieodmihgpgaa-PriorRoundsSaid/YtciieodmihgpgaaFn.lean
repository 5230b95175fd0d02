/- What a round of a range over a function keeps. -/
import Derived.Test.YtciieodmihgpgaaFh
import Derived.Test.YtciieodmihgpgaaRg
namespace Go.Proofs.Ytciieodmihgpgaa
open Go.RowKit

/-- A box with one value. -/
def HdAt (W : World) (b : Nat) (v : Value) : Prop := ∃ t, W.heap[b]? = some (.cells #[v] t (0, 0))
theorem HdAt.lt {W : World} {b : Nat} {v : Value} (h : HdAt W b v) : b < W.heap.size := by obtain ⟨t, h⟩ := h; exact (Array.getElem?_eq_some_iff.1 h).1
theorem HdAt.one {W : World} {b : Nat} {v v' : Value} (h : HdAt W b v) (h' : HdAt W b v') : v = v' := by
  obtain ⟨t, h⟩ := h
  obtain ⟨t', h'⟩ := h'
  rw [h] at h'
  injection h' with h'
  injection h' with h' _ _
  injection h' with h'
  injection h' with h' _
theorem HdAt.of {W W' : World} {b : Nat} {v : Value} (h : HdAt W b v) (he : W'.heap[b]? = W.heap[b]?) : HdAt W' b v := by obtain ⟨t, h⟩ := h; exact ⟨t, he.trans h⟩
theorem HdAt.later {W W' : World} {b : Nat} {v : Value} (h : HdAt W b v) (hb : Below W.heap.size W W') : HdAt W' b v := h.of (hb.block b h.lt)
theorem HdAt.cell {W : World} {b : Nat} {v : Value} (h : HdAt W b v) : W.cell? ⟨b, 0, none⟩ = some v := by obtain ⟨t, h⟩ := h; rw [cell_of_row W b 0 _ _ _ h]; rfl
theorem HdAt.frozen {W : World} {b : Nat} {v : Value} (h : HdAt W b v) : W.frozen? ⟨b, 0, none⟩ = false := by obtain ⟨t, h⟩ := h; exact frozen_of_row W b 0 _ _ h
theorem HdAt.new (W : World) (v : Value) (t : TypeId) : HdAt (W.alloc (.cells #[v] t)) W.heap.size v := ⟨t, World.alloc_heap_new W _⟩
theorem HdAt.set {W : World} {b : Nat} {v : Value} (h : HdAt W b v) (u : Value) : HdAt (W.setCell ⟨b, 0, none⟩ u) b u := by
  obtain ⟨t, h⟩ := h
  exact ⟨t, by rw [heap_setCell_same W b 0 _ _ u h]; rfl⟩
theorem HdAt.other {W : World} {b c j : Nat} {v : Value} (h : HdAt W b v) (hne : b ≠ c) (u : Value) : HdAt (W.setCell ⟨c, j, none⟩ u) b v := h.of (heap_setCell_other W ⟨c, j, none⟩ b u hne)
theorem newer_ne1 {w : World} {g g' : Option Nat} {k : Nat} (hn : Newer w g g') (hk : k < w.heap.size) (hg : g ≠ some k) : g' ≠ some k := by
  rcases hn with e | ⟨r, e, hr⟩
  · rw [e]; exact hg
  · rw [e]; intro e2; injection e2 with e2; omega
/-- A block that is none of the heads, nor of their rows. -/
def Off (H : Nat → Prop) (W : World) (k : Nat) : Prop := ¬H k ∧ ∀ b, H b → ∃ v, HdAt W b v ∧ v.ownBlock ≠ some k
/-- What a round keeps: all but the blocks E, the heads H and their rows (as they are read off the world). -/
structure KpP (E H : Nat → Prop) (W W' : World) : Prop where
  size : W.heap.size ≤ W'.heap.size
  rest : ∀ k o, W.heap[k]? = some o → ¬E k → (o.isCells = true → Off H W k) → W'.heap[k]? = some o
  head : ∀ b v, H b → HdAt W b v → ∃ v', HdAt W' b v' ∧ Newer W v.ownBlock v'.ownBlock
theorem KpP.off {E H : Nat → Prop} {W W' : World} {k : Nat} (h : KpP E H W W') (ho : Off H W k) (hk : k < W.heap.size) : Off H W' k :=
  ⟨ho.1, fun b hb => by
    obtain ⟨v, h1, h2⟩ := ho.2 b hb
    obtain ⟨v', h3, h4⟩ := h.head b v hb h1
    exact ⟨v', h3, newer_ne1 h4 hk h2⟩⟩
theorem KpP.refl (E H : Nat → Prop) (W : World) : KpP E H W W := ⟨Nat.le_refl _, fun _ _ h _ _ => h, fun _ v _ h => ⟨v, h, .inl rfl⟩⟩
theorem KpP.trans {E H : Nat → Prop} {A B C : World} (h : KpP E H A B) (k : KpP E H B C) : KpP E H A C :=
  ⟨Nat.le_trans h.size k.size, fun i o ho hE hH => k.rest i o (h.rest i o ho hE hH) hE (fun hc => h.off (hH hc) (Array.getElem?_eq_some_iff.1 ho).1), fun b v hb hv => by
    obtain ⟨v1, h1, n1⟩ := h.head b v hb hv
    obtain ⟨v2, h2, n2⟩ := k.head b v1 hb h1
    refine ⟨v2, h2, ?_⟩
    rcases n2 with e | ⟨r, e, hr⟩
    · rw [e]; exact n1
    · exact .inr ⟨r, e, Nat.le_trans h.size hr⟩⟩
theorem KpP.mono {E E' H : Nat → Prop} {W W' : World} (h : KpP E H W W') (hE : ∀ k, E k → E' k) : KpP E' H W W' := ⟨h.size, fun k o ho hn hH => h.rest k o ho (fun e => hn (hE k e)) hH, h.head⟩
theorem KpP.of_below {W W' : World} (E H : Nat → Prop) (h : Below W.heap.size W W') : KpP E H W W' :=
  ⟨h.size, fun k _ ho _ _ => (h.block k (Array.getElem?_eq_some_iff.1 ho).1).trans ho, fun _ v _ hv => ⟨v, hv.later h, .inl rfl⟩⟩
theorem KpP.from {E H : Nat → Prop} {W W' : World} {B : Nat} (h : KpP E H W W') (hE : ∀ k, E k → k < B) : KeepsFrom B W W' :=
  ⟨h.size, fun k o hB ho hc => h.rest k o ho (fun e => by have := hE k e; omega) (fun hc' => by rw [hc] at hc'; cases hc')⟩
theorem KpP.put {E H : Nat → Prop} {W : World} {l : Nat} {o : Obj} (o' : Obj) (hl : E l) (ho : W.heap[l]? = some o) (hc : o.isCells = false) : KpP E H W (W.putObj l o') :=
  ⟨by simp, fun k _ hk hE _ => (World.putObj_heap_other (fun e => hE (by rw [e]; exact hl))).trans hk, fun _ v _ hv => by
    refine ⟨v, hv.of (World.putObj_heap_other (fun e => ?_)), .inl rfl⟩
    obtain ⟨t, hv⟩ := hv
    rw [e, ho] at hv
    injection hv with hv
    rw [hv] at hc
    simp [Obj.isCells] at hc⟩
theorem own_cells {W : World} {lo n : Nat} {t : TypeId} {v : Value} {xs : List Value} (h : W.ownsRow lo t 1 v n xs) : ∀ k, v.ownBlock = some k → ∃ o, W.heap[k]? = some o ∧ o.isCells = true := by
  intro k hk
  rcases h.2 with ⟨rfl, _⟩ | ⟨g', cap, cur, rfl, _, hg, _⟩
  · simp [Value.ownBlock] at hk
  · obtain rfl : g' = k := by simpa [Value.ownBlock] using hk
    exact ⟨_, hg, rfl⟩
theorem Off.later {H : Nat → Prop} {W W' : World} {k : Nat} (h : Off H W k) (hb : Below W.heap.size W W') : Off H W' k := ⟨h.1, fun b hb' => by obtain ⟨v, h1, h2⟩ := h.2 b hb'; exact ⟨v, h1.later hb, h2⟩⟩
theorem HdAt.grown {A B : World} {b : Nat} {v : Value} {row : Option Nat} (h : HdAt A b v) (hg : A.grownBy B row) (hr : ∀ r, row = some r → ∃ o : Obj, A.heap[r]? = some o ∧ o.isCells = false) : HdAt B b v := by
  obtain ⟨t, h⟩ := h
  exact ⟨t, (grownBy_keeps_cells hg hr h rfl).trans h⟩
theorem Off.grown {H : Nat → Prop} {A B : World} {k : Nat} {row : Option Nat} (h : Off H A k) (hg : A.grownBy B row) (hr : ∀ r, row = some r → ∃ o : Obj, A.heap[r]? = some o ∧ o.isCells = false) : Off H B k :=
  ⟨h.1, fun b hb' => by obtain ⟨v, h1, h2⟩ := h.2 b hb'; exact ⟨v, h1.grown hg hr, h2⟩⟩
/-- A slice's row stays. -/
theorem vals_kp {E H : Nat → Prop} {W W' : World} {v : Value} {xs : List Value} (h : ValsAt W v xs) (hk : KpP E H W W') (hv : ∀ k, v.ownBlock = some k → ¬E k ∧ Off H W k) : ValsAt W' v xs := by
  rcases h with h | ⟨r, off, cap, rfl, hlt, hcell⟩
  · exact .inl h
  · obtain ⟨h1, h2⟩ := hv r rfl
    obtain ⟨o, ho⟩ : ∃ o, W.heap[r]? = some o := ⟨_, Array.getElem?_eq_getElem hlt⟩
    refine .inr ⟨r, off, cap, rfl, Nat.lt_of_lt_of_le hlt hk.size, fun i hi => ?_⟩
    rw [World.cell?_of_block (w := W) (a := ⟨r, off + i, none⟩) ((hk.rest r o ho h1 (fun _ => h2)).trans ho.symm)]
    exact hcell i hi
/-- Boxes that stay. -/
def Boxes (H : Nat → Prop) (ks : List (Nat × Value)) (W : World) : Prop := ∀ q ∈ ks, HdAt W q.1 q.2 ∧ Off H W q.1
theorem Boxes.kept {E H : Nat → Prop} {ks : List (Nat × Value)} {W W' : World} (h : Boxes H ks W) (hk : KpP E H W W') (hE : ∀ q ∈ ks, ¬E q.1) : Boxes H ks W' := fun q hq => by
  obtain ⟨h1, h2⟩ := h q hq
  refine ⟨?_, hk.off h2 h1.lt⟩
  obtain ⟨t, h1⟩ := h1
  exact ⟨t, hk.rest q.1 _ h1 (hE q hq) (fun _ => h2)⟩
theorem Boxes.later {H : Nat → Prop} {ks : List (Nat × Value)} {W W' : World} (h : Boxes H ks W) (hb : Below W.heap.size W W') : Boxes H ks W' := fun q hq => ⟨(h q hq).1.later hb, (h q hq).2.later hb⟩
theorem Boxes.grown {H : Nat → Prop} {ks : List (Nat × Value)} {A B : World} {row : Option Nat} (h : Boxes H ks A) (hg : A.grownBy B row) (hr : ∀ r, row = some r → ∃ o : Obj, A.heap[r]? = some o ∧ o.isCells = false) : Boxes H ks B := fun q hq => ⟨(h q hq).1.grown hg hr, (h q hq).2.grown hg hr⟩
/-- The heads lie there, with rows. -/
def Heads (H : Nat → Prop) (W : World) : Prop := ∀ b, H b → ∃ v, HdAt W b v ∧ ∀ k, v.ownBlock = some k → k < W.heap.size
theorem Heads.later {H : Nat → Prop} {W W' : World} (h : Heads H W) (hb : Below W.heap.size W W') : Heads H W' := fun b hb' => by obtain ⟨v, h1, h2⟩ := h b hb'; exact ⟨v, h1.later hb, fun k hk => Nat.lt_of_lt_of_le (h2 k hk) hb.size⟩
theorem Heads.off {H : Nat → Prop} {W : World} {k : Nat} (h : Heads H W) (hk : W.heap.size ≤ k) {W' : World} (hb : Below W.heap.size W W') : Off H W' k :=
  ⟨fun e => by obtain ⟨v, h1, _⟩ := h k e; have := h1.lt; omega, fun b hb' => by obtain ⟨v, h1, h2⟩ := h b hb'; exact ⟨v, h1.later hb, fun e => by have := h2 k e; omega⟩⟩
theorem zip_at (L : List Int) (k : Nat) (h : k < L.length) : L.zipIdx.take (k + 1) = L.zipIdx.take k ++ [(L[k], k)] := by
  rw [take_last _ _ (by simpa using h)]
  simp
theorem own_below {W W' : World} (h : Below W.heap.size W W') : W.grownBy W' none := ⟨h.os, h.tape, h.output, h.size, fun k hk _ => h.block k hk⟩
end Go.Proofs.Ytciieodmihgpgaa

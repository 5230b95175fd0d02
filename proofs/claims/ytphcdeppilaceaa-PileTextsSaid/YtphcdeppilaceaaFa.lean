/- Plain words for the proofs of layer 5 (pile): lists in memory, rows that the call itself made, piles in memory, what a pile's change leaves as it was. -/
import Derived.Test.YtphcdeppilaceaaRows
import Derived.Test.YtphcdeppilaceaaSh
import Derived.Deep.AppendLies
import Derived.Deep.Onto
import Derived.WalkKit
import Derived.WalkSpells
import Derived.Lib.Hide
import Derived.WalkLawsBesides
import Derived.Laws.CopyOwn
import Derived.Laws.OwnMore
import Derived.Carry
namespace Go.Proofs.Ytphcdeppilaceaa
open Go.RowKit

theorem ret_int {k : IntKind} {a b : Int} (h : a = b) : Ending.returned (.int k a) = .returned (.int k b) := by rw [h]
theorem ret_bool {a b : Bool} (h : a = b) : Ending.returned (.bool a) = .returned (.bool b) := by rw [h]
theorem stepB {A w w' : World} (h : Below A.heap.size A w) (hb : Below w.heap.size w w') : Below A.heap.size A w' := h.trans (hb.mono h.size)
theorem below_alloc2 {A w : World} (h : Below A.heap.size A w) (o : Obj) : Below A.heap.size A (w.alloc o) := h.alloc h.size o
theorem below_new (w : World) (o : Obj) : Below w.heap.size w (w.alloc o) := (Below.refl _ _).alloc (Nat.le_refl _) _
theorem take_last {α : Type} (l : List α) (k : Nat) (h : k < l.length) : l.take (k + 1) = l.take k ++ [l[k]] := List.take_succ_eq_append_getElem h
theorem mk_func (fn : Fn) (first cap : Array Value) (w : World) : (Instr.makeFunc fn first cap).run Try.prog w = .ok (.func fn first cap) w := rfl
theorem cell_stays {w w' : World} {p : Addr} {v : Value} (hb : Below w.heap.size w w') (h : w.cell? p = some v) : w'.cell? p = some v := by
  by_cases hp : p.block < w.heap.size
  · rw [hb.cell hp]; exact h
  · unfold World.cell? at h
    rw [show w.heap[p.block]? = none by simp; omega] at h
    simp at h
def RetB (w : World) (b : Bool) (e : Ending) (w' : World) : Prop := e = .returned (.bool b) ∧ Below w.heap.size w w'
theorem info_int : (Try.prog.info? 3).map (fun i => (i.zero, i.size, i.bytes)) = some (some (.int .i64 0), 1, 8) := by kernel_rfl
theorem info_string : (Try.prog.info? 9).map (fun i => (i.zero, i.size, i.bytes)) = some (some (.string ⟨#[]⟩), 1, 16) := by kernel_rfl

/-- A row of cells in a block that may be written. -/
def RowAt (w : World) (g : Nat) (t : TypeId) (xs : List Value) : Prop := w.heap[g]? = some (.cells xs.toArray t (0, 0))
theorem RowAt.lt {w : World} {g : Nat} {t : TypeId} {xs : List Value} (h : RowAt w g t xs) : g < w.heap.size := (Array.getElem?_eq_some_iff.1 h).1
theorem RowAt.later {w w' : World} {g : Nat} {t : TypeId} {xs : List Value} (h : RowAt w g t xs) (hb : Below w.heap.size w w') : RowAt w' g t xs := (hb.block g h.lt).trans h
theorem RowAt.grown {w w' : World} {g b : Nat} {t : TypeId} {xs : List Value} (h : RowAt w g t xs) (hg : w.grownBy w' (some b)) (hne : g ≠ b) : RowAt w' g t xs := (hg.block g h.lt (by simpa using hne)).trans h
theorem RowAt.cell {w : World} {g : Nat} {t : TypeId} {xs : List Value} (h : RowAt w g t xs) (j : Nat) (hj : j < xs.length) : w.cell? ⟨g, j, none⟩ = some xs[j] := by
  rw [cell_of_row w g j _ t (0, 0) h]; simp [hj]
theorem RowAt.free {w : World} {g : Nat} {t : TypeId} {xs : List Value} (h : RowAt w g t xs) (j : Nat) : w.frozen? ⟨g, j, none⟩ = false := frozen_of_row w g j _ t h
theorem RowAt.set {w : World} {g : Nat} {t : TypeId} {xs : List Value} (h : RowAt w g t xs) (j : Nat) (u : Value) : RowAt (w.setCell ⟨g, j, none⟩ u) g t (xs.set j u) := by
  unfold RowAt
  rw [heap_setCell_same w g j _ t u h]; simp
theorem RowAt.other {w : World} {g b j : Nat} {t : TypeId} {xs : List Value} (h : RowAt w g t xs) (hne : g ≠ b) (u : Value) : RowAt (w.setCell ⟨b, j, none⟩ u) g t xs := (heap_setCell_other w ⟨b, j, none⟩ g u hne).trans h
theorem RowAt.new (w : World) (t : TypeId) (xs : List Value) : RowAt (w.alloc (.cells xs.toArray t)) w.heap.size t xs := heap_alloc_new w _

/-- What a slice value shows, if it shows anything. -/
def ValsAt (w : World) (v : Value) (xs : List Value) : Prop :=
  (∃ xa cap, v = .slice xa 0 cap ∧ xs = []) ∨ ∃ b off cap, v = .slice (some ⟨b, off, none⟩) xs.length cap ∧ b < w.heap.size ∧ ∀ i (h : i < xs.length), w.cell? ⟨b, off + i, none⟩ = some xs[i]
theorem ValsAt.later {w w' : World} {v : Value} {l : List Value} (h : ValsAt w v l) (hb : Below w.heap.size w w') : ValsAt w' v l := by
  rcases h with h | ⟨b, off, cap, rfl, hlt, hc⟩
  · exact .inl h
  · exact .inr ⟨b, off, cap, rfl, Nat.lt_of_lt_of_le hlt hb.size, fun i hi => cell_stays hb (hc i hi)⟩
theorem ValsAt.form {w : World} {v : Value} {l : List Value} (h : ValsAt w v l) : ∃ xa xc, v = .slice xa l.length xc := by
  rcases h with ⟨xa, cap, rfl, rfl⟩ | ⟨b, off, cap, rfl, _⟩
  · exact ⟨xa, cap, rfl⟩
  · exact ⟨_, cap, rfl⟩
theorem ValsAt.at {w : World} {xa : Option Addr} {xc : Nat} {l : List Value} (h : ValsAt w (.slice xa l.length xc) l) (k : Nat) (hk : k < l.length) : ∃ b off, xa = some ⟨b, off, none⟩ ∧ b < w.heap.size ∧ w.cell? ⟨b, off + k, none⟩ = some l[k] := by
  rcases h with ⟨_, _, _, h2⟩ | ⟨b, off, cap, h1, h2, hc⟩
  · subst h2; simp at hk
  · injection h1 with h1 _ _; exact ⟨b, off, h1, h2, hc k hk⟩
theorem RowAt.vals {w : World} {g : Nat} {t : TypeId} {xs : List Value} (h : RowAt w g t xs) (cap : Nat) : ValsAt w (.slice (some ⟨g, 0, none⟩) xs.length cap) xs :=
  .inr ⟨g, 0, cap, rfl, h.lt, fun i hi => by rw [Nat.zero_add]; exact h.cell i hi⟩
def intsV (l : List Int) : List Value := l.map fun x => .int .i64 x
theorem intsV_len (l : List Int) : (intsV l).length = l.length := by simp [intsV]
theorem intsV_one (l : List Int) : ∀ u ∈ intsV l, u.oneCell' = true := by
  intro u hu
  obtain ⟨x, _, rfl⟩ := List.mem_map.1 hu
  rfl
/-- What a slice of numbers shows. -/
def IntsAt (w : World) (v : Value) (l : List Int) : Prop := ValsAt w v (intsV l)
theorem IntsAt.later {w w' : World} {v : Value} {l : List Int} (h : IntsAt w v l) (hb : Below w.heap.size w w') : IntsAt w' v l := ValsAt.later h hb
theorem IntsAt.form {w : World} {v : Value} {l : List Int} (h : IntsAt w v l) : ∃ xa xc, v = .slice xa l.length xc := by
  obtain ⟨xa, xc, h⟩ := ValsAt.form h
  rw [intsV_len] at h
  exact ⟨xa, xc, h⟩
theorem IntsAt.at {w : World} {xa : Option Addr} {xc : Nat} {l : List Int} (h : IntsAt w (.slice xa l.length xc) l) (k : Nat) (hk : k < l.length) : ∃ b off, xa = some ⟨b, off, none⟩ ∧ b < w.heap.size ∧ w.cell? ⟨b, off + k, none⟩ = some (.int .i64 l[k]) := by
  have h' : ValsAt w (.slice xa (intsV l).length xc) (intsV l) := by rw [intsV_len]; exact h
  obtain ⟨b, off, h1, h2, h3⟩ := h'.at k (by rw [intsV_len]; exact hk)
  exact ⟨b, off, h1, h2, by rw [h3]; simp [intsV]⟩

theorem grown_trans {w w' w'' : World} {r : Option Nat} (h : w.grownBy w' r) (k : w'.grownBy w'' r) : w.grownBy w'' r :=
  ⟨k.os.trans h.os, k.tape.trans h.tape, k.output.trans h.output, Nat.le_trans h.size k.size, fun j hj hne => (k.block j (Nat.lt_of_lt_of_le hj h.size) hne).trans (h.block j hj hne)⟩
theorem grown_set (w : World) (b j : Nat) (u : Value) : w.grownBy (w.setCell ⟨b, j, none⟩ u) (some b) :=
  ⟨rfl, rfl, rfl, by simp, fun k _ hne => heap_setCell_other w ⟨b, j, none⟩ k u (by simpa using hne)⟩
theorem grown_below {w w' : World} {b : Nat} (h : Below w.heap.size w w') : w.grownBy w' (some b) := ⟨h.os, h.tape, h.output, h.size, fun k hk _ => h.block k hk⟩
theorem grown_to {A w w' : World} {b : Nat} (h : Below A.heap.size A w) (hg : w.grownBy w' (some b)) (hb : A.heap.size ≤ b) : Below A.heap.size A w' := h.grown hg h.size (fun k e => by cases e; exact hb)
theorem vals_grown {w w' : World} {b : Nat} {v : Value} {xs : List Value} (h : ValsAt w v xs) (hg : w.grownBy w' (some b)) (hne : ∀ o, (∃ n c, v = .slice (some ⟨b, o, none⟩) n c) → xs = []) : ValsAt w' v xs := by
  rcases h with h | ⟨r, off, cap, rfl, hlt, hc⟩
  · exact .inl h
  · by_cases hr : r = b
    · subst hr
      have := hne off ⟨_, _, rfl⟩
      subst this
      exact .inl ⟨_, _, rfl, rfl⟩
    · refine .inr ⟨r, off, cap, rfl, Nat.lt_of_lt_of_le hlt hg.size, fun i hi => ?_⟩
      rw [World.cell?_of_block (w := w) (a := ⟨r, off + i, none⟩) (hg.block r hlt (by simpa using hr))]
      exact hc i hi

def Same (w : World) (v : Value) (e : Ending) (w' : World) : Prop := e = .returned v ∧ w' = w
def Drew (w : World) (v : Value) (e : Ending) (w' : World) : Prop := e = .returned v ∧ ∃ nd, w' = w.drewN nd
def RetV (w : World) (v : Value) (e : Ending) (w' : World) : Prop := e = .returned v ∧ Below w.heap.size w w'
theorem below_drewN {A w : World} (h : Below A.heap.size A w) (nd : Nat) : Below A.heap.size A (w.drewN nd) := ⟨h.os, h.tape, h.output, h.size, h.block⟩
theorem own_vals {w : World} {base : Nat} {t : TypeId} {v : Value} {n : Nat} {xs : List Value} (h : w.ownsRow base t 1 v n xs) : ValsAt w v xs := by
  have hl : xs.length = n := by simpa using h.1
  rcases h.2 with ⟨rfl, h0⟩ | ⟨g, cap, cur, rfl, hb, hg, hn, hm, hs, ht⟩
  · exact .inl ⟨none, 0, rfl, List.eq_nil_of_length_eq_zero (by omega)⟩
  · refine .inr ⟨g, 0, cap, by rw [hl], (Array.getElem?_eq_some_iff.1 hg).1, fun i hi => ?_⟩
    subst ht
    rw [Nat.zero_add, cell_of_row w g i _ t (0, 0) hg, ← Array.getElem?_toList]
    rw [List.getElem_take, ← List.getElem?_eq_getElem]
theorem own_ints {w : World} {base : Nat} {v : Value} {n : Nat} {l : List Int} (h : w.ownsRow base 3 1 v n (intsV l)) : IntsAt w v l := own_vals h
theorem own_later {w w' : World} {base : Nat} {t : TypeId} {v : Value} {n : Nat} {xs : List Value} (h : w.ownsRow base t 1 v n xs) (hb : Below w.heap.size w w') : w'.ownsRow base t 1 v n xs := by
  refine ⟨h.1, ?_⟩
  rcases h.2 with h2 | ⟨g, cap, cur, e, hb2, hg, r⟩
  · exact .inl h2
  · exact .inr ⟨g, cap, cur, e, hb2, (hb.block g (Array.getElem?_eq_some_iff.1 hg).1).trans hg, r⟩

/-- A pile of numbers in memory: its block, and that of its row, if it has one. -/
def PileAt (w : World) (lo b : Nat) (g : Option Nat) (L : List Int) : Prop :=
  ∃ v, w.heap[b]? = some (.cells #[v] 64 (0, 0)) ∧ v.ownBlock = g ∧ lo ≤ b ∧ w.ownsRow lo 3 1 v L.length (intsV L)
/-- All that lay there but two blocks is as it was. -/
structure Chg (w w' : World) (b : Nat) (g : Option Nat) : Prop where
  os : w'.os = w.os
  tape : w'.tape = w.tape
  output : w'.output = w.output
  size : w.heap.size ≤ w'.heap.size
  block : ∀ k, k < w.heap.size → k ≠ b → g ≠ some k → w'.heap[k]? = w.heap[k]?
theorem Chg.of_below {w w' : World} {b : Nat} {g : Option Nat} (h : Below w.heap.size w w') : Chg w w' b g := ⟨h.os, h.tape, h.output, h.size, fun k hk _ _ => h.block k hk⟩
theorem Chg.below {A w w' : World} {b : Nat} {g : Option Nat} (h : Chg w w' b g) (hA : Below A.heap.size A w) (hb : A.heap.size ≤ b) (hg : ∀ k, g = some k → A.heap.size ≤ k) : Below A.heap.size A w' :=
  ⟨h.os.trans hA.os, h.tape.trans hA.tape, h.output.trans hA.output, Nat.le_trans hA.size h.size, fun k hk => (h.block k (Nat.lt_of_lt_of_le hk hA.size) (by omega) (fun e => by have := hg k e; omega)).trans (hA.block k hk)⟩
theorem Chg.then {w w1 w2 : World} {b : Nat} {g : Option Nat} (h : Chg w w1 b g) (k : Below w1.heap.size w1 w2) : Chg w w2 b g :=
  ⟨k.os.trans h.os, k.tape.trans h.tape, k.output.trans h.output, Nat.le_trans h.size k.size, fun i hi hb hg => (k.block i (Nat.lt_of_lt_of_le hi h.size)).trans (h.block i hi hb hg)⟩
theorem Chg.ahead {w w1 w2 : World} {b : Nat} {g : Option Nat} (k : Below w.heap.size w w1) (h : Chg w1 w2 b g) : Chg w w2 b g :=
  ⟨h.os.trans k.os, h.tape.trans k.tape, h.output.trans k.output, Nat.le_trans k.size h.size, fun i hi hb hg => (h.block i (Nat.lt_of_lt_of_le hi k.size) hb hg).trans (k.block i hi)⟩
theorem PileAt.later {w w' : World} {lo b : Nat} {g : Option Nat} {L : List Int} (h : PileAt w lo b g L) (hb : Below w.heap.size w w') : PileAt w' lo b g L := by
  obtain ⟨v, h1, h2, h3, h4⟩ := h
  exact ⟨v, (hb.block b (Array.getElem?_eq_some_iff.1 h1).1).trans h1, h2, h3, own_later h4 hb⟩
theorem PileAt.lt {w : World} {lo b : Nat} {g : Option Nat} {L : List Int} (h : PileAt w lo b g L) : b < w.heap.size := by
  obtain ⟨v, h1, _⟩ := h
  exact (Array.getElem?_eq_some_iff.1 h1).1
theorem PileAt.row {w : World} {lo b : Nat} {g : Option Nat} {L : List Int} (h : PileAt w lo b g L) : ∀ k, g = some k → lo ≤ k ∧ k < w.heap.size ∧ k ≠ b := by
  obtain ⟨v, h1, h2, _, h4⟩ := h
  intro k hk
  rw [← h2] at hk
  have := World.ownsRow.lt h4 k hk
  refine ⟨this.1, this.2, fun e => ?_⟩
  rcases h4.2 with ⟨rfl, _⟩ | ⟨g', cap, cur, rfl, _, hg, _⟩
  · simp [Value.ownBlock] at hk
  · obtain rfl : g' = k := by simpa [Value.ownBlock] using hk
    rw [e, h1] at hg
    injection hg with hg
    injection hg with _ ht
    exact absurd ht (by decide)
theorem PileAt.lo {w : World} {lo b : Nat} {g : Option Nat} {L : List Int} (h : PileAt w lo b g L) : lo ≤ b := by obtain ⟨v, _, _, h3, _⟩ := h; exact h3
/-- Two piles that share no block. -/
def Sep (b1 : Nat) (g1 : Option Nat) (b2 : Nat) (g2 : Option Nat) : Prop := b1 ≠ b2 ∧ g1 ≠ some b2 ∧ g2 ≠ some b1 ∧ ∀ k, g1 = some k → g2 ≠ some k
theorem PileAt.far {w w' : World} {lo b b2 : Nat} {g g2 : Option Nat} {L : List Int} (h : PileAt w lo b2 g2 L) (hc : Chg w w' b g) (hs : Sep b g b2 g2) : PileAt w' lo b2 g2 L := by
  obtain ⟨v, h1, h2, h3, h4⟩ := h
  refine ⟨v, (hc.block b2 (Array.getElem?_eq_some_iff.1 h1).1 (Ne.symm hs.1) hs.2.1).trans h1, h2, h3, h4.1, ?_⟩
  rcases h4.2 with h5 | ⟨g', cap, cur, e, hb2, hg, r⟩
  · exact .inl h5
  · have hg2 : g2 = some g' := by rw [← h2, e]; rfl
    exact .inr ⟨g', cap, cur, e, hb2, (hc.block g' (Array.getElem?_eq_some_iff.1 hg).1 (fun e => hs.2.2.1 (by rw [hg2, e])) (fun e => hs.2.2.2 g' e hg2)).trans hg, r⟩
/-- A slice whose row is none of a pile's blocks. -/
def Away (v : Value) (b : Nat) (g : Option Nat) : Prop := ∀ k, v.ownBlock = some k → k ≠ b ∧ g ≠ some k
theorem vals_chg {w w' : World} {b : Nat} {g : Option Nat} {v : Value} {xs : List Value} (h : ValsAt w v xs) (hc : Chg w w' b g) (ha : Away v b g) : ValsAt w' v xs := by
  rcases h with h | ⟨r, off, cap, rfl, hlt, hcell⟩
  · exact .inl h
  · obtain ⟨h1, h2⟩ := ha r rfl
    refine .inr ⟨r, off, cap, rfl, Nat.lt_of_lt_of_le hlt hc.size, fun i hi => ?_⟩
    rw [World.cell?_of_block (w := w) (a := ⟨r, off + i, none⟩) (hc.block r hlt h1 h2)]
    exact hcell i hi
end Go.Proofs.Ytphcdeppilaceaa

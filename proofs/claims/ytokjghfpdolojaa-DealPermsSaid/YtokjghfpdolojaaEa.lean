/- Plain words for the proofs of layer 4 (deal): lists in memory, rows that the call itself made, draws in memory. -/
import Derived.Test.YtokjghfpdolojaaRows
import Derived.WalkKit
import Derived.WalkSpells
import Derived.Lib.Hide
import Derived.WalkLawsBesides
import Derived.Laws.CopyOwn
import Derived.Laws.OwnMore
import Derived.Carry
namespace Go.Proofs.Ytokjghfpdolojaa
open Go.RowKit

theorem ret_int {k : IntKind} {a b : Int} (h : a = b) : Ending.returned (.int k a) = .returned (.int k b) := by rw [h]
theorem ret_bool {a b : Bool} (h : a = b) : Ending.returned (.bool a) = .returned (.bool b) := by rw [h]
theorem stepB {A w w' : World} (h : Below A.heap.size A w) (hb : Below w.heap.size w w') : Below A.heap.size A w' := h.trans (hb.mono h.size)
theorem below_alloc2 {A w : World} (h : Below A.heap.size A w) (o : Obj) : Below A.heap.size A (w.alloc o) := h.alloc h.size o
theorem below_new (w : World) (o : Obj) : Below w.heap.size w (w.alloc o) := (Below.refl _ _).alloc (Nat.le_refl _) _
theorem take_last {α : Type} (l : List α) (k : Nat) (h : k < l.length) : l.take (k + 1) = l.take k ++ [l[k]] := List.take_succ_eq_append_getElem h
theorem mk_func (fn : Fn) (first cap : Array Value) (w : World) : (Instr.makeFunc fn first cap).run Try.prog w = .ok (.func fn first cap) w := rfl
theorem cell_stays {w w' : World} {p : Addr} {v : Value} (hb : Below w.heap.size w w') (h : w.cell? p = some v) : w'.cell? p = some v := by
  by_cases hp : p.block < w.heap.size
  · rw [hb.cell hp]; exact h
  · unfold World.cell? at h
    rw [show w.heap[p.block]? = none by simp; omega] at h
    simp at h
def RetB (w : World) (b : Bool) (e : Ending) (w' : World) : Prop := e = .returned (.bool b) ∧ Below w.heap.size w w'
theorem info_int : (Try.prog.info? 3).map (fun i => (i.zero, i.size, i.bytes)) = some (some (.int .i64 0), 1, 8) := by kernel_rfl
theorem info_string : (Try.prog.info? 9).map (fun i => (i.zero, i.size, i.bytes)) = some (some (.string ⟨#[]⟩), 1, 16) := by kernel_rfl

/-- A row of cells in a block that may be written. -/
def RowAt (w : World) (g : Nat) (t : TypeId) (xs : List Value) : Prop := w.heap[g]? = some (.cells xs.toArray t (0, 0))
theorem RowAt.lt {w : World} {g : Nat} {t : TypeId} {xs : List Value} (h : RowAt w g t xs) : g < w.heap.size := (Array.getElem?_eq_some_iff.1 h).1
theorem RowAt.later {w w' : World} {g : Nat} {t : TypeId} {xs : List Value} (h : RowAt w g t xs) (hb : Below w.heap.size w w') : RowAt w' g t xs := (hb.block g h.lt).trans h
theorem RowAt.grown {w w' : World} {g b : Nat} {t : TypeId} {xs : List Value} (h : RowAt w g t xs) (hg : w.grownBy w' (some b)) (hne : g ≠ b) : RowAt w' g t xs := (hg.block g h.lt (by simpa using hne)).trans h
theorem RowAt.cell {w : World} {g : Nat} {t : TypeId} {xs : List Value} (h : RowAt w g t xs) (j : Nat) (hj : j < xs.length) : w.cell? ⟨g, j, none⟩ = some xs[j] := by
  rw [cell_of_row w g j _ t (0, 0) h]; simp [hj]
theorem RowAt.free {w : World} {g : Nat} {t : TypeId} {xs : List Value} (h : RowAt w g t xs) (j : Nat) : w.frozen? ⟨g, j, none⟩ = false := frozen_of_row w g j _ t h
theorem RowAt.set {w : World} {g : Nat} {t : TypeId} {xs : List Value} (h : RowAt w g t xs) (j : Nat) (u : Value) : RowAt (w.setCell ⟨g, j, none⟩ u) g t (xs.set j u) := by
  unfold RowAt
  rw [heap_setCell_same w g j _ t u h]; simp
theorem RowAt.other {w : World} {g b j : Nat} {t : TypeId} {xs : List Value} (h : RowAt w g t xs) (hne : g ≠ b) (u : Value) : RowAt (w.setCell ⟨b, j, none⟩ u) g t xs := (heap_setCell_other w ⟨b, j, none⟩ g u hne).trans h
theorem RowAt.new (w : World) (t : TypeId) (xs : List Value) : RowAt (w.alloc (.cells xs.toArray t)) w.heap.size t xs := heap_alloc_new w _

/-- What a slice value shows, if it shows anything. -/
def ValsAt (w : World) (v : Value) (xs : List Value) : Prop :=
  (∃ xa cap, v = .slice xa 0 cap ∧ xs = []) ∨ ∃ b off cap, v = .slice (some ⟨b, off, none⟩) xs.length cap ∧ b < w.heap.size ∧ ∀ i (h : i < xs.length), w.cell? ⟨b, off + i, none⟩ = some xs[i]
theorem ValsAt.later {w w' : World} {v : Value} {l : List Value} (h : ValsAt w v l) (hb : Below w.heap.size w w') : ValsAt w' v l := by
  rcases h with h | ⟨b, off, cap, rfl, hlt, hc⟩
  · exact .inl h
  · exact .inr ⟨b, off, cap, rfl, Nat.lt_of_lt_of_le hlt hb.size, fun i hi => cell_stays hb (hc i hi)⟩
theorem ValsAt.form {w : World} {v : Value} {l : List Value} (h : ValsAt w v l) : ∃ xa xc, v = .slice xa l.length xc := by
  rcases h with ⟨xa, cap, rfl, rfl⟩ | ⟨b, off, cap, rfl, _⟩
  · exact ⟨xa, cap, rfl⟩
  · exact ⟨_, cap, rfl⟩
theorem ValsAt.at {w : World} {xa : Option Addr} {xc : Nat} {l : List Value} (h : ValsAt w (.slice xa l.length xc) l) (k : Nat) (hk : k < l.length) : ∃ b off, xa = some ⟨b, off, none⟩ ∧ b < w.heap.size ∧ w.cell? ⟨b, off + k, none⟩ = some l[k] := by
  rcases h with ⟨_, _, _, h2⟩ | ⟨b, off, cap, h1, h2, hc⟩
  · subst h2; simp at hk
  · injection h1 with h1 _ _; exact ⟨b, off, h1, h2, hc k hk⟩
theorem RowAt.vals {w : World} {g : Nat} {t : TypeId} {xs : List Value} (h : RowAt w g t xs) (cap : Nat) : ValsAt w (.slice (some ⟨g, 0, none⟩) xs.length cap) xs :=
  .inr ⟨g, 0, cap, rfl, h.lt, fun i hi => by rw [Nat.zero_add]; exact h.cell i hi⟩
def intsV (l : List Int) : List Value := l.map fun x => .int .i64 x
theorem intsV_len (l : List Int) : (intsV l).length = l.length := by simp [intsV]
theorem intsV_one (l : List Int) : ∀ u ∈ intsV l, u.oneCell' = true := by
  intro u hu
  obtain ⟨x, _, rfl⟩ := List.mem_map.1 hu
  rfl
/-- What a slice of numbers shows. -/
def IntsAt (w : World) (v : Value) (l : List Int) : Prop := ValsAt w v (intsV l)
theorem IntsAt.later {w w' : World} {v : Value} {l : List Int} (h : IntsAt w v l) (hb : Below w.heap.size w w') : IntsAt w' v l := ValsAt.later h hb
theorem IntsAt.form {w : World} {v : Value} {l : List Int} (h : IntsAt w v l) : ∃ xa xc, v = .slice xa l.length xc := by
  obtain ⟨xa, xc, h⟩ := ValsAt.form h
  rw [intsV_len] at h
  exact ⟨xa, xc, h⟩
theorem IntsAt.at {w : World} {xa : Option Addr} {xc : Nat} {l : List Int} (h : IntsAt w (.slice xa l.length xc) l) (k : Nat) (hk : k < l.length) : ∃ b off, xa = some ⟨b, off, none⟩ ∧ b < w.heap.size ∧ w.cell? ⟨b, off + k, none⟩ = some (.int .i64 l[k]) := by
  have h' : ValsAt w (.slice xa (intsV l).length xc) (intsV l) := by rw [intsV_len]; exact h
  obtain ⟨b, off, h1, h2, h3⟩ := h'.at k (by rw [intsV_len]; exact hk)
  exact ⟨b, off, h1, h2, by rw [h3]; simp [intsV]⟩

theorem grown_trans {w w' w'' : World} {r : Option Nat} (h : w.grownBy w' r) (k : w'.grownBy w'' r) : w.grownBy w'' r :=
  ⟨k.os.trans h.os, k.tape.trans h.tape, k.output.trans h.output, Nat.le_trans h.size k.size, fun j hj hne => (k.block j (Nat.lt_of_lt_of_le hj h.size) hne).trans (h.block j hj hne)⟩
theorem grown_set (w : World) (b j : Nat) (u : Value) : w.grownBy (w.setCell ⟨b, j, none⟩ u) (some b) :=
  ⟨rfl, rfl, rfl, by simp, fun k _ hne => heap_setCell_other w ⟨b, j, none⟩ k u (by simpa using hne)⟩
theorem grown_below {w w' : World} {b : Nat} (h : Below w.heap.size w w') : w.grownBy w' (some b) := ⟨h.os, h.tape, h.output, h.size, fun k hk _ => h.block k hk⟩
theorem grown_to {A w w' : World} {b : Nat} (h : Below A.heap.size A w) (hg : w.grownBy w' (some b)) (hb : A.heap.size ≤ b) : Below A.heap.size A w' := h.grown hg h.size (fun k e => by cases e; exact hb)
theorem vals_grown {w w' : World} {b : Nat} {v : Value} {xs : List Value} (h : ValsAt w v xs) (hg : w.grownBy w' (some b)) (hne : ∀ o, (∃ n c, v = .slice (some ⟨b, o, none⟩) n c) → xs = []) : ValsAt w' v xs := by
  rcases h with h | ⟨r, off, cap, rfl, hlt, hc⟩
  · exact .inl h
  · by_cases hr : r = b
    · subst hr
      have := hne off ⟨_, _, rfl⟩
      subst this
      exact .inl ⟨_, _, rfl, rfl⟩
    · refine .inr ⟨r, off, cap, rfl, Nat.lt_of_lt_of_le hlt hg.size, fun i hi => ?_⟩
      rw [World.cell?_of_block (w := w) (a := ⟨r, off + i, none⟩) (hg.block r hlt (by simpa using hr))]
      exact hc i hi
end Go.Proofs.Ytokjghfpdolojaa

/- Plain words for the proofs: lists in memory, rows that the call itself made, what a change leaves as it was; the library's Index and Clone at numbers. -/
import Derived.Test.YtciieodmihgpgaaRows
import Derived.Test.YtciieodmihgpgaaSh
import Derived.Deep.AppendLies
import Derived.Deep.Onto
import Derived.WalkKit
import Derived.WalkSpells
import Derived.Lib.Hide
import Derived.WalkLawsBesides
import Derived.Laws.CopyOwn
import Derived.Laws.OwnMore
import Derived.Carry
import Derived.Recover
import Derived.Deep.Upon
namespace Go.Proofs.Ytciieodmihgpgaa
open Go.RowKit

theorem ret_int {k : IntKind} {a b : Int} (h : a = b) : Ending.returned (.int k a) = .returned (.int k b) := by rw [h]
theorem ret_bool {a b : Bool} (h : a = b) : Ending.returned (.bool a) = .returned (.bool b) := by rw [h]
theorem stepB {A w w' : World} (h : Below A.heap.size A w) (hb : Below w.heap.size w w') : Below A.heap.size A w' := h.trans (hb.mono h.size)
theorem below_alloc2 {A w : World} (h : Below A.heap.size A w) (o : Obj) : Below A.heap.size A (w.alloc o) := h.alloc h.size o
theorem below_new (w : World) (o : Obj) : Below w.heap.size w (w.alloc o) := (Below.refl _ _).alloc (Nat.le_refl _) _
theorem take_last {α : Type} (l : List α) (k : Nat) (h : k < l.length) : l.take (k + 1) = l.take k ++ [l[k]] := List.take_succ_eq_append_getElem h
theorem mk_func (fn : Fn) (first cap : Array Value) (w : World) : (Instr.makeFunc fn first cap).run Try.prog w = .ok (.func fn first cap) w := rfl
theorem cell_stays {w w' : World} {p : Addr} {v : Value} (hb : Below w.heap.size w w') (h : w.cell? p = some v) : w'.cell? p = some v := by
  by_cases hp : p.block < w.heap.size
  · rw [hb.cell hp]; exact h
  · unfold World.cell? at h
    rw [show w.heap[p.block]? = none by simp; omega] at h
    simp at h
def RetB (w : World) (b : Bool) (e : Ending) (w' : World) : Prop := e = .returned (.bool b) ∧ Below w.heap.size w w'
theorem info_int : (Try.prog.info? 3).map (fun i => (i.zero, i.size, i.bytes)) = some (some (.int .i64 0), 1, 8) := by kernel_rfl
/-- A row of cells in a block that may be written. -/
def RowAt (w : World) (g : Nat) (t : TypeId) (xs : List Value) : Prop := w.heap[g]? = some (.cells xs.toArray t (0, 0))
theorem RowAt.lt {w : World} {g : Nat} {t : TypeId} {xs : List Value} (h : RowAt w g t xs) : g < w.heap.size := (Array.getElem?_eq_some_iff.1 h).1
theorem RowAt.later {w w' : World} {g : Nat} {t : TypeId} {xs : List Value} (h : RowAt w g t xs) (hb : Below w.heap.size w w') : RowAt w' g t xs := (hb.block g h.lt).trans h
theorem RowAt.grown {w w' : World} {g b : Nat} {t : TypeId} {xs : List Value} (h : RowAt w g t xs) (hg : w.grownBy w' (some b)) (hne : g ≠ b) : RowAt w' g t xs := (hg.block g h.lt (by simpa using hne)).trans h
theorem RowAt.cell {w : World} {g : Nat} {t : TypeId} {xs : List Value} (h : RowAt w g t xs) (j : Nat) (hj : j < xs.length) : w.cell? ⟨g, j, none⟩ = some xs[j] := by
  rw [cell_of_row w g j _ t (0, 0) h]; simp [hj]
theorem RowAt.free {w : World} {g : Nat} {t : TypeId} {xs : List Value} (h : RowAt w g t xs) (j : Nat) : w.frozen? ⟨g, j, none⟩ = false := frozen_of_row w g j _ t h
theorem RowAt.set {w : World} {g : Nat} {t : TypeId} {xs : List Value} (h : RowAt w g t xs) (j : Nat) (u : Value) : RowAt (w.setCell ⟨g, j, none⟩ u) g t (xs.set j u) := by
  unfold RowAt
  rw [heap_setCell_same w g j _ t u h]; simp
theorem RowAt.other {w : World} {g b j : Nat} {t : TypeId} {xs : List Value} (h : RowAt w g t xs) (hne : g ≠ b) (u : Value) : RowAt (w.setCell ⟨b, j, none⟩ u) g t xs := (heap_setCell_other w ⟨b, j, none⟩ g u hne).trans h
theorem RowAt.new (w : World) (t : TypeId) (xs : List Value) : RowAt (w.alloc (.cells xs.toArray t)) w.heap.size t xs := heap_alloc_new w _

/-- What a slice value shows, if it shows anything. -/
def ValsAt (w : World) (v : Value) (xs : List Value) : Prop :=
  (∃ xa cap, v = .slice xa 0 cap ∧ xs = []) ∨ ∃ b off cap, v = .slice (some ⟨b, off, none⟩) xs.length cap ∧ b < w.heap.size ∧ ∀ i (h : i < xs.length), w.cell? ⟨b, off + i, none⟩ = some xs[i]
theorem ValsAt.later {w w' : World} {v : Value} {l : List Value} (h : ValsAt w v l) (hb : Below w.heap.size w w') : ValsAt w' v l := by
  rcases h with h | ⟨b, off, cap, rfl, hlt, hc⟩
  · exact .inl h
  · exact .inr ⟨b, off, cap, rfl, Nat.lt_of_lt_of_le hlt hb.size, fun i hi => cell_stays hb (hc i hi)⟩
theorem ValsAt.form {w : World} {v : Value} {l : List Value} (h : ValsAt w v l) : ∃ xa xc, v = .slice xa l.length xc := by
  rcases h with ⟨xa, cap, rfl, rfl⟩ | ⟨b, off, cap, rfl, _⟩
  · exact ⟨xa, cap, rfl⟩
  · exact ⟨_, cap, rfl⟩
theorem ValsAt.at {w : World} {xa : Option Addr} {xc : Nat} {l : List Value} (h : ValsAt w (.slice xa l.length xc) l) (k : Nat) (hk : k < l.length) : ∃ b off, xa = some ⟨b, off, none⟩ ∧ b < w.heap.size ∧ w.cell? ⟨b, off + k, none⟩ = some l[k] := by
  rcases h with ⟨_, _, _, h2⟩ | ⟨b, off, cap, h1, h2, hc⟩
  · subst h2; simp at hk
  · injection h1 with h1 _ _; exact ⟨b, off, h1, h2, hc k hk⟩
theorem RowAt.vals {w : World} {g : Nat} {t : TypeId} {xs : List Value} (h : RowAt w g t xs) (cap : Nat) : ValsAt w (.slice (some ⟨g, 0, none⟩) xs.length cap) xs :=
  .inr ⟨g, 0, cap, rfl, h.lt, fun i hi => by rw [Nat.zero_add]; exact h.cell i hi⟩
def intsV (l : List Int) : List Value := l.map fun x => .int .i64 x
theorem intsV_len (l : List Int) : (intsV l).length = l.length := by simp [intsV]
theorem intsV_one (l : List Int) : ∀ u ∈ intsV l, u.oneCell' = true := by
  intro u hu
  obtain ⟨x, _, rfl⟩ := List.mem_map.1 hu
  rfl
/-- What a slice of numbers shows. -/
def IntsAt (w : World) (v : Value) (l : List Int) : Prop := ValsAt w v (intsV l)
theorem IntsAt.later {w w' : World} {v : Value} {l : List Int} (h : IntsAt w v l) (hb : Below w.heap.size w w') : IntsAt w' v l := ValsAt.later h hb
theorem IntsAt.form {w : World} {v : Value} {l : List Int} (h : IntsAt w v l) : ∃ xa xc, v = .slice xa l.length xc := by
  obtain ⟨xa, xc, h⟩ := ValsAt.form h
  rw [intsV_len] at h
  exact ⟨xa, xc, h⟩
theorem IntsAt.at {w : World} {xa : Option Addr} {xc : Nat} {l : List Int} (h : IntsAt w (.slice xa l.length xc) l) (k : Nat) (hk : k < l.length) : ∃ b off, xa = some ⟨b, off, none⟩ ∧ b < w.heap.size ∧ w.cell? ⟨b, off + k, none⟩ = some (.int .i64 l[k]) := by
  have h' : ValsAt w (.slice xa (intsV l).length xc) (intsV l) := by rw [intsV_len]; exact h
  obtain ⟨b, off, h1, h2, h3⟩ := h'.at k (by rw [intsV_len]; exact hk)
  exact ⟨b, off, h1, h2, by rw [h3]; simp [intsV]⟩

theorem grown_trans {w w' w'' : World} {r : Option Nat} (h : w.grownBy w' r) (k : w'.grownBy w'' r) : w.grownBy w'' r :=
  ⟨k.os.trans h.os, k.tape.trans h.tape, k.output.trans h.output, Nat.le_trans h.size k.size, fun j hj hne => (k.block j (Nat.lt_of_lt_of_le hj h.size) hne).trans (h.block j hj hne)⟩
theorem grown_set (w : World) (b j : Nat) (u : Value) : w.grownBy (w.setCell ⟨b, j, none⟩ u) (some b) :=
  ⟨rfl, rfl, rfl, by simp, fun k _ hne => heap_setCell_other w ⟨b, j, none⟩ k u (by simpa using hne)⟩
theorem grown_below {w w' : World} {b : Nat} (h : Below w.heap.size w w') : w.grownBy w' (some b) := ⟨h.os, h.tape, h.output, h.size, fun k hk _ => h.block k hk⟩
theorem grown_to {A w w' : World} {b : Nat} (h : Below A.heap.size A w) (hg : w.grownBy w' (some b)) (hb : A.heap.size ≤ b) : Below A.heap.size A w' := h.grown hg h.size (fun k e => by cases e; exact hb)
theorem vals_grown {w w' : World} {b : Nat} {v : Value} {xs : List Value} (h : ValsAt w v xs) (hg : w.grownBy w' (some b)) (hne : ∀ o, (∃ n c, v = .slice (some ⟨b, o, none⟩) n c) → xs = []) : ValsAt w' v xs := by
  rcases h with h | ⟨r, off, cap, rfl, hlt, hc⟩
  · exact .inl h
  · by_cases hr : r = b
    · subst hr
      have := hne off ⟨_, _, rfl⟩
      subst this
      exact .inl ⟨_, _, rfl, rfl⟩
    · refine .inr ⟨r, off, cap, rfl, Nat.lt_of_lt_of_le hlt hg.size, fun i hi => ?_⟩
      rw [World.cell?_of_block (w := w) (a := ⟨r, off + i, none⟩) (hg.block r hlt (by simpa using hr))]
      exact hc i hi

def Same (w : World) (v : Value) (e : Ending) (w' : World) : Prop := e = .returned v ∧ w' = w
def Drew (w : World) (v : Value) (e : Ending) (w' : World) : Prop := e = .returned v ∧ ∃ nd, w' = w.drewN nd
def RetV (w : World) (v : Value) (e : Ending) (w' : World) : Prop := e = .returned v ∧ Below w.heap.size w w'
theorem below_drewN {A w : World} (h : Below A.heap.size A w) (nd : Nat) : Below A.heap.size A (w.drewN nd) := ⟨h.os, h.tape, h.output, h.size, h.block⟩
theorem own_vals {w : World} {base : Nat} {t : TypeId} {v : Value} {n : Nat} {xs : List Value} (h : w.ownsRow base t 1 v n xs) : ValsAt w v xs := by
  have hl : xs.length = n := by simpa using h.1
  rcases h.2 with ⟨rfl, h0⟩ | ⟨g, cap, cur, rfl, hb, hg, hn, hm, hs, ht⟩
  · exact .inl ⟨none, 0, rfl, List.eq_nil_of_length_eq_zero (by omega)⟩
  · refine .inr ⟨g, 0, cap, by rw [hl], (Array.getElem?_eq_some_iff.1 hg).1, fun i hi => ?_⟩
    subst ht
    rw [Nat.zero_add, cell_of_row w g i _ t (0, 0) hg, ← Array.getElem?_toList]
    rw [List.getElem_take, ← List.getElem?_eq_getElem]
theorem own_ints {w : World} {base : Nat} {v : Value} {n : Nat} {l : List Int} (h : w.ownsRow base 3 1 v n (intsV l)) : IntsAt w v l := own_vals h
theorem own_later {w w' : World} {base : Nat} {t : TypeId} {v : Value} {n : Nat} {xs : List Value} (h : w.ownsRow base t 1 v n xs) (hb : Below w.heap.size w w') : w'.ownsRow base t 1 v n xs := by
  refine ⟨h.1, ?_⟩
  rcases h.2 with h2 | ⟨g, cap, cur, e, hb2, hg, r⟩
  · exact .inl h2
  · exact .inr ⟨g, cap, cur, e, hb2, (hb.block g (Array.getElem?_eq_some_iff.1 hg).1).trans hg, r⟩

/-- All that lay there but two blocks is as it was. -/
structure Chg (w w' : World) (b : Nat) (g : Option Nat) : Prop where
  os : w'.os = w.os
  tape : w'.tape = w.tape
  output : w'.output = w.output
  size : w.heap.size ≤ w'.heap.size
  block : ∀ k, k < w.heap.size → k ≠ b → g ≠ some k → w'.heap[k]? = w.heap[k]?
theorem Chg.of_below {w w' : World} {b : Nat} {g : Option Nat} (h : Below w.heap.size w w') : Chg w w' b g := ⟨h.os, h.tape, h.output, h.size, fun k hk _ _ => h.block k hk⟩
theorem Chg.below {A w w' : World} {b : Nat} {g : Option Nat} (h : Chg w w' b g) (hA : Below A.heap.size A w) (hb : A.heap.size ≤ b) (hg : ∀ k, g = some k → A.heap.size ≤ k) : Below A.heap.size A w' :=
  ⟨h.os.trans hA.os, h.tape.trans hA.tape, h.output.trans hA.output, Nat.le_trans hA.size h.size, fun k hk => (h.block k (Nat.lt_of_lt_of_le hk hA.size) (by omega) (fun e => by have := hg k e; omega)).trans (hA.block k hk)⟩
theorem Chg.then {w w1 w2 : World} {b : Nat} {g : Option Nat} (h : Chg w w1 b g) (k : Below w1.heap.size w1 w2) : Chg w w2 b g :=
  ⟨k.os.trans h.os, k.tape.trans h.tape, k.output.trans h.output, Nat.le_trans h.size k.size, fun i hi hb hg => (k.block i (Nat.lt_of_lt_of_le hi h.size)).trans (h.block i hi hb hg)⟩
theorem Chg.ahead {w w1 w2 : World} {b : Nat} {g : Option Nat} (k : Below w.heap.size w w1) (h : Chg w1 w2 b g) : Chg w w2 b g :=
  ⟨h.os.trans k.os, h.tape.trans k.tape, h.output.trans k.output, Nat.le_trans k.size h.size, fun i hi hb hg => (h.block i (Nat.lt_of_lt_of_le hi k.size) hb hg).trans (k.block i hi)⟩
end Go.Proofs.Ytciieodmihgpgaa
namespace Go.Proofs.Ytciieodmihgpgaa
open Go.RowKit

/-- Where something is in a list; -1, if it isn't there. -/
def placeL (L : List Int) (x : Int) : Int := if x ∈ L then ((L.idxOf x : Nat) : Int) else -1
theorem idx_place (L : List Int) (x : Int) : Lib.idxOf L x = placeL L x := by
  unfold placeL
  have ht : L.take L.length = L := List.take_length
  by_cases h : x ∈ L
  · rw [if_pos h]
    have hk := List.idxOf_lt_length_iff.2 h
    have h1 : L.getD (L.idxOf x) 0 = x := by
      rw [List.getD_eq_getElem?_getD, List.getElem?_eq_getElem hk]
      exact List.getElem_idxOf hk
    have := Lib.idxOf_hit L L.length (L.idxOf x) x hk (Nat.le_refl _) h1 (fun j hj => by
      have hjl : j < L.length := by omega
      rw [List.getD_eq_getElem?_getD, List.getElem?_eq_getElem hjl]
      intro e
      have h2 := List.not_of_lt_findIdx (p := fun y => y == x) (xs := L) (i := j) hj
      simp at h2
      exact h2 e)
    rwa [ht] at this
  · rw [if_neg h]
    have := Lib.idxOf_miss L L.length x (fun j hj => by
      rw [List.getD_eq_getElem?_getD, List.getElem?_eq_getElem hj]
      intro e
      exact h (by rw [← e]; exact List.getElem_mem hj))
    rwa [ht] at this
theorem place_nonneg (L : List Int) (x : Int) : decide (0 ≤ placeL L x) = decide (x ∈ L) := by
  unfold placeL
  by_cases h : x ∈ L
  · simp [h]
  · simp [h]
theorem place_bd (L : List Int) (x : Int) : -1 ≤ placeL L x ∧ placeL L x < L.length ∨ (L = [] ∧ placeL L x = -1) := by
  unfold placeL
  by_cases h : x ∈ L
  · rw [if_pos h]
    have hk := List.idxOf_lt_length_iff.2 h
    left; omega
  · rw [if_neg h]
    cases L with
    | nil => right; exact ⟨rfl, rfl⟩
    | cons a l => left; simp; omega

theorem index_own {w : World} {base : Nat} {v : Value} {L : List Int} (x : Int) (h : w.ownsRow base 3 1 v L.length (intsV L)) (hL : L.length ≤ 1000) :
    Calls Try.prog 35 #[v, .int .i64 x] w (Same w (.int .i64 (placeL L x))) := by
  have hv := own_ints h
  rcases hv with ⟨xa, xc, rfl, h0⟩ | ⟨b, off, cap, rfl, hlt, hc⟩
  · have : L = [] := by simpa [intsV] using h0
    subst this
    refine (Try.slices_Index_int_empty xa xc x w).mono ?_
    rintro e w' ⟨rfl, rfl⟩
    exact ⟨by rw [idx_place], rfl⟩
  · rw [intsV_len]
    refine (Try.slices_Index_int b off L.length cap L x w (Nat.le_refl _) (by omega) (fun j hj => ?_)).mono ?_
    · rw [hc j (by rw [intsV_len]; exact hj)]
      simp [intsV, List.getD, hj]
    · rintro e w' ⟨rfl, rfl⟩
      exact ⟨by rw [List.take_length, idx_place], rfl⟩

def RetList (w : World) (L : List Int) (e : Ending) (w' : World) : Prop := ∃ v, e = .returned v ∧ w'.ownsRow w.heap.size 3 1 v L.length (intsV L) ∧ Below w.heap.size w w'
theorem clone_own {w : World} {base : Nat} {v : Value} {L : List Int} (h : w.ownsRow base 3 1 v L.length (intsV L)) (hL : L.length ≤ 1000) :
    Calls Try.prog 28 #[v] w (RetList w L) := by
  rcases h.2 with ⟨rfl, h0⟩ | ⟨g, cap, cur, rfl, hb, hg, hn, hm, hs, ht⟩
  · have : L = [] := List.eq_nil_of_length_eq_zero h0
    subst this
    refine (Try.slices_Clone_int_nil 0 0 w).mono ?_
    rintro e w' ⟨rfl, rfl⟩
    exact ⟨_, rfl, World.ownsRow_nil _ _ _ _, Below.refl _ _⟩
  · have hi := own_ints h
    rcases hi with ⟨xa, xc, he, h0⟩ | ⟨b, off, cap', he, hlt, hc⟩
    · have : L = [] := by simpa [intsV] using h0
      subst this
      refine (Try.slices_Clone_int_zero ⟨g, 0, none⟩ cap w).mono ?_
      rintro e w' ⟨v', rfl, ho, _, hb'⟩
      exact ⟨_, rfl, ho, hb'⟩
    · injection he with he h1 h2
      injection he with he
      injection he with he1 he2
      subst he1 he2 h2
      refine (Try.slices_Clone_int g 0 L.length cap L w (Nat.le_refl _) (by omega) (fun j hj => ?_)).mono ?_
      · rw [hc j (by rw [intsV_len]; exact hj)]
        simp [intsV, List.getD, hj]
      · rintro e w' ⟨v', rfl, ho, _, hb'⟩
        rw [List.take_length] at ho
        exact ⟨_, rfl, ho, hb'⟩
end Go.Proofs.Ytciieodmihgpgaa
namespace Go.Proofs.Ytciieodmihgpgaa
open Go.RowKit

theorem splice_mid {α : Type} (A M C cs : List α) (h : M.length = cs.length) : splice (A ++ M ++ C) A.length cs = A ++ cs ++ C := by
  unfold splice
  rw [List.append_assoc A M C, List.take_left' rfl, ← h, List.append_assoc A cs C]
  congr 2
  rw [show A.length + M.length = (A ++ M).length by simp, ← List.append_assoc, List.drop_left' rfl]
theorem heap_setCells_same {g : Nat} {t : TypeId} : ∀ (vs : List Value) (o : Nat) {w : World} {cur : Array Value}, w.heap[g]? = some (.cells cur t (0, 0)) → o + vs.length ≤ cur.size →
    (w.setCells g o vs).heap[g]? = some (.cells (splice cur.toList o vs).toArray t (0, 0))
  | [], o, w, cur, h, hl => by
    show w.heap[g]? = _
    rw [h]; simp [splice]
  | v :: r, o, w, cur, h, hl => by
    show ((w.setCell ⟨g, o, none⟩ v).setCells g (o + 1) r).heap[g]? = _
    rw [List.length_cons] at hl
    rw [heap_setCells_same r (o + 1) (heap_setCell_same w g o cur t v h) (by simp; omega)]
    congr 3
    have ho : o < cur.toList.length := by simp; omega
    unfold splice
    simp only [Array.toList_setIfInBounds]
    rw [List.take_succ_eq_append_getElem (by simp; omega), List.getElem_set_self, List.take_set_of_le (Nat.le_refl _), List.drop_set_of_lt (by omega), List.length_cons]
    simp only [List.append_assoc, List.cons_append, List.nil_append]
    rw [show o + 1 + r.length = o + (r.length + 1) by omega]
theorem grown_setCells (g : Nat) : ∀ (vs : List Value) (o : Nat) (w : World), w.grownBy (w.setCells g o vs) (some g)
  | [], _, _ => ⟨rfl, rfl, rfl, Nat.le_refl _, fun _ _ _ => rfl⟩
  | v :: r, o, w => grown_trans (grown_set w g o v) (grown_setCells g r (o + 1) _)
theorem zero_len (n : Nat) : (Builtin.zeroCells (Value.int .i64 0).cells n).size = n := by simp [Builtin.zeroCells, Value.cells]
theorem zero_lenS (n : Nat) : (Builtin.zeroCells (Value.string ⟨#[]⟩).cells n).size = n := by simp [Builtin.zeroCells, Value.cells]

def insL {α : Type} (L : List α) (i : Nat) (x : α) : List α := L.take i ++ x :: L.drop i
theorem insL_len {α : Type} (L : List α) (i : Nat) (x : α) : (insL L i x).length = L.length + 1 := by
  simp [insL, List.length_take, List.length_drop]; omega
theorem ints_ins (L : List Int) (i : Nat) (x : Int) : intsV (insL L i x) = insL (intsV L) i (.int .i64 x) := by simp [intsV, insL, List.map_take, List.map_drop]
theorem grown_undrew {w w' : World} {r : Option Nat} (h : w.drew.grownBy w' r) : w.grownBy w' r := ⟨h.os, h.tape, h.output, h.size, h.block⟩
theorem grown_any {w w' : World} {r : Option Nat} (h : w.grownBy w' none) : w.grownBy w' r := ⟨h.os, h.tape, h.output, h.size, fun k hk _ => h.block k hk (by simp)⟩
theorem grown_fresh {w w' : World} {g : Nat} {r : Option Nat} (h : w.grownBy w' (some g)) (hg : w.heap.size ≤ g) : w.grownBy w' r := ⟨h.os, h.tape, h.output, h.size, fun k hk _ => h.block k hk (by intro e; injection e with e; omega)⟩
theorem grown_alloc {w w1 : World} {o : Obj} {r : Option Nat} (h : (w.alloc o).grownBy w1 (some w.heap.size)) : w.grownBy w1 r :=
  ⟨h.os, h.tape, h.output, Nat.le_trans (by simp) h.size, fun k hk _ => (h.block k (by simp; omega) (by intro e; injection e with e; omega)).trans ((below_new w o).block k hk)⟩

theorem grown_drew (w : World) (o : Obj) {r : Option Nat} : w.grownBy (w.drew.alloc o) r := ⟨(below_new w.drew o).os, (below_new w.drew o).tape, (below_new w.drew o).output, (below_new w.drew o).size, fun k hk _ => (below_new w.drew o).block k hk⟩
theorem addr_at (b off k : Nat) : (⟨b, off, none⟩ : Addr).add k = ⟨b, off + k, none⟩ := by simp [Addr.add]

end Go.Proofs.Ytciieodmihgpgaa
namespace Go.Proofs.Ytciieodmihgpgaa
open Go.RowKit

theorem own_set {w : World} {base b j n : Nat} {t : TypeId} {v u : Value} {xs : List Value} (h : w.ownsRow base t 1 v n xs) (hne : v.ownBlock ≠ some b) : (w.setCell ⟨b, j, none⟩ u).ownsRow base t 1 v n xs := by
  refine ⟨h.1, ?_⟩
  rcases h.2 with h2 | ⟨g, cap, cur, e, hb2, hg, r⟩
  · exact .inl h2
  · refine .inr ⟨g, cap, cur, e, hb2, (heap_setCell_other w ⟨b, j, none⟩ g u (fun e2 => hne (by rw [e]; show some g = some b; rw [e2]))).trans hg, r⟩
def Newer (w : World) (g g' : Option Nat) : Prop := g' = g ∨ ∃ r, g' = some r ∧ w.heap.size ≤ r
end Go.Proofs.Ytciieodmihgpgaa
namespace Go.Proofs.Ytciieodmihgpgaa
open Go.RowKit

theorem grown_drewN {w w' : World} {q : Nat} {r : Option Nat} (h : (w.drewN q).grownBy w' r) : w.grownBy w' r := ⟨h.os, h.tape, h.output, h.size, h.block⟩
theorem erase_idx : ∀ (L : List Int) (x : Int), x ∈ L → L.erase x = L.eraseIdx (L.idxOf x)
  | [], _, h => by cases h
  | a :: l, x, h => by
    by_cases ha : a = x
    · subst ha; simp
    · have hl : x ∈ l := by rcases List.mem_cons.1 h with e | e
                            · exact absurd e.symm ha
                            · exact e
      have hb : (a == x) = false := beq_eq_false_iff_ne.2 ha
      rw [List.erase_cons, hb, List.idxOf_cons, hb]
      simp [erase_idx l x hl]
end Go.Proofs.Ytciieodmihgpgaa

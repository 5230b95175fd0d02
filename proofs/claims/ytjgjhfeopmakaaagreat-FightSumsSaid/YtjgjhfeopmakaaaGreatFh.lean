/- The library's slices.Index, Clone, Insert and Delete at this program: their contracts out of the kit's shelf, laid by the kit's own program in plain words. Plain words for the proofs of layer 5 (pile): lists in memory, rows that the call itself made, piles in memory, what a pile's change leaves as it was. The contracts of a pile's Len, Place, Has, At and List at numbers (layer 5): they change nothing. slices.Insert of one number into a row of the call's own (layer 5): the row that comes of it, in place or anew. The contracts of what changes a pile at numbers (layer 5): Push, Under, Pop, Drop, New. The contracts of a pile's Pop and Drop at numbers, and of New (layer 5). append of a list of numbers to a row of the call's own, whatever the list's address. The document's plain words on lists (layer 5): Ints, Has, and the law's list without a number; the document's example of piles. The contract of Turn between two piles of numbers (layer 5). -/
import Derived.Shelf.Slices.Turned
import Derived.Ground.Names2Prog
import Derived.Shelf.Slices.Clone
import Derived.Shelf.Slices.Delete
import Derived.Shelf.Slices.Cells
import Derived.Shelf.Slices.Empties
import Derived.Shelf.Spec.SlicesInsert
import Derived.Shelf.Spec.SlicesInsertGrow
import Derived.Test.YtjgjhfeopmakaaaGreatProg
import Derived.Test.YtjgjhfeopmakaaaGreatRows
import Derived.Deep.AppendLies
import Derived.Deep.Onto
import Derived.WalkKit
import Derived.WalkSpells
import Derived.Lib.Hide
import Derived.WalkLawsBesides
import Derived.Laws.CopyOwn
import Derived.Laws.OwnMore
import Derived.Carry
import Derived.Recover
import Derived.Deep.Upon
import Derived.RangeFuncBox
namespace Go.Proofs.YtjgjhfeopmakaaaGreat
open Go.Shelf Go.Proofs
def Tryz.laysNm221_ren : Go.Shelf.Ren := ⟨fun | 21 => 106 | 27 => 117 | 28 => 118 | 35 => 126 | 39 => 130 | n => n, fun | 22 => 79 | 3 => 3 | 4 => 4 | 0 => 0 | n => n, fun | n => n⟩
theorem Tryz.laysNm221 : Go.Proofs.Lays2.n21 Tryz.prog Tryz.laysNm221_ren := {
  mixed := by kernel_rfl
  f21 := Tryz.func106.trans (congrArg some (by kernel_rfl))
  f27 := Tryz.func117.trans (congrArg some (by kernel_rfl))
  f28 := Tryz.func118.trans (congrArg some (by kernel_rfl))
  f35 := Tryz.func126.trans (congrArg some (by kernel_rfl))
  f39 := Tryz.func130.trans (congrArg some (by kernel_rfl))
  t0 := Tryz.underlying0
  a0 := Tryz.isAgg0
  z0 := Tryz.sizeOf0
  v0 := Tryz.zeroValue0
  t3 := Tryz.underlying3
  a3 := Tryz.isAgg3
  z3 := Tryz.sizeOf3
  v3 := Tryz.zeroValue3
  t4 := Tryz.underlying4
  a4 := Tryz.isAgg4
  z4 := Tryz.sizeOf4
  v4 := Tryz.zeroValue4
  t22 := Tryz.underlying79
  a22 := Tryz.isAgg79
  z22 := Tryz.sizeOf79
  v22 := Tryz.zeroValue79
  i3 := by kernel_rfl }
def Tryz.lays108_ren : Go.Shelf.Ren := ⟨fun | 108 => 100 | n => n, fun | 28 => 79 | 3 => 3 | 0 => 0 | 4 => 4 | n => n, fun | n => n⟩
theorem Tryz.lays108 : Go.Proofs.Lays.n108 Tryz.prog Tryz.lays108_ren := {
  mixed := by kernel_rfl
  f108 := Tryz.func100.trans (congrArg some (by kernel_rfl))
  t0 := Tryz.underlying0
  a0 := Tryz.isAgg0
  z0 := Tryz.sizeOf0
  v0 := Tryz.zeroValue0
  t3 := Tryz.underlying3
  a3 := Tryz.isAgg3
  z3 := Tryz.sizeOf3
  v3 := Tryz.zeroValue3
  t4 := Tryz.underlying4
  a4 := Tryz.isAgg4
  z4 := Tryz.sizeOf4
  v4 := Tryz.zeroValue4
  t28 := Tryz.underlying79
  a28 := Tryz.isAgg79
  z28 := Tryz.sizeOf79
  v28 := Tryz.zeroValue79 }
open Go.Lib in
theorem Tryz.slices_Index_int (b off n c : Nat) (zs : List Int) (x : Int) (w : World) (hz : n ≤ zs.length) (hbig : n ≤ 9223372036854775807) (hc : ∀ j, j < zs.length → w.cell? ⟨b, off + j, none⟩ = some (.int .i64 (zs.getD j 0))) :
    Calls Tryz.prog 100 #[.slice (some ⟨b, off, none⟩) n c, .int .i64 x] w fun e w' => e = .returned (.int .i64 (Lib.idxOf (zs.take n) x)) ∧ w' = w := Any.slices_Index_int Tryz.lays108 b off n c zs x w hz hbig hc
open Go.Lib in
theorem Tryz.slices_Index_int_empty (a : Option Addr) (c : Nat) (x : Int) (w : World) :
    Calls Tryz.prog 100 #[.slice a 0 c, .int .i64 x] w fun e w' => e = .returned (.int .i64 (Lib.idxOf [] x)) ∧ w' = w := Any.slices_Index_int_empty Tryz.lays108 a c x w
def Tryz.laysNm215_ren : Go.Shelf.Ren := ⟨fun | 15 => 60 | n => n, fun | 22 => 79 | 3 => 3 | 4 => 4 | n => n, fun | n => n⟩
theorem Tryz.laysNm215 : Go.Proofs.Lays2.n15 Tryz.prog Tryz.laysNm215_ren := {
  mixed := by kernel_rfl
  f15 := Tryz.func60.trans (congrArg some (by kernel_rfl))
  t3 := Tryz.underlying3
  a3 := Tryz.isAgg3
  z3 := Tryz.sizeOf3
  v3 := Tryz.zeroValue3
  t4 := Tryz.underlying4
  a4 := Tryz.isAgg4
  z4 := Tryz.sizeOf4
  v4 := Tryz.zeroValue4
  t22 := Tryz.underlying79
  a22 := Tryz.isAgg79
  z22 := Tryz.sizeOf79
  v22 := Tryz.zeroValue79
  i3 := by kernel_rfl }
open Go.RowKit Go.Lib in
theorem Tryz.slices_Clone_int (b off n c : Nat) (zs : List Int) (w : World) (hz : n ≤ zs.length) (hbig : n * 8 ≤ 140737488355328) (hc : ∀ j, j < zs.length → w.cell? ⟨b, off + j, none⟩ = some (.int .i64 (zs.getD j 0))) :
    Calls Tryz.prog 60 #[.slice (some ⟨b, off, none⟩) n c] w fun e w' => ∃ v', e = .returned v' ∧ w'.ownsRow w.heap.size 3 1 v' n ((zs.take n).map (Value.int .i64)) ∧ v' ≠ .slice none 0 0 ∧ Below w.heap.size w w' := Any.slices_Clone_int Tryz.laysNm215 b off n c zs w hz hbig hc
open Go.RowKit Go.Lib in
theorem Tryz.slices_Clone_int_nil (n c : Nat) (w : World) :
    Calls Tryz.prog 60 #[.slice none n c] w fun e w' => e = .returned (.slice none 0 0) ∧ w' = w := Any.slices_Clone_int_nil Tryz.laysNm215 n c w
open Go.RowKit Go.Lib in
theorem Tryz.slices_Clone_int_zero (a : Addr) (c : Nat) (w : World) :
    Calls Tryz.prog 60 #[.slice (some a) 0 c] w fun e w' => ∃ v', e = .returned v' ∧ w'.ownsRow w.heap.size 3 1 v' 0 [] ∧ v' ≠ .slice none 0 0 ∧ Below w.heap.size w w' := Any.slices_Clone_int_zero Tryz.laysNm215 a c w
def Tryz.laysNm223_ren : Go.Shelf.Ren := ⟨fun | 23 => 104 | n => n, fun | 22 => 79 | 3 => 3 | 4 => 4 | 0 => 0 | n => n, fun | n => n⟩
theorem Tryz.laysNm223 : Go.Proofs.Lays2.n23 Tryz.prog Tryz.laysNm223_ren := {
  mixed := by kernel_rfl
  f23 := Tryz.func104.trans (congrArg some (by kernel_rfl))
  t0 := Tryz.underlying0
  a0 := Tryz.isAgg0
  z0 := Tryz.sizeOf0
  v0 := Tryz.zeroValue0
  t3 := Tryz.underlying3
  a3 := Tryz.isAgg3
  z3 := Tryz.sizeOf3
  v3 := Tryz.zeroValue3
  t4 := Tryz.underlying4
  a4 := Tryz.isAgg4
  z4 := Tryz.sizeOf4
  v4 := Tryz.zeroValue4
  t22 := Tryz.underlying79
  a22 := Tryz.isAgg79
  z22 := Tryz.sizeOf79
  v22 := Tryz.zeroValue79
  i3 := by kernel_rfl }
open Go.RowKit Go.Lib Go.Sort in
theorem Tryz.slices_Delete_int_cells (b off n c i j : Nat) (zs : List Int) (w : World) (hz : n ≤ zs.length) (hcap : n ≤ c) (hm : c ≤ 9223372036854775807) (hij : i ≤ j) (hj : j ≤ n) (hc : ∀ j, j < zs.length → w.cell? ⟨b, off + j, none⟩ = some (.int .i64 (zs.getD j 0))) (hf : ∀ j, j < n → w.frozen? ⟨b, off + j, none⟩ = false) :
    Calls Tryz.prog 104 #[.slice (some ⟨b, off, none⟩) n c, .int .i64 i, .int .i64 j] w fun e w' => e = .returned (.slice (some ⟨b, off, none⟩) (n - (j - i)) c) ∧ ∃ q, w' = (w.drewN q).setCells b off (((zs.take n).take i ++ (zs.take n).drop j ++ List.replicate (j - i) 0).map (Value.int .i64)) := Any.slices_Delete_int_cells Tryz.laysNm223 b off n c i j zs w hz hcap hm hij hj hc hf
end Go.Proofs.YtjgjhfeopmakaaaGreat
namespace Go.Proofs.YtjgjhfeopmakaaaGreat
open Go.RowKit

theorem ret_int {k : IntKind} {a b : Int} (h : a = b) : Ending.returned (.int k a) = .returned (.int k b) := by rw [h]
theorem ret_bool {a b : Bool} (h : a = b) : Ending.returned (.bool a) = .returned (.bool b) := by rw [h]
theorem stepB {A w w' : World} (h : Below A.heap.size A w) (hb : Below w.heap.size w w') : Below A.heap.size A w' := h.trans (hb.mono h.size)
theorem below_alloc2 {A w : World} (h : Below A.heap.size A w) (o : Obj) : Below A.heap.size A (w.alloc o) := h.alloc h.size o
theorem below_new (w : World) (o : Obj) : Below w.heap.size w (w.alloc o) := (Below.refl _ _).alloc (Nat.le_refl _) _
theorem take_last {α : Type} (l : List α) (k : Nat) (h : k < l.length) : l.take (k + 1) = l.take k ++ [l[k]] := List.take_succ_eq_append_getElem h
theorem mk_func (fn : Fn) (first cap : Array Value) (w : World) : (Instr.makeFunc fn first cap).run Tryz.prog w = .ok (.func fn first cap) w := rfl
theorem cell_stays {w w' : World} {p : Addr} {v : Value} (hb : Below w.heap.size w w') (h : w.cell? p = some v) : w'.cell? p = some v := by
  by_cases hp : p.block < w.heap.size
  · rw [hb.cell hp]; exact h
  · unfold World.cell? at h
    rw [show w.heap[p.block]? = none by simp; omega] at h
    simp at h
def RetB (w : World) (b : Bool) (e : Ending) (w' : World) : Prop := e = .returned (.bool b) ∧ Below w.heap.size w w'
theorem info_int : (Tryz.prog.info? 3).map (fun i => (i.zero, i.size, i.bytes)) = some (some (.int .i64 0), 1, 8) := by kernel_rfl
theorem info_string : (Tryz.prog.info? 9).map (fun i => (i.zero, i.size, i.bytes)) = some (some (.string ⟨#[]⟩), 1, 16) := by kernel_rfl

/-- A row of cells in a block that may be written. -/
def RowAt (w : World) (g : Nat) (t : TypeId) (xs : List Value) : Prop := w.heap[g]? = some (.cells xs.toArray t (0, 0))
theorem RowAt.lt {w : World} {g : Nat} {t : TypeId} {xs : List Value} (h : RowAt w g t xs) : g < w.heap.size := (Array.getElem?_eq_some_iff.1 h).1
theorem RowAt.later {w w' : World} {g : Nat} {t : TypeId} {xs : List Value} (h : RowAt w g t xs) (hb : Below w.heap.size w w') : RowAt w' g t xs := (hb.block g h.lt).trans h
theorem RowAt.grown {w w' : World} {g b : Nat} {t : TypeId} {xs : List Value} (h : RowAt w g t xs) (hg : w.grownBy w' (some b)) (hne : g ≠ b) : RowAt w' g t xs := (hg.block g h.lt (by simpa using hne)).trans h
theorem RowAt.cell {w : World} {g : Nat} {t : TypeId} {xs : List Value} (h : RowAt w g t xs) (j : Nat) (hj : j < xs.length) : w.cell? ⟨g, j, none⟩ = some xs[j] := by
  rw [cell_of_row w g j _ t (0, 0) h]; simp [hj]
theorem RowAt.free {w : World} {g : Nat} {t : TypeId} {xs : List Value} (h : RowAt w g t xs) (j : Nat) : w.frozen? ⟨g, j, none⟩ = false := frozen_of_row w g j _ t h
theorem RowAt.set {w : World} {g : Nat} {t : TypeId} {xs : List Value} (h : RowAt w g t xs) (j : Nat) (u : Value) : RowAt (w.setCell ⟨g, j, none⟩ u) g t (xs.set j u) := by
  unfold RowAt
  rw [heap_setCell_same w g j _ t u h]; simp
theorem RowAt.other {w : World} {g b j : Nat} {t : TypeId} {xs : List Value} (h : RowAt w g t xs) (hne : g ≠ b) (u : Value) : RowAt (w.setCell ⟨b, j, none⟩ u) g t xs := (heap_setCell_other w ⟨b, j, none⟩ g u hne).trans h
theorem RowAt.new (w : World) (t : TypeId) (xs : List Value) : RowAt (w.alloc (.cells xs.toArray t)) w.heap.size t xs := heap_alloc_new w _

/-- What a slice value shows, if it shows anything. -/
def ValsAt (w : World) (v : Value) (xs : List Value) : Prop :=
  (∃ xa cap, v = .slice xa 0 cap ∧ xs = []) ∨ ∃ b off cap, v = .slice (some ⟨b, off, none⟩) xs.length cap ∧ b < w.heap.size ∧ ∀ i (h : i < xs.length), w.cell? ⟨b, off + i, none⟩ = some xs[i]
theorem ValsAt.later {w w' : World} {v : Value} {l : List Value} (h : ValsAt w v l) (hb : Below w.heap.size w w') : ValsAt w' v l := by
  rcases h with h | ⟨b, off, cap, rfl, hlt, hc⟩
  · exact .inl h
  · exact .inr ⟨b, off, cap, rfl, Nat.lt_of_lt_of_le hlt hb.size, fun i hi => cell_stays hb (hc i hi)⟩
theorem ValsAt.form {w : World} {v : Value} {l : List Value} (h : ValsAt w v l) : ∃ xa xc, v = .slice xa l.length xc := by
  rcases h with ⟨xa, cap, rfl, rfl⟩ | ⟨b, off, cap, rfl, _⟩
  · exact ⟨xa, cap, rfl⟩
  · exact ⟨_, cap, rfl⟩
theorem ValsAt.at {w : World} {xa : Option Addr} {xc : Nat} {l : List Value} (h : ValsAt w (.slice xa l.length xc) l) (k : Nat) (hk : k < l.length) : ∃ b off, xa = some ⟨b, off, none⟩ ∧ b < w.heap.size ∧ w.cell? ⟨b, off + k, none⟩ = some l[k] := by
  rcases h with ⟨_, _, _, h2⟩ | ⟨b, off, cap, h1, h2, hc⟩
  · subst h2; simp at hk
  · injection h1 with h1 _ _; exact ⟨b, off, h1, h2, hc k hk⟩
theorem RowAt.vals {w : World} {g : Nat} {t : TypeId} {xs : List Value} (h : RowAt w g t xs) (cap : Nat) : ValsAt w (.slice (some ⟨g, 0, none⟩) xs.length cap) xs :=
  .inr ⟨g, 0, cap, rfl, h.lt, fun i hi => by rw [Nat.zero_add]; exact h.cell i hi⟩
def intsV (l : List Int) : List Value := l.map fun x => .int .i64 x
theorem intsV_len (l : List Int) : (intsV l).length = l.length := by simp [intsV]
theorem intsV_one (l : List Int) : ∀ u ∈ intsV l, u.oneCell' = true := by
  intro u hu
  obtain ⟨x, _, rfl⟩ := List.mem_map.1 hu
  rfl
/-- What a slice of numbers shows. -/
def IntsAt (w : World) (v : Value) (l : List Int) : Prop := ValsAt w v (intsV l)
theorem IntsAt.later {w w' : World} {v : Value} {l : List Int} (h : IntsAt w v l) (hb : Below w.heap.size w w') : IntsAt w' v l := ValsAt.later h hb
theorem IntsAt.form {w : World} {v : Value} {l : List Int} (h : IntsAt w v l) : ∃ xa xc, v = .slice xa l.length xc := by
  obtain ⟨xa, xc, h⟩ := ValsAt.form h
  rw [intsV_len] at h
  exact ⟨xa, xc, h⟩
theorem IntsAt.at {w : World} {xa : Option Addr} {xc : Nat} {l : List Int} (h : IntsAt w (.slice xa l.length xc) l) (k : Nat) (hk : k < l.length) : ∃ b off, xa = some ⟨b, off, none⟩ ∧ b < w.heap.size ∧ w.cell? ⟨b, off + k, none⟩ = some (.int .i64 l[k]) := by
  have h' : ValsAt w (.slice xa (intsV l).length xc) (intsV l) := by rw [intsV_len]; exact h
  obtain ⟨b, off, h1, h2, h3⟩ := h'.at k (by rw [intsV_len]; exact hk)
  exact ⟨b, off, h1, h2, by rw [h3]; simp [intsV]⟩

theorem grown_trans {w w' w'' : World} {r : Option Nat} (h : w.grownBy w' r) (k : w'.grownBy w'' r) : w.grownBy w'' r :=
  ⟨k.os.trans h.os, k.tape.trans h.tape, k.output.trans h.output, Nat.le_trans h.size k.size, fun j hj hne => (k.block j (Nat.lt_of_lt_of_le hj h.size) hne).trans (h.block j hj hne)⟩
theorem grown_set (w : World) (b j : Nat) (u : Value) : w.grownBy (w.setCell ⟨b, j, none⟩ u) (some b) :=
  ⟨rfl, rfl, rfl, by simp, fun k _ hne => heap_setCell_other w ⟨b, j, none⟩ k u (by simpa using hne)⟩
theorem grown_below {w w' : World} {b : Nat} (h : Below w.heap.size w w') : w.grownBy w' (some b) := ⟨h.os, h.tape, h.output, h.size, fun k hk _ => h.block k hk⟩
theorem grown_to {A w w' : World} {b : Nat} (h : Below A.heap.size A w) (hg : w.grownBy w' (some b)) (hb : A.heap.size ≤ b) : Below A.heap.size A w' := h.grown hg h.size (fun k e => by cases e; exact hb)
theorem vals_grown {w w' : World} {b : Nat} {v : Value} {xs : List Value} (h : ValsAt w v xs) (hg : w.grownBy w' (some b)) (hne : ∀ o, (∃ n c, v = .slice (some ⟨b, o, none⟩) n c) → xs = []) : ValsAt w' v xs := by
  rcases h with h | ⟨r, off, cap, rfl, hlt, hc⟩
  · exact .inl h
  · by_cases hr : r = b
    · subst hr
      have := hne off ⟨_, _, rfl⟩
      subst this
      exact .inl ⟨_, _, rfl, rfl⟩
    · refine .inr ⟨r, off, cap, rfl, Nat.lt_of_lt_of_le hlt hg.size, fun i hi => ?_⟩
      rw [World.cell?_of_block (w := w) (a := ⟨r, off + i, none⟩) (hg.block r hlt (by simpa using hr))]
      exact hc i hi

def Same (w : World) (v : Value) (e : Ending) (w' : World) : Prop := e = .returned v ∧ w' = w
def Drew (w : World) (v : Value) (e : Ending) (w' : World) : Prop := e = .returned v ∧ ∃ nd, w' = w.drewN nd
def RetV (w : World) (v : Value) (e : Ending) (w' : World) : Prop := e = .returned v ∧ Below w.heap.size w w'
theorem below_drewN {A w : World} (h : Below A.heap.size A w) (nd : Nat) : Below A.heap.size A (w.drewN nd) := ⟨h.os, h.tape, h.output, h.size, h.block⟩
theorem own_vals {w : World} {base : Nat} {t : TypeId} {v : Value} {n : Nat} {xs : List Value} (h : w.ownsRow base t 1 v n xs) : ValsAt w v xs := by
  have hl : xs.length = n := by simpa using h.1
  rcases h.2 with ⟨rfl, h0⟩ | ⟨g, cap, cur, rfl, hb, hg, hn, hm, hs, ht⟩
  · exact .inl ⟨none, 0, rfl, List.eq_nil_of_length_eq_zero (by omega)⟩
  · refine .inr ⟨g, 0, cap, by rw [hl], (Array.getElem?_eq_some_iff.1 hg).1, fun i hi => ?_⟩
    subst ht
    rw [Nat.zero_add, cell_of_row w g i _ t (0, 0) hg, ← Array.getElem?_toList]
    rw [List.getElem_take, ← List.getElem?_eq_getElem]
theorem own_ints {w : World} {base : Nat} {v : Value} {n : Nat} {l : List Int} (h : w.ownsRow base 3 1 v n (intsV l)) : IntsAt w v l := own_vals h
theorem own_later {w w' : World} {base : Nat} {t : TypeId} {v : Value} {n : Nat} {xs : List Value} (h : w.ownsRow base t 1 v n xs) (hb : Below w.heap.size w w') : w'.ownsRow base t 1 v n xs := by
  refine ⟨h.1, ?_⟩
  rcases h.2 with h2 | ⟨g, cap, cur, e, hb2, hg, r⟩
  · exact .inl h2
  · exact .inr ⟨g, cap, cur, e, hb2, (hb.block g (Array.getElem?_eq_some_iff.1 hg).1).trans hg, r⟩

/-- A pile of numbers in memory: its block, and that of its row, if it has one. -/
def PileAt (w : World) (lo b : Nat) (g : Option Nat) (L : List Int) : Prop :=
  ∃ v, w.heap[b]? = some (.cells #[v] 145 (0, 0)) ∧ v.ownBlock = g ∧ lo ≤ b ∧ w.ownsRow lo 3 1 v L.length (intsV L)
/-- All that lay there but two blocks is as it was. -/
structure Chg (w w' : World) (b : Nat) (g : Option Nat) : Prop where
  os : w'.os = w.os
  tape : w'.tape = w.tape
  output : w'.output = w.output
  size : w.heap.size ≤ w'.heap.size
  block : ∀ k, k < w.heap.size → k ≠ b → g ≠ some k → w'.heap[k]? = w.heap[k]?
theorem Chg.of_below {w w' : World} {b : Nat} {g : Option Nat} (h : Below w.heap.size w w') : Chg w w' b g := ⟨h.os, h.tape, h.output, h.size, fun k hk _ _ => h.block k hk⟩
theorem Chg.below {A w w' : World} {b : Nat} {g : Option Nat} (h : Chg w w' b g) (hA : Below A.heap.size A w) (hb : A.heap.size ≤ b) (hg : ∀ k, g = some k → A.heap.size ≤ k) : Below A.heap.size A w' :=
  ⟨h.os.trans hA.os, h.tape.trans hA.tape, h.output.trans hA.output, Nat.le_trans hA.size h.size, fun k hk => (h.block k (Nat.lt_of_lt_of_le hk hA.size) (by omega) (fun e => by have := hg k e; omega)).trans (hA.block k hk)⟩
theorem Chg.then {w w1 w2 : World} {b : Nat} {g : Option Nat} (h : Chg w w1 b g) (k : Below w1.heap.size w1 w2) : Chg w w2 b g :=
  ⟨k.os.trans h.os, k.tape.trans h.tape, k.output.trans h.output, Nat.le_trans h.size k.size, fun i hi hb hg => (k.block i (Nat.lt_of_lt_of_le hi h.size)).trans (h.block i hi hb hg)⟩
theorem Chg.ahead {w w1 w2 : World} {b : Nat} {g : Option Nat} (k : Below w.heap.size w w1) (h : Chg w1 w2 b g) : Chg w w2 b g :=
  ⟨h.os.trans k.os, h.tape.trans k.tape, h.output.trans k.output, Nat.le_trans k.size h.size, fun i hi hb hg => (h.block i (Nat.lt_of_lt_of_le hi k.size) hb hg).trans (k.block i hi)⟩
theorem PileAt.later {w w' : World} {lo b : Nat} {g : Option Nat} {L : List Int} (h : PileAt w lo b g L) (hb : Below w.heap.size w w') : PileAt w' lo b g L := by
  obtain ⟨v, h1, h2, h3, h4⟩ := h
  exact ⟨v, (hb.block b (Array.getElem?_eq_some_iff.1 h1).1).trans h1, h2, h3, own_later h4 hb⟩
theorem PileAt.lt {w : World} {lo b : Nat} {g : Option Nat} {L : List Int} (h : PileAt w lo b g L) : b < w.heap.size := by
  obtain ⟨v, h1, _⟩ := h
  exact (Array.getElem?_eq_some_iff.1 h1).1
theorem PileAt.row {w : World} {lo b : Nat} {g : Option Nat} {L : List Int} (h : PileAt w lo b g L) : ∀ k, g = some k → lo ≤ k ∧ k < w.heap.size ∧ k ≠ b := by
  obtain ⟨v, h1, h2, _, h4⟩ := h
  intro k hk
  rw [← h2] at hk
  have := World.ownsRow.lt h4 k hk
  refine ⟨this.1, this.2, fun e => ?_⟩
  rcases h4.2 with ⟨rfl, _⟩ | ⟨g', cap, cur, rfl, _, hg, _⟩
  · simp [Value.ownBlock] at hk
  · obtain rfl : g' = k := by simpa [Value.ownBlock] using hk
    rw [e, h1] at hg
    injection hg with hg
    injection hg with _ ht
    exact absurd ht (by decide)
theorem PileAt.lo {w : World} {lo b : Nat} {g : Option Nat} {L : List Int} (h : PileAt w lo b g L) : lo ≤ b := by obtain ⟨v, _, _, h3, _⟩ := h; exact h3
/-- Two piles that share no block. -/
def Sep (b1 : Nat) (g1 : Option Nat) (b2 : Nat) (g2 : Option Nat) : Prop := b1 ≠ b2 ∧ g1 ≠ some b2 ∧ g2 ≠ some b1 ∧ ∀ k, g1 = some k → g2 ≠ some k
theorem PileAt.far {w w' : World} {lo b b2 : Nat} {g g2 : Option Nat} {L : List Int} (h : PileAt w lo b2 g2 L) (hc : Chg w w' b g) (hs : Sep b g b2 g2) : PileAt w' lo b2 g2 L := by
  obtain ⟨v, h1, h2, h3, h4⟩ := h
  refine ⟨v, (hc.block b2 (Array.getElem?_eq_some_iff.1 h1).1 (Ne.symm hs.1) hs.2.1).trans h1, h2, h3, h4.1, ?_⟩
  rcases h4.2 with h5 | ⟨g', cap, cur, e, hb2, hg, r⟩
  · exact .inl h5
  · have hg2 : g2 = some g' := by rw [← h2, e]; rfl
    exact .inr ⟨g', cap, cur, e, hb2, (hc.block g' (Array.getElem?_eq_some_iff.1 hg).1 (fun e => hs.2.2.1 (by rw [hg2, e])) (fun e => hs.2.2.2 g' e hg2)).trans hg, r⟩
/-- A slice whose row is none of a pile's blocks. -/
def Away (v : Value) (b : Nat) (g : Option Nat) : Prop := ∀ k, v.ownBlock = some k → k ≠ b ∧ g ≠ some k
theorem vals_chg {w w' : World} {b : Nat} {g : Option Nat} {v : Value} {xs : List Value} (h : ValsAt w v xs) (hc : Chg w w' b g) (ha : Away v b g) : ValsAt w' v xs := by
  rcases h with h | ⟨r, off, cap, rfl, hlt, hcell⟩
  · exact .inl h
  · obtain ⟨h1, h2⟩ := ha r rfl
    refine .inr ⟨r, off, cap, rfl, Nat.lt_of_lt_of_le hlt hc.size, fun i hi => ?_⟩
    rw [World.cell?_of_block (w := w) (a := ⟨r, off + i, none⟩) (hc.block r hlt h1 h2)]
    exact hcell i hi
end Go.Proofs.YtjgjhfeopmakaaaGreat
namespace Go.Proofs.YtjgjhfeopmakaaaGreat
open Go.RowKit

/-- Where something is in a list; -1, if it isn't there. -/
def placeL (L : List Int) (x : Int) : Int := if x ∈ L then ((L.idxOf x : Nat) : Int) else -1
theorem idx_place (L : List Int) (x : Int) : Lib.idxOf L x = placeL L x := by
  unfold placeL
  have ht : L.take L.length = L := List.take_length
  by_cases h : x ∈ L
  · rw [if_pos h]
    have hk := List.idxOf_lt_length_iff.2 h
    have h1 : L.getD (L.idxOf x) 0 = x := by
      rw [List.getD_eq_getElem?_getD, List.getElem?_eq_getElem hk]
      exact List.getElem_idxOf hk
    have := Lib.idxOf_hit L L.length (L.idxOf x) x hk (Nat.le_refl _) h1 (fun j hj => by
      have hjl : j < L.length := by omega
      rw [List.getD_eq_getElem?_getD, List.getElem?_eq_getElem hjl]
      intro e
      have h2 := List.not_of_lt_findIdx (p := fun y => y == x) (xs := L) (i := j) hj
      simp at h2
      exact h2 e)
    rwa [ht] at this
  · rw [if_neg h]
    have := Lib.idxOf_miss L L.length x (fun j hj => by
      rw [List.getD_eq_getElem?_getD, List.getElem?_eq_getElem hj]
      intro e
      exact h (by rw [← e]; exact List.getElem_mem hj))
    rwa [ht] at this
theorem place_nonneg (L : List Int) (x : Int) : decide (0 ≤ placeL L x) = decide (x ∈ L) := by
  unfold placeL
  by_cases h : x ∈ L
  · simp [h]
  · simp [h]
theorem place_bd (L : List Int) (x : Int) : -1 ≤ placeL L x ∧ placeL L x < L.length ∨ (L = [] ∧ placeL L x = -1) := by
  unfold placeL
  by_cases h : x ∈ L
  · rw [if_pos h]
    have hk := List.idxOf_lt_length_iff.2 h
    left; omega
  · rw [if_neg h]
    cases L with
    | nil => right; exact ⟨rfl, rfl⟩
    | cons a l => left; simp; omega

theorem index_own {w : World} {base : Nat} {v : Value} {L : List Int} (x : Int) (h : w.ownsRow base 3 1 v L.length (intsV L)) (hL : L.length ≤ 1000) :
    Calls Tryz.prog 100 #[v, .int .i64 x] w (Same w (.int .i64 (placeL L x))) := by
  have hv := own_ints h
  rcases hv with ⟨xa, xc, rfl, h0⟩ | ⟨b, off, cap, rfl, hlt, hc⟩
  · have : L = [] := by simpa [intsV] using h0
    subst this
    refine (Tryz.slices_Index_int_empty xa xc x w).mono ?_
    rintro e w' ⟨rfl, rfl⟩
    exact ⟨by rw [idx_place], rfl⟩
  · rw [intsV_len]
    refine (Tryz.slices_Index_int b off L.length cap L x w (Nat.le_refl _) (by omega) (fun j hj => ?_)).mono ?_
    · rw [hc j (by rw [intsV_len]; exact hj)]
      simp [intsV, List.getD, hj]
    · rintro e w' ⟨rfl, rfl⟩
      exact ⟨by rw [List.take_length, idx_place], rfl⟩

theorem cd_place (p : Option Addr) (w : World) :
    CallsD Tryz.prog 103 #[.pointer p] .returning w fun e u' w' => e = .returned (.tuple #[]) ∧ u' = .returning ∧ w' = w := by
  refine callsD_of_wpS Tryz.func103 rfl fun c₀ cs hu => ?_
  apply wpS_seq
  apply wpS_region
  simp [wpOpsS, go_sem, recoverD, hu, Tryz.ntmps103, Exit.thenS]
  refine wpS_cond (t := false) (by simp [Act.eval, Array.replicate]) ?_
  simp only [Bool.false_eq_true, if_false]
  refine wpS_of_wp (wp_skip ?_)
  cases c₀
  simp_all [bodyPostS, results, Tryz.results103]

set_option maxRecDepth 100000 in
set_option maxHeartbeats 2000000 in
theorem place_any {w : World} {lo b : Nat} {g : Option Nat} {L : List Int} (x : Int) (h : PileAt w lo b g L) (hL : L.length ≤ 1000) :
    Calls Tryz.prog 82 #[.pointer (some ⟨b, 0, none⟩), .int .i64 x] w (RetV w (.int .i64 (placeL L x))) := by
  obtain ⟨v, hb, hg, hlo, hown⟩ := h
  have hmf := @mk_func
  have hbl := (Array.getElem?_eq_some_iff.1 hb).1
  have c0 : (w.alloc (.cells #[.int .i64 0] 3)).cell? ⟨b, 0, none⟩ = some v := cell_stays (below_new w _) (by rw [cell_of_row w b 0 _ _ _ hb]; rfl)
  have HO := Lib.hid (own_later hown (below_new w (.cells #[.int .i64 0] 3)))
  clear hb hg hown
  go_enter_defers Tryz.func82, Tryz.ntmps82
  go_wp2_with fail
  refine (index_own x HO.out hL).mono ?_
  rintro e w1 ⟨rfl, rfl⟩
  go_wp2
  refine leaves_cons (f := 103) (args := #[.pointer (some ⟨w.heap.size, 0, none⟩)]) (by simp) (by simp [go_sem]) ?_
  refine (cd_place _ _).mono ?_
  rintro e u' w'' ⟨rfl, rfl, rfl⟩
  simp [Leaves, settle, results, Tryz.results82, go_sem]
  exact ⟨rfl, below_new w _⟩

set_option maxRecDepth 100000 in
theorem has_any {w : World} {lo b : Nat} {g : Option Nat} {L : List Int} (x : Int) (h : PileAt w lo b g L) (hL : L.length ≤ 1000) :
    Calls Tryz.prog 105 #[.pointer (some ⟨b, 0, none⟩), .int .i64 x] w (RetV w (.bool (decide (x ∈ L)))) := by
  have HP := Lib.hid (place_any x h hL)
  clear h
  go_enter Tryz.func105, Tryz.ntmps105
  go_wp2_with fail
  refine HP.out.mono ?_
  rintro e w1 ⟨rfl, hb1⟩
  have hn := place_nonneg L x
  go_wp2
  go_ret
  exact ⟨rfl, hb1⟩

set_option maxRecDepth 100000 in
theorem len_any {w : World} {lo b : Nat} {g : Option Nat} {L : List Int} (h : PileAt w lo b g L) :
    Calls Tryz.prog 85 #[.pointer (some ⟨b, 0, none⟩)] w (Same w (.int .i64 L.length)) := by
  obtain ⟨v, hb, hg, hlo, hown⟩ := h
  have c0 : w.cell? ⟨b, 0, none⟩ = some v := by rw [cell_of_row w b 0 _ _ _ hb]; rfl
  obtain ⟨xa, xc, rfl⟩ := (own_ints hown).form
  clear hb hg hown hlo
  go_enter Tryz.func85, Tryz.ntmps85
  go_wp2
  go_ret
  exact ⟨rfl, rfl⟩

def RetList (w : World) (L : List Int) (e : Ending) (w' : World) : Prop := ∃ v, e = .returned v ∧ w'.ownsRow w.heap.size 3 1 v L.length (intsV L) ∧ Below w.heap.size w w'
theorem clone_own {w : World} {base : Nat} {v : Value} {L : List Int} (h : w.ownsRow base 3 1 v L.length (intsV L)) (hL : L.length ≤ 1000) :
    Calls Tryz.prog 60 #[v] w (RetList w L) := by
  rcases h.2 with ⟨rfl, h0⟩ | ⟨g, cap, cur, rfl, hb, hg, hn, hm, hs, ht⟩
  · have : L = [] := List.eq_nil_of_length_eq_zero h0
    subst this
    refine (Tryz.slices_Clone_int_nil 0 0 w).mono ?_
    rintro e w' ⟨rfl, rfl⟩
    exact ⟨_, rfl, World.ownsRow_nil _ _ _ _, Below.refl _ _⟩
  · have hi := own_ints h
    rcases hi with ⟨xa, xc, he, h0⟩ | ⟨b, off, cap', he, hlt, hc⟩
    · have : L = [] := by simpa [intsV] using h0
      subst this
      refine (Tryz.slices_Clone_int_zero ⟨g, 0, none⟩ cap w).mono ?_
      rintro e w' ⟨v', rfl, ho, _, hb'⟩
      exact ⟨_, rfl, ho, hb'⟩
    · injection he with he h1 h2
      injection he with he
      injection he with he1 he2
      subst he1 he2 h2
      refine (Tryz.slices_Clone_int g 0 L.length cap L w (Nat.le_refl _) (by omega) (fun j hj => ?_)).mono ?_
      · rw [hc j (by rw [intsV_len]; exact hj)]
        simp [intsV, List.getD, hj]
      · rintro e w' ⟨v', rfl, ho, _, hb'⟩
        rw [List.take_length] at ho
        exact ⟨_, rfl, ho, hb'⟩
set_option maxRecDepth 100000 in
theorem list_any {w : World} {lo b : Nat} {g : Option Nat} {L : List Int} (h : PileAt w lo b g L) (hL : L.length ≤ 1000) :
    Calls Tryz.prog 97 #[.pointer (some ⟨b, 0, none⟩)] w (RetList w L) := by
  obtain ⟨v, hb, hg, hlo, hown⟩ := h
  have c0 : w.cell? ⟨b, 0, none⟩ = some v := by rw [cell_of_row w b 0 _ _ _ hb]; rfl
  have HC := Lib.hid (clone_own hown hL)
  clear hb hg hown hlo
  go_enter Tryz.func97, Tryz.ntmps97
  go_wp2_with fail
  refine HC.out.mono ?_
  rintro e w1 ⟨v', rfl, ho, hb1⟩
  have HO := Lib.hid ho
  clear ho
  go_wp2
  go_ret
  exact ⟨_, rfl, HO.out, hb1⟩
end Go.Proofs.YtjgjhfeopmakaaaGreat
namespace Go.Proofs.YtjgjhfeopmakaaaGreat
open Go.RowKit

theorem splice_mid {α : Type} (A M C cs : List α) (h : M.length = cs.length) : splice (A ++ M ++ C) A.length cs = A ++ cs ++ C := by
  unfold splice
  rw [List.append_assoc A M C, List.take_left' rfl, ← h, List.append_assoc A cs C]
  congr 2
  rw [show A.length + M.length = (A ++ M).length by simp, ← List.append_assoc, List.drop_left' rfl]
theorem heap_setCells_same {g : Nat} {t : TypeId} : ∀ (vs : List Value) (o : Nat) {w : World} {cur : Array Value}, w.heap[g]? = some (.cells cur t (0, 0)) → o + vs.length ≤ cur.size →
    (w.setCells g o vs).heap[g]? = some (.cells (splice cur.toList o vs).toArray t (0, 0))
  | [], o, w, cur, h, hl => by
    show w.heap[g]? = _
    rw [h]; simp [splice]
  | v :: r, o, w, cur, h, hl => by
    show ((w.setCell ⟨g, o, none⟩ v).setCells g (o + 1) r).heap[g]? = _
    rw [List.length_cons] at hl
    rw [heap_setCells_same r (o + 1) (heap_setCell_same w g o cur t v h) (by simp; omega)]
    congr 3
    have ho : o < cur.toList.length := by simp; omega
    unfold splice
    simp only [Array.toList_setIfInBounds]
    rw [List.take_succ_eq_append_getElem (by simp; omega), List.getElem_set_self, List.take_set_of_le (Nat.le_refl _), List.drop_set_of_lt (by omega), List.length_cons]
    simp only [List.append_assoc, List.cons_append, List.nil_append]
    rw [show o + 1 + r.length = o + (r.length + 1) by omega]
theorem grown_setCells (g : Nat) : ∀ (vs : List Value) (o : Nat) (w : World), w.grownBy (w.setCells g o vs) (some g)
  | [], _, _ => ⟨rfl, rfl, rfl, Nat.le_refl _, fun _ _ _ => rfl⟩
  | v :: r, o, w => grown_trans (grown_set w g o v) (grown_setCells g r (o + 1) _)
theorem zero_len (n : Nat) : (Builtin.zeroCells (Value.int .i64 0).cells n).size = n := by simp [Builtin.zeroCells, Value.cells]
theorem zero_lenS (n : Nat) : (Builtin.zeroCells (Value.string ⟨#[]⟩).cells n).size = n := by simp [Builtin.zeroCells, Value.cells]

def insL {α : Type} (L : List α) (i : Nat) (x : α) : List α := L.take i ++ x :: L.drop i
theorem insL_len {α : Type} (L : List α) (i : Nat) (x : α) : (insL L i x).length = L.length + 1 := by
  simp [insL, List.length_take, List.length_drop]; omega
theorem ints_ins (L : List Int) (i : Nat) (x : Int) : intsV (insL L i x) = insL (intsV L) i (.int .i64 x) := by simp [intsV, insL, List.map_take, List.map_drop]
def RetIns (t : TypeId) (w : World) (lo : Nat) (v : Value) (n : Nat) (xs : List Value) (e : Ending) (w' : World) : Prop :=
  ∃ v', e = .returned v' ∧ w'.ownsRow lo t 1 v' n xs ∧ w.grownBy w' v.ownBlock ∧ (v'.ownBlock = v.ownBlock ∨ ∃ r, v'.ownBlock = some r ∧ w.heap.size ≤ r)
theorem grown_undrew {w w' : World} {r : Option Nat} (h : w.drew.grownBy w' r) : w.grownBy w' r := ⟨h.os, h.tape, h.output, h.size, h.block⟩
theorem grown_any {w w' : World} {r : Option Nat} (h : w.grownBy w' none) : w.grownBy w' r := ⟨h.os, h.tape, h.output, h.size, fun k hk _ => h.block k hk (by simp)⟩
theorem grown_fresh {w w' : World} {g : Nat} {r : Option Nat} (h : w.grownBy w' (some g)) (hg : w.heap.size ≤ g) : w.grownBy w' r := ⟨h.os, h.tape, h.output, h.size, fun k hk _ => h.block k hk (by intro e; injection e with e; omega)⟩
theorem grown_alloc {w w1 : World} {o : Obj} {r : Option Nat} (h : (w.alloc o).grownBy w1 (some w.heap.size)) : w.grownBy w1 r :=
  ⟨h.os, h.tape, h.output, Nat.le_trans (by simp) h.size, fun k hk _ => (h.block k (by simp; omega) (by intro e; injection e with e; omega)).trans ((below_new w o).block k hk)⟩

theorem grown_drew (w : World) (o : Obj) {r : Option Nat} : w.grownBy (w.drew.alloc o) r := ⟨(below_new w.drew o).os, (below_new w.drew o).tape, (below_new w.drew o).output, (below_new w.drew o).size, fun k hk _ => (below_new w.drew o).block k hk⟩
theorem addr_at (b off k : Nat) : (⟨b, off, none⟩ : Addr).add k = ⟨b, off + k, none⟩ := by simp [Addr.add]

set_option maxHeartbeats 1000000 in
theorem insert_int {w : World} {lo i vb : Nat} {v : Value} {L : List Int} (x : Int) (h : w.ownsRow lo 3 1 v L.length (intsV L)) (hi : i ≤ L.length) (hL : L.length ≤ 1000) (hlo : lo ≤ w.heap.size)
    (hvb : w.heap[vb]? = some (.cells #[.int .i64 x] 3 (0, 0))) (hne : v.ownBlock ≠ some vb) :
    Calls Tryz.prog 106 #[v, .int .i64 (i : Int), .slice (some ⟨vb, 0, none⟩) 1 1] w (RetIns 3 w lo v (L.length + 1) (intsV (insL L i x))) := by
  have hvs : ∀ (j : Nat) u, ([.int .i64 x] : List Value)[j]? = some u → w.cell? ⟨vb, 0 + j, none⟩ = some u := fun j u hj => by
    obtain ⟨hj1, rfl⟩ := List.getElem?_eq_some_iff.1 hj
    obtain rfl : j = 0 := by simpa using hj1
    rw [cell_of_row w vb 0 _ _ _ hvb]; rfl
  have h1v : ∀ u ∈ ([.int .i64 x] : List Value), u.oneCell' = true := by simp [Value.oneCell']
  have hcl : (intsV L).length = L.length := intsV_len L
  rcases h.2 with ⟨rfl, h0⟩ | ⟨g, cap, cur, rfl, hb, hg, hn, hm, hs, ht⟩
  · have : L = [] := List.eq_nil_of_length_eq_zero h0
    subst this
    obtain rfl : i = 0 := by simpa using hi
    refine (Any2.slices_Insert_int_end_grow Tryz.laysNm221 none 0 0 vb 0 1 1 [] [.int .i64 x] w (by omega) (by omega) (by omega) (by omega) rfl rfl (fun _ => rfl) (fun a e => by cases e) hvs h1v).mono ?_
    rintro e w' ⟨rfl, rfl⟩
    refine ⟨_, rfl, ⟨by simp [insL, intsV], .inr ⟨w.heap.size, _, _, rfl, hlo, heap_alloc_new w.drew _, grownCap_ge _ _ _ _, grownCap_le_maxLen _ _ _ _ (by unfold maxLen; omega), ?_, ?_⟩⟩, ?_, .inr ⟨_, rfl, Nat.le_refl _⟩⟩
    · have := grownCap_ge w (0 + 1) 0 3
      simp [zero_len]
      show 1 + (grownCap w (0 + 1) 0 3 - (0 + 1)) = grownCap w (0 + 1) 0 3
      omega
    · simp [insL, intsV]
    · exact grown_drew w _
  · have hsz : cur.toList.length = cap := by simp; omega
    rw [Nat.mul_one] at ht
    have hcs : ∀ (j : Nat) u, (intsV L)[j]? = some u → w.cell? ⟨g, 0 + j, none⟩ = some u := fun j u hj => by
      rw [Nat.zero_add, cell_of_row w g j _ _ _ hg, ← Array.getElem?_toList]
      rw [← ht, List.getElem?_take] at hj
      split at hj
      · exact hj
      · cases hj
    unfold maxLen at hm
    obtain ⟨A, hA⟩ : ∃ A, (intsV L).take i = A := ⟨_, rfl⟩
    obtain ⟨B, hB⟩ : ∃ B, (intsV L).drop i = B := ⟨_, rfl⟩
    have hAB : A ++ B = intsV L := by rw [← hA, ← hB, List.take_append_drop]
    have hAl : A.length = i := by rw [← hA, List.length_take, hcl]; omega
    have hBl : B.length = L.length - i := by rw [← hB, List.length_drop, hcl]
    obtain ⟨C, hC⟩ : ∃ C, cur.toList.drop L.length = C := ⟨_, rfl⟩
    have hcur : cur.toList = A ++ B ++ C := by rw [hAB, ← ht, ← hC, List.take_append_drop]
    have hCl : C.length = cap - L.length := by rw [← hC, List.length_drop, hsz]
    have hfz : ∀ j, w.frozen? ⟨g, j, none⟩ = false := fun j => frozen_of_row w g j _ _ hg
    have hins : intsV (insL L i x) = A ++ .int .i64 x :: B := by rw [ints_ins]; unfold insL; rw [hA, hB]
    rw [hins]
    have hlen : (A ++ Value.int .i64 x :: B).length = L.length + 1 := by simp; omega
    have hsome : ∀ j, j < cap → (w.cell? ⟨g, 0 + j, none⟩).isSome = true := fun j hj => by
      rw [Nat.zero_add, cell_of_row w g j _ _ _ hg]
      rw [Array.getElem?_eq_getElem (by omega)]; rfl
    by_cases hroom : L.length + 1 ≤ cap
    · obtain ⟨c0, C', rfl⟩ : ∃ c0 C', C = c0 :: C' := by
        cases C with
        | nil => simp at hCl; omega
        | cons c0 C' => exact ⟨c0, C', rfl⟩
      by_cases hin : i < L.length
      · obtain ⟨b0, B', rfl⟩ : ∃ b0 B', B = b0 :: B' := by
          cases B with
          | nil => simp at hBl; omega
          | cons b0 B' => exact ⟨b0, B', rfl⟩
        refine (Any2.slices_Insert_int_shift Tryz.laysNm221 g 0 L.length cap i vb 0 1 1 (intsV L) [.int .i64 x] w hin (by omega) hroom hm (fun e => hne (by rw [e]; rfl)) hcl rfl hcs (fun j hj => hsome j (by omega)) (fun j _ => hfz _) hvs (intsV_one L) h1v
          3 3 1 cap (by simp [World.shape?, hvb]) (by simp [World.shape?, hg]; omega) (by omega) (frozen_of_row w vb 0 _ _ hvb) (frozen_of_row w vb 1 _ _ hvb)).mono ?_
        rintro e w' ⟨rfl, rfl⟩
        rw [hB]
        have g1 := heap_setCells_same (g := g) (b0 :: B') (0 + (i + 1)) (w := w.drew) hg (by simp only [Array.size] at hs ⊢; rw [hBl]; simp at hsz; omega)
        have e1 : splice cur.toList (0 + (i + 1)) (b0 :: B') = A ++ [b0] ++ (b0 :: B' ++ C') := by
          have h2 := splice_mid (A ++ [b0]) (B' ++ [c0]) C' (b0 :: B') (by simp)
          rw [show 0 + (i + 1) = (A ++ [b0]).length by simp; omega, hcur]
          rw [show A ++ b0 :: B' ++ c0 :: C' = A ++ [b0] ++ (B' ++ [c0]) ++ C' by simp, h2]
          simp
        rw [e1] at g1
        have g2 := heap_setCells_same (g := g) [.int .i64 x] (0 + i) g1 (by simp; omega)
        have e2 : splice (A ++ [b0] ++ (b0 :: B' ++ C')) (0 + i) [Value.int .i64 x] = A ++ [Value.int .i64 x] ++ (b0 :: B' ++ C') := by
          rw [show 0 + i = A.length by omega]
          exact splice_mid A [b0] _ [_] rfl
        rw [show (A ++ [b0] ++ (b0 :: B' ++ C')).toArray.toList = A ++ [b0] ++ (b0 :: B' ++ C') from rfl, e2] at g2
        refine ⟨_, rfl, ⟨by rw [hlen]; omega, .inr ⟨g, cap, _, rfl, hb, g2, hroom, hm, ?_, ?_⟩⟩, ?_, .inl rfl⟩
        · simp at hBl hCl ⊢; omega
        · rw [Nat.mul_one, ← hlen]
          simp [List.take_append]
          exact List.take_of_length_le (by omega)
        · exact grown_undrew (grown_trans (grown_setCells g _ _ w.drew) (grown_setCells g _ _ _))
      · obtain rfl : i = L.length := by omega
        have hB0 : B = [] := List.eq_nil_of_length_eq_zero (by omega)
        subst hB0
        refine (Any2.slices_Insert_int_end_room Tryz.laysNm221 g 0 L.length cap vb 0 1 1 [.int .i64 x] w (by omega) hroom hm rfl (fun j hj => by have := hsome (L.length + j) (by omega); rwa [← Nat.add_assoc] at this) (fun j _ => hfz _) hvs h1v).mono ?_
        rintro e w' ⟨rfl, rfl⟩
        have g1 := heap_setCells_same (g := g) [.int .i64 x] (0 + L.length) (w := w) hg (by simp; omega)
        have e1 : splice cur.toList (0 + L.length) [Value.int .i64 x] = A ++ [Value.int .i64 x] ++ C' := by
          rw [show 0 + L.length = A.length by omega, hcur, List.append_nil]
          rw [show A ++ c0 :: C' = A ++ [c0] ++ C' by simp]
          exact splice_mid A [c0] _ [_] rfl
        rw [e1] at g1
        refine ⟨_, rfl, ⟨by rw [hlen]; omega, .inr ⟨g, cap, _, rfl, hb, g1, hroom, hm, ?_, ?_⟩⟩, grown_setCells g _ _ w, .inl rfl⟩
        · simp at hCl ⊢; omega
        · rw [Nat.mul_one, ← hlen]
          simp [List.take_append]
          exact List.take_of_length_le (by omega)
    · have hC0 : C = [] := List.eq_nil_of_length_eq_zero (by omega)
      subst hC0
      by_cases hin : i < L.length
      · refine (Any2.slices_Insert_int_grow Tryz.laysNm221 g 0 L.length cap i vb 0 1 1 (intsV L) [.int .i64 x] w hin (by omega) hn (by omega) (by omega) hcl rfl hcs hvs (intsV_one L) h1v).mono ?_
        rintro e w' ⟨rfl, rfl⟩
        rw [hA, hB]
        have hgc := grownCap_ge w (L.length + 1) cap 3
        have hgm := grownCap_le_maxLen w (L.length + 1) cap 3 (by unfold maxLen; omega)
        obtain ⟨K, hK⟩ : ∃ K, grownCap w (L.length + 1) cap (Tryz.laysNm221_ren.t 3) = K := ⟨_, rfl⟩
        replace hgc : L.length + 1 ≤ K := by rw [← hK]; exact hgc
        replace hgm : K ≤ maxLen := by rw [← hK]; exact hgm
        rw [hK]
        obtain ⟨Z, hZ⟩ : ∃ Z, Builtin.zeroCells (Value.int .i64 0).cells (L.length + 1 - i) = Z := ⟨_, rfl⟩
        obtain ⟨Y, hY⟩ : ∃ Y, Builtin.zeroCells (Value.int .i64 0).cells (K - (L.length + 1)) = Y := ⟨_, rfl⟩
        have hZl : Z.toList.length = L.length + 1 - i := by rw [← hZ]; exact zero_len _
        have hYl : Y.toList.length = K - (L.length + 1) := by rw [← hY]; exact zero_len _
        rw [hZ, hY]
        obtain ⟨z0, Z', hZe⟩ : ∃ z0 Z', Z.toList = z0 :: Z' := by
          cases hq : Z.toList with
          | nil => rw [hq] at hZl; simp at hZl; omega
          | cons z0 Z' => exact ⟨z0, Z', rfl⟩
        have hZ' : Z'.length = B.length := by rw [hZe] at hZl; simp at hZl; omega
        have g0 := heap_alloc_new w (.cells (A.toArray ++ Z ++ Y) 3)
        have hto : (A.toArray ++ Z ++ Y).toList = A ++ (z0 :: Z') ++ Y.toList := by simp [hZe]
        have g1 := heap_setCells_same (g := w.heap.size) [.int .i64 x] i (w := (w.alloc (.cells (A.toArray ++ Z ++ Y) 3)).drew) g0 (by rw [← Array.length_toList, hto]; simp; omega)
        have e1 : splice (A.toArray ++ Z ++ Y).toList i [Value.int .i64 x] = A ++ [Value.int .i64 x] ++ (Z' ++ Y.toList) := by
          rw [hto, show A ++ z0 :: Z' ++ Y.toList = A ++ [z0] ++ (Z' ++ Y.toList) by simp]
          rw [← hAl]
          exact splice_mid A [z0] _ [_] rfl
        rw [e1] at g1
        have g2 := heap_setCells_same (g := w.heap.size) B (i + 1) (w := (((w.alloc (.cells (A.toArray ++ Z ++ Y) 3)).drew.setCells w.heap.size i [.int .i64 x])).drew) g1 (by simp; omega)
        have e2 : splice (A ++ [Value.int .i64 x] ++ (Z' ++ Y.toList)) (i + 1) B = A ++ [Value.int .i64 x] ++ B ++ Y.toList := by
          rw [← List.append_assoc, show i + 1 = (A ++ [Value.int .i64 x]).length by simp; omega]
          exact splice_mid _ Z' _ B hZ'
        rw [show (A ++ [Value.int .i64 x] ++ (Z' ++ Y.toList)).toArray.toList = A ++ [Value.int .i64 x] ++ (Z' ++ Y.toList) from rfl, e2] at g2
        refine ⟨_, rfl, ⟨by rw [hlen]; omega, .inr ⟨w.heap.size, K, _, rfl, hlo, g2, hgc, hgm, ?_, ?_⟩⟩, ?_, .inr ⟨_, rfl, Nat.le_refl _⟩⟩
        · simp at hYl ⊢; omega
        · rw [Nat.mul_one, ← hlen]
          simp [List.take_append]
          exact List.take_of_length_le (by omega)
        · exact grown_alloc (grown_undrew (grown_trans (grown_setCells w.heap.size _ _ (w.alloc _).drew) (grown_undrew (grown_setCells w.heap.size _ _ (World.drew _)))))
      · obtain rfl : i = L.length := by omega
        have hB0 : B = [] := List.eq_nil_of_length_eq_zero (by omega)
        subst hB0
        refine (Any2.slices_Insert_int_end_grow Tryz.laysNm221 (some ⟨g, 0, none⟩) L.length cap vb 0 1 1 (intsV L) [.int .i64 x] w (by omega) hn (by omega) (by omega) hcl rfl (fun e => by cases e) (fun a e j u hj => by
          injection e with e
          subst e
          have := hcs j u hj
          rw [addr_at]; exact this) hvs h1v).mono ?_
        rintro e w' ⟨rfl, rfl⟩
        refine ⟨_, rfl, ⟨by rw [hlen]; omega, .inr ⟨w.heap.size, _, _, rfl, hlo, heap_alloc_new w.drew _, grownCap_ge _ _ _ _, grownCap_le_maxLen _ _ _ _ (by unfold maxLen; omega), ?_, ?_⟩⟩, ?_, .inr ⟨_, rfl, Nat.le_refl _⟩⟩
        · have := grownCap_ge w (L.length + 1) cap 3
          simp [zero_len, intsV_len]
          show L.length + 1 + (grownCap w (L.length + 1) cap 3 - (L.length + 1)) = grownCap w (L.length + 1) cap 3
          omega
        · rw [Nat.mul_one, ← hlen, ← hAB]
          simp [List.take_append]
          exact List.take_of_length_le (by omega)
        · exact grown_drew w _
end Go.Proofs.YtjgjhfeopmakaaaGreat
namespace Go.Proofs.YtjgjhfeopmakaaaGreat
open Go.RowKit

theorem own_set {w : World} {base b j n : Nat} {t : TypeId} {v u : Value} {xs : List Value} (h : w.ownsRow base t 1 v n xs) (hne : v.ownBlock ≠ some b) : (w.setCell ⟨b, j, none⟩ u).ownsRow base t 1 v n xs := by
  refine ⟨h.1, ?_⟩
  rcases h.2 with h2 | ⟨g, cap, cur, e, hb2, hg, r⟩
  · exact .inl h2
  · refine .inr ⟨g, cap, cur, e, hb2, (heap_setCell_other w ⟨b, j, none⟩ g u (fun e2 => hne (by rw [e]; show some g = some b; rw [e2]))).trans hg, r⟩
/-- A pile's header laid anew, behind a change of its row. -/
theorem pile_put {w w1 w2 : World} {lo b : Nat} {g : Option Nat} {v v' : Value} {L : List Int} (hbl : w1.heap[b]? = some (.cells #[v] 145 (0, 0))) (hlo : lo ≤ b) (hb1 : Below w.heap.size w w1)
    (hg : w1.grownBy w2 g) (hgb : g ≠ some b) (hown : w2.ownsRow lo 3 1 v' L.length (intsV L)) (hnb : v'.ownBlock ≠ some b) :
    PileAt (w2.setCell ⟨b, 0, none⟩ v') lo b v'.ownBlock L ∧ Chg w (w2.setCell ⟨b, 0, none⟩ v') b g := by
  have h2 : w2.heap[b]? = some (.cells #[v] 145 (0, 0)) := (hg.block b (Array.getElem?_eq_some_iff.1 hbl).1 (Ne.symm hgb)).trans hbl
  refine ⟨⟨v', ?_, rfl, hlo, own_set hown hnb⟩, ⟨hg.os.trans hb1.os, hg.tape.trans hb1.tape, hg.output.trans hb1.output, ?_, ?_⟩⟩
  · rw [heap_setCell_same w2 b 0 _ _ v' h2]; rfl
  · have := hb1.size; have := hg.size; simp; omega
  · intro k hk hkb hkg
    rw [heap_setCell_other w2 ⟨b, 0, none⟩ k v' hkb, hg.block k (Nat.lt_of_lt_of_le hk hb1.size) (Ne.symm hkg), hb1.block k hk]

def Newer (w : World) (g g' : Option Nat) : Prop := g' = g ∨ ∃ r, g' = some r ∧ w.heap.size ≤ r
/-- What a change of a pile ends with: what it returns, the pile behind it, and all else as it was. -/
def RetPile (w : World) (lo b : Nat) (g : Option Nat) (v : Value) (L : List Int) (e : Ending) (w' : World) : Prop := ∃ g', e = .returned v ∧ PileAt w' lo b g' L ∧ Chg w w' b g ∧ Newer w g g'
def layL (L : List Int) (i : Nat) (x : Int) : List Int := if x ∈ L then L else insL L i x

set_option maxRecDepth 100000 in
set_option maxHeartbeats 2000000 in
theorem lay_any {w : World} {lo b i : Nat} {g : Option Nat} {L : List Int} (x : Int) (h : PileAt w lo b g L) (hi : i ≤ L.length) (hL : L.length ≤ 1000) :
    Calls Tryz.prog 84 #[.pointer (some ⟨b, 0, none⟩), .int .i64 (i : Int), .int .i64 x] w (RetPile w lo b g (.bool (!decide (x ∈ L))) (layL L i x)) := by
  have HH := Lib.hid (has_any x h hL)
  have HP := Lib.hid h
  by_cases hx : x ∈ L
  · have hd : decide (x ∈ L) = true := decide_eq_true hx
    rw [hd] at HH
    have hlay : layL L i x = L := if_pos hx
    rw [hd, hlay]
    clear h hx hd hlay
    go_enter Tryz.func84, Tryz.ntmps84
    go_wp2_with fail
    refine HH.out.mono ?_
    rintro e w1 ⟨rfl, hb1⟩
    go_wp2
    go_ret
    exact ⟨g, rfl, HP.out.later hb1, .of_below hb1, .inl rfl⟩
  · have hd : decide (x ∈ L) = false := decide_eq_false hx
    rw [hd] at HH
    have hlay : layL L i x = insL L i x := if_neg hx
    rw [hd, hlay]
    clear h hx hd hlay
    go_enter Tryz.func84, Tryz.ntmps84
    go_wp2_with fail
    refine HH.out.mono ?_
    rintro e w1 ⟨rfl, hb1⟩
    have hbw := HP.out.lt
    have hrow := (HP.out.later hb1).row
    obtain ⟨v, hbl, hg, hlo, hown⟩ := HP.out.later hb1
    have c0 : (w1.cell? ⟨b, 0, none⟩) = some v := by rw [cell_of_row w1 b 0 _ _ _ hbl]; rfl
    have hvn : v.ownBlock ≠ some w1.heap.size := fun e => by rw [hg] at e; have := hrow _ e; omega
    have HB2 := Lib.hid ((below_new w1 (.cells #[.int .i64 x] 3)).block b (by have := hb1.size; omega) |>.trans hbl)
    have HI := Lib.hid (insert_int (vb := w1.heap.size) x (own_later hown (below_new w1 (.cells #[.int .i64 x] 3))) hi hL (by simp; have := hb1.size; omega) (heap_alloc_new w1 _) hvn)
    have HN := Lib.hid (And.intro hg (And.intro hlo (And.intro hbw hrow)))
    have HB1 := Lib.hid (below_alloc2 hb1 (.cells #[.int .i64 x] 3))
    clear hb1 hbl hg hlo hown hvn hbw hrow
    go_wp2_with fail
    refine HI.out.mono ?_
    rintro e w2 ⟨v', rfl, hown', hgr, hnew⟩
    obtain ⟨ya, yc, rfl⟩ := (own_ints hown').form
    rw [insL_len] at hown' hnew ⊢
    obtain ⟨v', hv'⟩ : ∃ v', Value.slice ya (L.length + 1) yc = v' := ⟨_, rfl⟩
    rw [hv'] at hown' hnew
    have hgb : v.ownBlock ≠ some b := fun e => by rw [HN.out.1] at e; exact (HN.out.2.2.2 b e).2.2 rfl
    have hnb : v'.ownBlock ≠ some b := by
      rcases hnew with h | ⟨r, h, hr⟩
      · rw [h]; exact hgb
      · rw [h]; intro e; injection e with e; have := HN.out.2.2.1; have := HB1.out.size; omega
    rw [← insL_len (x := x) L i] at hown'
    have HR := Lib.hid (pile_put HB2.out HN.out.2.1 HB1.out hgr hgb hown' hnb)
    have hblk : w2.heap[b]? = some (.cells #[v] 145 (0, 0)) := (hgr.block b (Array.getElem?_eq_some_iff.1 HB2.out).1 (Ne.symm hgb)).trans HB2.out
    have c1 : (w2.cell? ⟨b, 0, none⟩) = some v := by rw [cell_of_row w2 b 0 _ _ _ hblk]; rfl
    have f1 : w2.frozen? ⟨b, 0, none⟩ = false := frozen_of_row w2 b 0 _ _ hblk
    have HW := Lib.hid (show Newer w v.ownBlock v'.ownBlock from by
      rcases hnew with h | ⟨r, h, hr⟩
      · exact .inl h
      · exact .inr ⟨r, h, Nat.le_trans HB1.out.size hr⟩)
    subst hv'
    clear hown' hgr hnew hgb hnb hblk
    go_wp2
    go_ret
    have hgg := HN.out.1
    exact ⟨_, rfl, HR.out.1, by rw [← hgg]; exact HR.out.2, by rw [← hgg]; exact HW.out⟩

set_option maxRecDepth 100000 in
theorem push_any {w : World} {lo b : Nat} {g : Option Nat} {L : List Int} (x : Int) (h : PileAt w lo b g L) (hL : L.length ≤ 1000) :
    Calls Tryz.prog 48 #[.pointer (some ⟨b, 0, none⟩), .int .i64 x] w (RetPile w lo b g (.bool (!decide (x ∈ L))) (layL L 0 x)) := by
  have HL := Lib.hid (lay_any x h (Nat.zero_le _) hL)
  clear h
  go_enter Tryz.func48, Tryz.ntmps48
  go_wp2_with fail
  refine HL.out.mono ?_
  rintro e w1 ⟨g', rfl, hr⟩
  go_wp2
  go_ret
  exact ⟨g', rfl, hr⟩
set_option maxRecDepth 100000 in
theorem under_any {w : World} {lo b : Nat} {g : Option Nat} {L : List Int} (x : Int) (h : PileAt w lo b g L) (hL : L.length ≤ 1000) :
    Calls Tryz.prog 47 #[.pointer (some ⟨b, 0, none⟩), .int .i64 x] w (RetPile w lo b g (.bool (!decide (x ∈ L))) (layL L L.length x)) := by
  have HL := Lib.hid (lay_any x h (Nat.le_refl _) hL)
  have HN := Lib.hid (len_any h)
  clear h
  go_enter Tryz.func47, Tryz.ntmps47
  go_wp2_with fail
  refine HN.out.mono ?_
  rintro e w1 ⟨rfl, rfl⟩
  go_wp2_with fail
  refine HL.out.mono ?_
  rintro e w1 ⟨g', rfl, hr⟩
  go_wp2
  go_ret
  exact ⟨g', rfl, hr⟩
end Go.Proofs.YtjgjhfeopmakaaaGreat
namespace Go.Proofs.YtjgjhfeopmakaaaGreat
open Go.RowKit

theorem grown_drewN {w w' : World} {q : Nat} {r : Option Nat} (h : (w.drewN q).grownBy w' r) : w.grownBy w' r := ⟨h.os, h.tape, h.output, h.size, h.block⟩
theorem delete_own {w : World} {lo k : Nat} {v : Value} {L : List Int} (h : w.ownsRow lo 3 1 v L.length (intsV L)) (hk : k < L.length) :
    Calls Tryz.prog 104 #[v, .int .i64 (k : Int), .int .i64 ((k : Int) + 1)] w fun e w' =>
      ∃ v', e = .returned v' ∧ w'.ownsRow lo 3 1 v' (L.eraseIdx k).length (intsV (L.eraseIdx k)) ∧ w.grownBy w' v.ownBlock ∧ v'.ownBlock = v.ownBlock := by
  rcases h.2 with ⟨rfl, h0⟩ | ⟨g, cap, cur, rfl, hb, hg, hn, hm, hs, ht⟩
  · omega
  · have hm' := hm
    unfold maxLen at hm
    rw [Nat.mul_one] at ht
    have hcell : ∀ j, j < L.length → w.cell? ⟨g, 0 + j, none⟩ = some (.int .i64 (L.getD j 0)) := fun j hj => by
      rw [Nat.zero_add, cell_of_row w g j _ _ _ hg, ← Array.getElem?_toList]
      have h1 : (cur.toList.take L.length)[j]? = (intsV L)[j]? := by rw [ht]
      rw [List.getElem?_take, if_pos hj] at h1
      rw [h1]
      simp [intsV, List.getD, hj]
    refine (Tryz.slices_Delete_int_cells g 0 L.length cap k (k + 1) L w (Nat.le_refl _) hn (by omega) (by omega) (by omega) hcell (fun j _ => frozen_of_row w g _ _ _ hg)).mono ?_
    rintro e w' ⟨rfl, q, rfl⟩
    rw [List.take_length, show k + 1 - k = 1 by omega]
    have hsz : cur.toList.length = cap := by simp; omega
    have hel : (L.eraseIdx k).length = L.length - 1 := List.length_eraseIdx_of_lt hk
    have hM : ((L.take k ++ L.drop (k + 1) ++ List.replicate 1 0).map (Value.int .i64)) = intsV (L.eraseIdx k) ++ [.int .i64 0] := by
      rw [List.eraseIdx_eq_take_drop_succ]; simp [intsV]
    rw [hM]
    have hMl : (intsV (L.eraseIdx k) ++ [Value.int .i64 0]).length = L.length := by rw [List.length_append, intsV_len, hel]; simp; omega
    have g1 := heap_setCells_same (g := g) (intsV (L.eraseIdx k) ++ [.int .i64 0]) 0 (w := w.drewN q) hg (by rw [hMl]; simp at hsz; omega)
    refine ⟨_, rfl, ⟨by rw [intsV_len]; omega, .inr ⟨g, cap, _, by rw [hel], hb, g1, by omega, hm', ?_, ?_⟩⟩, grown_drewN (grown_setCells g _ _ _), rfl⟩
    · rw [← Array.length_toList, List.toList_toArray, length_splice _ _ _ (by rw [hMl, hsz]; omega), hsz, Nat.mul_one]
    · rw [Nat.mul_one]
      unfold splice
      simp only [List.take_zero, List.nil_append]
      rw [List.append_assoc]
      exact List.take_left' (intsV_len _)

def RetOff (w : World) (lo b : Nat) (g : Option Nat) (v : Value) (L : List Int) (e : Ending) (w' : World) : Prop := e = .returned v ∧ PileAt w' lo b g L ∧ Chg w w' b g
set_option maxRecDepth 100000 in
set_option maxHeartbeats 2000000 in
theorem take_off {w : World} {lo b k : Nat} {g : Option Nat} {L : List Int} (h : PileAt w lo b g L) (hk : k < L.length) (hL : L.length ≤ 1000) :
    Calls Tryz.prog 83 #[.pointer (some ⟨b, 0, none⟩), .int .i64 (k : Int)] w (RetOff w lo b g (.tuple #[]) (L.eraseIdx k)) := by
  have hrow := h.row
  obtain ⟨v, hbl, hg, hlo, hown⟩ := h
  have c0 : w.cell? ⟨b, 0, none⟩ = some v := by rw [cell_of_row w b 0 _ _ _ hbl]; rfl
  have HD := Lib.hid (delete_own hown hk)
  have HB := Lib.hid hbl
  have HN := Lib.hid (And.intro hg (And.intro hlo hrow))
  have d1 : (k : Int) + 1 ≤ 1001 := by omega
  clear hbl hg hlo hown hrow
  go_enter Tryz.func83, Tryz.ntmps83
  go_wp2_with fail
  refine HD.out.mono ?_
  rintro e w2 ⟨v', rfl, hown', hgr, hsame⟩
  obtain ⟨ya, yc, rfl⟩ := (own_ints hown').form
  obtain ⟨v', hv'⟩ : ∃ v', Value.slice ya (L.eraseIdx k).length yc = v' := ⟨_, rfl⟩
  rw [hv'] at hown' hsame
  have hgb : v.ownBlock ≠ some b := fun e => by rw [HN.out.1] at e; exact (HN.out.2.2 b e).2.2 rfl
  have hnb : v'.ownBlock ≠ some b := by rw [hsame]; exact hgb
  have hput := pile_put HB.out HN.out.2.1 (Below.refl w.heap.size w) hgr hgb hown' hnb
  have hblk : w2.heap[b]? = some (.cells #[v] 145 (0, 0)) := (hgr.block b (Array.getElem?_eq_some_iff.1 HB.out).1 (Ne.symm hgb)).trans HB.out
  have c1 : (w2.cell? ⟨b, 0, none⟩) = some v := by rw [cell_of_row w2 b 0 _ _ _ hblk]; rfl
  have f1 : w2.frozen? ⟨b, 0, none⟩ = false := frozen_of_row w2 b 0 _ _ hblk
  rw [hsame, HN.out.1] at hput
  have HR := Lib.hid hput
  subst hv'
  clear hown' hgr hsame hgb hnb hblk hput
  go_wp2
  go_end0
  exact ⟨rfl, HR.out⟩

theorem erase_idx : ∀ (L : List Int) (x : Int), x ∈ L → L.erase x = L.eraseIdx (L.idxOf x)
  | [], _, h => by cases h
  | a :: l, x, h => by
    by_cases ha : a = x
    · subst ha; simp
    · have hl : x ∈ l := by rcases List.mem_cons.1 h with e | e
                            · exact absurd e.symm ha
                            · exact e
      have hb : (a == x) = false := beq_eq_false_iff_ne.2 ha
      rw [List.erase_cons, hb, List.idxOf_cons, hb]
      simp [erase_idx l x hl]
set_option maxRecDepth 100000 in
theorem drop_any {w : World} {lo b : Nat} {g : Option Nat} {L : List Int} (x : Int) (h : PileAt w lo b g L) (hL : L.length ≤ 1000) :
    Calls Tryz.prog 46 #[.pointer (some ⟨b, 0, none⟩), .int .i64 x] w (RetOff w lo b g (.bool (decide (x ∈ L))) (L.erase x)) := by
  have HP := Lib.hid h
  have HA := Lib.hid (place_any x h hL)
  by_cases hx : x ∈ L
  · have hk := List.idxOf_lt_length_iff.2 hx
    obtain ⟨k, hke⟩ : ∃ k, L.idxOf x = k := ⟨_, rfl⟩
    have hp : placeL L x = (k : Int) := by unfold placeL; rw [if_pos hx, hke]
    rw [hp] at HA
    rw [decide_eq_true hx, erase_idx L x hx, hke]
    rw [hke] at hk
    have d0 : decide ((k : Int) < 0) = false := decide_eq_false (by omega)
    clear h hx hke hp
    go_enter Tryz.func46, Tryz.ntmps46
    go_wp2_with fail
    refine HA.out.mono ?_
    rintro e w1 ⟨rfl, hb1⟩
    have HT := Lib.hid (take_off (HP.out.later hb1) hk hL)
    have HB1 := Lib.hid hb1
    clear hb1
    go_wp2_with fail
    refine HT.out.mono ?_
    rintro e w2 ⟨rfl, hp2, hc2⟩
    have HP2 := Lib.hid hp2
    have HC2 := Lib.hid (Chg.ahead HB1.out hc2)
    clear hp2 hc2
    go_wp2
    go_ret
    exact ⟨rfl, HP2.out, HC2.out⟩
  · have hp : placeL L x = -1 := by unfold placeL; rw [if_neg hx]
    rw [hp] at HA
    rw [decide_eq_false hx, List.erase_of_not_mem hx]
    clear h hx hp
    go_enter Tryz.func46, Tryz.ntmps46
    go_wp2_with fail
    refine HA.out.mono ?_
    rintro e w1 ⟨rfl, hb1⟩
    go_wp2
    go_ret
    exact ⟨rfl, HP.out.later hb1, .of_below hb1⟩

/-- A list's things, each once, in the order in which they first come. -/
def onceL (l : List Int) : List Int := l.foldl (fun L x => layL L L.length x) []
theorem onceL_snoc (l : List Int) (x : Int) : onceL (l ++ [x]) = layL (onceL l) (onceL l).length x := by simp [onceL, List.foldl_append]
theorem layL_len (L : List Int) (i : Nat) (x : Int) : (layL L i x).length ≤ L.length + 1 := by
  unfold layL; split
  · omega
  · rw [insL_len]; exact Nat.le_refl _
theorem onceL_len (l : List Int) : ∀ k, (onceL (l.take k)).length ≤ k := by
  intro k
  induction k with
  | zero => simp [onceL]
  | succ k ih =>
    by_cases hk : k < l.length
    · rw [take_last l k hk, onceL_snoc]
      exact Nat.le_trans (layL_len _ _ _) (by omega)
    · rw [List.take_of_length_le (by omega)] at ih ⊢
      omega
def RetNew (w : World) (L : List Int) (e : Ending) (w' : World) : Prop := ∃ b g, e = .returned (.pointer (some ⟨b, 0, none⟩)) ∧ PileAt w' w.heap.size b g L ∧ Below w.heap.size w w'
set_option maxRecDepth 100000 in
set_option maxHeartbeats 2000000 in
theorem new_any {v : Value} {l : List Int} {w : World} (hv : IntsAt w v l) (hl : l.length ≤ 1000) : Calls Tryz.prog 95 #[v] w (RetNew w (onceL l)) := by
  obtain ⟨xa, xc, rfl⟩ := hv.form
  have HV := Lib.hid hv
  clear hv
  go_enter Tryz.func95, Tryz.ntmps95
  go_wp2
  go_loopw [9] (fun i wr => ∃ (k : Nat) (g : Option Nat), k ≤ l.length ∧ i = .int .i64 k ∧ Hid (PileAt wr w.heap.size w.heap.size g (onceL (l.take k))) ∧ Hid (Below w.heap.size w wr)) (fun i _ => l.length - (intOf i).toNat)
  case atStart =>
    refine ⟨0, none, Nat.zero_le _, rfl, Lib.hid ⟨.slice none 0 0, heap_alloc_new w _, rfl, Nat.le_refl _, World.ownsRow_nil _ _ _ _⟩, Lib.hid (below_new w _)⟩
  case round =>
    obtain ⟨k, g, hk, rfl, HP, HB⟩ := hrel
    by_cases hlt : k < l.length
    · obtain ⟨r, off, hxa, _, c0⟩ := (HV.out.later HB.out).at k hlt
      have htk := take_last l k hlt
      obtain ⟨x, hx⟩ : ∃ x, l[k] = x := ⟨_, rfl⟩
      rw [hx] at c0 htk
      have HTK := Lib.hid (show onceL (l.take (k + 1)) = layL (onceL (l.take k)) (onceL (l.take k)).length x by rw [htk, onceL_snoc])
      have HU := Lib.hid (under_any x HP.out (by have := onceL_len l k; omega))
      subst hxa
      clear hx htk
      go_wp2_with fail
      refine HU.out.mono ?_
      rintro e w1 ⟨g', rfl, hp1, hc1, hn1⟩
      have HP1 := Lib.hid hp1
      have HB1 := Lib.hid (hc1.below HB.out (Nat.le_refl _) (fun k hk => (HP.out.row k hk).1))
      clear hp1 hc1 hn1
      go_wp2
      go_roundw
      case rel => exact ⟨k + 1, g', by omega, by go_num, Lib.hid (by rw [HTK.out]; exact HP1.out), HB1⟩
      case measure => simp [intOf]; omega
    · obtain rfl : k = l.length := by omega
      have HP1 := Lib.hid (show PileAt wr w.heap.size w.heap.size g (onceL l) by have h := HP.out; rwa [List.take_length] at h)
      go_wp2
      go_ret
      exact ⟨w.heap.size, g, rfl, HP1.out, HB.out⟩
end Go.Proofs.YtjgjhfeopmakaaaGreat
namespace Go.Proofs.YtjgjhfeopmakaaaGreat
open Go.RowKit
attribute [local go_sem] Oper.semAt_some

theorem ints_news {w : World} {b off : Nat} {l : List Int} (h : ∀ i (hi : i < l.length), w.cell? ⟨b, off + i, none⟩ = some (.int .i64 l[i])) : ∀ j u, (intsV l)[j]? = some u → w.cell? ((⟨b, off, none⟩ : Addr).add j) = some u := by
  intro j u hu
  obtain ⟨hj, rfl⟩ := List.getElem?_eq_some_iff.1 hu
  have hj' : j < l.length := by simpa [intsV] using hj
  have h2 := h j hj'
  have e : (intsV l)[j] = .int .i64 l[j] := by simp [intsV]
  have e2 : (⟨b, off, none⟩ : Addr).add j = ⟨b, off + j, none⟩ := by simp [Addr.add]
  rw [e, e2]
  exact h2
theorem wpList_append_run1 {P : Program} {ops : Array Oper} {rest : List Oper} {o : Oper} {a : Act} {w w' : World} {Q : Exit → Act → World → Prop} {v u r : Value} {t : TypeId} (hgd : o.guard = none) (s x : Operand)
    (ho : o.op = .call { callee := .builtin .append, args := #[s, x], argTypes := #[t, t] }) (hs : a.eval s = v) (hx : a.eval x = u) (hrun : (Builtin.append_ #[t, t] o.type #[v, u]).run P w = .ok r w')
    (h : wpList P ops Q rest (a.put o.dst r) w') : wpList P ops Q (o :: rest) a w :=
  wpList_plain hgd fun _ hK => by
    unfold Oper.wp execOp
    simp only [ho, resolve, invoke, builtin, Sem.run_bind, Sem.run_pure, Result.andThen_ok, List.map_toArray, List.map_cons, List.map_nil, hs, hx, hrun]
    exact hK _ _ h
set_option maxRecDepth 100000 in
theorem append_ints (w : World) (base : Nat) (v : Value) (n : Nat) (xs : List Value) (hown : w.ownsRow base 3 1 v n xs) (xa : Option Addr) (xc : Nat) (l : List Int) (ht : IntsAt w (.slice xa l.length xc) l)
    (h1 : n + l.length ≤ 1000) (hbase : base ≤ w.heap.size) :
    ∃ v' w', (Builtin.append_ #[79, 79] 79 #[v, .slice xa l.length xc]).run Tryz.prog w = .ok v' w' ∧ w'.ownsRow base 3 1 v' (n + l.length) (xs ++ intsV l) ∧ w.grownBy w' v.ownBlock ∧
      (v'.ownBlock = v.ownBlock ∨ v'.ownBlock = some w.heap.size) := by
  obtain ⟨i0, hi0, hz0, hz1, hz2⟩ := info_parts info_int
  rcases xa with _ | a
  · have hl : l = [] := by
      cases l with
      | nil => rfl
      | cons x r =>
        obtain ⟨b, off, h, _⟩ := ht.at 0 (by simp)
        cases h
    subst hl
    refine ⟨v, w, ?_, by simpa [intsV] using hown, World.grownBy.refl w _, .inl rfl⟩
    rcases hown.2 with ⟨rfl, rfl⟩ | ⟨g, cap, cur, rfl, _, _, hnc, _⟩
    · simp [Builtin.append_, run_underlying Tryz.underlying79, sizeOf, typeInfo, hi0, Builtin.lenOf, Builtin.firstCells]
    · simp [Builtin.append_, run_underlying Tryz.underlying79, sizeOf, typeInfo, hi0, Builtin.lenOf, Builtin.firstCells, hnc, storeCells]
  · have hnews : ∀ j u, (intsV l)[j]? = some u → w.cell? (a.add j) = some u := by
      cases l with
      | nil => intro j u hu; simp [intsV] at hu
      | cons x r =>
        obtain ⟨b, off, h, _⟩ := ht.at 0 (by simp)
        injection h with h
        subst h
        refine ints_news fun i hi => ?_
        obtain ⟨b', off', h', _, hc'⟩ := ht.at i hi
        injection h' with h'
        injection h' with hb ho
        subst hb; subst ho
        exact hc'
    obtain ⟨v', w', hrun, h2, h3, _, h5⟩ := run_append_own_at (P := Tryz.prog) w base 79 79 3 i0 _ 1 8 Tryz.underlying79 hi0 hz0 hz1 hz2 rfl (by decide) v n xs hown a l.length xc (intsV l) (by simp [intsV]) hnews (by intro u hu; obtain ⟨x, _, rfl⟩ := List.mem_map.1 hu; rfl) (by unfold maxLen; omega) (by omega) hbase
    exact ⟨v', w', hrun, h2, h3, h5⟩
set_option maxRecDepth 100000 in
theorem wpList_append_ints {w : World} {ops : Array Oper} {rest : List Oper} {o : Oper} {a : Act} {Q : Exit → Act → World → Prop} (hgd : o.guard = none) (s x : Operand)
    (ho : o.op = .call { callee := .builtin .append, args := #[s, x], argTypes := #[79, 79] }) (hty : o.type = 79) (base : Nat) (v : Value) (n : Nat) (xs : List Value) (hs : a.eval s = v)
    (hown : w.ownsRow base 3 1 v n xs) (xa : Option Addr) (xn xc : Nat) (l : List Int) (hx : a.eval x = .slice xa xn xc) (hn : xn = l.length) (ht : IntsAt w (.slice xa xn xc) l) (h1 : n + l.length ≤ 1000) (hbase : base ≤ w.heap.size)
    (h : ∀ v' w', w'.ownsRow base 3 1 v' (n + l.length) (xs ++ intsV l) → w.grownBy w' v.ownBlock → (v'.ownBlock = v.ownBlock ∨ v'.ownBlock = some w.heap.size) → wpList Tryz.prog ops Q rest (a.put o.dst v') w') : wpList Tryz.prog ops Q (o :: rest) a w := by
  subst hn
  obtain ⟨v', w', hrun, h2, h3, h4⟩ := append_ints w base v n xs hown xa xc l ht h1 hbase
  exact wpList_append_run1 hgd s x ho hs hx (by rw [hty]; exact hrun) (h v' w' h2 h3 h4)
theorem own_empty1 {W : World} {b B : Nat} {T : TypeId} (e : b = W.heap.size) (hB : B ≤ b) : (W.alloc (.cells #[] T)).ownsRow B T 1 (.slice (some ⟨b, 0, none⟩) 0 0) 0 [] := by
  subst e
  exact World.ownsRow_made W #[] 0 hB (by decide) rfl
end Go.Proofs.YtjgjhfeopmakaaaGreat
namespace Go.Proofs.YtjgjhfeopmakaaaGreat
open Go.RowKit

theorem mem_take {L : List Int} {x : Int} {k : Nat} (hlt : k < L.length) (h : x ∉ L.take k) (hne : L[k] ≠ x) : x ∉ L.take (k + 1) := by
  rw [take_last L k hlt]
  intro hm
  rcases List.mem_append.1 hm with hm | hm
  · exact h hm
  · exact hne (List.mem_singleton.1 hm).symm
theorem two_at {w : World} : IntsAt (w.alloc (.cells #[.int .i64 1, .int .i64 2] 3)) (.slice (some ⟨w.heap.size, 0, none⟩) 2 2) [1, 2] := (RowAt.new w 3 (intsV [1, 2])).vals 2
theorem four_at {w : World} : IntsAt (w.alloc (.cells #[.int .i64 3, .int .i64 1, .int .i64 2, .int .i64 4] 3)) (.slice (some ⟨w.heap.size, 0, none⟩) 4 4) [3, 1, 2, 4] := (RowAt.new w 3 (intsV [3, 1, 2, 4])).vals 4
end Go.Proofs.YtjgjhfeopmakaaaGreat
namespace Go.Proofs.YtjgjhfeopmakaaaGreat
open Go.RowKit

/-- All that lay there but the blocks of two piles is as it was. -/
structure Chg2 (w w' : World) (b1 : Nat) (g1 : Option Nat) (b2 : Nat) (g2 : Option Nat) : Prop where
  os : w'.os = w.os
  tape : w'.tape = w.tape
  output : w'.output = w.output
  size : w.heap.size ≤ w'.heap.size
  block : ∀ k, k < w.heap.size → k ≠ b1 → g1 ≠ some k → k ≠ b2 → g2 ≠ some k → w'.heap[k]? = w.heap[k]?
theorem Chg2.of_below {w w' : World} {b1 b2 : Nat} {g1 g2 : Option Nat} (h : Below w.heap.size w w') : Chg2 w w' b1 g1 b2 g2 := ⟨h.os, h.tape, h.output, h.size, fun k hk _ _ _ _ => h.block k hk⟩
theorem Chg2.then {w w1 w2 : World} {b1 b2 : Nat} {g1 g2 : Option Nat} (h : Chg w w1 b1 g1) (k : Chg w1 w2 b2 g2) : Chg2 w w2 b1 g1 b2 g2 :=
  ⟨k.os.trans h.os, k.tape.trans h.tape, k.output.trans h.output, Nat.le_trans h.size k.size, fun i hi h1 h2 h3 h4 => (k.block i (Nat.lt_of_lt_of_le hi h.size) h3 h4).trans (h.block i hi h1 h2)⟩
theorem Chg2.ahead {w w1 w2 : World} {b1 b2 : Nat} {g1 g2 : Option Nat} (k : Below w.heap.size w w1) (h : Chg2 w1 w2 b1 g1 b2 g2) : Chg2 w w2 b1 g1 b2 g2 :=
  ⟨h.os.trans k.os, h.tape.trans k.tape, h.output.trans k.output, Nat.le_trans k.size h.size, fun i hi a b c d => (h.block i (Nat.lt_of_lt_of_le hi k.size) a b c d).trans (k.block i hi)⟩
theorem Chg2.one {w w' : World} {b1 b2 : Nat} {g1 g2 : Option Nat} (h : Chg w w' b1 g1) : Chg2 w w' b1 g1 b2 g2 := ⟨h.os, h.tape, h.output, h.size, fun k hk a b _ _ => h.block k hk a b⟩
theorem Chg2.flip {w w' : World} {b1 b2 : Nat} {g1 g2 : Option Nat} (h : Chg2 w w' b1 g1 b2 g2) : Chg2 w w' b2 g2 b1 g1 := ⟨h.os, h.tape, h.output, h.size, fun k hk a b c d => h.block k hk c d a b⟩
theorem Chg2.below {A w w' : World} {b1 b2 : Nat} {g1 g2 : Option Nat} (h : Chg2 w w' b1 g1 b2 g2) (hA : Below A.heap.size A w) (hb1 : A.heap.size ≤ b1) (hg1 : ∀ k, g1 = some k → A.heap.size ≤ k) (hb2 : A.heap.size ≤ b2) (hg2 : ∀ k, g2 = some k → A.heap.size ≤ k) : Below A.heap.size A w' :=
  ⟨h.os.trans hA.os, h.tape.trans hA.tape, h.output.trans hA.output, Nat.le_trans hA.size h.size, fun k hk => (h.block k (Nat.lt_of_lt_of_le hk hA.size) (by omega) (fun e => by have := hg1 k e; omega) (by omega) (fun e => by have := hg2 k e; omega)).trans (hA.block k hk)⟩
theorem Sep.flip {b1 b2 : Nat} {g1 g2 : Option Nat} (h : Sep b1 g1 b2 g2) : Sep b2 g2 b1 g1 := ⟨Ne.symm h.1, h.2.2.1, h.2.1, fun k hk hk' => h.2.2.2 k hk' hk⟩
/-- What a change of the first pile leaves apart. -/
theorem Sep.newer {w : World} {lo b1 b2 : Nat} {g1 g1' g2 : Option Nat} {L : List Int} (h : Sep b1 g1 b2 g2) (hn : Newer w g1 g1') (h2 : PileAt w lo b2 g2 L) : Sep b1 g1' b2 g2 := by
  rcases hn with hn | ⟨r, hn, hr⟩
  · rw [hn]; exact h
  · refine ⟨h.1, fun e => ?_, h.2.2.1, fun k hk hk' => ?_⟩
    · rw [hn] at e; injection e with e; have := h2.lt; omega
    · rw [hn] at hk; injection hk with hk; have := h2.row k hk'; omega
theorem Newer.later {w w1 : World} {g g' : Option Nat} (h : Newer w1 g g') (hs : w.heap.size ≤ w1.heap.size) : Newer w g g' := by
  rcases h with h | ⟨r, h, hr⟩
  · exact .inl h
  · exact .inr ⟨r, h, Nat.le_trans hs hr⟩

def turnB (L1 L2 : List Int) (x : Int) : Bool := decide (x ∈ L1) && !decide (x ∈ L2)
def RetTurn (w : World) (lo b1 : Nat) (g1 : Option Nat) (b2 : Nat) (g2 : Option Nat) (v : Bool) (L1 L2 : List Int) (e : Ending) (w' : World) : Prop :=
  ∃ g2', e = .returned (.bool v) ∧ PileAt w' lo b1 g1 L1 ∧ PileAt w' lo b2 g2' L2 ∧ Sep b1 g1 b2 g2' ∧ Chg2 w w' b1 g1 b2 g2 ∧ Newer w g2 g2'
end Go.Proofs.YtjgjhfeopmakaaaGreat

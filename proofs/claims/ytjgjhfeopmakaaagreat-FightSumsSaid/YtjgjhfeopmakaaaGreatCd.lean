/- Whether cards may be (layer 2): plain words, and the contracts of CheckTerm and what Check calls. The contract of card.Check (layer 2). The contracts of card.Is, Has, Copy, Same (layer 2). Lists of cards in memory; the contract of deck.Table (layer 3). -/
import Derived.Test.YtjgjhfeopmakaaaGreatRows
import Derived.Shelf.Slices.Turned
import Derived.WalkKit
import Derived.WalkSpells
import Derived.Lib.Hide
import Derived.WalkLawsBesides
import Derived.Laws.EntriesVeiled
import Derived.Deep.QuietTactic
import Derived.BigQuiet
import Derived.Deep.RegionHeld3
import Derived.Carry
import Derived.Laws.StructEq
import Derived.Deep.AppendLies
import Derived.WalkSmall
namespace Go.Proofs.YtjgjhfeopmakaaaGreat.Crd
open Go.Shelf Go.Proofs
def Tryz.lays108_ren : Go.Shelf.Ren := ⟨fun | 108 => 100 | n => n, fun | 28 => 79 | 3 => 3 | 0 => 0 | 4 => 4 | n => n, fun | n => n⟩
theorem Tryz.lays108 : Go.Proofs.Lays.n108 Tryz.prog Tryz.lays108_ren := {
  mixed := by kernel_rfl
  f108 := Tryz.func100.trans (congrArg some (by kernel_rfl))
  t0 := Tryz.underlying0
  a0 := Tryz.isAgg0
  z0 := Tryz.sizeOf0
  v0 := Tryz.zeroValue0
  t3 := Tryz.underlying3
  a3 := Tryz.isAgg3
  z3 := Tryz.sizeOf3
  v3 := Tryz.zeroValue3
  t4 := Tryz.underlying4
  a4 := Tryz.isAgg4
  z4 := Tryz.sizeOf4
  v4 := Tryz.zeroValue4
  t28 := Tryz.underlying79
  a28 := Tryz.isAgg79
  z28 := Tryz.sizeOf79
  v28 := Tryz.zeroValue79 }
open Go.Lib in
/-- slices.Index at []int: "Index returns the index of the first occurrence of v in s, or -1 if not present.": IT RETURNS 'Lib.idxOf (the elements) v'; the world is as it was. 'zs': what the cells behind the slice's address hold (its spare capacity too, if you have it); 'zs.take n': its elements. (LAID: no walk: one application.) -/
theorem Tryz.slices_Index_int (b off n c : Nat) (zs : List Int) (x : Int) (w : World) (hz : n ≤ zs.length) (hbig : n ≤ 9223372036854775807) (hc : ∀ j, j < zs.length → w.cell? ⟨b, off + j, none⟩ = some (.int .i64 (zs.getD j 0))) :
    Calls Tryz.prog 100 #[.slice (some ⟨b, off, none⟩) n c, .int .i64 x] w fun e w' => e = .returned (.int .i64 (Lib.idxOf (zs.take n) x)) ∧ w' = w := Any.slices_Index_int Tryz.lays108 b off n c zs x w hz hbig hc
open Go.Lib in
/-- The same at a slice of length 0, a nil one too: no cell is known, none is asked for. (LAID: no walk: one application.) -/
theorem Tryz.slices_Index_int_empty (a : Option Addr) (c : Nat) (x : Int) (w : World) :
    Calls Tryz.prog 100 #[.slice a 0 c, .int .i64 x] w fun e w' => e = .returned (.int .i64 (Lib.idxOf [] x)) ∧ w' = w := Any.slices_Index_int_empty Tryz.lays108 a c x w
def Tryz.lays107_ren : Go.Shelf.Ren := ⟨fun | 107 => 72 | 108 => 100 | n => n, fun | 28 => 79 | 3 => 3 | 4 => 4 | 0 => 0 | n => n, fun | n => n⟩
theorem Tryz.lays107 : Go.Proofs.Lays.n107 Tryz.prog Tryz.lays107_ren := {
  mixed := by kernel_rfl
  f107 := Tryz.func72.trans (congrArg some (by kernel_rfl))
  f108 := Tryz.func100.trans (congrArg some (by kernel_rfl))
  t0 := Tryz.underlying0
  a0 := Tryz.isAgg0
  z0 := Tryz.sizeOf0
  v0 := Tryz.zeroValue0
  t3 := Tryz.underlying3
  a3 := Tryz.isAgg3
  z3 := Tryz.sizeOf3
  v3 := Tryz.zeroValue3
  t4 := Tryz.underlying4
  a4 := Tryz.isAgg4
  z4 := Tryz.sizeOf4
  v4 := Tryz.zeroValue4
  t28 := Tryz.underlying79
  a28 := Tryz.isAgg79
  z28 := Tryz.sizeOf79
  v28 := Tryz.zeroValue79 }
open Go.Lib in
/-- slices.Contains at []int: "Contains reports whether v is present in s.": IT RETURNS 'elements.contains v'; the world is as it was. ITS CALLEE slices.Index IS MET BY ITS OWN CONTRACT OFF THE SHELF (lay that first): no loop is walked here. (LAID: no walk: one application.) -/
theorem Tryz.slices_Contains_int (b off n c : Nat) (zs : List Int) (x : Int) (w : World) (hz : n ≤ zs.length) (hbig : n ≤ 9223372036854775807) (hc : ∀ j, j < zs.length → w.cell? ⟨b, off + j, none⟩ = some (.int .i64 (zs.getD j 0))) :
    Calls Tryz.prog 72 #[.slice (some ⟨b, off, none⟩) n c, .int .i64 x] w fun e w' => e = .returned (.bool ((zs.take n).contains x)) ∧ w' = w := Any.slices_Contains_int Tryz.lays107 b off n c zs x w hz hbig hc
open Go.Lib in
/-- The same at a slice of length 0, a nil one too. (LAID: no walk: one application.) -/
theorem Tryz.slices_Contains_int_empty (a : Option Addr) (c : Nat) (x : Int) (w : World) :
    Calls Tryz.prog 72 #[.slice a 0 c, .int .i64 x] w fun e w' => e = .returned (.bool false) ∧ w' = w := Any.slices_Contains_int_empty Tryz.lays107 a c x w
end Go.Proofs.YtjgjhfeopmakaaaGreat.Crd
namespace Go.Proofs.YtjgjhfeopmakaaaGreat.Crd
open Go.RowKit
theorem bcell {W w1 : World} (hb : Below W.heap.size W w1) : (∀ b o, b < W.heap.size → w1.cell? ⟨b, o, none⟩ = W.cell? ⟨b, o, none⟩) ∧ (∀ b o, b < W.heap.size → w1.frozen? ⟨b, o, none⟩ = W.frozen? ⟨b, o, none⟩) :=
  ⟨fun b o h => hb.cell (p := ⟨b, o, none⟩) h, fun b o h => hb.frozen (p := ⟨b, o, none⟩) h⟩

end Go.Proofs.YtjgjhfeopmakaaaGreat.Crd
namespace Go.Proofs.YtjgjhfeopmakaaaGreat.Crd
open Go.RowKit

structure TermL where
  op : Int
  n : Int
  on : Int
structure CardL where
  kind : Int
  cost : Int
  power : Int
  tough : Int
  keys : Int
  whn : Int
  terms : List TermL

def mostI (op : Int) : Int := if op = 6 ∨ op = 7 ∨ op = 9 then 0 else 20
def aimsI (op : Int) : List Int := if op = 1 then [1, 2, 4] else if op = 2 ∨ op = 3 ∨ op = 8 then [0] else if op = 4 ∨ op = 5 then [1, 3] else if op = 6 ∨ op = 7 ∨ op = 9 then [1, 2] else []
def termB (t : TermL) : Bool := decide (0 ≤ t.n) && (decide (t.n ≤ mostI t.op) && (aimsI t.op).contains t.on)
def aimedN : List TermL → Nat
  | [] => 0
  | t :: r => aimedN r + if t.on = 0 then 0 else 1
def aimedAt : List TermL → Int
  | [] => 0
  | t :: r => if t.on = 0 then aimedAt r else t.on
def termsB (l : List TermL) : Bool := decide (l.length ≤ 4) && (l.all termB && decide (aimedN l ≤ 1))
def inB (x m : Int) : Bool := decide (0 ≤ x) && decide (x ≤ m)
def numsB (c : CardL) : Bool := inB c.kind 4 && (inB c.cost 9 && (inB c.power 20 && (inB c.tough 20 && (inB c.keys 31 && inB c.whn 3))))
def castB (c : CardL) : Bool := decide (c.power = 0) && (decide (c.tough = 0) && (decide (c.keys = 0) && (decide (c.whn = 0) && decide (0 < c.terms.length))))
def whenB (c : CardL) : Bool := if c.whn = 0 then decide (c.terms.length = 0) else if c.whn = 1 then decide (0 < c.terms.length) else decide (0 < c.terms.length) && decide (aimedAt c.terms = 0)
def landB (c : CardL) : Bool := decide (c.cost = 0) && (decide (c.power = 0) && (decide (c.tough = 0) && (decide (c.keys = 0) && (decide (c.whn = 0) && decide (c.terms.length = 0)))))
def kindB (c : CardL) : Bool := if c.kind = 1 then landB c else if c.kind = 2 then decide (1 ≤ c.tough) && whenB c else if c.kind = 3 then castB c else if c.kind = 4 then castB c && (decide (c.cost = 0) && decide (aimedAt c.terms = 0)) else false
def mayB (c : CardL) : Bool := numsB c && (termsB c.terms && kindB c)

theorem aimedN_append (l r : List TermL) : aimedN (l ++ r) = aimedN l + aimedN r := by
  induction l with
  | nil => simp [aimedN]
  | cons t l ih => simp only [List.cons_append, aimedN, ih]; omega
theorem aimedN_snoc (l : List TermL) (t : TermL) : aimedN (l ++ [t]) = aimedN l + if t.on = 0 then 0 else 1 := by
  rw [aimedN_append]; simp [aimedN]
theorem aimedN_le (l : List TermL) : aimedN l ≤ l.length := by
  induction l with
  | nil => simp [aimedN]
  | cons t l ih => simp only [aimedN, List.length_cons]; split <;> omega
theorem aimedAt_zero (l : List TermL) : aimedAt l = 0 ↔ aimedN l = 0 := by
  induction l with
  | nil => simp [aimedAt, aimedN]
  | cons t l ih =>
    simp only [aimedAt, aimedN]
    by_cases h : t.on = 0 <;> simp [h, ih]
theorem aimedAt_none (l r : List TermL) (h : aimedN l = 0) : aimedAt (l ++ r) = aimedAt r := by
  induction l with
  | nil => rfl
  | cons t l ih =>
    simp only [aimedN] at h
    by_cases ht : t.on = 0
    · simp only [List.cons_append, aimedAt, if_pos ht]; exact ih (by omega)
    · rw [if_neg ht] at h; omega
end Go.Proofs.YtjgjhfeopmakaaaGreat.Crd
namespace Go.Proofs.YtjgjhfeopmakaaaGreat.Crd
open Go.RowKit

def tval (t : TermL) : Value := .agg #[.int .i64 t.op, .int .i64 t.n, .int .i64 t.on]

set_option maxRecDepth 100000 in
set_option maxHeartbeats 400000 in
theorem mostOf_any (op : Int) (w : World) : Calls Tryz.prog 127 #[.int .i64 op] w fun e w' => e = .returned (.int .i64 (mostI op)) ∧ w = w' := by
  by_cases h6 : op = 6
  · subst h6
    go_enter Tryz.func127, Tryz.ntmps127
    go_wp2
    go_ret
    exact ⟨rfl, rfl⟩
  by_cases h7 : op = 7
  · subst h7
    go_enter Tryz.func127, Tryz.ntmps127
    go_wp2
    go_ret
    exact ⟨rfl, rfl⟩
  by_cases h9 : op = 9
  · subst h9
    go_enter Tryz.func127, Tryz.ntmps127
    go_wp2
    go_ret
    exact ⟨rfl, rfl⟩
  have hm : Hid (mostI op = 20) := Lib.hid (by unfold mostI; rw [if_neg (by omega)])
  rw [hm.out]
  have b6 : (op == 6) = false := beq_eq_false_iff_ne.2 h6
  have b7 : (op == 7) = false := beq_eq_false_iff_ne.2 h7
  have b9 : (op == 9) = false := beq_eq_false_iff_ne.2 h9
  clear h6 h7 h9
  go_enter Tryz.func127, Tryz.ntmps127
  go_wp2
  go_ret
  exact ⟨rfl, rfl⟩

/-- A slice of numbers, or none; what it holds. -/
def NumsAt (w : World) (v : Value) (l : List Int) : Prop :=
  (v = .slice none 0 0 ∧ l = []) ∨ ∃ b off cap, v = .slice (some ⟨b, off, none⟩) l.length cap ∧ b < w.heap.size ∧ ∀ i, i < l.length → w.cell? ⟨b, off + i, none⟩ = some (.int .i64 (l.getD i 0))
def RetNums (w : World) (l : List Int) (e : Ending) (w' : World) : Prop :=
  ∃ xa xn xc, e = .returned (.slice xa xn xc) ∧ NumsAt w' (.slice xa xn xc) l ∧ Below w.heap.size w w'

theorem nums1 (w : World) (a : Int) : NumsAt (w.alloc (.cells #[.int .i64 a] 3)) (.slice (some ⟨w.heap.size, 0, none⟩) 1 1) [a] :=
  .inr ⟨_, _, _, rfl, by simp, fun i hi => by
    obtain rfl : i = 0 := by simp at hi; omega
    simp [go_sem]⟩
theorem nums2 (w : World) (a b : Int) : NumsAt (w.alloc (.cells #[.int .i64 a, .int .i64 b] 3)) (.slice (some ⟨w.heap.size, 0, none⟩) 2 2) [a, b] :=
  .inr ⟨_, _, _, rfl, by simp, fun i hi => by
    have h : i = 0 ∨ i = 1 := by simp at hi; omega
    rcases h with rfl | rfl <;> simp [go_sem]⟩
theorem nums3 (w : World) (a b c : Int) : NumsAt (w.alloc (.cells #[.int .i64 a, .int .i64 b, .int .i64 c] 3)) (.slice (some ⟨w.heap.size, 0, none⟩) 3 3) [a, b, c] :=
  .inr ⟨_, _, _, rfl, by simp, fun i hi => by
    have h : i = 0 ∨ i = 1 ∨ i = 2 := by simp at hi; omega
    rcases h with rfl | rfl | rfl <;> simp [go_sem]⟩

set_option maxRecDepth 100000 in
set_option maxHeartbeats 800000 in
theorem aimsOf_any (op : Int) (w : World) : Calls Tryz.prog 128 #[.int .i64 op] w (RetNums w (aimsI op)) := by
  by_cases h1 : op = 1
  · subst h1
    go_enter Tryz.func128, Tryz.ntmps128
    go_wp2
    go_ret
    exact ⟨_, _, _, rfl, nums3 _ _ _ _, (Below.refl _ _).alloc (Nat.le_refl _) _⟩
  by_cases h2 : op = 2
  · subst h2
    go_enter Tryz.func128, Tryz.ntmps128
    go_wp2
    go_ret
    exact ⟨_, _, _, rfl, nums1 _ _, (Below.refl _ _).alloc (Nat.le_refl _) _⟩
  by_cases h3 : op = 3
  · subst h3
    go_enter Tryz.func128, Tryz.ntmps128
    go_wp2
    go_ret
    exact ⟨_, _, _, rfl, nums1 _ _, (Below.refl _ _).alloc (Nat.le_refl _) _⟩
  by_cases h8 : op = 8
  · subst h8
    go_enter Tryz.func128, Tryz.ntmps128
    go_wp2
    go_ret
    exact ⟨_, _, _, rfl, nums1 _ _, (Below.refl _ _).alloc (Nat.le_refl _) _⟩
  by_cases h4 : op = 4
  · subst h4
    go_enter Tryz.func128, Tryz.ntmps128
    go_wp2
    go_ret
    exact ⟨_, _, _, rfl, nums2 _ _ _, (Below.refl _ _).alloc (Nat.le_refl _) _⟩
  by_cases h5 : op = 5
  · subst h5
    go_enter Tryz.func128, Tryz.ntmps128
    go_wp2
    go_ret
    exact ⟨_, _, _, rfl, nums2 _ _ _, (Below.refl _ _).alloc (Nat.le_refl _) _⟩
  by_cases h6 : op = 6
  · subst h6
    go_enter Tryz.func128, Tryz.ntmps128
    go_wp2
    go_ret
    exact ⟨_, _, _, rfl, nums2 _ _ _, (Below.refl _ _).alloc (Nat.le_refl _) _⟩
  by_cases h7 : op = 7
  · subst h7
    go_enter Tryz.func128, Tryz.ntmps128
    go_wp2
    go_ret
    exact ⟨_, _, _, rfl, nums2 _ _ _, (Below.refl _ _).alloc (Nat.le_refl _) _⟩
  by_cases h9 : op = 9
  · subst h9
    go_enter Tryz.func128, Tryz.ntmps128
    go_wp2
    go_ret
    exact ⟨_, _, _, rfl, nums2 _ _ _, (Below.refl _ _).alloc (Nat.le_refl _) _⟩
  have hm : Hid (aimsI op = []) := Lib.hid (by unfold aimsI; rw [if_neg (by omega), if_neg (by omega), if_neg (by omega), if_neg (by omega)])
  rw [hm.out]
  have b1 : (op == 1) = false := beq_eq_false_iff_ne.2 h1
  have b2 : (op == 2) = false := beq_eq_false_iff_ne.2 h2
  have b3 : (op == 3) = false := beq_eq_false_iff_ne.2 h3
  have b4 : (op == 4) = false := beq_eq_false_iff_ne.2 h4
  have b5 : (op == 5) = false := beq_eq_false_iff_ne.2 h5
  have b6 : (op == 6) = false := beq_eq_false_iff_ne.2 h6
  have b7 : (op == 7) = false := beq_eq_false_iff_ne.2 h7
  have b8 : (op == 8) = false := beq_eq_false_iff_ne.2 h8
  have b9 : (op == 9) = false := beq_eq_false_iff_ne.2 h9
  clear h1 h2 h3 h4 h5 h6 h7 h8 h9
  go_enter Tryz.func128, Tryz.ntmps128
  go_wp2
  go_ret
  exact ⟨_, _, _, rfl, .inl ⟨rfl, rfl⟩, Below.refl _ _⟩

set_option maxHeartbeats 400000 in
theorem contains_any (v : Value) (l : List Int) (x : Int) (w : World) (hn : l.length ≤ 9223372036854775807) (h : NumsAt w v l) :
    Calls Tryz.prog 72 #[v, .int .i64 x] w fun e w' => e = .returned (.bool (l.contains x)) ∧ w = w' := by
  rcases h with ⟨rfl, rfl⟩ | ⟨b, off, cap, rfl, _, hc⟩
  · exact (Tryz.slices_Contains_int_empty none 0 x w).mono fun e w' ⟨he, hw⟩ => ⟨he, hw.symm⟩
  · refine (Tryz.slices_Contains_int b off l.length cap l x w (Nat.le_refl _) hn (fun j hj => hc j hj)).mono fun e w' ⟨he, hw⟩ => ⟨?_, hw.symm⟩
    rw [he, List.take_length]
end Go.Proofs.YtjgjhfeopmakaaaGreat.Crd
namespace Go.Proofs.YtjgjhfeopmakaaaGreat.Crd
open Go.RowKit

def cardE (b : Bool) : Int := if b then 0 else 8
theorem below_drewN {B : Nat} {a w : World} (h : Below B a w) (n : Nat) : Below B a (w.drewN n) := ⟨h.os, h.tape, h.output, h.size, h.block⟩

set_option maxRecDepth 100000 in
set_option maxHeartbeats 800000 in
theorem checkTerm_neg (op n on : Int) (w : World) (h0 : n < 0) :
    Calls Tryz.prog 119 #[.agg #[.int .i64 op, .int .i64 n, .int .i64 on]] w fun e w' => e = .returned (.int .i64 8) ∧ Below w.heap.size w w' := by
  have hd : decide (n < 0) = true := by simpa using h0
  go_enter Tryz.func119, Tryz.ntmps119
  go_wp2
  go_quiet (fail)
  go_wp2
  go_ret
  exact ⟨rfl, below_drewN ((Below.refl _ _).alloc (Nat.le_refl _) _) _⟩

set_option maxRecDepth 100000 in
set_option maxHeartbeats 800000 in
theorem checkTerm_great (op n on : Int) (w : World) (h0 : 0 ≤ n) (h1 : mostI op < n) :
    Calls Tryz.prog 119 #[.agg #[.int .i64 op, .int .i64 n, .int .i64 on]] w fun e w' => e = .returned (.int .i64 8) ∧ Below w.heap.size w w' := by
  have hd : decide (n < 0) = false := by simpa using h0
  have hd1 : decide (mostI op < n) = true := by simpa using h1
  go_enter Tryz.func119, Tryz.ntmps119
  go_wp2
  go_quiet ((go_at_call 127; exact Calls.quiet_of_same ((mostOf_any _ _).mono fun _ _ ⟨he, hw⟩ => ⟨he, hw.symm⟩)))
  go_wp2
  go_ret
  exact ⟨rfl, below_drewN ((Below.refl _ _).alloc (Nat.le_refl _) _) _⟩

theorem cell_stays {w w' : World} {p : Addr} {v : Value} (hb : Below w.heap.size w w') (h : w.cell? p = some v) : w'.cell? p = some v := by
  by_cases hp : p.block < w.heap.size
  · rw [hb.cell hp]; exact h
  · unfold World.cell? at h
    rw [Array.getElem?_eq_none (by omega)] at h
    simp at h
theorem keepS3 {A w1 w2 : World} {b : Nat} {v1 v2 v3 : Value} (hb : Below w1.heap.size w1 w2)
    (h : Below A.heap.size A w1 ∧ w1.cell? ⟨b, 0, none⟩ = some v1 ∧ w1.cell? ⟨b, 1, none⟩ = some v2 ∧ w1.cell? ⟨b, 2, none⟩ = some v3) :
    Below A.heap.size A w2 ∧ w2.cell? ⟨b, 0, none⟩ = some v1 ∧ w2.cell? ⟨b, 1, none⟩ = some v2 ∧ w2.cell? ⟨b, 2, none⟩ = some v3 :=
  ⟨h.1.trans (hb.mono h.1.size), cell_stays hb h.2.1, cell_stays hb h.2.2.1, cell_stays hb h.2.2.2⟩

theorem aimsI_len (op : Int) : (aimsI op).length ≤ 9223372036854775807 := by
  unfold aimsI
  repeat' split
  all_goals simp

set_option maxRecDepth 100000 in
set_option maxHeartbeats 1600000 in
theorem checkTerm_rest (op n on : Int) (w : World) (h0 : 0 ≤ n) (h1 : n ≤ mostI op) :
    Calls Tryz.prog 119 #[.agg #[.int .i64 op, .int .i64 n, .int .i64 on]] w fun e w' => e = .returned (.int .i64 (cardE ((aimsI op).contains on))) ∧ Below w.heap.size w w' := by
  have hd : decide (n < 0) = false := by simpa using h0
  have hd1 : decide (mostI op < n) = false := by simpa using h1
  obtain ⟨b, hb⟩ : ∃ b, (aimsI op).contains on = b := ⟨_, rfl⟩
  rw [hb]
  have HB := Lib.hid hb
  have hl := Lib.hid (aimsI_len op)
  clear hb
  cases b
  all_goals
   go_enter Tryz.func119, Tryz.ntmps119
   go_wp2
   go_region_held3 (fun w' => Below w.heap.size w w' ∧ w'.cell? ⟨w.heap.size, 0, none⟩ = some (.int .i64 op) ∧ w'.cell? ⟨w.heap.size, 1, none⟩ = some (.int .i64 n) ∧ w'.cell? ⟨w.heap.size, 2, none⟩ = some (.int .i64 on))
    (first | assumption | exact ⟨((Below.refl _ _).alloc (Nat.le_refl _) _).drew, by simp [go_sem], by simp [go_sem], by simp [go_sem]⟩ | exact keepS3 (by assumption) (by assumption))
    (first
      | (go_at_call 127; refine (mostOf_any _ _).mono ?_; rintro e w1 ⟨rfl, rfl⟩)
      | (go_at_call 128; refine (aimsOf_any _ _).mono ?_; rintro e w1 ⟨xa, xn, xc, rfl, hN, hb1⟩)
      | (go_at_call 72; refine (contains_any _ _ _ _ hl.out (by assumption)).mono ?_; rw [HB.out]; rintro e w1 ⟨rfl, rfl⟩))
   have hbb : Below w.heap.size w _ := And.left (by assumption)
   go_wp2
   go_ret
   exact ⟨rfl, hbb⟩

theorem checkTerm_any (t : TermL) (w : World) :
    Calls Tryz.prog 119 #[tval t] w fun e w' => e = .returned (.int .i64 (cardE (termB t))) ∧ Below w.heap.size w w' := by
  obtain ⟨op, n, on⟩ := t
  by_cases h0 : 0 ≤ n
  · by_cases h1 : n ≤ mostI op
    · rw [show termB ⟨op, n, on⟩ = (aimsI op).contains on by simp [termB, h0, h1]]
      exact checkTerm_rest op n on w h0 h1
    · rw [show termB ⟨op, n, on⟩ = false by simp [termB, h1]]
      exact checkTerm_great op n on w h0 (by omega)
  · rw [show termB ⟨op, n, on⟩ = false by simp [termB, h0]]
    exact checkTerm_neg op n on w (by omega)
end Go.Proofs.YtjgjhfeopmakaaaGreat.Crd
namespace Go.Proofs.YtjgjhfeopmakaaaGreat.Crd
open Go.RowKit

/-- A list of terms in memory, or no list; what it holds. -/
def TermsIs (w : World) (v : Value) (l : List TermL) : Prop :=
  (∃ xa cap, v = .slice xa 0 cap ∧ l = []) ∨ ∃ b off cap, v = .slice (some ⟨b, off, none⟩) l.length cap ∧ b < w.heap.size ∧
    ∀ i (h : i < l.length), w.cell? ⟨b, off + i * 3, none⟩ = some (.int .i64 l[i].op) ∧ w.cell? ⟨b, off + i * 3 + 1, none⟩ = some (.int .i64 l[i].n) ∧ w.cell? ⟨b, off + i * 3 + 2, none⟩ = some (.int .i64 l[i].on)
theorem TermsIs.later {w w' : World} {v : Value} {l : List TermL} (h : TermsIs w v l) (hb : Below w.heap.size w w') : TermsIs w' v l := by
  rcases h with h | ⟨b, off, cap, rfl, hlt, hc⟩
  · exact .inl h
  · exact .inr ⟨b, off, cap, rfl, Nat.lt_of_lt_of_le hlt hb.size, fun i hi => ⟨cell_stays hb (hc i hi).1, cell_stays hb (hc i hi).2.1, cell_stays hb (hc i hi).2.2⟩⟩

def cagg (c : CardL) (tv : Value) : Value := .agg #[.int .i64 c.kind, .int .i64 c.cost, .int .i64 c.power, .int .i64 c.tough, .int .i64 c.keys, .int .i64 c.whn, tv]
def CardIs (w : World) (v : Value) (c : CardL) : Prop := ∃ xa xn xc, v = cagg c (.slice xa xn xc) ∧ TermsIs w (.slice xa xn xc) c.terms

theorem below_alloc2 {A w : World} (h : Below A.heap.size A w) (o : Obj) : Below A.heap.size A (w.alloc o) := h.alloc h.size o
theorem take_last {α : Type} (l : List α) (k : Nat) (h : k < l.length) : l.take (k + 1) = l.take k ++ [l[k]] := List.take_succ_eq_append_getElem h
theorem aimed_here (l : List TermL) (k : Nat) (h : k < l.length) (h0 : aimedN (l.take k) = 0) (h1 : l[k].on ≠ 0) : aimedAt l = l[k].on := by
  have e : aimedAt l = aimedAt (l.take k ++ l[k] :: l.drop (k + 1)) := by
    rw [← List.drop_eq_getElem_cons h, List.take_append_drop]
  rw [e, aimedAt_none _ _ h0]
  simp [aimedAt, h1]
theorem ret_int {k : IntKind} {a b : Int} (h : a = b) : Ending.returned (.int k a) = .returned (.int k b) := by rw [h]
theorem ret_bool {a b : Bool} (h : a = b) : Ending.returned (.bool a) = .returned (.bool b) := by rw [h]
theorem aimed_next (l : List TermL) (k : Nat) (h : k < l.length) (h0 : aimedN (l.take k) = 0) (h1 : l[k].on = 0) : aimedN (l.take (k + 1)) = 0 := by
  rw [take_last l k h, aimedN_snoc, h0, if_pos h1]

set_option maxRecDepth 100000 in
set_option maxHeartbeats 800000 in
theorem aimed_some (c : CardL) (b off cap : Nat) (w : World) (hlen : c.terms.length ≤ 9223372036854775807)
    (hc : ∀ i (h : i < c.terms.length), w.cell? ⟨b, off + i * 3, none⟩ = some (.int .i64 c.terms[i].op) ∧ w.cell? ⟨b, off + i * 3 + 1, none⟩ = some (.int .i64 c.terms[i].n) ∧ w.cell? ⟨b, off + i * 3 + 2, none⟩ = some (.int .i64 c.terms[i].on)) :
    Calls Tryz.prog 122 #[cagg c (.slice (some ⟨b, off, none⟩) c.terms.length cap)] w fun e w' => e = .returned (.int .i64 (aimedAt c.terms)) ∧ Below w.heap.size w w' := by
  have HC := Lib.hid hc
  clear hc
  unfold cagg
  go_enter Tryz.func122, Tryz.ntmps122
  go_wp2
  go_loopw [8] (fun i wr => ∃ k : Nat, k ≤ c.terms.length ∧ i = .int .i64 k ∧ Hid (aimedN (c.terms.take k) = 0) ∧ Hid (Below w.heap.size w wr)) (fun i _ => c.terms.length - (intOf i).toNat)
  case atStart => exact ⟨0, Nat.zero_le _, rfl, Lib.hid rfl, Lib.hid ((Below.refl _ _).alloc (Nat.le_refl _) _)⟩
  case round =>
    obtain ⟨k, hk, rfl, HN, HB⟩ := hrel
    by_cases hlt : k < c.terms.length
    · have h3 := HC.out k hlt
      have c0 := cell_stays HB.out h3.1
      have c1 := cell_stays HB.out h3.2.1
      have c2 := cell_stays HB.out h3.2.2
      clear h3
      by_cases h0 : c.terms[k].on = 0
      · have HN2 := Lib.hid (aimed_next _ k hlt HN.out h0)
        have hb : (c.terms[k].on != 0) = false := by simp [h0]
        clear h0
        go_wp2
        go_roundw
        case rel => exact ⟨k + 1, by omega, by go_num, HN2, Lib.hid (below_alloc2 HB.out _)⟩
        case measure => simp [intOf]; omega
      · have HA := Lib.hid (aimed_here _ k hlt HN.out h0)
        have hb : (c.terms[k].on != 0) = true := by simp [h0]
        clear h0
        go_wp2
        go_ret
        exact ⟨ret_int HA.out.symm, below_alloc2 HB.out _⟩
    · obtain rfl : k = c.terms.length := by omega
      have HA : Hid (aimedAt c.terms = 0) := Lib.hid ((aimedAt_zero _).2 (by have := HN.out; rwa [List.take_length] at this))
      go_wp2
      go_ret
      exact ⟨ret_int HA.out.symm, HB.out⟩

set_option maxRecDepth 100000 in
set_option maxHeartbeats 800000 in
theorem aimed_none (c : CardL) (hn : c.terms = []) (xa : Option Addr) (cap : Nat) (w : World) :
    Calls Tryz.prog 122 #[cagg c (.slice xa 0 cap)] w fun e w' => e = .returned (.int .i64 (aimedAt c.terms)) ∧ Below w.heap.size w w' := by
  rw [hn]
  clear hn
  unfold cagg
  go_enter Tryz.func122, Tryz.ntmps122
  go_wp2
  go_loopw [8] (fun i wr => i = .int .i64 0 ∧ Hid (Below w.heap.size w wr)) (fun _ _ => 0)
  case atStart => exact ⟨rfl, Lib.hid ((Below.refl _ _).alloc (Nat.le_refl _) _)⟩
  case round =>
    obtain ⟨rfl, HB⟩ := hrel
    go_wp2
    go_ret
    exact ⟨rfl, HB.out⟩

theorem aimed_any {c : CardL} {v : Value} {w : World} (h : CardIs w v c) (hlen : c.terms.length ≤ 9223372036854775807) :
    Calls Tryz.prog 122 #[v] w fun e w' => e = .returned (.int .i64 (aimedAt c.terms)) ∧ Below w.heap.size w w' := by
  obtain ⟨xa, xn, xc, rfl, ⟨ya, cap, hs, he⟩ | ⟨b, off, cap, hs, _, hc⟩⟩ := h
  · rw [hs]; exact aimed_none c he ya cap w
  · rw [hs]; exact aimed_some c b off cap w hlen hc

def nums6 (c : CardL) : Value := .agg #[.int .i64 c.kind, .int .i64 c.cost, .int .i64 c.power, .int .i64 c.tough, .int .i64 c.keys, .int .i64 c.whn]

set_option maxRecDepth 100000 in
set_option maxHeartbeats 800000 in
theorem numbers_any (c : CardL) (xa : Option Addr) (xn xc : Nat) (w : World) :
    Calls Tryz.prog 98 #[cagg c (.slice xa xn xc)] w fun e w' => e = .returned (nums6 c) ∧ Below w.heap.size w w' := by
  unfold cagg nums6
  go_enter Tryz.func98, Tryz.ntmps98
  go_wp2
  exact bodyPost_ret (by simp [results, Tryz.results98, go_sem]) rfl ⟨rfl, below_alloc2 ((Below.refl _ _).alloc (Nat.le_refl _) _) _⟩
end Go.Proofs.YtjgjhfeopmakaaaGreat.Crd
namespace Go.Proofs.YtjgjhfeopmakaaaGreat.Crd
open Go.RowKit

def firstB (c : CardL) (k : Nat) : Bool :=
  (decide (k ≤ 0) || inB c.kind 4) && ((decide (k ≤ 1) || inB c.cost 9) && ((decide (k ≤ 2) || inB c.power 20) && ((decide (k ≤ 3) || inB c.tough 20) && ((decide (k ≤ 4) || inB c.keys 31) && (decide (k ≤ 5) || inB c.whn 3)))))

def RetB (w : World) (b : Bool) (e : Ending) (w' : World) : Prop := e = .returned (.bool b) ∧ Below w.heap.size w w'

theorem part60 (a b c d e f : Value) (W : World) : (part 3 #[a, b, c, d, e, f] 0).run Tryz.prog W = .ok a W := by kernel_rfl
theorem part61 (a b c d e f : Value) (W : World) : (part 3 #[a, b, c, d, e, f] 1).run Tryz.prog W = .ok b W := by kernel_rfl
theorem part62 (a b c d e f : Value) (W : World) : (part 3 #[a, b, c, d, e, f] 2).run Tryz.prog W = .ok c W := by kernel_rfl
theorem part63 (a b c d e f : Value) (W : World) : (part 3 #[a, b, c, d, e, f] 3).run Tryz.prog W = .ok d W := by kernel_rfl
theorem part64 (a b c d e f : Value) (W : World) : (part 3 #[a, b, c, d, e, f] 4).run Tryz.prog W = .ok e W := by kernel_rfl
theorem part65 (a b c d e f : Value) (W : World) : (part 3 #[a, b, c, d, e, f] 5).run Tryz.prog W = .ok f W := by kernel_rfl
theorem eq3 (d : Nat) (x y : Int) (w : World) : (Op.equalIn (d + 1) 3 (.int .i64 x) (.int .i64 y)).run Tryz.prog w = .ok (x == y) w := run_equalIn_int w d 3 _ _ x y Tryz.underlying3
theorem size3 (w : World) : (sizeOf 3).run Tryz.prog w = .ok 1 w := by kernel_rfl
set_option maxRecDepth 100000 in
theorem equal6 (n : Nat) (a b c d e f a' b' c' d' e' f' : Int) (W : World) : (Op.equalIn (n + 2) 147 (.agg #[.int .i64 a, .int .i64 b, .int .i64 c, .int .i64 d, .int .i64 e, .int .i64 f]) (.agg #[.int .i64 a', .int .i64 b', .int .i64 c', .int .i64 d', .int .i64 e', .int .i64 f'])).run Tryz.prog W = .ok (a == a' && (b == b' && (c == c' && (d == d' && (e == e' && f == f'))))) W := by
  generalize hX : #[Value.int .i64 a, .int .i64 b, .int .i64 c, .int .i64 d, .int .i64 e, .int .i64 f] = X
  generalize hY : #[Value.int .i64 a', .int .i64 b', .int .i64 c', .int .i64 d', .int .i64 e', .int .i64 f'] = Y
  have p0 := fun W => hX ▸ part60 (.int .i64 a) (.int .i64 b) (.int .i64 c) (.int .i64 d) (.int .i64 e) (.int .i64 f) W
  have p1 := fun W => hX ▸ part61 (.int .i64 a) (.int .i64 b) (.int .i64 c) (.int .i64 d) (.int .i64 e) (.int .i64 f) W
  have p2 := fun W => hX ▸ part62 (.int .i64 a) (.int .i64 b) (.int .i64 c) (.int .i64 d) (.int .i64 e) (.int .i64 f) W
  have p3 := fun W => hX ▸ part63 (.int .i64 a) (.int .i64 b) (.int .i64 c) (.int .i64 d) (.int .i64 e) (.int .i64 f) W
  have p4 := fun W => hX ▸ part64 (.int .i64 a) (.int .i64 b) (.int .i64 c) (.int .i64 d) (.int .i64 e) (.int .i64 f) W
  have p5 := fun W => hX ▸ part65 (.int .i64 a) (.int .i64 b) (.int .i64 c) (.int .i64 d) (.int .i64 e) (.int .i64 f) W
  have q0 := fun W => hY ▸ part60 (.int .i64 a') (.int .i64 b') (.int .i64 c') (.int .i64 d') (.int .i64 e') (.int .i64 f') W
  have q1 := fun W => hY ▸ part61 (.int .i64 a') (.int .i64 b') (.int .i64 c') (.int .i64 d') (.int .i64 e') (.int .i64 f') W
  have q2 := fun W => hY ▸ part62 (.int .i64 a') (.int .i64 b') (.int .i64 c') (.int .i64 d') (.int .i64 e') (.int .i64 f') W
  have q3 := fun W => hY ▸ part63 (.int .i64 a') (.int .i64 b') (.int .i64 c') (.int .i64 d') (.int .i64 e') (.int .i64 f') W
  have q4 := fun W => hY ▸ part64 (.int .i64 a') (.int .i64 b') (.int .i64 c') (.int .i64 d') (.int .i64 e') (.int .i64 f') W
  have q5 := fun W => hY ▸ part65 (.int .i64 a') (.int .i64 b') (.int .i64 c') (.int .i64 d') (.int .i64 e') (.int .i64 f') W
  clear hX hY
  rw [Op.equalIn]
  simp only [Sem.run_bind, run_underlying Tryz.underlying147, Result.andThen_ok, size3]
  rw [Std.Legacy.Range.forIn_eq_forIn_range']
  simp only [Std.Legacy.Range.size, Nat.sub_zero, Nat.add_sub_cancel, Nat.div_one, List.range', List.forIn_cons, List.forIn_nil, Nat.mul_one, Nat.zero_add, Sem.run_bind, p0, q0, Result.andThen_ok, eq3]
  by_cases h0 : a = a' <;> by_cases h1 : b = b' <;> by_cases h2 : c = c' <;> by_cases h3 : d = d' <;> by_cases h4 : e = e' <;> by_cases h5 : f = f' <;> simp [h0, h1, h2, h3, h4, h5, p1, p2, p3, p4, p5, q1, q2, q3, q4, q5, eq3]
theorem eqg6 (x y : Operand) (xs ys : Array Value) (W : World) : (eqGuard .eql 147 x y (.agg xs) (.agg ys)).run Tryz.prog W = .ok () W := run_eqGuard_agg W .eql 147 x y xs ys (by kernel_rfl)
def numAt (c : CardL) : Nat → Int
  | 0 => c.kind
  | 1 => c.cost
  | 2 => c.power
  | 3 => c.tough
  | 4 => c.keys
  | _ => c.whn
def mostAt : Nat → Int
  | 0 => 4
  | 1 => 9
  | 2 => 20
  | 3 => 20
  | 4 => 31
  | _ => 3
theorem six {k : Nat} (h : k < 6) : k = 0 ∨ k = 1 ∨ k = 2 ∨ k = 3 ∨ k = 4 ∨ k = 5 := by omega
theorem firstB_succ (c : CardL) (k : Nat) (h : k < 6) : firstB c (k + 1) = (firstB c k && inB (numAt c k) (mostAt k)) := by
  rcases six h with rfl | rfl | rfl | rfl | rfl | rfl <;> simp [firstB, numAt, mostAt, Bool.and_assoc, Bool.and_comm]
theorem firstB_no (c : CardL) (k : Nat) (h : k < 6) (hn : inB (numAt c k) (mostAt k) = false) : firstB c 6 = false := by
  rcases six h with rfl | rfl | rfl | rfl | rfl | rfl <;> simp [numAt, mostAt] at hn <;> simp [firstB, hn]
theorem idx60 (a b c d e f : Value) (W : World) : (Instr.index 147 (.agg #[a, b, c, d, e, f]) (.int .i64 0)).run Tryz.prog W = .ok a W := by kernel_rfl
theorem idx61 (a b c d e f : Value) (W : World) : (Instr.index 147 (.agg #[a, b, c, d, e, f]) (.int .i64 1)).run Tryz.prog W = .ok b W := by kernel_rfl
theorem idx62 (a b c d e f : Value) (W : World) : (Instr.index 147 (.agg #[a, b, c, d, e, f]) (.int .i64 2)).run Tryz.prog W = .ok c W := by kernel_rfl
theorem idx63 (a b c d e f : Value) (W : World) : (Instr.index 147 (.agg #[a, b, c, d, e, f]) (.int .i64 3)).run Tryz.prog W = .ok d W := by kernel_rfl
theorem idx64 (a b c d e f : Value) (W : World) : (Instr.index 147 (.agg #[a, b, c, d, e, f]) (.int .i64 4)).run Tryz.prog W = .ok e W := by kernel_rfl
theorem idx65 (a b c d e f : Value) (W : World) : (Instr.index 147 (.agg #[a, b, c, d, e, f]) (.int .i64 5)).run Tryz.prog W = .ok f W := by kernel_rfl
theorem idx6 (c : CardL) (k : Nat) (h : k < 6) (W : World) : (Instr.index 147 (nums6 c) (.int .i64 k)).run Tryz.prog W = .ok (.int .i64 (numAt c k)) W := by
  rcases six h with rfl | rfl | rfl | rfl | rfl | rfl
  · exact idx60 _ _ _ _ _ _ W
  · exact idx61 _ _ _ _ _ _ W
  · exact idx62 _ _ _ _ _ _ W
  · exact idx63 _ _ _ _ _ _ W
  · exact idx64 _ _ _ _ _ _ W
  · exact idx65 _ _ _ _ _ _ W

set_option maxRecDepth 100000 in
set_option maxHeartbeats 1600000 in
theorem numbersFit_any (c : CardL) (xa : Option Addr) (xn xc : Nat) (w : World) :
    Calls Tryz.prog 111 #[cagg c (.slice xa xn xc)] w (RetB w (numsB c)) := by
  have HF : Hid (numsB c = firstB c 6) := Lib.hid (by simp [firstB, numsB])
  rw [HF.out]
  unfold cagg
  go_enter Tryz.func111, Tryz.ntmps111
  go_wp2_with (go_at_call 98; refine (numbers_any c xa xn xc _).mono ?_; rintro e w2 ⟨rfl, hb2⟩)
  have hb2' : Below w.heap.size w w2 := (below_alloc2 ((Below.refl w.heap.size w).alloc (Nat.le_refl _) (.cells #[.int .i64 c.kind, .int .i64 c.cost, .int .i64 c.power, .int .i64 c.tough, .int .i64 c.keys, .int .i64 c.whn, .slice xa xn xc] 65)) (.cells #[.int .i64 4, .int .i64 9, .int .i64 20, .int .i64 20, .int .i64 31, .int .i64 3] 147)).trans (hb2.mono (by simp; omega))
  have HB := Lib.hid hb2'
  have hc := (bcell hb2).1
  have hm : ∀ k, k < 6 → w2.cell? ⟨w.heap.size + 1, k, none⟩ = some (.int .i64 (mostAt k)) := fun k hk => by
    rw [hc _ _ (by simp)]
    rcases six hk with rfl | rfl | rfl | rfl | rfl | rfl <;> simp [go_sem, mostAt]
  have HM := Lib.hid hm
  clear hc hb2 hb2' hm
  go_wp2
  go_loop [9] (fun i => ∃ k : Nat, k ≤ 6 ∧ i = .int .i64 k ∧ Hid (firstB c k = true)) (fun i => 6 - (intOf i).toNat)
  case atStart => exact ⟨0, by omega, rfl, Lib.hid (by simp [firstB])⟩
  case round =>
    obtain ⟨k, hk, rfl, HK⟩ := hrel
    by_cases hlt : k < 6
    · have hix := idx6 c k hlt
      have hmk := HM.out k hlt
      have hsucc := firstB_succ c k hlt
      rw [HK.out, Bool.true_and] at hsucc
      have hno := firstB_no c k hlt
      have HMO := Lib.hid (rfl : mostAt k = mostAt k)
      by_cases h0 : numAt c k < 0
      · have hd : decide (numAt c k < 0) = true := by simpa using h0
        have HN := Lib.hid (hno (by simp [inB]; omega))
        clear hno hsucc
        go_wp2
        go_ret
        exact ⟨ret_bool HN.out.symm, HB.out⟩
      · have hd : decide (numAt c k < 0) = false := by simpa using h0
        by_cases h1 : mostAt k < numAt c k
        · have hd1 : decide (mostAt k < numAt c k) = true := by simpa using h1
          have HN := Lib.hid (hno (by simp [inB]; omega))
          clear hno hsucc
          go_wp2
          go_ret
          exact ⟨ret_bool HN.out.symm, HB.out⟩
        · have hd1 : decide (mostAt k < numAt c k) = false := by simpa using h1
          have HN : Hid (firstB c (k + 1) = true) := Lib.hid (by rw [hsucc]; simp [inB]; omega)
          clear hno hsucc
          go_wp2
          go_round
          case rel => exact ⟨k + 1, by omega, by go_num, HN⟩
          case measure => simp [intOf]; omega
    · obtain rfl : k = 6 := by omega
      go_wp2
      go_ret
      exact ⟨ret_bool HK.out.symm, HB.out⟩
end Go.Proofs.YtjgjhfeopmakaaaGreat.Crd
namespace Go.Proofs.YtjgjhfeopmakaaaGreat.Crd
open Go.RowKit

theorem below_new (w : World) (o : Obj) : Below w.heap.size w (w.alloc o) := (Below.refl _ _).alloc (Nat.le_refl _) _
theorem len_zero (n : Nat) : ((n : Int) == 0) = decide (n = 0) := by
  by_cases h : n = 0 <;> simp [h]
theorem len_pos (n : Nat) : decide ((0 : Int) < n) = decide (0 < n) := by
  by_cases h : 0 < n <;> simp [h]
theorem all_snoc (l : List TermL) (k : Nat) (h : k < l.length) (h0 : (l.take k).all termB = true) (h1 : termB l[k] = true) : (l.take (k + 1)).all termB = true := by
  rw [take_last l k h, List.all_append, h0]; simp [h1]
theorem all_no (l : List TermL) (k : Nat) (h : k < l.length) (h1 : termB l[k] = false) : l.all termB = false := by
  rw [List.all_eq_false]; exact ⟨l[k], List.getElem_mem h, by simp [h1]⟩
theorem aimed_yes (l : List TermL) (k : Nat) (h : k < l.length) (h1 : l[k].on ≠ 0) : aimedN (l.take (k + 1)) = aimedN (l.take k) + 1 := by
  rw [take_last l k h, aimedN_snoc, if_neg h1]
theorem aimed_no (l : List TermL) (k : Nat) (h : k < l.length) (h1 : l[k].on = 0) : aimedN (l.take (k + 1)) = aimedN (l.take k) := by
  rw [take_last l k h, aimedN_snoc, if_pos h1]; rfl

set_option maxRecDepth 100000 in
set_option maxHeartbeats 1600000 in
theorem termsFit_some (l : List TermL) (b off cap : Nat) (w : World) (hlen : l.length ≤ 9223372036854775807)
    (hc : ∀ i (h : i < l.length), w.cell? ⟨b, off + i * 3, none⟩ = some (.int .i64 l[i].op) ∧ w.cell? ⟨b, off + i * 3 + 1, none⟩ = some (.int .i64 l[i].n) ∧ w.cell? ⟨b, off + i * 3 + 2, none⟩ = some (.int .i64 l[i].on)) :
    Calls Tryz.prog 112 #[.slice (some ⟨b, off, none⟩) l.length cap] w (RetB w (termsB l)) := by
  have HC := Lib.hid hc
  clear hc
  by_cases h4 : 4 < l.length
  · have hd : decide ((4 : Int) < l.length) = true := by simp; omega
    have HT : Hid (termsB l = false) := Lib.hid (by simp [termsB]; omega)
    go_enter Tryz.func112, Tryz.ntmps112
    go_wp2
    go_ret
    exact ⟨ret_bool HT.out.symm, Below.refl _ _⟩
  · have hd : decide ((4 : Int) < l.length) = false := by simp; omega
    go_enter Tryz.func112, Tryz.ntmps112
    go_wp2
    go_loopw [3, 11] (fun n i wr => ∃ k : Nat, k ≤ l.length ∧ i = .int .i64 k ∧ n = .int .i64 (aimedN (l.take k)) ∧ Hid ((l.take k).all termB = true) ∧ Hid (Below w.heap.size w wr)) (fun _ i _ => l.length - (intOf i).toNat)
    case atStart => exact ⟨0, Nat.zero_le _, rfl, rfl, Lib.hid rfl, Lib.hid (Below.refl _ _)⟩
    case round =>
      obtain ⟨k, hk, rfl, rfl, HA, HB⟩ := hrel
      have hle := aimedN_le (l.take k)
      have hle2 := List.length_take_le k l
      by_cases hlt : k < l.length
      · have h3 := HC.out k hlt
        have c0 := cell_stays HB.out h3.1
        have c1 := cell_stays HB.out h3.2.1
        have c2 := cell_stays HB.out h3.2.2
        clear h3
        go_wp2_with fail
        refine (checkTerm_any l[k] _).mono ?_
        rintro e w3 ⟨rfl, hb3⟩
        have d2 : w3.cell? ⟨wr.heap.size, 2, none⟩ = some (.int .i64 l[k].on) := ((bcell hb3).1 _ 2 (show _ < _ by simp)).trans (by simp [go_sem])
        have HB3 := Lib.hid ((below_alloc2 HB.out _).trans (hb3.mono (below_alloc2 HB.out _).size))
        clear hb3 c0 c1 c2
        cases ht : termB l[k]
        · have HT : Hid (termsB l = false) := Lib.hid (by simp [termsB, all_no l k hlt ht])
          clear ht
          go_wp2
          go_ret
          exact ⟨ret_bool HT.out.symm, HB3.out⟩
        · have HA2 := Lib.hid (all_snoc l k hlt HA.out ht)
          clear ht
          by_cases h0 : l[k].on = 0
          · have hb : (l[k].on != 0) = false := by simp [h0]
            have HN := Lib.hid (aimed_no l k hlt h0)
            clear h0
            go_wp2
            go_roundw
            case rel => exact ⟨k + 1, by omega, by go_num, by rw [HN.out], HA2, HB3⟩
            case measure => simp [intOf]; omega
          · have hb : (l[k].on != 0) = true := by simp [h0]
            have HN := Lib.hid (aimed_yes l k hlt h0)
            clear h0
            go_wp2
            go_roundw
            case rel => exact ⟨k + 1, by omega, by go_num, by rw [HN.out]; go_num, HA2, HB3⟩
            case measure => simp [intOf]; omega
      · obtain rfl : k = l.length := by omega
        have HT : Hid (termsB l = decide ((aimedN l : Int) ≤ 1)) := Lib.hid (by
          have h1 := HA.out
          rw [List.take_length] at h1
          simp only [termsB, h1, Bool.true_and]
          have : decide (l.length ≤ 4) = true := by simp; omega
          rw [this, Bool.true_and]
          congr 1
          exact propext ⟨fun h => by omega, fun h => by omega⟩)
        go_wp2
        go_ret
        exact ⟨ret_bool HT.out.symm, HB.out⟩

set_option maxRecDepth 100000 in
set_option maxHeartbeats 800000 in
theorem termsFit_none (xa : Option Addr) (cap : Nat) (w : World) : Calls Tryz.prog 112 #[.slice xa 0 cap] w (RetB w (termsB [])) := by
  go_enter Tryz.func112, Tryz.ntmps112
  go_wp2
  go_loopw [3, 11] (fun n i wr => i = .int .i64 0 ∧ n = .int .i64 0 ∧ w = wr) (fun _ _ _ => 0)
  case atStart => exact ⟨rfl, rfl, rfl⟩
  case round =>
    obtain ⟨rfl, rfl, rfl⟩ := hrel
    go_wp2
    go_ret
    exact ⟨ret_bool rfl, Below.refl _ _⟩

theorem termsFit_any {l : List TermL} {v : Value} {w : World} (h : TermsIs w v l) (hlen : l.length ≤ 9223372036854775807) :
    Calls Tryz.prog 112 #[v] w (RetB w (termsB l)) := by
  rcases h with ⟨xa, cap, rfl, rfl⟩ | ⟨b, off, cap, rfl, _, hc⟩
  · exact termsFit_none xa cap w
  · exact termsFit_some l b off cap w hlen hc

set_option maxRecDepth 100000 in
set_option maxHeartbeats 1600000 in
theorem castFits_any (c : CardL) (xa : Option Addr) (xc : Nat) (w : World) :
    Calls Tryz.prog 121 #[cagg c (.slice xa c.terms.length xc)] w (RetB w (castB c)) := by
  unfold cagg
  go_enter Tryz.func121, Tryz.ntmps121
  go_wp2
  all_goals
    go_ret
    exact ⟨ret_bool (by simp [castB, *]), (Below.refl _ _).alloc (Nat.le_refl _) _⟩

set_option maxRecDepth 100000 in
set_option maxHeartbeats 1600000 in
theorem whenFits_any {c : CardL} {v : Value} {w : World} (h : CardIs w v c) (hlen : c.terms.length ≤ 9223372036854775807) :
    Calls Tryz.prog 120 #[v] w (RetB w (whenB c)) := by
  obtain ⟨xa, xn, xc, rfl, ht⟩ := h
  have hn : xn = c.terms.length := by
    rcases ht with ⟨_, _, h1, h2⟩ | ⟨_, _, _, h1, _⟩
    · injection h1 with _ h1 _; rw [h2, h1]; rfl
    · injection h1
  subst hn
  have HA := Lib.hid (show CardIs (w.alloc (.cells #[.int .i64 c.kind, .int .i64 c.cost, .int .i64 c.power, .int .i64 c.tough, .int .i64 c.keys, .int .i64 c.whn, .slice xa c.terms.length xc] 65)) (cagg c (.slice xa c.terms.length xc)) c from ⟨_, _, _, rfl, ht.later ((Below.refl _ _).alloc (Nat.le_refl _) _)⟩)
  clear ht
  by_cases h0 : c.whn = 0
  · have hb : (c.whn == 0) = true := by simp [h0]
    have HW : Hid (whenB c = decide (c.terms.length = 0)) := Lib.hid (by simp [whenB, h0])
    rw [HW.out]
    clear h0
    unfold cagg
    go_enter Tryz.func120, Tryz.ntmps120
    go_wp2
    go_ret
    exact ⟨ret_bool (len_zero _), (Below.refl _ _).alloc (Nat.le_refl _) _⟩
  · have hb : (c.whn == 0) = false := by simp [h0]
    by_cases h1 : c.whn = 1
    · have hb1 : (c.whn == 1) = true := by simp [h1]
      have HW : Hid (whenB c = decide (0 < c.terms.length)) := Lib.hid (by simp [whenB, h1])
      rw [HW.out]
      clear h0 h1
      unfold cagg
      go_enter Tryz.func120, Tryz.ntmps120
      go_wp2
      go_ret
      exact ⟨ret_bool rfl, (Below.refl _ _).alloc (Nat.le_refl _) _⟩
    · have hb1 : (c.whn == 1) = false := by simp [h1]
      have HW : Hid (whenB c = (decide (0 < c.terms.length) && decide (aimedAt c.terms = 0))) := Lib.hid (by simp [whenB, h0, h1])
      rw [HW.out]
      clear h0 h1
      by_cases hp : 0 < c.terms.length
      · have hd : decide ((0 : Int) < c.terms.length) = true := by simp; omega
        have HP := Lib.hid (show decide (0 < c.terms.length) = true by simpa using hp)
        unfold cagg
        go_enter Tryz.func120, Tryz.ntmps120
        go_wp2_with fail
        refine (aimed_any HA.out hlen).mono ?_
        rintro e w2 ⟨rfl, hb2⟩
        go_wp2
        go_ret
        exact ⟨ret_bool (by rw [HP.out, Bool.true_and]; rfl), (below_new w _).trans (hb2.mono (by simp))⟩
      · have hd : decide ((0 : Int) < c.terms.length) = false := decide_eq_false (by omega)
        have HP := Lib.hid (show decide (0 < c.terms.length) = false by simpa using hp)
        unfold cagg
        go_enter Tryz.func120, Tryz.ntmps120
        go_wp2_with fail
        go_ret
        exact ⟨ret_bool (by rw [HP.out]; simp), (Below.refl _ _).alloc (Nat.le_refl _) _⟩
end Go.Proofs.YtjgjhfeopmakaaaGreat.Crd
namespace Go.Proofs.YtjgjhfeopmakaaaGreat.Crd
open Go.RowKit

theorem CardIs.later {w w' : World} {v : Value} {c : CardL} (h : CardIs w v c) (hb : Below w.heap.size w w') : CardIs w' v c := by
  obtain ⟨xa, xn, xc, rfl, ht⟩ := h
  exact ⟨xa, xn, xc, rfl, ht.later hb⟩
theorem CardIs.len {w : World} {c : CardL} {xa : Option Addr} {xn xc : Nat} (h : TermsIs w (.slice xa xn xc) c.terms) : xn = c.terms.length := by
  rcases h with ⟨_, _, h1, h2⟩ | ⟨_, _, _, h1, _⟩
  · injection h1 with _ h1 _; rw [h2, h1]; rfl
  · injection h1

def sixB (c : CardL) : Bool := c.kind == 1 && (c.cost == 0 && (c.power == 0 && (c.tough == 0 && (c.keys == 0 && c.whn == 0))))
theorem eq_six (c : CardL) (W : World) : (binOp .eql 147 (nums6 c) (.agg #[.int .i64 1, .int .i64 0, .int .i64 0, .int .i64 0, .int .i64 0, .int .i64 0])).run Tryz.prog W = .ok (.bool (sixB c)) W := by
  unfold nums6
  rw [run_eql_struct, equal6 9998]
  rfl
theorem land_six (c : CardL) (h : c.kind = 1) : landB c = (sixB c && decide (c.terms.length = 0)) := by
  simp only [landB, sixB, h, beq_self_eq_true, Bool.true_and, Bool.and_assoc]
  rfl

set_option maxRecDepth 100000 in
set_option maxHeartbeats 1600000 in
theorem kindFits_any {c : CardL} {v : Value} {w : World} (h : CardIs w v c) (hlen : c.terms.length ≤ 9223372036854775807) :
    Calls Tryz.prog 113 #[v] w (RetB w (kindB c)) := by
  obtain ⟨xa, xn, xc, rfl, ht⟩ := h
  obtain rfl := CardIs.len ht
  have HA := Lib.hid (show CardIs (w.alloc (.cells #[.int .i64 c.kind, .int .i64 c.cost, .int .i64 c.power, .int .i64 c.tough, .int .i64 c.keys, .int .i64 c.whn, .slice xa c.terms.length xc] 65)) (cagg c (.slice xa c.terms.length xc)) c from ⟨_, _, _, rfl, ht.later (below_new _ _)⟩)
  clear ht
  by_cases h1 : c.kind = 1
  · have hb : (c.kind == 1) = true := by simp [h1]
    have HW : Hid (kindB c = (sixB c && decide (c.terms.length = 0))) := Lib.hid (by rw [← land_six c h1]; simp [kindB, h1])
    rw [HW.out]
    clear h1
    have he := eq_six c
    have hg := eqg6
    unfold nums6 at he
    unfold cagg
    cases hs : sixB c
    · rw [hs] at he
      have HS := Lib.hid hs
      clear hs
      go_enter Tryz.func113, Tryz.ntmps113
      go_wp2_with fail
      refine (numbers_any c _ _ _ _).mono ?_
      rintro e w2 ⟨rfl, hb2⟩
      unfold nums6
      go_wp2
      go_ret
      exact ⟨ret_bool rfl, (below_new w _).trans (hb2.mono (by simp))⟩
    · rw [hs] at he
      have HS := Lib.hid hs
      clear hs
      go_enter Tryz.func113, Tryz.ntmps113
      go_wp2_with fail
      refine (numbers_any c _ _ _ _).mono ?_
      rintro e w2 ⟨rfl, hb2⟩
      have c6 : w2.cell? ⟨w.heap.size, 6, none⟩ = some (.slice xa c.terms.length xc) := ((bcell hb2).1 _ 6 (show _ < _ by simp)).trans (by simp [go_sem])
      unfold nums6
      go_wp2
      go_ret
      exact ⟨ret_bool (by rw [Bool.true_and]; exact len_zero _), (below_new w _).trans (hb2.mono (by simp))⟩
  have b1 : (c.kind == 1) = false := by simp [h1]
  by_cases h2 : c.kind = 2
  · have hb : (c.kind == 2) = true := by simp [h2]
    have HW : Hid (kindB c = (decide (1 ≤ c.tough) && whenB c)) := Lib.hid (by simp [kindB, h2])
    rw [HW.out]
    clear h1 h2
    by_cases hp : 1 ≤ c.tough
    · have hd : decide (1 ≤ c.tough) = true := decide_eq_true hp
      have HP := Lib.hid hd
      unfold cagg
      go_enter Tryz.func113, Tryz.ntmps113
      go_wp2_with fail
      refine (whenFits_any HA.out hlen).mono ?_
      rintro e w2 ⟨rfl, hb2⟩
      go_wp2
      go_ret
      exact ⟨ret_bool (by rw [HP.out, Bool.true_and]), (below_new w _).trans (hb2.mono (by simp))⟩
    · have hd : decide (1 ≤ c.tough) = false := decide_eq_false hp
      have HP := Lib.hid hd
      unfold cagg
      go_enter Tryz.func113, Tryz.ntmps113
      go_wp2_with fail
      go_ret
      exact ⟨ret_bool rfl, below_new w _⟩
  have b2 : (c.kind == 2) = false := by simp [h2]
  by_cases h3 : c.kind = 3
  · have hb : (c.kind == 3) = true := by simp [h3]
    have HW : Hid (kindB c = castB c) := Lib.hid (by simp [kindB, h3])
    rw [HW.out]
    clear h1 h2 h3
    unfold cagg
    go_enter Tryz.func113, Tryz.ntmps113
    go_wp2_with fail
    refine (castFits_any c _ _ _).mono ?_
    rintro e w2 ⟨rfl, hb2⟩
    go_wp2
    go_ret
    exact ⟨ret_bool rfl, (below_new w _).trans (hb2.mono (by simp))⟩
  have b3 : (c.kind == 3) = false := by simp [h3]
  by_cases h4 : c.kind = 4
  · have hb : (c.kind == 4) = true := by simp [h4]
    have HW : Hid (kindB c = (castB c && (decide (c.cost = 0) && decide (aimedAt c.terms = 0)))) := Lib.hid (by simp [kindB, h4])
    rw [HW.out]
    clear h1 h2 h3 h4
    unfold cagg
    cases hs : castB c
    · have HS := Lib.hid hs
      go_enter Tryz.func113, Tryz.ntmps113
      go_wp2_with fail
      refine (castFits_any c _ _ _).mono ?_
      rw [HS.out]
      rintro e w2 ⟨rfl, hb2⟩
      go_wp2
      go_ret
      exact ⟨ret_bool rfl, (below_new w _).trans (hb2.mono (by simp))⟩
    · have HS := Lib.hid hs
      clear hs
      by_cases h0 : c.cost = 0
      · have hc : (c.cost == 0) = true := by simp [h0]
        have H0 := Lib.hid (decide_eq_true h0)
        clear h0
        go_enter Tryz.func113, Tryz.ntmps113
        go_wp2_with fail
        refine (castFits_any c _ _ _).mono ?_
        rw [HS.out]
        rintro e w2 ⟨rfl, hb2⟩
        have HB2 := Lib.hid hb2
        have hcl := fun j h => (bcell hb2).1 w.heap.size j h
        have k0 : w2.cell? ⟨w.heap.size, 0, none⟩ = some (.int .i64 c.kind) := (hcl 0 (show _ < _ by simp)).trans (by simp [go_sem])
        have k1 : w2.cell? ⟨w.heap.size, 1, none⟩ = some (.int .i64 c.cost) := (hcl 1 (show _ < _ by simp)).trans (by simp [go_sem])
        have k2 : w2.cell? ⟨w.heap.size, 2, none⟩ = some (.int .i64 c.power) := (hcl 2 (show _ < _ by simp)).trans (by simp [go_sem])
        have k3 : w2.cell? ⟨w.heap.size, 3, none⟩ = some (.int .i64 c.tough) := (hcl 3 (show _ < _ by simp)).trans (by simp [go_sem])
        have k4 : w2.cell? ⟨w.heap.size, 4, none⟩ = some (.int .i64 c.keys) := (hcl 4 (show _ < _ by simp)).trans (by simp [go_sem])
        have k5 : w2.cell? ⟨w.heap.size, 5, none⟩ = some (.int .i64 c.whn) := (hcl 5 (show _ < _ by simp)).trans (by simp [go_sem])
        have k6 : w2.cell? ⟨w.heap.size, 6, none⟩ = some (.slice xa c.terms.length xc) := (hcl 6 (show _ < _ by simp)).trans (by simp [go_sem])
        clear hcl hb2
        go_wp2_with fail
        refine (aimed_any (HA.out.later HB2.out) hlen).mono ?_
        rintro e w3 ⟨rfl, hb3⟩
        go_wp2
        go_ret
        exact ⟨ret_bool (by rw [H0.out]; rfl), ((below_new w _).trans (HB2.out.mono (by simp))).trans (hb3.mono (by have := HB2.out.size; simp at this; omega))⟩
      · have hc : (c.cost == 0) = false := by simp [h0]
        have H0 := Lib.hid (decide_eq_false h0)
        clear h0
        go_enter Tryz.func113, Tryz.ntmps113
        go_wp2_with fail
        refine (castFits_any c _ _ _).mono ?_
        rw [HS.out]
        rintro e w2 ⟨rfl, hb2⟩
        have HB2 := Lib.hid hb2
        have k1 : w2.cell? ⟨w.heap.size, 1, none⟩ = some (.int .i64 c.cost) := ((bcell hb2).1 w.heap.size 1 (show _ < _ by simp)).trans (by simp [go_sem])
        clear hb2
        go_wp2
        go_ret
        exact ⟨ret_bool (by rw [H0.out]; rfl), (below_new w _).trans (HB2.out.mono (by simp))⟩
  have b4 : (c.kind == 4) = false := by simp [h4]
  have HW : Hid (kindB c = false) := Lib.hid (by simp [kindB, h1, h2, h3, h4])
  rw [HW.out]
  clear h1 h2 h3 h4
  unfold cagg
  go_enter Tryz.func113, Tryz.ntmps113
  go_wp2_with fail
  go_ret
  exact ⟨ret_bool rfl, below_new w _⟩

theorem card_cells {c : CardL} {xa : Option Addr} {xn xc : Nat} {w w2 : World} {T : TypeId} (hb : Below (w.alloc (.cells #[.int .i64 c.kind, .int .i64 c.cost, .int .i64 c.power, .int .i64 c.tough, .int .i64 c.keys, .int .i64 c.whn, .slice xa xn xc] T)).heap.size (w.alloc (.cells #[.int .i64 c.kind, .int .i64 c.cost, .int .i64 c.power, .int .i64 c.tough, .int .i64 c.keys, .int .i64 c.whn, .slice xa xn xc] T)) w2) :
    w2.cell? ⟨w.heap.size, 0, none⟩ = some (.int .i64 c.kind) ∧ w2.cell? ⟨w.heap.size, 1, none⟩ = some (.int .i64 c.cost) ∧ w2.cell? ⟨w.heap.size, 2, none⟩ = some (.int .i64 c.power) ∧ w2.cell? ⟨w.heap.size, 3, none⟩ = some (.int .i64 c.tough) ∧
    w2.cell? ⟨w.heap.size, 4, none⟩ = some (.int .i64 c.keys) ∧ w2.cell? ⟨w.heap.size, 5, none⟩ = some (.int .i64 c.whn) ∧ w2.cell? ⟨w.heap.size, 6, none⟩ = some (.slice xa xn xc) := by
  have hcl := fun j h => (bcell hb).1 w.heap.size j h
  exact ⟨(hcl 0 (show _ < _ by simp)).trans (by simp [go_sem]), (hcl 1 (show _ < _ by simp)).trans (by simp [go_sem]), (hcl 2 (show _ < _ by simp)).trans (by simp [go_sem]), (hcl 3 (show _ < _ by simp)).trans (by simp [go_sem]),
    (hcl 4 (show _ < _ by simp)).trans (by simp [go_sem]), (hcl 5 (show _ < _ by simp)).trans (by simp [go_sem]), (hcl 6 (show _ < _ by simp)).trans (by simp [go_sem])⟩

set_option maxRecDepth 100000 in
set_option maxHeartbeats 1600000 in
theorem check_any {c : CardL} {v : Value} {w : World} (h : CardIs w v c) (hlen : c.terms.length ≤ 9223372036854775807) :
    Calls Tryz.prog 93 #[v] w fun e w' => e = .returned (.int .i64 (cardE (mayB c))) ∧ Below w.heap.size w w' := by
  obtain ⟨xa, xn, xc, rfl, ht⟩ := h
  have HA := Lib.hid (show CardIs (w.alloc (.cells #[.int .i64 c.kind, .int .i64 c.cost, .int .i64 c.power, .int .i64 c.tough, .int .i64 c.keys, .int .i64 c.whn, .slice xa xn xc] 65)) (cagg c (.slice xa xn xc)) c from ⟨_, _, _, rfl, ht.later (below_new _ _)⟩)
  have HT := Lib.hid (ht.later (below_new w (.cells #[.int .i64 c.kind, .int .i64 c.cost, .int .i64 c.power, .int .i64 c.tough, .int .i64 c.keys, .int .i64 c.whn, .slice xa xn xc] 65)))
  clear ht
  cases h1 : numsB c
  · have HM := Lib.hid (show mayB c = false by simp [mayB, h1])
    have H1 := Lib.hid h1
    rw [HM.out]
    clear h1
    unfold cagg
    go_enter Tryz.func93, Tryz.ntmps93
    go_wp2_with fail
    refine (numbersFit_any c _ _ _ _).mono ?_
    rw [H1.out]
    rintro e w2 ⟨rfl, hb2⟩
    go_wp2
    go_ret
    exact ⟨rfl, (below_new w _).trans (hb2.mono (by simp))⟩
  · have H1 := Lib.hid h1
    cases h2 : termsB c.terms
    · have HM := Lib.hid (show mayB c = false by simp [mayB, h1, h2])
      have H2 := Lib.hid h2
      rw [HM.out]
      clear h1 h2
      unfold cagg
      go_enter Tryz.func93, Tryz.ntmps93
      go_wp2_with fail
      refine (numbersFit_any c _ _ _ _).mono ?_
      rw [H1.out]
      rintro e w2 ⟨rfl, hb2⟩
      have HB2 := Lib.hid hb2
      obtain ⟨k0, k1, k2, k3, k4, k5, k6⟩ := card_cells hb2
      clear hb2
      go_wp2_with fail
      refine (termsFit_any (HT.out.later HB2.out) hlen).mono ?_
      rw [H2.out]
      rintro e w3 ⟨rfl, hb3⟩
      go_wp2
      go_ret
      exact ⟨rfl, ((below_new w _).trans (HB2.out.mono (by simp))).trans (hb3.mono (by have := HB2.out.size; simp at this; omega))⟩
    · have H2 := Lib.hid h2
      have HM := Lib.hid (show mayB c = kindB c by simp [mayB, h1, h2])
      rw [HM.out]
      clear h1 h2
      cases h3 : kindB c
      all_goals
        have H3 := Lib.hid h3
        clear h3
        unfold cagg
        go_enter Tryz.func93, Tryz.ntmps93
        go_wp2_with fail
        refine (numbersFit_any c _ _ _ _).mono ?_
        rw [H1.out]
        rintro e w2 ⟨rfl, hb2⟩
        have HB2 := Lib.hid hb2
        obtain ⟨k0, k1, k2, k3, k4, k5, k6⟩ := card_cells hb2
        clear hb2
        go_wp2_with fail
        refine (termsFit_any (HT.out.later HB2.out) hlen).mono ?_
        rw [H2.out]
        rintro e w3 ⟨rfl, hb3⟩
        have HB3 := Lib.hid (HB2.out.trans (hb3.mono HB2.out.size))
        obtain ⟨k0, k1, k2, k3, k4, k5, k6⟩ := card_cells HB3.out
        clear hb3
        go_wp2_with fail
        refine (kindFits_any (HA.out.later HB3.out) hlen).mono ?_
        rw [H3.out]
        rintro e w4 ⟨rfl, hb4⟩
        go_wp2
        go_ret
        exact ⟨rfl, ((below_new w _).trans (HB3.out.mono (by simp))).trans (hb4.mono (by have := HB3.out.size; simp at this; omega))⟩
end Go.Proofs.YtjgjhfeopmakaaaGreat.Crd
namespace Go.Proofs.YtjgjhfeopmakaaaGreat.Crd
open Go.RowKit
theorem lt_of_row {w : World} {b : Nat} {o : Obj} (h : w.heap[b]? = some o) : b < w.heap.size := (Array.getElem?_eq_some_iff.1 h).1
theorem below_alloc1 (w : World) (o : Obj) : Below w.heap.size w (w.alloc o) := (Below.refl _ _).alloc (Nat.le_refl _) _

set_option maxRecDepth 100000 in
set_option maxHeartbeats 1600000 in
theorem is_any (c : CardL) (xa : Option Addr) (xn xc : Nat) (v : Value) (l : List Int) (w : World) (hl : l.length ≤ 9223372036854775807) (h : NumsAt w v l) :
    Calls Tryz.prog 79 #[cagg c (.slice xa xn xc), v] w (RetB w (l.contains c.kind)) := by
  have HN : ∀ o, NumsAt (w.alloc o) v l := fun o => by
    rcases h with h | ⟨b, off, cap, e, hb, hc⟩
    · exact .inl h
    · exact .inr ⟨b, off, cap, e, by simp; omega, fun i hi => cell_stays (below_alloc1 w o) (hc i hi)⟩
  have HNN := Lib.hid HN
  have HL := Lib.hid hl
  clear HN h hl
  unfold cagg
  go_enter Tryz.func79, Tryz.ntmps79
  go_wp2_with fail
  refine (contains_any v l c.kind _ HL.out (HNN.out _)).mono ?_
  rintro e w2 ⟨rfl, rfl⟩
  go_wp2
  go_ret
  exact ⟨ret_bool (by simp), below_alloc1 w _⟩

theorem info_t : (Tryz.prog.info? 151).map (fun i => (i.zero, i.size, i.bytes)) = some (some (.agg #[.int .i64 0, .int .i64 0, .int .i64 0]), 3, 24) := by kernel_rfl

end Go.Proofs.YtjgjhfeopmakaaaGreat.Crd
namespace Go.Proofs.YtjgjhfeopmakaaaGreat.Crd
open Go.RowKit

/-- Terms in a row of the call's own. -/
def RowC (w : World) (g : Nat) (l : List TermL) : Prop :=
  ∃ (C : Array Value) (T : TypeId), w.heap[g]? = some (.cells C T (0, 0)) ∧ ∀ j (h : j < l.length), C[j * 3]? = some (.int .i64 l[j].op) ∧ C[j * 3 + 1]? = some (.int .i64 l[j].n) ∧ C[j * 3 + 2]? = some (.int .i64 l[j].on)
def RowsC (B : Nat) (w : World) (v : Value) (l : List TermL) : Prop :=
  (v = .slice none 0 0 ∧ l = []) ∨ ∃ g cap, v = .slice (some ⟨g, 0, none⟩) l.length cap ∧ 0 < l.length ∧ B ≤ g ∧ g < w.heap.size ∧ RowC w g l
def termsV (l : List TermL) : List Value := l.flatMap fun t => [.int .i64 t.op, .int .i64 t.n, .int .i64 t.on]
theorem termsV_len (l : List TermL) : (termsV l).length = l.length * 3 := by
  induction l with
  | nil => rfl
  | cons t l ih => simp only [termsV, List.flatMap_cons, List.length_append, List.length_cons, List.length_nil] at ih ⊢; omega
theorem termsV_at : ∀ (l : List TermL) (j : Nat) (h : j < l.length), (termsV l)[j * 3]? = some (.int .i64 l[j].op) ∧ (termsV l)[j * 3 + 1]? = some (.int .i64 l[j].n) ∧ (termsV l)[j * 3 + 2]? = some (.int .i64 l[j].on)
  | [], j, h => by simp at h
  | t :: l, 0, h => ⟨rfl, rfl, rfl⟩
  | t :: l, j + 1, h => by
    have e : ∀ k, (termsV (t :: l))[k + 3]? = (termsV l)[k]? := fun k => by simp [termsV]
    have h' : j < l.length := by simpa using h
    have := termsV_at l j h'
    rw [show (j + 1) * 3 = j * 3 + 3 by omega, show j * 3 + 3 + 1 = j * 3 + 1 + 3 by omega, show j * 3 + 3 + 2 = j * 3 + 2 + 3 by omega, e, e, e]
    exact this
theorem termsV_one (l : List TermL) : ∀ u ∈ termsV l, u.oneCell' = true := by
  intro u hu
  simp only [termsV, List.mem_flatMap] at hu
  obtain ⟨t, _, hu⟩ := hu
  simp only [List.mem_cons, List.not_mem_nil, or_false] at hu
  rcases hu with rfl | rfl | rfl <;> rfl
theorem terms_news {w : World} {b off : Nat} {l : List TermL} (hc : ∀ i (h : i < l.length), w.cell? ⟨b, off + i * 3, none⟩ = some (.int .i64 l[i].op) ∧ w.cell? ⟨b, off + i * 3 + 1, none⟩ = some (.int .i64 l[i].n) ∧ w.cell? ⟨b, off + i * 3 + 2, none⟩ = some (.int .i64 l[i].on)) :
    ∀ j u, (termsV l)[j]? = some u → w.cell? ((⟨b, off, none⟩ : Addr).add j) = some u := by
  intro j u hu
  have hj : j < (termsV l).length := (List.getElem?_eq_some_iff.1 hu).1
  rw [termsV_len] at hj
  have hadd : (⟨b, off, none⟩ : Addr).add j = ⟨b, off + j, none⟩ := by unfold Addr.add; split <;> simp_all
  rw [hadd]
  obtain ⟨q, r, hqr, hr3⟩ : ∃ q r, j = q * 3 + r ∧ r < 3 := ⟨j / 3, j % 3, by omega, by omega⟩
  subst hqr
  have hq' : q < l.length := by omega
  have h3 := hc q hq'
  have ht := termsV_at l q hq'
  match r, hr3 with
  | 0, _ => rw [Nat.add_zero, ht.1] at hu; rw [← hu]; exact h3.1
  | 1, _ => rw [ht.2.1] at hu; rw [← hu]; exact h3.2.1
  | 2, _ => rw [ht.2.2] at hu; rw [← hu]; exact h3.2.2
theorem rowC_of {w : World} {base cap g : Nat} {l : List TermL} {xs : List Value} {n : Nat} (h : w.ownsRow base 151 3 (.slice (some ⟨g, 0, none⟩) n cap) n xs) (hx : xs = termsV l) (hn : n = l.length) : RowC w g l ∧ base ≤ g := by
  subst hx hn
  rcases h.2 with ⟨h0, _⟩ | ⟨g', cap', cur, hv, hb, hg, hle, _, hs, hk⟩
  · cases h0
  · injection hv with h1 h2 h3
    injection h1 with h1
    injection h1 with h1 _ _
    subst h1
    refine ⟨⟨cur, _, hg, fun j hj => ?_⟩, hb⟩
    have ht := termsV_at l j hj
    rw [← hk] at ht
    simp only [List.getElem?_take] at ht
    rw [if_pos (by omega), if_pos (by omega), if_pos (by omega)] at ht
    simpa using ht
theorem RowC.cells {w : World} {g : Nat} {l : List TermL} (h : RowC w g l) (k : Nat) (hk : k < l.length) : w.cell? ⟨g, k * 3, none⟩ = some (.int .i64 l[k].op) ∧ w.cell? ⟨g, k * 3 + 1, none⟩ = some (.int .i64 l[k].n) ∧ w.cell? ⟨g, k * 3 + 2, none⟩ = some (.int .i64 l[k].on) := by
  obtain ⟨C, T, hC, hc⟩ := h
  have h3 := hc k hk
  exact ⟨by simp [World.cell?, hC, h3.1], by simp [World.cell?, hC, h3.2.1], by simp [World.cell?, hC, h3.2.2]⟩
theorem RowC.lt {w : World} {g : Nat} {l : List TermL} (h : RowC w g l) : g < w.heap.size := by
  obtain ⟨C, T, hC, hc⟩ := h
  exact lt_of_row hC
theorem RowC.frozen {w : World} {g : Nat} {l : List TermL} (h : RowC w g l) (k : Nat) : w.frozen? ⟨g, k, none⟩ = false := by
  obtain ⟨C, T, hC, _⟩ := h
  simp [World.frozen?, hC]
theorem RowC.later {w w' : World} {g : Nat} {l : List TermL} (h : RowC w g l) (hb : Below w.heap.size w w') : RowC w' g l := by
  obtain ⟨C, T, hC, hc⟩ := h
  exact ⟨C, T, (hb.block g (lt_of_row hC)).trans hC, hc⟩
theorem RowC.far {w : World} {g : Nat} {l : List TermL} (h : RowC w g l) {p : Addr} (hp : p.block ≠ g) (u : Value) : RowC (w.setCell p u) g l := by
  obtain ⟨C, T, hC, hc⟩ := h
  exact ⟨C, T, (Below.heap_setCell w p u g (Ne.symm hp)).trans hC, hc⟩
theorem RowC.is {w : World} {g cap : Nat} {l : List TermL} (h : RowC w g l) : TermsIs w (.slice (some ⟨g, 0, none⟩) l.length cap) l :=
  .inr ⟨g, 0, cap, rfl, h.lt, fun i hi => by simp only [Nat.zero_add]; exact h.cells i hi⟩
theorem RowsC.is {B : Nat} {w : World} {v : Value} {l : List TermL} (h : RowsC B w v l) : TermsIs w v l := by
  rcases h with h | ⟨g, cap, rfl, _, _, _, hr⟩
  · exact .inl ⟨none, 0, h⟩
  · exact hr.is
theorem RowsC.later {B : Nat} {w w' : World} {v : Value} {l : List TermL} (h : RowsC B w v l) (hb : Below w.heap.size w w') : RowsC B w' v l := by
  rcases h with h | ⟨g, cap, rfl, h0, hB, hlt, hr⟩
  · exact .inl h
  · exact .inr ⟨g, cap, rfl, h0, hB, Nat.lt_of_lt_of_le hlt hb.size, hr.later hb⟩

theorem append_none (xa : Option Addr) (xc : Nat) (w : World) : (Builtin.append_ #[63, 63] 63 #[.slice none 0 0, .slice xa 0 xc]).run Tryz.prog w = .ok (.slice none 0 0) w := by
  obtain ⟨i0, hi0, hz0, hz1, hz2⟩ := info_parts info_t
  cases xa <;> simp [Builtin.append_, run_underlying Tryz.underlying63, sizeOf, typeInfo, hi0, Builtin.lenOf, Builtin.firstCells, loadCells, loadCellsFrom]
theorem wpList_append_run {P : Program} {ops : Array Oper} {rest : List Oper} {o : Oper} {a : Act} {w w' : World} {Q : Exit → Act → World → Prop} {v u r : Value} {t : TypeId} (hgd : o.guard = none) (s x : Operand)
    (ho : o.op = .call { callee := .builtin .append, args := #[s, x], argTypes := #[t, t] }) (hs : a.eval s = v) (hx : a.eval x = u) (hrun : (Builtin.append_ #[t, t] o.type #[v, u]).run P w = .ok r w')
    (h : wpList P ops Q rest (a.put o.dst r) w') : wpList P ops Q (o :: rest) a w :=
  wpList_plain hgd fun _ hK => by
    unfold Oper.wp execOp
    simp only [ho, resolve, invoke, builtin, Sem.run_bind, Sem.run_pure, Result.andThen_ok, List.map_toArray, List.map_cons, List.map_nil, hs, hx, hrun]
    exact hK _ _ h

def RetCopy (c : CardL) (w : World) (e : Ending) (w' : World) : Prop := ∃ v, e = .returned (cagg c v) ∧ RowsC w.heap.size w' v c.terms ∧ Below w.heap.size w w'

set_option maxRecDepth 100000 in
set_option maxHeartbeats 1600000 in
theorem copy_any {c : CardL} {xa : Option Addr} {xc : Nat} {w : World} (ht : TermsIs w (.slice xa c.terms.length xc) c.terms) (hlen : c.terms.length ≤ 30) :
    Calls Tryz.prog 94 #[cagg c (.slice xa c.terms.length xc)] w (RetCopy c w) := by
  by_cases h0 : c.terms.length = 0
  · have hnil : c.terms = [] := List.eq_nil_of_length_eq_zero h0
    have HN := Lib.hid hnil
    rw [h0]
    have ha := append_none xa xc
    clear ht hnil h0 hlen
    unfold cagg
    go_enter Tryz.func94, Tryz.ntmps94
    go_wp2_with (at_builtin; refine wpList_append_run rfl _ _ rfl rfl rfl (ha _) ?_)
    refine bodyPost_ret (by simp [results, Tryz.results94, go_sem]; rfl) rfl ⟨.slice none 0 0, rfl, .inl ⟨rfl, HN.out⟩, ?_⟩
    exact below_alloc2 (below_new w _) _
  · obtain ⟨i0, hi0, hz0, hz1, hz2⟩ := info_parts info_t
    obtain ⟨b, off, cap, hs, hlt, hc⟩ : ∃ b off cap, Value.slice xa c.terms.length xc = .slice (some ⟨b, off, none⟩) c.terms.length cap ∧ b < w.heap.size ∧
      ∀ i (h : i < c.terms.length), w.cell? ⟨b, off + i * 3, none⟩ = some (.int .i64 c.terms[i].op) ∧ w.cell? ⟨b, off + i * 3 + 1, none⟩ = some (.int .i64 c.terms[i].n) ∧ w.cell? ⟨b, off + i * 3 + 2, none⟩ = some (.int .i64 c.terms[i].on) := by
      rcases ht with ⟨_, _, h1, h2⟩ | h
      · rw [h2] at h0; exact absurd rfl h0
      · exact h
    injection hs with h1 _ h2
    subst h1 h2
    have hnews := terms_news hc
    have HC := Lib.hid (show ∀ j u, (termsV c.terms)[j]? = some u → ((w.alloc (.cells #[.int .i64 c.kind, .int .i64 c.cost, .int .i64 c.power, .int .i64 c.tough, .int .i64 c.keys, .int .i64 c.whn, .slice (some ⟨b, off, none⟩) c.terms.length xc] 65)).alloc (.cells #[.int .i64 0, .int .i64 0, .int .i64 0, .int .i64 0, .int .i64 0, .int .i64 0, .slice none 0 0] 65)).cell? ((⟨b, off, none⟩ : Addr).add j) = some u from fun j u hu => cell_stays (below_alloc2 (below_new w _) _) (hnews j u hu))
    have HL := Lib.hid (termsV_len c.terms)
    clear ht hc hnews hlt
    unfold cagg
    go_enter Tryz.func94, Tryz.ntmps94
    go_wp2_with (at_builtin; refine wpList_append_lies _ rfl _ _ 63 rfl w.heap.size 151 i0 _ 3 24 Tryz.underlying63 hi0 hz0 hz1 hz2 rfl (by decide) (.slice none 0 0) 0 [] rfl ⟨by simp, .inl ⟨rfl, rfl⟩⟩ ⟨b, off, none⟩ c.terms.length xc (termsV c.terms) rfl HL.out HC.out (termsV_one _) (by omega) (by unfold maxLen; omega) (by omega) (by simp; omega) _ rfl ?_)
    intro g cap w1 hown hgrow hat hlt
    obtain ⟨hrow, _⟩ := rowC_of hown rfl rfl
    have hg : g = w.heap.size + 1 + 1 := by
      rcases hat with h | h
      · cases h
      · exact h
    subst hg
    have HR := Lib.hid hrow
    have HLT := Lib.hid hlt
    have hb : Below ((w.alloc (.cells #[.int .i64 c.kind, .int .i64 c.cost, .int .i64 c.power, .int .i64 c.tough, .int .i64 c.keys, .int .i64 c.whn, .slice (some ⟨b, off, none⟩) c.terms.length xc] 65)).alloc (.cells #[.int .i64 0, .int .i64 0, .int .i64 0, .int .i64 0, .int .i64 0, .int .i64 0, .slice none 0 0] 65)).heap.size ((w.alloc (.cells #[.int .i64 c.kind, .int .i64 c.cost, .int .i64 c.power, .int .i64 c.tough, .int .i64 c.keys, .int .i64 c.whn, .slice (some ⟨b, off, none⟩) c.terms.length xc] 65)).alloc (.cells #[.int .i64 0, .int .i64 0, .int .i64 0, .int .i64 0, .int .i64 0, .int .i64 0, .slice none 0 0] 65)) w1 := (Below.refl _ _).grown hgrow (Nat.le_refl _) (by simp [Value.ownBlock])
    have HB := Lib.hid hb
    obtain ⟨hc1, hc2⟩ := bcell hb
    have hA := fun j => hc1 w.heap.size j (by simp; try omega)
    have hB := fun j => hc1 (w.heap.size + 1) j (by simp; try omega)
    have fA := fun j => hc2 w.heap.size j (by simp; try omega)
    have fB := fun j => hc2 (w.heap.size + 1) j (by simp; try omega)
    clear hc1 hc2 hb hrow hown hgrow hat hlt
    have a0 : w1.cell? ⟨w.heap.size, 0, none⟩ = some (.int .i64 c.kind) := by rw [hA]; simp [go_sem]
    have a1 : w1.cell? ⟨w.heap.size, 1, none⟩ = some (.int .i64 c.cost) := by rw [hA]; simp [go_sem]
    have a2 : w1.cell? ⟨w.heap.size, 2, none⟩ = some (.int .i64 c.power) := by rw [hA]; simp [go_sem]
    have a3 : w1.cell? ⟨w.heap.size, 3, none⟩ = some (.int .i64 c.tough) := by rw [hA]; simp [go_sem]
    have a4 : w1.cell? ⟨w.heap.size, 4, none⟩ = some (.int .i64 c.keys) := by rw [hA]; simp [go_sem]
    have a5 : w1.cell? ⟨w.heap.size, 5, none⟩ = some (.int .i64 c.whn) := by rw [hA]; simp [go_sem]
    have a6 : w1.cell? ⟨w.heap.size, 6, none⟩ = some (.slice (some ⟨b, off, none⟩) c.terms.length xc) := by rw [hA]; simp [go_sem]
    have b0 : w1.cell? ⟨w.heap.size + 1, 0, none⟩ = some (.int .i64 0) := by rw [hB]; simp [go_sem]
    have b1 : w1.cell? ⟨w.heap.size + 1, 1, none⟩ = some (.int .i64 0) := by rw [hB]; simp [go_sem]
    have b2 : w1.cell? ⟨w.heap.size + 1, 2, none⟩ = some (.int .i64 0) := by rw [hB]; simp [go_sem]
    have b3 : w1.cell? ⟨w.heap.size + 1, 3, none⟩ = some (.int .i64 0) := by rw [hB]; simp [go_sem]
    have b4 : w1.cell? ⟨w.heap.size + 1, 4, none⟩ = some (.int .i64 0) := by rw [hB]; simp [go_sem]
    have b5 : w1.cell? ⟨w.heap.size + 1, 5, none⟩ = some (.int .i64 0) := by rw [hB]; simp [go_sem]
    have b6 : w1.cell? ⟨w.heap.size + 1, 6, none⟩ = some (.slice none 0 0) := by rw [hB]; simp [go_sem]
    have f0 : w1.frozen? ⟨w.heap.size, 6, none⟩ = false := by rw [fA]; simp [go_sem]
    have g0 : w1.frozen? ⟨w.heap.size + 1, 0, none⟩ = false := by rw [fB]; simp [go_sem]
    have g1 : w1.frozen? ⟨w.heap.size + 1, 1, none⟩ = false := by rw [fB]; simp [go_sem]
    have g2 : w1.frozen? ⟨w.heap.size + 1, 2, none⟩ = false := by rw [fB]; simp [go_sem]
    have g3 : w1.frozen? ⟨w.heap.size + 1, 3, none⟩ = false := by rw [fB]; simp [go_sem]
    have g4 : w1.frozen? ⟨w.heap.size + 1, 4, none⟩ = false := by rw [fB]; simp [go_sem]
    have g5 : w1.frozen? ⟨w.heap.size + 1, 5, none⟩ = false := by rw [fB]; simp [go_sem]
    have g6 : w1.frozen? ⟨w.heap.size + 1, 6, none⟩ = false := by rw [fB]; simp [go_sem]
    clear hA hB fA fB
    go_wp2
    refine bodyPost_ret (by simp [results, Tryz.results94, go_sem, b0, b1, b2, b3, b4, b5, b6]; rfl) rfl ⟨.slice (some ⟨w.heap.size + 1 + 1, 0, none⟩) c.terms.length cap, rfl, .inr ⟨_, cap, rfl, by omega, by omega, ?_, ?_⟩, ?_⟩
    · have := HLT.out
      simpa [World.setCell] using this
    · exact (((((((HR.out.far (by simp; try omega) _).far (by simp) _).far (by simp) _).far (by simp) _).far (by simp) _).far (by simp) _).far (by simp) _).far (by simp) _
    · exact (((((((((below_alloc2 (below_new w _) _).trans (HB.out.mono (by simp; try omega))).setCell (by simp) _).setCell (by simp) _).setCell (by simp) _).setCell (by simp) _).setCell (by simp) _).setCell (by simp) _).setCell (by simp) _).setCell (by simp) _
end Go.Proofs.YtjgjhfeopmakaaaGreat.Crd
namespace Go.Proofs.YtjgjhfeopmakaaaGreat.Crd
open Go.RowKit
def eqT (t u : TermL) : Bool := t.op == u.op && (t.n == u.n && t.on == u.on)
def sameL : List TermL → List TermL → Bool
  | [], [] => true
  | t :: l, u :: r => eqT t u && sameL l r
  | _, _ => false
def sameB (a b : CardL) : Bool := a.kind == b.kind && (a.cost == b.cost && (a.power == b.power && (a.tough == b.tough && (a.keys == b.keys && (a.whn == b.whn && sameL a.terms b.terms)))))
theorem eqT_iff (t u : TermL) : eqT t u = true ↔ t = u := by
  obtain ⟨a, b, c⟩ := t
  obtain ⟨a', b', c'⟩ := u
  simp [eqT]
theorem sameL_iff : ∀ l r : List TermL, sameL l r = true ↔ l = r
  | [], [] => by simp [sameL]
  | [], _ :: _ => by simp [sameL]
  | _ :: _, [] => by simp [sameL]
  | t :: l, u :: r => by simp [sameL, eqT_iff, sameL_iff l r]
theorem sameB_iff (a b : CardL) : sameB a b = true ↔ a = b := by
  obtain ⟨a1, a2, a3, a4, a5, a6, a7⟩ := a
  obtain ⟨b1, b2, b3, b4, b5, b6, b7⟩ := b
  simp [sameB, sameL_iff]
theorem sameL_len {l r : List TermL} (h : l.length ≠ r.length) : sameL l r = false := by
  cases hs : sameL l r
  · rfl
  · rw [(sameL_iff l r).1 hs] at h; exact absurd rfl h
theorem sameL_no {l r : List TermL} (k : Nat) (hl : k < l.length) (hr : k < r.length) (h : l[k] ≠ r[k]) : sameL l r = false := by
  cases hs : sameL l r
  · rfl
  · have := (sameL_iff l r).1 hs
    subst this
    exact absurd rfl h
theorem sameL_yes {l r : List TermL} (hn : l.length = r.length) (h : l.take l.length = r.take l.length) : sameL l r = true := by
  rw [List.take_length, hn, List.take_length] at h
  exact (sameL_iff l r).2 h
theorem same_first {a b : CardL} (h1 : a.kind = b.kind) (h2 : a.cost = b.cost) (h3 : a.power = b.power) (h4 : a.tough = b.tough) (h5 : a.keys = b.keys) (h6 : a.whn = b.whn) : sameB a b = sameL a.terms b.terms := by
  simp [sameB, h1, h2, h3, h4, h5, h6]
theorem terms_at {w : World} {xa : Option Addr} {xc : Nat} {l : List TermL} (h : TermsIs w (.slice xa l.length xc) l) (k : Nat) (hk : k < l.length) :
    ∃ b off, xa = some ⟨b, off, none⟩ ∧ w.cell? ⟨b, off + k * 3, none⟩ = some (.int .i64 l[k].op) ∧ w.cell? ⟨b, off + k * 3 + 1, none⟩ = some (.int .i64 l[k].n) ∧ w.cell? ⟨b, off + k * 3 + 2, none⟩ = some (.int .i64 l[k].on) := by
  rcases h with ⟨_, _, h1, h2⟩ | ⟨b, off, cap, h1, h2, h3⟩
  · rw [h2] at hk; simp at hk
  · injection h1 with h1 _ _; exact ⟨b, off, h1, h3 k hk⟩

end Go.Proofs.YtjgjhfeopmakaaaGreat.Crd
namespace Go.Proofs.YtjgjhfeopmakaaaGreat.Crd
open Go.RowKit

theorem eqTerms (n : Nat) (a b c a' b' c' : Int) (w : World) : (Op.equalIn (n + 2) 151 (.agg #[.int .i64 a, .int .i64 b, .int .i64 c]) (.agg #[.int .i64 a', .int .i64 b', .int .i64 c'])).run Tryz.prog w = .ok (a == a' && (b == b' && c == c')) w := by
  have u3 := Tryz.underlying3
  have a3 := Tryz.isAgg3
  have z3 := Tryz.sizeOf3
  have hS : Tryz.prog.underlying 151 = some (.struct (Tryz.prog.fieldsOf 151)) := by kernel_rfl
  rw [run_equalIn_agg w (n + 1) 151 _ _ hS (by kernel_rfl)]
  simp only [Program.fieldsOf, Tryz.underlying151]
  go_simp
  by_cases h1 : a = a' <;> by_cases h2 : b = b' <;> by_cases h3 : c = c' <;> simp [h1, h2, h3]
theorem neqTerms (a b c a' b' c' : Int) (w : World) : (binOp .neq 151 (.agg #[.int .i64 a, .int .i64 b, .int .i64 c]) (.agg #[.int .i64 a', .int .i64 b', .int .i64 c'])).run Tryz.prog w = .ok (.bool (!(a == a' && (b == b' && c == c')))) w := by
  rw [run_neq_struct, eqTerms 9998]
  rfl
theorem neqgT (x y : Operand) (xs ys : Array Value) (W : World) : (eqGuard .neq 151 x y (.agg xs) (.agg ys)).run Tryz.prog W = .ok () W := run_eqGuard_agg W .neq 151 x y xs ys (by kernel_rfl)

set_option maxRecDepth 100000 in
set_option maxHeartbeats 4000000 in
theorem equal_any {v u : Value} {l r : List TermL} {w : World} (hl : TermsIs w v l) (hr : TermsIs w u r) (hn : l.length ≤ 9223372036854775807) :
    Calls Tryz.prog 99 #[v, u] w fun e w' => e = .returned (.bool (sameL l r)) ∧ ∃ n, w' = w.drewN n := by
  have hv : ∃ xa xc, v = .slice xa l.length xc := by
    rcases hl with ⟨_, _, rfl, rfl⟩ | ⟨b, off, cap, rfl, _⟩
    · exact ⟨_, _, rfl⟩
    · exact ⟨_, _, rfl⟩
  have hu : ∃ xa xc, u = .slice xa r.length xc := by
    rcases hr with ⟨_, _, rfl, rfl⟩ | ⟨b, off, cap, rfl, _⟩
    · exact ⟨_, _, rfl⟩
    · exact ⟨_, _, rfl⟩
  obtain ⟨xa, xc, rfl⟩ := hv
  obtain ⟨ya, yc, rfl⟩ := hu
  have HL := Lib.hid hl
  have HR := Lib.hid hr
  clear hl hr
  by_cases hne : l.length ≠ r.length
  · have d : ((l.length : Int) != r.length) = true := bne_iff_ne.2 (by omega)
    have HS := Lib.hid (sameL_len hne)
    clear hne
    go_enter Tryz.func99, Tryz.ntmps99
    go_wp2
    go_ret
    exact ⟨ret_bool HS.out.symm, 0, rfl⟩
  have heq : l.length = r.length := Classical.not_not.1 hne
  have d : ((l.length : Int) != r.length) = false := by rw [heq]; exact bne_self_eq_false _
  have HQ := Lib.hid heq
  clear hne heq
  have h1 := @neqTerms
  have h2 := @neqgT
  go_enter Tryz.func99, Tryz.ntmps99
  go_wp2
  go_loopw [13] (fun i wr => ∃ k n : Nat, k ≤ l.length ∧ i = .int .i64 k ∧ wr = w.drewN n ∧ Hid (l.take k = r.take k)) (fun i _ => l.length - (intOf i).toNat)
  case atStart => exact ⟨0, 0, Nat.zero_le _, rfl, rfl, Lib.hid rfl⟩
  case round =>
    obtain ⟨k, n, hk, rfl, rfl, HK⟩ := hrel
    by_cases hlt : k < l.length
    · have hlt2 : k < r.length := by have := HQ.out; omega
      obtain ⟨p, o, rfl, x0, x1, x2⟩ := terms_at HL.out k hlt
      obtain ⟨p', o', rfl, y0, y1, y2⟩ := terms_at HR.out k hlt2
      obtain ⟨E, hE⟩ : ∃ E, (l[k].op == r[k].op && (l[k].n == r[k].n && l[k].on == r[k].on)) = E := ⟨_, rfl⟩
      have hE2 : eqT l[k] r[k] = E := hE
      have h3 := fun W => neqTerms l[k].op l[k].n l[k].on r[k].op r[k].n r[k].on W
      rw [hE] at h3
      clear hE h1
      cases E
      · have HS := Lib.hid (show sameL l r = false from sameL_no k hlt hlt2 (fun e => by rw [(eqT_iff _ _).2 e] at hE2; exact absurd hE2 (by decide)))
        clear hE2
        go_wp2
        go_quiet (fail)
        go_wp2
        go_ret
        exact ⟨ret_bool HS.out.symm, _, World.drewN_drewN _ _ _⟩
      · have HT : Hid (l.take (k + 1) = r.take (k + 1)) := Lib.hid (by
          rw [take_last _ k hlt, take_last _ k hlt2, HK.out, (eqT_iff _ _).1 hE2])
        clear hE2
        go_wp2
        go_quiet (fail)
        go_wp2
        go_roundw
        case rel => exact ⟨k + 1, _, by omega, by go_num, rfl, HT⟩
        case measure => simp [intOf]; omega
    · obtain rfl : k = l.length := by omega
      have HS := Lib.hid (sameL_yes HQ.out HK.out)
      go_wp2
      go_ret
      exact ⟨ret_bool HS.out.symm, _, rfl⟩
end Go.Proofs.YtjgjhfeopmakaaaGreat.Crd
namespace Go.Proofs.YtjgjhfeopmakaaaGreat.Crd
open Go.RowKit

theorem keep14 {A w1 w2 : World} {p0 p1 p2 p3 p4 p5 p6 p7 p8 p9 p10 p11 p12 p13 : Addr} {v0 v1 v2 v3 v4 v5 v6 v7 v8 v9 v10 v11 v12 v13 : Value} (hb : Below w1.heap.size w1 w2)
    (h : Below A.heap.size A w1 ∧ w1.cell? p0 = some v0 ∧ w1.cell? p1 = some v1 ∧ w1.cell? p2 = some v2 ∧ w1.cell? p3 = some v3 ∧ w1.cell? p4 = some v4 ∧ w1.cell? p5 = some v5 ∧ w1.cell? p6 = some v6 ∧ w1.cell? p7 = some v7 ∧ w1.cell? p8 = some v8 ∧ w1.cell? p9 = some v9 ∧ w1.cell? p10 = some v10 ∧ w1.cell? p11 = some v11 ∧ w1.cell? p12 = some v12 ∧ w1.cell? p13 = some v13) :
    Below A.heap.size A w2 ∧ w2.cell? p0 = some v0 ∧ w2.cell? p1 = some v1 ∧ w2.cell? p2 = some v2 ∧ w2.cell? p3 = some v3 ∧ w2.cell? p4 = some v4 ∧ w2.cell? p5 = some v5 ∧ w2.cell? p6 = some v6 ∧ w2.cell? p7 = some v7 ∧ w2.cell? p8 = some v8 ∧ w2.cell? p9 = some v9 ∧ w2.cell? p10 = some v10 ∧ w2.cell? p11 = some v11 ∧ w2.cell? p12 = some v12 ∧ w2.cell? p13 = some v13 := by
  obtain ⟨h, c0, c1, c2, c3, c4, c5, c6, c7, c8, c9, c10, c11, c12, c13⟩ := h
  exact ⟨h.trans (hb.mono h.size), cell_stays hb c0, cell_stays hb c1, cell_stays hb c2, cell_stays hb c3, cell_stays hb c4, cell_stays hb c5, cell_stays hb c6, cell_stays hb c7, cell_stays hb c8, cell_stays hb c9, cell_stays hb c10, cell_stays hb c11, cell_stays hb c12, cell_stays hb c13⟩

theorem numbers_ints (i0 i1 i2 i3 i4 i5 : Int) (xa : Option Addr) (xn xc : Nat) (w : World) :
    Calls Tryz.prog 98 #[.agg #[.int .i64 i0, .int .i64 i1, .int .i64 i2, .int .i64 i3, .int .i64 i4, .int .i64 i5, .slice xa xn xc]] w fun e w' => e = .returned (.agg #[.int .i64 i0, .int .i64 i1, .int .i64 i2, .int .i64 i3, .int .i64 i4, .int .i64 i5]) ∧ Below w.heap.size w w' :=
  numbers_any ⟨i0, i1, i2, i3, i4, i5, []⟩ xa xn xc w
theorem equal_below {v u : Value} {l r : List TermL} {w : World} (hl : TermsIs w v l) (hr : TermsIs w u r) (hn : l.length ≤ 9223372036854775807) :
    Calls Tryz.prog 99 #[v, u] w (RetB w (sameL l r)) :=
  (equal_any hl hr hn).mono fun _ _ ⟨he, n, hw⟩ => ⟨he, by rw [hw]; exact below_drewN (Below.refl _ _) n⟩
def six2 (a b : CardL) : Bool := a.kind == b.kind && (a.cost == b.cost && (a.power == b.power && (a.tough == b.tough && (a.keys == b.keys && a.whn == b.whn))))
theorem same_six (a b : CardL) : sameB a b = (six2 a b && sameL a.terms b.terms) := by simp only [sameB, six2, Bool.and_assoc]

set_option maxRecDepth 100000 in
set_option maxHeartbeats 4000000 in
theorem same_any {a b : CardL} {v u : Value} {w : World} (ha : CardIs w v a) (hb : CardIs w u b) (hla : a.terms.length ≤ 9223372036854775807) :
    Calls Tryz.prog 69 #[v, u] w (RetB w (sameB a b)) := by
  obtain ⟨xa, xn, xc, rfl, hta⟩ := ha
  obtain ⟨ya, yn, yc, rfl, htb⟩ := hb
  obtain rfl := CardIs.len hta
  obtain rfl := CardIs.len htb
  have HTA := Lib.hid hta
  have HTB := Lib.hid htb
  have HLA := Lib.hid hla
  have he := fun W => (show (binOp .eql 147 (.agg #[.int .i64 a.kind, .int .i64 a.cost, .int .i64 a.power, .int .i64 a.tough, .int .i64 a.keys, .int .i64 a.whn]) (.agg #[.int .i64 b.kind, .int .i64 b.cost, .int .i64 b.power, .int .i64 b.tough, .int .i64 b.keys, .int .i64 b.whn])).run Tryz.prog W = .ok (.bool (six2 a b)) W by rw [run_eql_struct, equal6 9998]; rfl)
  have hg := eqg6
  have HSIX := Lib.hid (same_six a b)
  rw [HSIX.out]
  clear hta htb hla
  have hinit : Below w.heap.size w ((w.alloc (.cells #[.int .i64 a.kind, .int .i64 a.cost, .int .i64 a.power, .int .i64 a.tough, .int .i64 a.keys, .int .i64 a.whn, .slice xa a.terms.length xc] 65)).alloc (.cells #[.int .i64 b.kind, .int .i64 b.cost, .int .i64 b.power, .int .i64 b.tough, .int .i64 b.keys, .int .i64 b.whn, .slice ya b.terms.length yc] 65)) ∧ ((w.alloc (.cells #[.int .i64 a.kind, .int .i64 a.cost, .int .i64 a.power, .int .i64 a.tough, .int .i64 a.keys, .int .i64 a.whn, .slice xa a.terms.length xc] 65)).alloc (.cells #[.int .i64 b.kind, .int .i64 b.cost, .int .i64 b.power, .int .i64 b.tough, .int .i64 b.keys, .int .i64 b.whn, .slice ya b.terms.length yc] 65)).cell? ⟨w.heap.size, 0, none⟩ = some (.int .i64 a.kind) ∧ ((w.alloc (.cells #[.int .i64 a.kind, .int .i64 a.cost, .int .i64 a.power, .int .i64 a.tough, .int .i64 a.keys, .int .i64 a.whn, .slice xa a.terms.length xc] 65)).alloc (.cells #[.int .i64 b.kind, .int .i64 b.cost, .int .i64 b.power, .int .i64 b.tough, .int .i64 b.keys, .int .i64 b.whn, .slice ya b.terms.length yc] 65)).cell? ⟨w.heap.size, 1, none⟩ = some (.int .i64 a.cost) ∧ ((w.alloc (.cells #[.int .i64 a.kind, .int .i64 a.cost, .int .i64 a.power, .int .i64 a.tough, .int .i64 a.keys, .int .i64 a.whn, .slice xa a.terms.length xc] 65)).alloc (.cells #[.int .i64 b.kind, .int .i64 b.cost, .int .i64 b.power, .int .i64 b.tough, .int .i64 b.keys, .int .i64 b.whn, .slice ya b.terms.length yc] 65)).cell? ⟨w.heap.size, 2, none⟩ = some (.int .i64 a.power) ∧ ((w.alloc (.cells #[.int .i64 a.kind, .int .i64 a.cost, .int .i64 a.power, .int .i64 a.tough, .int .i64 a.keys, .int .i64 a.whn, .slice xa a.terms.length xc] 65)).alloc (.cells #[.int .i64 b.kind, .int .i64 b.cost, .int .i64 b.power, .int .i64 b.tough, .int .i64 b.keys, .int .i64 b.whn, .slice ya b.terms.length yc] 65)).cell? ⟨w.heap.size, 3, none⟩ = some (.int .i64 a.tough) ∧ ((w.alloc (.cells #[.int .i64 a.kind, .int .i64 a.cost, .int .i64 a.power, .int .i64 a.tough, .int .i64 a.keys, .int .i64 a.whn, .slice xa a.terms.length xc] 65)).alloc (.cells #[.int .i64 b.kind, .int .i64 b.cost, .int .i64 b.power, .int .i64 b.tough, .int .i64 b.keys, .int .i64 b.whn, .slice ya b.terms.length yc] 65)).cell? ⟨w.heap.size, 4, none⟩ = some (.int .i64 a.keys) ∧ ((w.alloc (.cells #[.int .i64 a.kind, .int .i64 a.cost, .int .i64 a.power, .int .i64 a.tough, .int .i64 a.keys, .int .i64 a.whn, .slice xa a.terms.length xc] 65)).alloc (.cells #[.int .i64 b.kind, .int .i64 b.cost, .int .i64 b.power, .int .i64 b.tough, .int .i64 b.keys, .int .i64 b.whn, .slice ya b.terms.length yc] 65)).cell? ⟨w.heap.size, 5, none⟩ = some (.int .i64 a.whn) ∧ ((w.alloc (.cells #[.int .i64 a.kind, .int .i64 a.cost, .int .i64 a.power, .int .i64 a.tough, .int .i64 a.keys, .int .i64 a.whn, .slice xa a.terms.length xc] 65)).alloc (.cells #[.int .i64 b.kind, .int .i64 b.cost, .int .i64 b.power, .int .i64 b.tough, .int .i64 b.keys, .int .i64 b.whn, .slice ya b.terms.length yc] 65)).cell? ⟨w.heap.size, 6, none⟩ = some (.slice xa a.terms.length xc) ∧ ((w.alloc (.cells #[.int .i64 a.kind, .int .i64 a.cost, .int .i64 a.power, .int .i64 a.tough, .int .i64 a.keys, .int .i64 a.whn, .slice xa a.terms.length xc] 65)).alloc (.cells #[.int .i64 b.kind, .int .i64 b.cost, .int .i64 b.power, .int .i64 b.tough, .int .i64 b.keys, .int .i64 b.whn, .slice ya b.terms.length yc] 65)).cell? ⟨w.heap.size + 1, 0, none⟩ = some (.int .i64 b.kind) ∧ ((w.alloc (.cells #[.int .i64 a.kind, .int .i64 a.cost, .int .i64 a.power, .int .i64 a.tough, .int .i64 a.keys, .int .i64 a.whn, .slice xa a.terms.length xc] 65)).alloc (.cells #[.int .i64 b.kind, .int .i64 b.cost, .int .i64 b.power, .int .i64 b.tough, .int .i64 b.keys, .int .i64 b.whn, .slice ya b.terms.length yc] 65)).cell? ⟨w.heap.size + 1, 1, none⟩ = some (.int .i64 b.cost) ∧ ((w.alloc (.cells #[.int .i64 a.kind, .int .i64 a.cost, .int .i64 a.power, .int .i64 a.tough, .int .i64 a.keys, .int .i64 a.whn, .slice xa a.terms.length xc] 65)).alloc (.cells #[.int .i64 b.kind, .int .i64 b.cost, .int .i64 b.power, .int .i64 b.tough, .int .i64 b.keys, .int .i64 b.whn, .slice ya b.terms.length yc] 65)).cell? ⟨w.heap.size + 1, 2, none⟩ = some (.int .i64 b.power) ∧ ((w.alloc (.cells #[.int .i64 a.kind, .int .i64 a.cost, .int .i64 a.power, .int .i64 a.tough, .int .i64 a.keys, .int .i64 a.whn, .slice xa a.terms.length xc] 65)).alloc (.cells #[.int .i64 b.kind, .int .i64 b.cost, .int .i64 b.power, .int .i64 b.tough, .int .i64 b.keys, .int .i64 b.whn, .slice ya b.terms.length yc] 65)).cell? ⟨w.heap.size + 1, 3, none⟩ = some (.int .i64 b.tough) ∧ ((w.alloc (.cells #[.int .i64 a.kind, .int .i64 a.cost, .int .i64 a.power, .int .i64 a.tough, .int .i64 a.keys, .int .i64 a.whn, .slice xa a.terms.length xc] 65)).alloc (.cells #[.int .i64 b.kind, .int .i64 b.cost, .int .i64 b.power, .int .i64 b.tough, .int .i64 b.keys, .int .i64 b.whn, .slice ya b.terms.length yc] 65)).cell? ⟨w.heap.size + 1, 4, none⟩ = some (.int .i64 b.keys) ∧ ((w.alloc (.cells #[.int .i64 a.kind, .int .i64 a.cost, .int .i64 a.power, .int .i64 a.tough, .int .i64 a.keys, .int .i64 a.whn, .slice xa a.terms.length xc] 65)).alloc (.cells #[.int .i64 b.kind, .int .i64 b.cost, .int .i64 b.power, .int .i64 b.tough, .int .i64 b.keys, .int .i64 b.whn, .slice ya b.terms.length yc] 65)).cell? ⟨w.heap.size + 1, 5, none⟩ = some (.int .i64 b.whn) ∧ ((w.alloc (.cells #[.int .i64 a.kind, .int .i64 a.cost, .int .i64 a.power, .int .i64 a.tough, .int .i64 a.keys, .int .i64 a.whn, .slice xa a.terms.length xc] 65)).alloc (.cells #[.int .i64 b.kind, .int .i64 b.cost, .int .i64 b.power, .int .i64 b.tough, .int .i64 b.keys, .int .i64 b.whn, .slice ya b.terms.length yc] 65)).cell? ⟨w.heap.size + 1, 6, none⟩ = some (.slice ya b.terms.length yc) := by
    refine ⟨((Below.refl _ _).alloc (Nat.le_refl _) _).alloc (by simp) _, ?_⟩
    simp [go_sem]
  have HI := Lib.hid hinit
  clear hinit
  unfold cagg
  cases hs : six2 a b
  · rw [hs] at he
    clear hs
    obtain ⟨_, i0, i1, i2, i3, i4, i5, i6, j0, j1, j2, j3, j4, j5, j6⟩ := HI.out
    go_enter Tryz.func69, Tryz.ntmps69
    go_wp2
    first
    | go_region_with (first
      | (go_at_call 98; refine (numbers_ints _ _ _ _ _ _ _ _ _ _).mono ?_; rintro e w2 ⟨rfl, hb2⟩; (first | (have HJ := Lib.hid (keep14 hb2 HJ.out)) | (have HJ := Lib.hid (keep14 hb2 (keep14 ((Below.refl _ _).drew) HI.out)))); obtain ⟨_, i0, i1, i2, i3, i4, i5, i6, j0, j1, j2, j3, j4, j5, j6⟩ := HJ.out))
    | fail "with"
    all_goals
      have hB := HJ.out.1
      go_wp2
      go_ret
      exact ⟨rfl, hB⟩
  · rw [hs] at he
    clear hs
    go_enter Tryz.func69, Tryz.ntmps69
    go_wp2
    go_region_held3 (fun w' => Below w.heap.size w w' ∧ w'.cell? ⟨w.heap.size, 0, none⟩ = some (.int .i64 a.kind) ∧ w'.cell? ⟨w.heap.size, 1, none⟩ = some (.int .i64 a.cost) ∧ w'.cell? ⟨w.heap.size, 2, none⟩ = some (.int .i64 a.power) ∧ w'.cell? ⟨w.heap.size, 3, none⟩ = some (.int .i64 a.tough) ∧ w'.cell? ⟨w.heap.size, 4, none⟩ = some (.int .i64 a.keys) ∧ w'.cell? ⟨w.heap.size, 5, none⟩ = some (.int .i64 a.whn) ∧ w'.cell? ⟨w.heap.size, 6, none⟩ = some (.slice xa a.terms.length xc) ∧ w'.cell? ⟨w.heap.size + 1, 0, none⟩ = some (.int .i64 b.kind) ∧ w'.cell? ⟨w.heap.size + 1, 1, none⟩ = some (.int .i64 b.cost) ∧ w'.cell? ⟨w.heap.size + 1, 2, none⟩ = some (.int .i64 b.power) ∧ w'.cell? ⟨w.heap.size + 1, 3, none⟩ = some (.int .i64 b.tough) ∧ w'.cell? ⟨w.heap.size + 1, 4, none⟩ = some (.int .i64 b.keys) ∧ w'.cell? ⟨w.heap.size + 1, 5, none⟩ = some (.int .i64 b.whn) ∧ w'.cell? ⟨w.heap.size + 1, 6, none⟩ = some (.slice ya b.terms.length yc))
        (first | assumption | (with_reducible exact HI.out) | exact keep14 ((Below.refl _ _).drew) HI.out | exact keep14 (by assumption) (by assumption))
        (first
          | (go_at_call 98; refine (numbers_ints _ _ _ _ _ _ _ _ _ _).mono ?_; rintro e w2 ⟨rfl, hb2⟩)
          | (go_at_call 99; refine (equal_below (HTA.out.later (And.left (by assumption))) (HTB.out.later (And.left (by assumption))) HLA.out).mono ?_; rintro e w2 ⟨rfl, hb2⟩))
    have hB : Below w.heap.size w w2 := And.left (by assumption)
    go_wp2
    go_ret
    exact ⟨rfl, hB⟩
end Go.Proofs.YtjgjhfeopmakaaaGreat.Crd
namespace Go.Proofs.YtjgjhfeopmakaaaGreat.Crd
open Go.RowKit

/-- A card's cells at a place. -/
def CardCells (w : World) (b o : Nat) (c : CardL) : Prop :=
  ∃ ya yc, w.cell? ⟨b, o, none⟩ = some (.int .i64 c.kind) ∧ w.cell? ⟨b, o + 1, none⟩ = some (.int .i64 c.cost) ∧ w.cell? ⟨b, o + 2, none⟩ = some (.int .i64 c.power) ∧ w.cell? ⟨b, o + 3, none⟩ = some (.int .i64 c.tough) ∧
    w.cell? ⟨b, o + 4, none⟩ = some (.int .i64 c.keys) ∧ w.cell? ⟨b, o + 5, none⟩ = some (.int .i64 c.whn) ∧ w.cell? ⟨b, o + 6, none⟩ = some (.slice ya c.terms.length yc) ∧ TermsIs w (.slice ya c.terms.length yc) c.terms
theorem CardCells.later {w w' : World} {b o : Nat} {c : CardL} (h : CardCells w b o c) (hb : Below w.heap.size w w') : CardCells w' b o c := by
  obtain ⟨ya, yc, c0, c1, c2, c3, c4, c5, c6, ht⟩ := h
  exact ⟨ya, yc, cell_stays hb c0, cell_stays hb c1, cell_stays hb c2, cell_stays hb c3, cell_stays hb c4, cell_stays hb c5, cell_stays hb c6, ht.later hb⟩
/-- A list of cards in memory, or no list; what it holds. -/
def CardsAt (w : World) (v : Value) (l : List CardL) : Prop :=
  (∃ xa cap, v = .slice xa 0 cap ∧ l = []) ∨ ∃ b off cap, v = .slice (some ⟨b, off, none⟩) l.length cap ∧ b < w.heap.size ∧ ∀ i (h : i < l.length), CardCells w b (off + i * 7) l[i]
theorem CardsAt.later {w w' : World} {v : Value} {l : List CardL} (h : CardsAt w v l) (hb : Below w.heap.size w w') : CardsAt w' v l := by
  rcases h with h | ⟨b, off, cap, rfl, hlt, hc⟩
  · exact .inl h
  · exact .inr ⟨b, off, cap, rfl, Nat.lt_of_lt_of_le hlt hb.size, fun i hi => (hc i hi).later hb⟩
theorem CardsAt.form {w : World} {v : Value} {l : List CardL} (h : CardsAt w v l) : ∃ xa xc, v = .slice xa l.length xc := by
  rcases h with ⟨xa, cap, rfl, rfl⟩ | ⟨b, off, cap, rfl, _⟩
  · exact ⟨xa, cap, rfl⟩
  · exact ⟨_, cap, rfl⟩
theorem CardsAt.at {w : World} {xa : Option Addr} {xc : Nat} {l : List CardL} (h : CardsAt w (.slice xa l.length xc) l) (k : Nat) (hk : k < l.length) : ∃ b off, xa = some ⟨b, off, none⟩ ∧ CardCells w b (off + k * 7) l[k] := by
  rcases h with ⟨_, _, _, h2⟩ | ⟨b, off, cap, h1, _, hc⟩
  · subst h2; simp at hk
  · injection h1 with h1 _ _; exact ⟨b, off, h1, hc k hk⟩
def tableE (l : List CardL) : Int := if 60 < l.length then 5 else if l.all mayB then 0 else 8
/-- No list of terms is longer than an int tells. -/
def SmallC (l : List CardL) : Prop := ∀ c ∈ l, c.terms.length ≤ 9223372036854775807
theorem SmallC.at {l : List CardL} (h : SmallC l) (k : Nat) (hk : k < l.length) : l[k].terms.length ≤ 9223372036854775807 := h _ (List.getElem_mem hk)
theorem allB_next {α : Type} {p : α → Bool} {l : List α} {k : Nat} (hk : k < l.length) (h : (l.take k).all p = true) (hp : p l[k] = true) : (l.take (k + 1)).all p = true := by
  rw [take_last l k hk, List.all_append, h]; simp [hp]
theorem allB_not {α : Type} {p : α → Bool} {l : List α} {k : Nat} (hk : k < l.length) (hp : p l[k] = false) : l.all p = false := by
  cases h : l.all p
  · rfl
  · rw [List.all_eq_true] at h
    rw [h _ (List.getElem_mem hk)] at hp; exact absurd hp (by decide)
theorem allB_done {α : Type} {p : α → Bool} {l : List α} (h : (l.take l.length).all p = true) : l.all p = true := by rwa [List.take_length] at h

set_option maxRecDepth 100000 in
set_option maxHeartbeats 4000000 in
theorem table_any {v : Value} {l : List CardL} {w : World} (h : CardsAt w v l) (hn : l.length ≤ 9223372036854775807) (hs : SmallC l) :
    Calls Tryz.prog 53 #[v] w (fun e w' => e = .returned (.int .i64 (tableE l)) ∧ Below w.heap.size w w') := by
  obtain ⟨xa, xc, rfl⟩ := h.form
  have HL := Lib.hid h
  have HS := Lib.hid hs
  clear h hs
  by_cases h60 : 60 < l.length
  · have HE := Lib.hid (show tableE l = 5 by unfold tableE; rw [if_pos h60])
    have e1 : decide ((60 : Int) < l.length) = true := decide_eq_true (by omega)
    clear h60
    go_enter Tryz.func53, Tryz.ntmps53
    go_wp2
    go_ret
    exact ⟨ret_int HE.out.symm, Below.refl _ _⟩
  · have HE := Lib.hid (show tableE l = if l.all mayB then 0 else 8 by unfold tableE; rw [if_neg h60])
    have e1 : decide ((60 : Int) < l.length) = false := decide_eq_false (by omega)
    go_enter Tryz.func53, Tryz.ntmps53
    go_wp2
    go_loopw [10] (fun i wr => ∃ k : Nat, k ≤ l.length ∧ i = .int .i64 k ∧ Hid ((l.take k).all mayB = true) ∧ Hid (Below w.heap.size w wr)) (fun i _ => l.length - (intOf i).toNat)
    case atStart => exact ⟨0, Nat.zero_le _, rfl, Lib.hid (by simp), Lib.hid (Below.refl _ _)⟩
    case round =>
      obtain ⟨k, hk, rfl, HK, HB⟩ := hrel
      by_cases hlt : k < l.length
      · obtain ⟨b, off, rfl, hcell⟩ := (HL.out.later HB.out).at k hlt
        have hsl := HS.out.at k hlt
        obtain ⟨c, hcc⟩ : ∃ c, l[k] = c := ⟨_, rfl⟩
        rw [hcc] at hcell hsl
        have HCC := Lib.hid hcc
        obtain ⟨ya, yc, c0, c1, c2, c3, c4, c5, c6, ht⟩ := hcell
        have HT := Lib.hid ht
        have HLN := Lib.hid hsl
        have HLT := Lib.hid hlt
        have d0 : (0 : Int) ≤ k := by omega
        have d1 : (k : Int) < l.length := by omega
        clear ht hsl hcc
        obtain ⟨mm, hmm⟩ : ∃ mm, mayB c = mm := ⟨_, rfl⟩
        have HM := Lib.hid hmm
        clear hmm
        go_wp2_with fail
        refine (check_any ⟨ya, _, yc, rfl, HT.out.later (below_new _ _)⟩ HLN.out).mono ?_
        rw [HM.out]
        rintro e w2 ⟨rfl, hb2⟩
        have HB2 := Lib.hid (HB.out.trans ((below_new wr _).mono HB.out.size |>.trans (hb2.mono (by have := HB.out.size; simp; omega))))
        clear hb2 c0 c1 c2 c3 c4 c5 c6
        cases mm
        · go_wp2
          go_ret
          exact ⟨ret_int (by rw [HE.out, allB_not HLT.out (by rw [HCC.out]; exact HM.out)]; rfl), HB2.out⟩
        · go_wp2
          go_roundw
          case rel => exact ⟨k + 1, by omega, by go_num, Lib.hid (allB_next HLT.out HK.out (by rw [HCC.out]; exact HM.out)), HB2⟩
          case measure => simp [intOf]; omega
      · obtain rfl : k = l.length := by omega
        have HA := Lib.hid (allB_done HK.out)
        go_wp2
        go_ret
        exact ⟨ret_int (by rw [HE.out, HA.out]; rfl), HB.out⟩
end Go.Proofs.YtjgjhfeopmakaaaGreat.Crd

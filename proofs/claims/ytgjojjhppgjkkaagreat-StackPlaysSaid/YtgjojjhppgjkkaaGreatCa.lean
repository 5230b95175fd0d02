/- Whether cards may be (layer 2): plain words, and the contracts of CheckTerm and what Check calls. -/
import Derived.Test.YtgjojjhppgjkkaaGreatRows
import Derived.Shelf.Slices.Turned
import Derived.WalkKit
import Derived.WalkSpells
import Derived.Lib.Hide
import Derived.WalkLawsBesides
import Derived.Laws.EntriesVeiled
import Derived.Deep.QuietTactic
import Derived.BigQuiet
import Derived.Deep.RegionHeld3
import Derived.Carry
namespace Go.Proofs.YtgjojjhppgjkkaaGreat.Crd
open Go.Shelf Go.Proofs
def Tryz.lays108_ren : Go.Shelf.Ren := ⟨fun | 108 => 109 | n => n, fun | 28 => 83 | 3 => 3 | 0 => 0 | 4 => 4 | n => n, fun | n => n⟩
theorem Tryz.lays108 : Go.Proofs.Lays.n108 Tryz.prog Tryz.lays108_ren := {
  mixed := by kernel_rfl
  f108 := Tryz.func109.trans (congrArg some (by kernel_rfl))
  t0 := Tryz.underlying0
  a0 := Tryz.isAgg0
  z0 := Tryz.sizeOf0
  v0 := Tryz.zeroValue0
  t3 := Tryz.underlying3
  a3 := Tryz.isAgg3
  z3 := Tryz.sizeOf3
  v3 := Tryz.zeroValue3
  t4 := Tryz.underlying4
  a4 := Tryz.isAgg4
  z4 := Tryz.sizeOf4
  v4 := Tryz.zeroValue4
  t28 := Tryz.underlying83
  a28 := Tryz.isAgg83
  z28 := Tryz.sizeOf83
  v28 := Tryz.zeroValue83 }
open Go.Lib in
/-- slices.Index at []int: "Index returns the index of the first occurrence of v in s, or -1 if not present.": IT RETURNS 'Lib.idxOf (the elements) v'; the world is as it was. 'zs': what the cells behind the slice's address hold (its spare capacity too, if you have it); 'zs.take n': its elements. (LAID: no walk: one application.) -/
theorem Tryz.slices_Index_int (b off n c : Nat) (zs : List Int) (x : Int) (w : World) (hz : n ≤ zs.length) (hbig : n ≤ 9223372036854775807) (hc : ∀ j, j < zs.length → w.cell? ⟨b, off + j, none⟩ = some (.int .i64 (zs.getD j 0))) :
    Calls Tryz.prog 109 #[.slice (some ⟨b, off, none⟩) n c, .int .i64 x] w fun e w' => e = .returned (.int .i64 (Lib.idxOf (zs.take n) x)) ∧ w' = w := Any.slices_Index_int Tryz.lays108 b off n c zs x w hz hbig hc
open Go.Lib in
/-- The same at a slice of length 0, a nil one too: no cell is known, none is asked for. (LAID: no walk: one application.) -/
theorem Tryz.slices_Index_int_empty (a : Option Addr) (c : Nat) (x : Int) (w : World) :
    Calls Tryz.prog 109 #[.slice a 0 c, .int .i64 x] w fun e w' => e = .returned (.int .i64 (Lib.idxOf [] x)) ∧ w' = w := Any.slices_Index_int_empty Tryz.lays108 a c x w
def Tryz.lays107_ren : Go.Shelf.Ren := ⟨fun | 107 => 76 | 108 => 109 | n => n, fun | 28 => 83 | 3 => 3 | 4 => 4 | 0 => 0 | n => n, fun | n => n⟩
theorem Tryz.lays107 : Go.Proofs.Lays.n107 Tryz.prog Tryz.lays107_ren := {
  mixed := by kernel_rfl
  f107 := Tryz.func76.trans (congrArg some (by kernel_rfl))
  f108 := Tryz.func109.trans (congrArg some (by kernel_rfl))
  t0 := Tryz.underlying0
  a0 := Tryz.isAgg0
  z0 := Tryz.sizeOf0
  v0 := Tryz.zeroValue0
  t3 := Tryz.underlying3
  a3 := Tryz.isAgg3
  z3 := Tryz.sizeOf3
  v3 := Tryz.zeroValue3
  t4 := Tryz.underlying4
  a4 := Tryz.isAgg4
  z4 := Tryz.sizeOf4
  v4 := Tryz.zeroValue4
  t28 := Tryz.underlying83
  a28 := Tryz.isAgg83
  z28 := Tryz.sizeOf83
  v28 := Tryz.zeroValue83 }
open Go.Lib in
/-- slices.Contains at []int: "Contains reports whether v is present in s.": IT RETURNS 'elements.contains v'; the world is as it was. ITS CALLEE slices.Index IS MET BY ITS OWN CONTRACT OFF THE SHELF (lay that first): no loop is walked here. (LAID: no walk: one application.) -/
theorem Tryz.slices_Contains_int (b off n c : Nat) (zs : List Int) (x : Int) (w : World) (hz : n ≤ zs.length) (hbig : n ≤ 9223372036854775807) (hc : ∀ j, j < zs.length → w.cell? ⟨b, off + j, none⟩ = some (.int .i64 (zs.getD j 0))) :
    Calls Tryz.prog 76 #[.slice (some ⟨b, off, none⟩) n c, .int .i64 x] w fun e w' => e = .returned (.bool ((zs.take n).contains x)) ∧ w' = w := Any.slices_Contains_int Tryz.lays107 b off n c zs x w hz hbig hc
open Go.Lib in
/-- The same at a slice of length 0, a nil one too. (LAID: no walk: one application.) -/
theorem Tryz.slices_Contains_int_empty (a : Option Addr) (c : Nat) (x : Int) (w : World) :
    Calls Tryz.prog 76 #[.slice a 0 c, .int .i64 x] w fun e w' => e = .returned (.bool false) ∧ w' = w := Any.slices_Contains_int_empty Tryz.lays107 a c x w
end Go.Proofs.YtgjojjhppgjkkaaGreat.Crd
namespace Go.Proofs.YtgjojjhppgjkkaaGreat.Crd
open Go.RowKit
theorem bcell {W w1 : World} (hb : Below W.heap.size W w1) : (∀ b o, b < W.heap.size → w1.cell? ⟨b, o, none⟩ = W.cell? ⟨b, o, none⟩) ∧ (∀ b o, b < W.heap.size → w1.frozen? ⟨b, o, none⟩ = W.frozen? ⟨b, o, none⟩) :=
  ⟨fun b o h => hb.cell (p := ⟨b, o, none⟩) h, fun b o h => hb.frozen (p := ⟨b, o, none⟩) h⟩

end Go.Proofs.YtgjojjhppgjkkaaGreat.Crd
namespace Go.Proofs.YtgjojjhppgjkkaaGreat.Crd
open Go.RowKit

structure TermL where
  op : Int
  n : Int
  on : Int
structure CardL where
  kind : Int
  cost : Int
  power : Int
  tough : Int
  keys : Int
  whn : Int
  terms : List TermL

def mostI (op : Int) : Int := if op = 6 ∨ op = 7 ∨ op = 9 then 0 else 20
def aimsI (op : Int) : List Int := if op = 1 then [1, 2, 4] else if op = 2 ∨ op = 3 ∨ op = 8 then [0] else if op = 4 ∨ op = 5 then [1, 3] else if op = 6 ∨ op = 7 ∨ op = 9 then [1, 2] else []
def termB (t : TermL) : Bool := decide (0 ≤ t.n) && (decide (t.n ≤ mostI t.op) && (aimsI t.op).contains t.on)
def aimedN : List TermL → Nat
  | [] => 0
  | t :: r => aimedN r + if t.on = 0 then 0 else 1
def aimedAt : List TermL → Int
  | [] => 0
  | t :: r => if t.on = 0 then aimedAt r else t.on
def termsB (l : List TermL) : Bool := decide (l.length ≤ 4) && (l.all termB && decide (aimedN l ≤ 1))
def inB (x m : Int) : Bool := decide (0 ≤ x) && decide (x ≤ m)
def numsB (c : CardL) : Bool := inB c.kind 4 && (inB c.cost 9 && (inB c.power 20 && (inB c.tough 20 && (inB c.keys 31 && inB c.whn 3))))
def castB (c : CardL) : Bool := decide (c.power = 0) && (decide (c.tough = 0) && (decide (c.keys = 0) && (decide (c.whn = 0) && decide (0 < c.terms.length))))
def whenB (c : CardL) : Bool := if c.whn = 0 then decide (c.terms.length = 0) else if c.whn = 1 then decide (0 < c.terms.length) else decide (0 < c.terms.length) && decide (aimedAt c.terms = 0)
def landB (c : CardL) : Bool := decide (c.cost = 0) && (decide (c.power = 0) && (decide (c.tough = 0) && (decide (c.keys = 0) && (decide (c.whn = 0) && decide (c.terms.length = 0)))))
def kindB (c : CardL) : Bool := if c.kind = 1 then landB c else if c.kind = 2 then decide (1 ≤ c.tough) && whenB c else if c.kind = 3 then castB c else if c.kind = 4 then castB c && (decide (c.cost = 0) && decide (aimedAt c.terms = 0)) else false
def mayB (c : CardL) : Bool := numsB c && (termsB c.terms && kindB c)

theorem aimedN_append (l r : List TermL) : aimedN (l ++ r) = aimedN l + aimedN r := by
  induction l with
  | nil => simp [aimedN]
  | cons t l ih => simp only [List.cons_append, aimedN, ih]; omega
theorem aimedN_snoc (l : List TermL) (t : TermL) : aimedN (l ++ [t]) = aimedN l + if t.on = 0 then 0 else 1 := by
  rw [aimedN_append]; simp [aimedN]
theorem aimedN_le (l : List TermL) : aimedN l ≤ l.length := by
  induction l with
  | nil => simp [aimedN]
  | cons t l ih => simp only [aimedN, List.length_cons]; split <;> omega
theorem aimedAt_zero (l : List TermL) : aimedAt l = 0 ↔ aimedN l = 0 := by
  induction l with
  | nil => simp [aimedAt, aimedN]
  | cons t l ih =>
    simp only [aimedAt, aimedN]
    by_cases h : t.on = 0 <;> simp [h, ih]
theorem aimedAt_none (l r : List TermL) (h : aimedN l = 0) : aimedAt (l ++ r) = aimedAt r := by
  induction l with
  | nil => rfl
  | cons t l ih =>
    simp only [aimedN] at h
    by_cases ht : t.on = 0
    · simp only [List.cons_append, aimedAt, if_pos ht]; exact ih (by omega)
    · rw [if_neg ht] at h; omega
end Go.Proofs.YtgjojjhppgjkkaaGreat.Crd
namespace Go.Proofs.YtgjojjhppgjkkaaGreat.Crd
open Go.RowKit

def tval (t : TermL) : Value := .agg #[.int .i64 t.op, .int .i64 t.n, .int .i64 t.on]

set_option maxRecDepth 100000 in
set_option maxHeartbeats 400000 in
theorem mostOf_any (op : Int) (w : World) : Calls Tryz.prog 75 #[.int .i64 op] w fun e w' => e = .returned (.int .i64 (mostI op)) ∧ w = w' := by
  by_cases h6 : op = 6
  · subst h6
    go_enter Tryz.func75, Tryz.ntmps75
    go_wp2
    go_ret
    exact ⟨rfl, rfl⟩
  by_cases h7 : op = 7
  · subst h7
    go_enter Tryz.func75, Tryz.ntmps75
    go_wp2
    go_ret
    exact ⟨rfl, rfl⟩
  by_cases h9 : op = 9
  · subst h9
    go_enter Tryz.func75, Tryz.ntmps75
    go_wp2
    go_ret
    exact ⟨rfl, rfl⟩
  have hm : Hid (mostI op = 20) := Lib.hid (by unfold mostI; rw [if_neg (by omega)])
  rw [hm.out]
  have b6 : (op == 6) = false := beq_eq_false_iff_ne.2 h6
  have b7 : (op == 7) = false := beq_eq_false_iff_ne.2 h7
  have b9 : (op == 9) = false := beq_eq_false_iff_ne.2 h9
  clear h6 h7 h9
  go_enter Tryz.func75, Tryz.ntmps75
  go_wp2
  go_ret
  exact ⟨rfl, rfl⟩

/-- A slice of numbers, or none; what it holds. -/
def NumsAt (w : World) (v : Value) (l : List Int) : Prop :=
  (v = .slice none 0 0 ∧ l = []) ∨ ∃ b off cap, v = .slice (some ⟨b, off, none⟩) l.length cap ∧ b < w.heap.size ∧ ∀ i, i < l.length → w.cell? ⟨b, off + i, none⟩ = some (.int .i64 (l.getD i 0))
def RetNums (w : World) (l : List Int) (e : Ending) (w' : World) : Prop :=
  ∃ xa xn xc, e = .returned (.slice xa xn xc) ∧ NumsAt w' (.slice xa xn xc) l ∧ Below w.heap.size w w'

theorem nums1 (w : World) (a : Int) : NumsAt (w.alloc (.cells #[.int .i64 a] 3)) (.slice (some ⟨w.heap.size, 0, none⟩) 1 1) [a] :=
  .inr ⟨_, _, _, rfl, by simp, fun i hi => by
    obtain rfl : i = 0 := by simp at hi; omega
    simp [go_sem]⟩
theorem nums2 (w : World) (a b : Int) : NumsAt (w.alloc (.cells #[.int .i64 a, .int .i64 b] 3)) (.slice (some ⟨w.heap.size, 0, none⟩) 2 2) [a, b] :=
  .inr ⟨_, _, _, rfl, by simp, fun i hi => by
    have h : i = 0 ∨ i = 1 := by simp at hi; omega
    rcases h with rfl | rfl <;> simp [go_sem]⟩
theorem nums3 (w : World) (a b c : Int) : NumsAt (w.alloc (.cells #[.int .i64 a, .int .i64 b, .int .i64 c] 3)) (.slice (some ⟨w.heap.size, 0, none⟩) 3 3) [a, b, c] :=
  .inr ⟨_, _, _, rfl, by simp, fun i hi => by
    have h : i = 0 ∨ i = 1 ∨ i = 2 := by simp at hi; omega
    rcases h with rfl | rfl | rfl <;> simp [go_sem]⟩

set_option maxRecDepth 100000 in
set_option maxHeartbeats 800000 in
theorem aimsOf_any (op : Int) (w : World) : Calls Tryz.prog 77 #[.int .i64 op] w (RetNums w (aimsI op)) := by
  by_cases h1 : op = 1
  · subst h1
    go_enter Tryz.func77, Tryz.ntmps77
    go_wp2
    go_ret
    exact ⟨_, _, _, rfl, nums3 _ _ _ _, (Below.refl _ _).alloc (Nat.le_refl _) _⟩
  by_cases h2 : op = 2
  · subst h2
    go_enter Tryz.func77, Tryz.ntmps77
    go_wp2
    go_ret
    exact ⟨_, _, _, rfl, nums1 _ _, (Below.refl _ _).alloc (Nat.le_refl _) _⟩
  by_cases h3 : op = 3
  · subst h3
    go_enter Tryz.func77, Tryz.ntmps77
    go_wp2
    go_ret
    exact ⟨_, _, _, rfl, nums1 _ _, (Below.refl _ _).alloc (Nat.le_refl _) _⟩
  by_cases h8 : op = 8
  · subst h8
    go_enter Tryz.func77, Tryz.ntmps77
    go_wp2
    go_ret
    exact ⟨_, _, _, rfl, nums1 _ _, (Below.refl _ _).alloc (Nat.le_refl _) _⟩
  by_cases h4 : op = 4
  · subst h4
    go_enter Tryz.func77, Tryz.ntmps77
    go_wp2
    go_ret
    exact ⟨_, _, _, rfl, nums2 _ _ _, (Below.refl _ _).alloc (Nat.le_refl _) _⟩
  by_cases h5 : op = 5
  · subst h5
    go_enter Tryz.func77, Tryz.ntmps77
    go_wp2
    go_ret
    exact ⟨_, _, _, rfl, nums2 _ _ _, (Below.refl _ _).alloc (Nat.le_refl _) _⟩
  by_cases h6 : op = 6
  · subst h6
    go_enter Tryz.func77, Tryz.ntmps77
    go_wp2
    go_ret
    exact ⟨_, _, _, rfl, nums2 _ _ _, (Below.refl _ _).alloc (Nat.le_refl _) _⟩
  by_cases h7 : op = 7
  · subst h7
    go_enter Tryz.func77, Tryz.ntmps77
    go_wp2
    go_ret
    exact ⟨_, _, _, rfl, nums2 _ _ _, (Below.refl _ _).alloc (Nat.le_refl _) _⟩
  by_cases h9 : op = 9
  · subst h9
    go_enter Tryz.func77, Tryz.ntmps77
    go_wp2
    go_ret
    exact ⟨_, _, _, rfl, nums2 _ _ _, (Below.refl _ _).alloc (Nat.le_refl _) _⟩
  have hm : Hid (aimsI op = []) := Lib.hid (by unfold aimsI; rw [if_neg (by omega), if_neg (by omega), if_neg (by omega), if_neg (by omega)])
  rw [hm.out]
  have b1 : (op == 1) = false := beq_eq_false_iff_ne.2 h1
  have b2 : (op == 2) = false := beq_eq_false_iff_ne.2 h2
  have b3 : (op == 3) = false := beq_eq_false_iff_ne.2 h3
  have b4 : (op == 4) = false := beq_eq_false_iff_ne.2 h4
  have b5 : (op == 5) = false := beq_eq_false_iff_ne.2 h5
  have b6 : (op == 6) = false := beq_eq_false_iff_ne.2 h6
  have b7 : (op == 7) = false := beq_eq_false_iff_ne.2 h7
  have b8 : (op == 8) = false := beq_eq_false_iff_ne.2 h8
  have b9 : (op == 9) = false := beq_eq_false_iff_ne.2 h9
  clear h1 h2 h3 h4 h5 h6 h7 h8 h9
  go_enter Tryz.func77, Tryz.ntmps77
  go_wp2
  go_ret
  exact ⟨_, _, _, rfl, .inl ⟨rfl, rfl⟩, Below.refl _ _⟩

set_option maxHeartbeats 400000 in
theorem contains_any (v : Value) (l : List Int) (x : Int) (w : World) (hn : l.length ≤ 9223372036854775807) (h : NumsAt w v l) :
    Calls Tryz.prog 76 #[v, .int .i64 x] w fun e w' => e = .returned (.bool (l.contains x)) ∧ w = w' := by
  rcases h with ⟨rfl, rfl⟩ | ⟨b, off, cap, rfl, _, hc⟩
  · exact (Tryz.slices_Contains_int_empty none 0 x w).mono fun e w' ⟨he, hw⟩ => ⟨he, hw.symm⟩
  · refine (Tryz.slices_Contains_int b off l.length cap l x w (Nat.le_refl _) hn (fun j hj => hc j hj)).mono fun e w' ⟨he, hw⟩ => ⟨?_, hw.symm⟩
    rw [he, List.take_length]
end Go.Proofs.YtgjojjhppgjkkaaGreat.Crd
namespace Go.Proofs.YtgjojjhppgjkkaaGreat.Crd
open Go.RowKit

def cardE (b : Bool) : Int := if b then 0 else 8
theorem below_drewN {B : Nat} {a w : World} (h : Below B a w) (n : Nat) : Below B a (w.drewN n) := ⟨h.os, h.tape, h.output, h.size, h.block⟩

set_option maxRecDepth 100000 in
set_option maxHeartbeats 800000 in
theorem checkTerm_neg (op n on : Int) (w : World) (h0 : n < 0) :
    Calls Tryz.prog 45 #[.agg #[.int .i64 op, .int .i64 n, .int .i64 on]] w fun e w' => e = .returned (.int .i64 8) ∧ Below w.heap.size w w' := by
  have hd : decide (n < 0) = true := by simpa using h0
  go_enter Tryz.func45, Tryz.ntmps45
  go_wp2
  go_quiet (fail)
  go_wp2
  go_ret
  exact ⟨rfl, below_drewN ((Below.refl _ _).alloc (Nat.le_refl _) _) _⟩

set_option maxRecDepth 100000 in
set_option maxHeartbeats 800000 in
theorem checkTerm_great (op n on : Int) (w : World) (h0 : 0 ≤ n) (h1 : mostI op < n) :
    Calls Tryz.prog 45 #[.agg #[.int .i64 op, .int .i64 n, .int .i64 on]] w fun e w' => e = .returned (.int .i64 8) ∧ Below w.heap.size w w' := by
  have hd : decide (n < 0) = false := by simpa using h0
  have hd1 : decide (mostI op < n) = true := by simpa using h1
  go_enter Tryz.func45, Tryz.ntmps45
  go_wp2
  go_quiet ((go_at_call 75; exact Calls.quiet_of_same ((mostOf_any _ _).mono fun _ _ ⟨he, hw⟩ => ⟨he, hw.symm⟩)))
  go_wp2
  go_ret
  exact ⟨rfl, below_drewN ((Below.refl _ _).alloc (Nat.le_refl _) _) _⟩

theorem cell_stays {w w' : World} {p : Addr} {v : Value} (hb : Below w.heap.size w w') (h : w.cell? p = some v) : w'.cell? p = some v := by
  by_cases hp : p.block < w.heap.size
  · rw [hb.cell hp]; exact h
  · unfold World.cell? at h
    rw [Array.getElem?_eq_none (by omega)] at h
    simp at h
theorem keepS3 {A w1 w2 : World} {b : Nat} {v1 v2 v3 : Value} (hb : Below w1.heap.size w1 w2)
    (h : Below A.heap.size A w1 ∧ w1.cell? ⟨b, 0, none⟩ = some v1 ∧ w1.cell? ⟨b, 1, none⟩ = some v2 ∧ w1.cell? ⟨b, 2, none⟩ = some v3) :
    Below A.heap.size A w2 ∧ w2.cell? ⟨b, 0, none⟩ = some v1 ∧ w2.cell? ⟨b, 1, none⟩ = some v2 ∧ w2.cell? ⟨b, 2, none⟩ = some v3 :=
  ⟨h.1.trans (hb.mono h.1.size), cell_stays hb h.2.1, cell_stays hb h.2.2.1, cell_stays hb h.2.2.2⟩

theorem aimsI_len (op : Int) : (aimsI op).length ≤ 9223372036854775807 := by
  unfold aimsI
  repeat' split
  all_goals simp

set_option maxRecDepth 100000 in
set_option maxHeartbeats 1600000 in
theorem checkTerm_rest (op n on : Int) (w : World) (h0 : 0 ≤ n) (h1 : n ≤ mostI op) :
    Calls Tryz.prog 45 #[.agg #[.int .i64 op, .int .i64 n, .int .i64 on]] w fun e w' => e = .returned (.int .i64 (cardE ((aimsI op).contains on))) ∧ Below w.heap.size w w' := by
  have hd : decide (n < 0) = false := by simpa using h0
  have hd1 : decide (mostI op < n) = false := by simpa using h1
  obtain ⟨b, hb⟩ : ∃ b, (aimsI op).contains on = b := ⟨_, rfl⟩
  rw [hb]
  have HB := Lib.hid hb
  have hl := Lib.hid (aimsI_len op)
  clear hb
  cases b
  all_goals
   go_enter Tryz.func45, Tryz.ntmps45
   go_wp2
   go_region_held3 (fun w' => Below w.heap.size w w' ∧ w'.cell? ⟨w.heap.size, 0, none⟩ = some (.int .i64 op) ∧ w'.cell? ⟨w.heap.size, 1, none⟩ = some (.int .i64 n) ∧ w'.cell? ⟨w.heap.size, 2, none⟩ = some (.int .i64 on))
    (first | assumption | exact ⟨((Below.refl _ _).alloc (Nat.le_refl _) _).drew, by simp [go_sem], by simp [go_sem], by simp [go_sem]⟩ | exact keepS3 (by assumption) (by assumption))
    (first
      | (go_at_call 75; refine (mostOf_any _ _).mono ?_; rintro e w1 ⟨rfl, rfl⟩)
      | (go_at_call 77; refine (aimsOf_any _ _).mono ?_; rintro e w1 ⟨xa, xn, xc, rfl, hN, hb1⟩)
      | (go_at_call 76; refine (contains_any _ _ _ _ hl.out (by assumption)).mono ?_; rw [HB.out]; rintro e w1 ⟨rfl, rfl⟩))
   have hbb : Below w.heap.size w _ := And.left (by assumption)
   go_wp2
   go_ret
   exact ⟨rfl, hbb⟩

theorem checkTerm_any (t : TermL) (w : World) :
    Calls Tryz.prog 45 #[tval t] w fun e w' => e = .returned (.int .i64 (cardE (termB t))) ∧ Below w.heap.size w w' := by
  obtain ⟨op, n, on⟩ := t
  by_cases h0 : 0 ≤ n
  · by_cases h1 : n ≤ mostI op
    · rw [show termB ⟨op, n, on⟩ = (aimsI op).contains on by simp [termB, h0, h1]]
      exact checkTerm_rest op n on w h0 h1
    · rw [show termB ⟨op, n, on⟩ = false by simp [termB, h1]]
      exact checkTerm_great op n on w h0 (by omega)
  · rw [show termB ⟨op, n, on⟩ = false by simp [termB, h0]]
    exact checkTerm_neg op n on w (by omega)
end Go.Proofs.YtgjojjhppgjkkaaGreat.Crd
namespace Go.Proofs.YtgjojjhppgjkkaaGreat.Crd
open Go.RowKit

/-- A list of terms in memory, or no list; what it holds. -/
def TermsIs (w : World) (v : Value) (l : List TermL) : Prop :=
  (∃ xa cap, v = .slice xa 0 cap ∧ l = []) ∨ ∃ b off cap, v = .slice (some ⟨b, off, none⟩) l.length cap ∧ b < w.heap.size ∧
    ∀ i (h : i < l.length), w.cell? ⟨b, off + i * 3, none⟩ = some (.int .i64 l[i].op) ∧ w.cell? ⟨b, off + i * 3 + 1, none⟩ = some (.int .i64 l[i].n) ∧ w.cell? ⟨b, off + i * 3 + 2, none⟩ = some (.int .i64 l[i].on)
theorem TermsIs.later {w w' : World} {v : Value} {l : List TermL} (h : TermsIs w v l) (hb : Below w.heap.size w w') : TermsIs w' v l := by
  rcases h with h | ⟨b, off, cap, rfl, hlt, hc⟩
  · exact .inl h
  · exact .inr ⟨b, off, cap, rfl, Nat.lt_of_lt_of_le hlt hb.size, fun i hi => ⟨cell_stays hb (hc i hi).1, cell_stays hb (hc i hi).2.1, cell_stays hb (hc i hi).2.2⟩⟩

def cagg (c : CardL) (tv : Value) : Value := .agg #[.int .i64 c.kind, .int .i64 c.cost, .int .i64 c.power, .int .i64 c.tough, .int .i64 c.keys, .int .i64 c.whn, tv]
def CardIs (w : World) (v : Value) (c : CardL) : Prop := ∃ xa xn xc, v = cagg c (.slice xa xn xc) ∧ TermsIs w (.slice xa xn xc) c.terms

theorem below_alloc2 {A w : World} (h : Below A.heap.size A w) (o : Obj) : Below A.heap.size A (w.alloc o) := h.alloc h.size o
theorem take_last {α : Type} (l : List α) (k : Nat) (h : k < l.length) : l.take (k + 1) = l.take k ++ [l[k]] := List.take_succ_eq_append_getElem h
theorem aimed_here (l : List TermL) (k : Nat) (h : k < l.length) (h0 : aimedN (l.take k) = 0) (h1 : l[k].on ≠ 0) : aimedAt l = l[k].on := by
  have e : aimedAt l = aimedAt (l.take k ++ l[k] :: l.drop (k + 1)) := by
    rw [← List.drop_eq_getElem_cons h, List.take_append_drop]
  rw [e, aimedAt_none _ _ h0]
  simp [aimedAt, h1]
theorem ret_int {k : IntKind} {a b : Int} (h : a = b) : Ending.returned (.int k a) = .returned (.int k b) := by rw [h]
theorem ret_bool {a b : Bool} (h : a = b) : Ending.returned (.bool a) = .returned (.bool b) := by rw [h]
theorem aimed_next (l : List TermL) (k : Nat) (h : k < l.length) (h0 : aimedN (l.take k) = 0) (h1 : l[k].on = 0) : aimedN (l.take (k + 1)) = 0 := by
  rw [take_last l k h, aimedN_snoc, h0, if_pos h1]

set_option maxRecDepth 100000 in
set_option maxHeartbeats 800000 in
theorem aimed_some (c : CardL) (b off cap : Nat) (w : World) (hlen : c.terms.length ≤ 9223372036854775807)
    (hc : ∀ i (h : i < c.terms.length), w.cell? ⟨b, off + i * 3, none⟩ = some (.int .i64 c.terms[i].op) ∧ w.cell? ⟨b, off + i * 3 + 1, none⟩ = some (.int .i64 c.terms[i].n) ∧ w.cell? ⟨b, off + i * 3 + 2, none⟩ = some (.int .i64 c.terms[i].on)) :
    Calls Tryz.prog 138 #[cagg c (.slice (some ⟨b, off, none⟩) c.terms.length cap)] w fun e w' => e = .returned (.int .i64 (aimedAt c.terms)) ∧ Below w.heap.size w w' := by
  have HC := Lib.hid hc
  clear hc
  unfold cagg
  go_enter Tryz.func138, Tryz.ntmps138
  go_wp2
  go_loopw [8] (fun i wr => ∃ k : Nat, k ≤ c.terms.length ∧ i = .int .i64 k ∧ Hid (aimedN (c.terms.take k) = 0) ∧ Hid (Below w.heap.size w wr)) (fun i _ => c.terms.length - (intOf i).toNat)
  case atStart => exact ⟨0, Nat.zero_le _, rfl, Lib.hid rfl, Lib.hid ((Below.refl _ _).alloc (Nat.le_refl _) _)⟩
  case round =>
    obtain ⟨k, hk, rfl, HN, HB⟩ := hrel
    by_cases hlt : k < c.terms.length
    · have h3 := HC.out k hlt
      have c0 := cell_stays HB.out h3.1
      have c1 := cell_stays HB.out h3.2.1
      have c2 := cell_stays HB.out h3.2.2
      clear h3
      by_cases h0 : c.terms[k].on = 0
      · have HN2 := Lib.hid (aimed_next _ k hlt HN.out h0)
        have hb : (c.terms[k].on != 0) = false := by simp [h0]
        clear h0
        go_wp2
        go_roundw
        case rel => exact ⟨k + 1, by omega, by go_num, HN2, Lib.hid (below_alloc2 HB.out _)⟩
        case measure => simp [intOf]; omega
      · have HA := Lib.hid (aimed_here _ k hlt HN.out h0)
        have hb : (c.terms[k].on != 0) = true := by simp [h0]
        clear h0
        go_wp2
        go_ret
        exact ⟨ret_int HA.out.symm, below_alloc2 HB.out _⟩
    · obtain rfl : k = c.terms.length := by omega
      have HA : Hid (aimedAt c.terms = 0) := Lib.hid ((aimedAt_zero _).2 (by have := HN.out; rwa [List.take_length] at this))
      go_wp2
      go_ret
      exact ⟨ret_int HA.out.symm, HB.out⟩

set_option maxRecDepth 100000 in
set_option maxHeartbeats 800000 in
theorem aimed_none (c : CardL) (hn : c.terms = []) (xa : Option Addr) (cap : Nat) (w : World) :
    Calls Tryz.prog 138 #[cagg c (.slice xa 0 cap)] w fun e w' => e = .returned (.int .i64 (aimedAt c.terms)) ∧ Below w.heap.size w w' := by
  rw [hn]
  clear hn
  unfold cagg
  go_enter Tryz.func138, Tryz.ntmps138
  go_wp2
  go_loopw [8] (fun i wr => i = .int .i64 0 ∧ Hid (Below w.heap.size w wr)) (fun _ _ => 0)
  case atStart => exact ⟨rfl, Lib.hid ((Below.refl _ _).alloc (Nat.le_refl _) _)⟩
  case round =>
    obtain ⟨rfl, HB⟩ := hrel
    go_wp2
    go_ret
    exact ⟨rfl, HB.out⟩

theorem aimed_any {c : CardL} {v : Value} {w : World} (h : CardIs w v c) (hlen : c.terms.length ≤ 9223372036854775807) :
    Calls Tryz.prog 138 #[v] w fun e w' => e = .returned (.int .i64 (aimedAt c.terms)) ∧ Below w.heap.size w w' := by
  obtain ⟨xa, xn, xc, rfl, ⟨ya, cap, hs, he⟩ | ⟨b, off, cap, hs, _, hc⟩⟩ := h
  · rw [hs]; exact aimed_none c he ya cap w
  · rw [hs]; exact aimed_some c b off cap w hlen hc

def nums6 (c : CardL) : Value := .agg #[.int .i64 c.kind, .int .i64 c.cost, .int .i64 c.power, .int .i64 c.tough, .int .i64 c.keys, .int .i64 c.whn]

set_option maxRecDepth 100000 in
set_option maxHeartbeats 800000 in
theorem numbers_any (c : CardL) (xa : Option Addr) (xn xc : Nat) (w : World) :
    Calls Tryz.prog 118 #[cagg c (.slice xa xn xc)] w fun e w' => e = .returned (nums6 c) ∧ Below w.heap.size w w' := by
  unfold cagg nums6
  go_enter Tryz.func118, Tryz.ntmps118
  go_wp2
  exact bodyPost_ret (by simp [results, Tryz.results118, go_sem]) rfl ⟨rfl, below_alloc2 ((Below.refl _ _).alloc (Nat.le_refl _) _) _⟩
end Go.Proofs.YtgjojjhppgjkkaaGreat.Crd

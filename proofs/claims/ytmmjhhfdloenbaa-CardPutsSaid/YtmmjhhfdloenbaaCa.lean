/- Plain words on terms and cards (layer 2, card): which may be; no program is named here. -/
import Derived.Test.YtmmjhhfdloenbaaM
namespace Go.Proofs.Ytmmjhhfdloenbaa
open Go.RowKit

structure TermL where
  op : Int
  n : Int
  on : Int
structure CardL where
  kind : Int
  cost : Int
  power : Int
  tough : Int
  keys : Int
  whn : Int
  terms : List TermL

def mostI (op : Int) : Int := if op = 6 ∨ op = 7 ∨ op = 9 then 0 else 20
def aimsI (op : Int) : List Int := if op = 1 then [1, 2, 4] else if op = 2 ∨ op = 3 ∨ op = 8 then [0] else if op = 4 ∨ op = 5 then [1, 3] else if op = 6 ∨ op = 7 ∨ op = 9 then [1, 2] else []
def termB (t : TermL) : Bool := decide (0 ≤ t.n) && (decide (t.n ≤ mostI t.op) && (aimsI t.op).contains t.on)
def aimedN : List TermL → Nat
  | [] => 0
  | t :: r => aimedN r + if t.on = 0 then 0 else 1
def aimedAt : List TermL → Int
  | [] => 0
  | t :: r => if t.on = 0 then aimedAt r else t.on
def termsB (l : List TermL) : Bool := decide (l.length ≤ 4) && (l.all termB && decide (aimedN l ≤ 1))
def inB (x m : Int) : Bool := decide (0 ≤ x) && decide (x ≤ m)
def numsB (c : CardL) : Bool := inB c.kind 4 && (inB c.cost 9 && (inB c.power 20 && (inB c.tough 20 && (inB c.keys 31 && inB c.whn 3))))
def castB (c : CardL) : Bool := decide (c.power = 0) && (decide (c.tough = 0) && (decide (c.keys = 0) && (decide (c.whn = 0) && decide (0 < c.terms.length))))
def whenB (c : CardL) : Bool := if c.whn = 0 then decide (c.terms.length = 0) else if c.whn = 1 then decide (0 < c.terms.length) else decide (0 < c.terms.length) && decide (aimedAt c.terms = 0)
def landB (c : CardL) : Bool := decide (c.cost = 0) && (decide (c.power = 0) && (decide (c.tough = 0) && (decide (c.keys = 0) && (decide (c.whn = 0) && decide (c.terms.length = 0)))))
def kindB (c : CardL) : Bool := if c.kind = 1 then landB c else if c.kind = 2 then decide (1 ≤ c.tough) && whenB c else if c.kind = 3 then castB c else if c.kind = 4 then castB c && (decide (c.cost = 0) && decide (aimedAt c.terms = 0)) else false
def mayB (c : CardL) : Bool := numsB c && (termsB c.terms && kindB c)

theorem aimedN_append (l r : List TermL) : aimedN (l ++ r) = aimedN l + aimedN r := by
  induction l with
  | nil => simp [aimedN]
  | cons t l ih => simp only [List.cons_append, aimedN, ih]; omega
theorem aimedN_snoc (l : List TermL) (t : TermL) : aimedN (l ++ [t]) = aimedN l + if t.on = 0 then 0 else 1 := by
  rw [aimedN_append]; simp [aimedN]
theorem aimedN_le (l : List TermL) : aimedN l ≤ l.length := by
  induction l with
  | nil => simp [aimedN]
  | cons t l ih => simp only [aimedN, List.length_cons]; split <;> omega
theorem aimedAt_zero (l : List TermL) : aimedAt l = 0 ↔ aimedN l = 0 := by
  induction l with
  | nil => simp [aimedAt, aimedN]
  | cons t l ih =>
    simp only [aimedAt, aimedN]
    by_cases h : t.on = 0 <;> simp [h, ih]
theorem aimedAt_none (l r : List TermL) (h : aimedN l = 0) : aimedAt (l ++ r) = aimedAt r := by
  induction l with
  | nil => rfl
  | cons t l ih =>
    simp only [aimedN] at h
    by_cases ht : t.on = 0
    · simp only [List.cons_append, aimedAt, if_pos ht]; exact ih (by omega)
    · rw [if_neg ht] at h; omega
end Go.Proofs.Ytmmjhhfdloenbaa

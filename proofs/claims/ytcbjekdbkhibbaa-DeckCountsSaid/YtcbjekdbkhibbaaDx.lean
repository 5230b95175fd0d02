/- Plain facts on maps of counts (layer 3): what is still to come of a list, when its map is gone over; texts as an argument. -/
import Derived.Test.YtcbjekdbkhibbaaDw
import Derived.Test.YtcbjekdbkhibbaaDr
import Derived.Maps.RangeWalk
import Derived.Deep.Strs
namespace Go.Proofs.Ytcbjekdbkhibbaa
open Go.ChangeShapes Go.WideShapes Go.RowKit

def litI (x : Int) : Lit := .int .i64 x
def litS (x : ByteArray) : Lit := .string x.data.toList
/-- How many of a list's items have keys that are still to come. -/
def leftN {α : Type} (lit : α → Lit) (left : Lit → Bool) (l : List α) : Nat := l.countP fun x => left (lit x)
theorem leftN_none {α : Type} {lit : α → Lit} {left : Lit → Bool} {l : List α} (h : ∀ kl, left kl = false) : leftN lit left l = 0 := by
  unfold leftN
  rw [List.countP_eq_zero]
  intro x _
  rw [h]; decide
theorem leftN_all {α : Type} {lit : α → Lit} {left : Lit → Bool} {l : List α} (h : ∀ x ∈ l, left (lit x) = true) : leftN lit left l = l.length := by
  unfold leftN
  rw [List.countP_eq_length]
  exact h
theorem leftN_step {α : Type} [BEq α] [LawfulBEq α] {lit : α → Lit} (hl : ∀ x y, (lit x).sameKey (lit y) = (x == y)) {left : Lit → Bool} {x0 : α} (h0 : left (lit x0) = true) : ∀ l : List α,
    leftN lit left l = leftN lit (fun z => left z && !z.sameKey (lit x0)) l + l.count x0
  | [] => rfl
  | x :: l => by
    have ih := leftN_step hl h0 l
    unfold leftN at ih ⊢
    rw [List.countP_cons, List.countP_cons, List.count_cons, ih]
    simp only [hl]
    cases hx : (x == x0)
    · simp; omega
    · have : x = x0 := eq_of_beq hx
      subst this
      simp [h0]; omega
theorem same_litI (x y : Int) : (litI x).sameKey (litI y) = (x == y) := by
  unfold litI Lit.sameKey
  rw [Bool.eq_iff_iff]; simp
theorem same_litS (x y : ByteArray) : (litS x).sameKey (litS y) = (x == y) := by
  unfold litS Lit.sameKey
  rw [Bool.eq_iff_iff, beq_iff_eq, beq_iff_eq]
  exact ⟨fun h => ba_inj h, fun h => by rw [h]⟩
theorem cnt_has {D : DataW Unit} {x : Int} {l : List Int} (hat : D.atKey (.int .i64 x) (.lit (.int .i64 0)) = .lit (.int .i64 (l.count x))) (hx : x ∈ l) : Maps.has D (litI x) = true := by
  cases h : Maps.has D (litI x)
  · have e := Maps.atKey_of_not_has h (.lit (.int .i64 0))
    unfold litI at e
    rw [hat] at e
    injection e with e
    injection e with _ e
    have := List.count_pos_iff.2 hx
    omega
  · rfl
theorem cnt_hasS {D : DataW Unit} {x : ByteArray} {l : List ByteArray} (hat : D.atKey (.string x.data.toList) (.lit (.int .i64 0)) = .lit (.int .i64 (l.count x))) (hx : x ∈ l) : Maps.has D (litS x) = true := by
  cases h : Maps.has D (litS x)
  · have e := Maps.atKey_of_not_has h (.lit (.int .i64 0))
    unfold litS at e
    rw [hat] at e
    injection e with e
    injection e with _ e
    have := List.count_pos_iff.2 hx
    omega
  · rfl
set_option maxRecDepth 100000 in
theorem cnt_lookupS {w : World} {b n : Nat} {l : List ByteArray} {x : ByteArray} (h : CntMapS w b n l) (hx : x.size ≤ maxLen) : (Instr.lookup 106 (.map (some b)) (.string x) false).run Try.prog w = .ok (.int .i64 (l.count x)) w := by
  obtain ⟨D, hown, _, hat, _⟩ := h
  obtain ⟨c, hrun, hc, _⟩ := hown.lookup_int (Maps.string_keyed Try.underlying9) Try.underlying106 Try.underlying3 (Try.zeroValue3 _) (keyOf_str Try.underlying9 hx)
  have e := hc.symm.trans (hat x hx)
  injection e with e
  injection e with _ e
  rw [hrun, e]
theorem mostS_pos (l : List ByteArray) : (decide (0 < (mostLS l).2)) = decide (0 < l.length) := by
  have key : ∀ (r : List ByteArray) (a : ByteArray × Nat), a.2 ≤ (r.foldl (mostStepS l) a).2 := by
    intro r
    induction r with
    | nil => intro a; exact Nat.le_refl _
    | cons x r ih =>
      intro a
      refine Nat.le_trans ?_ (ih _)
      unfold mostStepS
      split
      · simp only; omega
      · exact Nat.le_refl _
  cases hl : l with
  | nil => rfl
  | cons x r =>
    have h1 : 1 ≤ (mostLS (x :: r)).2 := by
      unfold mostLS mostFromS
      rw [List.foldl_cons]
      have := key
      rw [hl] at this
      refine Nat.le_trans ?_ (this r _)
      unfold mostStepS
      rw [if_pos (by simp only; omega)]
      simp only; omega
    simp; omega
theorem most_step (l : List Int) (a : Int × Nat) {x : Int} (hx : x ∈ l) : mostStep l a x = if a.2 < l.count x then (x, l.count x) else a := by
  have := List.count_pos_iff.2 hx
  unfold mostStep
  rw [show max (l.count x) 1 = l.count x by omega]
theorem cellsS : Try.prog.cellsOf 9 = 1 := by kernel_rfl
set_option maxRecDepth 100000 in
theorem open_texts {H : Type} {enc : TypeId × Value → H} {w : World} {base : Nat} {v : Value} {d : DataW H} {p : List MemPlace} (hv : Value.okWide Try.prog w .any base 103 v) (h : DataW.Trod enc Try.prog w 0 (fun _ => true) true 103 v d p) :
    ∃ l : List ByteArray, StrsAt w v l ∧ l.length ≤ maxLen ∧ WfS l := by
  obtain ⟨a0, len0, cap0, rfl⟩ := okWide_slice Try.underlying103 hv
  obtain ⟨fuel, h⟩ := h
  rcases Go.Deep.open_strs Try.underlying103 Try.underlying9 cellsS h with ⟨hcs, _⟩ | ⟨ad, len', cap', m, Sx, hcs, _, hl, hm, hmm, _, hcell⟩
  · exact ⟨[], .inl ⟨_, _, (List.cons.inj hcs).1, rfl⟩, Nat.zero_le _, fun x hx => by cases hx⟩
  · have hv2 : Value.slice a0 len0 cap0 = .slice (some ad) len' cap' := (List.cons.inj hcs).1
    rw [hv2]
    simp only [if_true] at hmm
    by_cases h0 : len' = 0
    · subst h0
      exact ⟨[], .inl ⟨_, _, rfl, rfl⟩, Nat.zero_le _, fun x hx => by cases hx⟩
    · have hlen : ((List.range len').map Sx).length = len' := by rw [List.length_map, List.length_range]
      obtain ⟨b, off, spot⟩ := ad
      have hspot : spot = none := by simpa [Addr.add] using World.cell?_spot (hcell 0 (by omega)).1
      subst hspot
      refine ⟨(List.range len').map Sx, .inr ⟨b, off, cap', by rw [hlen], ?_, fun i hi => ?_⟩, by rw [hlen]; omega, fun x hx => ?_⟩
      · have := (hcell 0 (by omega)).1
        rw [addr_at] at this
        exact World.block_lt_of_cell? w _ this
      · rw [hlen] at hi
        have := (hcell i (by omega)).1
        rw [addr_at] at this
        rw [this]
        simp
      · obtain ⟨i, hi, rfl⟩ := List.mem_map.1 hx
        exact (hcell i (by have := List.mem_range.1 hi; omega)).2
end Go.Proofs.Ytcbjekdbkhibbaa

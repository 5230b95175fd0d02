/- A set of numbers in a map of the call's own: what the law of all orders (layer 4) marks; bounds of the codes. -/
import Derived.Test.YtokjghfpdolojaaEu
import Derived.Test.YtokjghfpdolojaaEm
import Derived.Maps.OwnIn
namespace Go.Proofs.Ytokjghfpdolojaa
open Go.RowKit

theorem bool_inv {v : Value} {z : DataW Unit × List MemPlace} (h : plainElem Try.prog 4 v = some z) : ∃ x, v = .bool x ∧ z = (.lit (.bool x), []) := by
  unfold plainElem at h
  rw [Try.underlying4] at h
  cases v <;> simp at h
  exact ⟨_, rfl, h.symm⟩
theorem key_int (x : Int) : WideAt.IsKeyLit (.int .i64 x) := by first | trivial | simp [WideAt.IsKeyLit] | constructor
def SeenAt (w : World) (b : Nat) (l : List Int) : Prop :=
  ∃ D : DataW Unit, w.ownsMap Try.prog 3 (plainElem Try.prog 4) b l.length D ∧ Maps.Tidy D ∧ (∀ x : Int, D.atKey (.int .i64 x) (.lit (.bool false)) = .lit (.bool (decide (x ∈ l)))) ∧ (∀ x : Int, Maps.has D (.int .i64 x) = decide (x ∈ l)) ∧ Maps.size D = l.length
theorem SeenAt.later {w w' : World} {b : Nat} {l : List Int} (h : SeenAt w b l) (hbw : Below w.heap.size w w') : SeenAt w' b l := by
  obtain ⟨D, ⟨es, clock, hb, rest⟩, r⟩ := h
  exact ⟨D, ⟨es, clock, (hbw.block b (Array.getElem?_eq_some_iff.1 hb).1).trans hb, rest⟩, r⟩
theorem SeenAt.lt {w : World} {b : Nat} {l : List Int} (h : SeenAt w b l) : b < w.heap.size := by
  obtain ⟨D, ⟨es, clock, hb, rest⟩, r⟩ := h
  exact (Array.getElem?_eq_some_iff.1 hb).1
theorem SeenAt.new (w : World) : SeenAt (w.alloc (.map #[] 0)) w.heap.size [] :=
  ⟨.map [], World.ownsMap_made w Try.prog 3 (plainElem (H := Unit) Try.prog 4), Maps.tidy_empty, fun _ => rfl, fun _ => rfl, rfl⟩
theorem SeenAt.look {w : World} {b : Nat} {l : List Int} {x : Int} (h : SeenAt w b l) (hx : x ∉ l) (hw : (Lit.int .i64 x).wf = true) :
    (Instr.lookup 42 (.map (some b)) (.int .i64 x) false).run Try.prog w = .ok (.bool false) w := by
  obtain ⟨D, hown, _, hat, _⟩ := h
  obtain ⟨v, ps, hrun, hv⟩ := hown.lookup (Maps.int_keyed Try.underlying3) Try.underlying42 (Try.zeroValue4 w) (plainElem_bool Try.underlying4 false) (Maps.keyOf_int_mk Try.underlying3 hw)
  obtain ⟨y, rfl, hz⟩ := bool_inv hv
  have h1 := congrArg Prod.fst hz
  simp only [hat x] at h1
  injection h1 with h1
  injection h1 with h1
  rw [hrun, ← h1]
  simp [hx]
theorem SeenAt.mark {w : World} {b : Nat} {l : List Int} {x : Int} (h : SeenAt w b l) (hx : x ∉ l) (hw : (Lit.int .i64 x).wf = true) (hl : l.length < 1000) :
    ∃ w', (Instr.mapUpdate 42 (.map (some b)) (.int .i64 x) (.bool true)).run Try.prog w = .ok () w' ∧ SeenAt w' b (l ++ [x]) ∧ w.grownBy w' (some b) := by
  obtain ⟨D, hown, htd, hat, hhas, hsz⟩ := h
  obtain ⟨w', hrun, hown', hg⟩ := hown.update (Maps.int_keyed Try.underlying3) Try.underlying42 (by unfold maxLen; omega) (Maps.keyOf_int_mk Try.underlying3 hw) (plainElem_bool Try.underlying4 true)
  refine ⟨w', hrun, ⟨_, by simpa using hown', htd.put (key_int x) _, fun y => ?_, fun y => ?_, ?_⟩, hg⟩
  · by_cases hxy : y = x
    · subst hxy
      rw [Maps.atKey_put_same htd.isMap (key_int y)]
      simp
    · rw [Maps.atKey_put_other (by intro e; injection e with _ e; exact hxy e), hat y]
      simp [hxy]
  · by_cases hxy : y = x
    · subst hxy
      rw [Maps.has_put_same htd.isMap (key_int y)]
      simp
    · rw [Maps.has_put_other (by intro e; injection e with _ e; exact hxy e), hhas y]
      simp [hxy]
  · rw [Maps.size_put htd, hhas x]
    simp [hx, hsz]
theorem SeenAt.len {w : World} {b : Nat} {l : List Int} (h : SeenAt w b l) : ∃ D : DataW Unit, w.ownsMap Try.prog 3 (plainElem Try.prog 4) b l.length D ∧ Maps.size D = l.length := by
  obtain ⟨D, h1, _, _, _, h2⟩ := h
  exact ⟨D, h1, h2⟩

theorem codeL_snoc (l : List Int) (x : Int) : codeL (l ++ [x]) = 10 * codeL l + x := by simp [codeL, List.foldl_append]
theorem code_bd_from : ∀ (l : List Int) (a : Int), (∀ x ∈ l, 0 ≤ x ∧ x < 10) → 0 ≤ a → 0 ≤ l.foldl (fun c x => 10 * c + x) a ∧ l.foldl (fun c x => 10 * c + x) a + 1 ≤ (a + 1) * (10 ^ l.length : Int)
  | [], a, _, h0 => by simp; exact h0
  | x :: l, a, h, h0 => by
    have h2 := h x (by simp)
    have h1 := code_bd_from l (10 * a + x) (fun y hy => h y (by simp [hy])) (by omega)
    refine ⟨h1.1, Int.le_trans h1.2 ?_⟩
    have h3 : (10 * a + x + 1) * (10 ^ l.length : Int) ≤ ((a + 1) * 10) * (10 ^ l.length : Int) := Int.mul_le_mul_of_nonneg_right (by omega) (Int.pow_nonneg (by decide))
    rw [List.length_cons, Int.pow_succ]
    have h4 : (a + 1) * 10 * (10 ^ l.length : Int) = (a + 1) * ((10 ^ l.length : Int) * 10) := by rw [Int.mul_assoc, Int.mul_comm 10 (10 ^ l.length : Int)]
    rw [h4] at h3
    exact h3
theorem code_bd {l : List Int} (h : ∀ x ∈ l, 0 ≤ x ∧ x < 10) (hl : l.length ≤ 5) : 0 ≤ codeL l ∧ codeL l < 100000 := by
  have h1 := code_bd_from l 0 h (Int.le_refl _)
  have h2 : ∀ k, k ≤ 5 → ((10 : Int) ^ k) ≤ 100000 := by decide
  have h3 := h2 l.length hl
  unfold codeL
  omega
theorem shuf_in {j : Nat} {m : List Int} {x : Int} (hx : x ∈ shufL (j - 1) (placesL j) m) : 0 ≤ x ∧ x < j := by
  have h1 : 0 < (shufL (j - 1) (placesL j) m).count x := List.count_pos_iff.2 hx
  have h2 : (shufL ((placesL j).length - 1) (placesL j) m).count x = (placesL j).count x := shuf_counts x (placesL j) m
  rw [placesL_len] at h2
  rw [h2] at h1
  have h3 := List.count_pos_iff.1 h1
  simp only [placesL, List.mem_map, List.mem_range] at h3
  obtain ⟨k, hk, rfl⟩ := h3
  omega
theorem drawsC_small : ∀ {i : Nat} (c : Nat), i ≤ 1 → drawsC i c = []
  | 0, _, _ => rfl
  | 1, _, _ => rfl
  | i + 2, _, h => by omega
end Go.Proofs.Ytokjghfpdolojaa

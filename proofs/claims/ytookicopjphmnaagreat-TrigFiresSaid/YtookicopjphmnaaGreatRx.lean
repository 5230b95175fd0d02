/- hydralaw13.Table, with where what it made lies; a number masked by 7 (layer 13). -/
import Derived.Test.YtookicopjphmnaaGreatRa
import Derived.Laws.BitsAllLaws
import Derived.Laws.BitsLemmas
namespace Go.Proofs.YtookicopjphmnaaGreat
open Go.RowKit Go.Maps

/-- A card in a row, whose terms lie in blocks from lo on. -/
def CardT (w : World) (lo b o : Nat) (c : Crd.CardL) : Prop :=
  ∃ ya yc, w.cell? ⟨b, o, none⟩ = some (.int .i64 c.kind) ∧ w.cell? ⟨b, o + 1, none⟩ = some (.int .i64 c.cost) ∧ w.cell? ⟨b, o + 2, none⟩ = some (.int .i64 c.power) ∧ w.cell? ⟨b, o + 3, none⟩ = some (.int .i64 c.tough) ∧
    w.cell? ⟨b, o + 4, none⟩ = some (.int .i64 c.keys) ∧ w.cell? ⟨b, o + 5, none⟩ = some (.int .i64 c.whn) ∧ w.cell? ⟨b, o + 6, none⟩ = some (.slice ya c.terms.length yc) ∧ Crd.TermsIs w (.slice ya c.terms.length yc) c.terms ∧ ∀ p, ya = some p → lo ≤ p.block
def RetTab13 (w : World) (e : Ending) (w' : World) : Prop := ∃ tb, e = .returned (.slice (some ⟨tb, 0, none⟩) 6 6) ∧ w.heap.size ≤ tb ∧ (∀ i (h : i < 6), CardT w' w.heap.size tb (i * 7) (T13[i]'h)) ∧ Below w.heap.size w w'
theorem terms_set {w : World} {ya : Option Addr} {n yc q j : Nat} {u : Value} {l : List Crd.TermL} (h : Crd.TermsIs w (.slice ya n yc) l) (hq : ∀ p, ya = some p → p.block ≠ q) : Crd.TermsIs (w.setCell ⟨q, j, none⟩ u) (.slice ya n yc) l := by
  rcases h with h | ⟨b, off, cap, e, hlt, hc⟩
  · exact .inl h
  · injection e with e1 e2 e3
    have hb : b ≠ q := hq _ e1
    have hk : ∀ i, (w.setCell ⟨q, j, none⟩ u).cell? ⟨b, i, none⟩ = w.cell? ⟨b, i, none⟩ := fun i => World.cell?_of_block (a := ⟨b, i, none⟩) (heap_setCell_other w ⟨q, j, none⟩ b _ hb)
    refine .inr ⟨b, off, cap, by rw [e1, e2, e3], by simpa using hlt, fun i hi => ?_⟩
    obtain ⟨c0, c1, c2⟩ := hc i hi
    exact ⟨(hk _).trans c0, (hk _).trans c1, (hk _).trans c2⟩
set_option maxRecDepth 100000 in
set_option maxHeartbeats 4000000 in
theorem table13_at (w : World) : Calls Tryz.prog 19 #[] w (RetTab13 w) := by
  go_enter Tryz.func19, Tryz.ntmps19
  go_wp2
  go_ret
  refine ⟨_, rfl, ?_, ?_, below_alloc2 (below_alloc2 (below_alloc2 (below_alloc2 (below_new w _) _) _) _) _⟩
  · show w.heap.size ≤ w.heap.size + 1 + 1 + 1 + 1; omega
  have s0 := heap_alloc_new w (.cells #[.int .i64 8, .int .i64 2, .int .i64 0] 58)
  have hc0 := fun j => cell_of_row _ w.heap.size j _ _ _ s0
  obtain ⟨w1, hw1⟩ : ∃ w1, w.alloc (.cells #[.int .i64 8, .int .i64 2, .int .i64 0] 58) = w1 := ⟨_, rfl⟩
  rw [hw1] at hc0
  have z1 : w1.heap.size = w.heap.size + 1 := by rw [← hw1, World.size_alloc]
  rw [hw1]
  have s1 := heap_alloc_new w1 (.cells #[.int .i64 2, .int .i64 1, .int .i64 0] 58)
  have hc1 := fun j => cell_of_row _ w1.heap.size j _ _ _ s1
  have b1 := below_new w1 (.cells #[.int .i64 2, .int .i64 1, .int .i64 0] 58)
  obtain ⟨w2, hw2⟩ : ∃ w2, w1.alloc (.cells #[.int .i64 2, .int .i64 1, .int .i64 0] 58) = w2 := ⟨_, rfl⟩
  rw [hw2] at hc1 b1
  have z2 : w2.heap.size = w.heap.size + 2 := by rw [← hw2, World.size_alloc, z1]
  rw [hw2]
  have s2 := heap_alloc_new w2 (.cells #[.int .i64 1, .int .i64 1, .int .i64 2] 58)
  have hc2 := fun j => cell_of_row _ w2.heap.size j _ _ _ s2
  have b2 := below_new w2 (.cells #[.int .i64 1, .int .i64 1, .int .i64 2] 58)
  obtain ⟨w3, hw3⟩ : ∃ w3, w2.alloc (.cells #[.int .i64 1, .int .i64 1, .int .i64 2] 58) = w3 := ⟨_, rfl⟩
  rw [hw3] at hc2 b2
  have z3 : w3.heap.size = w.heap.size + 3 := by rw [← hw3, World.size_alloc, z2]
  rw [hw3]
  have s3 := heap_alloc_new w3 (.cells #[.int .i64 1, .int .i64 3, .int .i64 4, .int .i64 2, .int .i64 1, .int .i64 0] 58)
  have hc3 := fun j => cell_of_row _ w3.heap.size j _ _ _ s3
  have b3 := below_new w3 (.cells #[.int .i64 1, .int .i64 3, .int .i64 4, .int .i64 2, .int .i64 1, .int .i64 0] 58)
  obtain ⟨w4, hw4⟩ : ∃ w4, w3.alloc (.cells #[.int .i64 1, .int .i64 3, .int .i64 4, .int .i64 2, .int .i64 1, .int .i64 0] 58) = w4 := ⟨_, rfl⟩
  rw [hw4] at hc3 b3
  have z4 : w4.heap.size = w.heap.size + 4 := by rw [← hw4, World.size_alloc, z3]
  rw [hw4]
  rw [z1] at hc1
  rw [z2] at hc2
  rw [z3] at hc3
  have s4 := heap_alloc_new w4 (.cells #[.int .i64 1, .int .i64 0, .int .i64 0, .int .i64 0, .int .i64 0, .int .i64 0, .slice none 0 0, .int .i64 2, .int .i64 0, .int .i64 1, .int .i64 1, .int .i64 0, .int .i64 2, .slice (some ⟨w.heap.size, 0, none⟩) 1 1, .int .i64 2, .int .i64 0, .int .i64 2, .int .i64 1, .int .i64 0, .int .i64 3, .slice (some ⟨w.heap.size + 1, 0, none⟩) 1 1, .int .i64 2, .int .i64 0, .int .i64 1, .int .i64 2, .int .i64 0, .int .i64 1, .slice (some ⟨w.heap.size + 1 + 1, 0, none⟩) 1 1, .int .i64 2, .int .i64 0, .int .i64 1, .int .i64 2, .int .i64 0, .int .i64 1, .slice (some ⟨w.heap.size + 1 + 1 + 1, 0, none⟩) 2 2, .int .i64 2, .int .i64 0, .int .i64 2, .int .i64 2, .int .i64 0, .int .i64 0, .slice none 0 0] 53)
  have b4 := below_new w4 (.cells #[.int .i64 1, .int .i64 0, .int .i64 0, .int .i64 0, .int .i64 0, .int .i64 0, .slice none 0 0, .int .i64 2, .int .i64 0, .int .i64 1, .int .i64 1, .int .i64 0, .int .i64 2, .slice (some ⟨w.heap.size, 0, none⟩) 1 1, .int .i64 2, .int .i64 0, .int .i64 2, .int .i64 1, .int .i64 0, .int .i64 3, .slice (some ⟨w.heap.size + 1, 0, none⟩) 1 1, .int .i64 2, .int .i64 0, .int .i64 1, .int .i64 2, .int .i64 0, .int .i64 1, .slice (some ⟨w.heap.size + 1 + 1, 0, none⟩) 1 1, .int .i64 2, .int .i64 0, .int .i64 1, .int .i64 2, .int .i64 0, .int .i64 1, .slice (some ⟨w.heap.size + 1 + 1 + 1, 0, none⟩) 2 2, .int .i64 2, .int .i64 0, .int .i64 2, .int .i64 2, .int .i64 0, .int .i64 0, .slice none 0 0] 53)
  have hc := fun j => cell_of_row _ w4.heap.size j _ _ _ s4
  rw [z4] at hc
  obtain ⟨W, hW⟩ : ∃ W, w4.alloc (.cells #[.int .i64 1, .int .i64 0, .int .i64 0, .int .i64 0, .int .i64 0, .int .i64 0, .slice none 0 0, .int .i64 2, .int .i64 0, .int .i64 1, .int .i64 1, .int .i64 0, .int .i64 2, .slice (some ⟨w.heap.size, 0, none⟩) 1 1, .int .i64 2, .int .i64 0, .int .i64 2, .int .i64 1, .int .i64 0, .int .i64 3, .slice (some ⟨w.heap.size + 1, 0, none⟩) 1 1, .int .i64 2, .int .i64 0, .int .i64 1, .int .i64 2, .int .i64 0, .int .i64 1, .slice (some ⟨w.heap.size + 1 + 1, 0, none⟩) 1 1, .int .i64 2, .int .i64 0, .int .i64 1, .int .i64 2, .int .i64 0, .int .i64 1, .slice (some ⟨w.heap.size + 1 + 1 + 1, 0, none⟩) 2 2, .int .i64 2, .int .i64 0, .int .i64 2, .int .i64 2, .int .i64 0, .int .i64 0, .slice none 0 0] 53) = W := ⟨_, rfl⟩
  have zz : W.heap.size = w.heap.size + 5 := by rw [← hW, World.size_alloc, z4]
  rw [hW] at hc b4
  rw [hW]
  clear s4 hW s0 s1 s2 s3 hw1 hw2 hw3 hw4
  have g0 : ∀ {a v}, w1.cell? a = some v → W.cell? a = some v := fun h => cell_stays b4 (cell_stays b3 (cell_stays b2 (cell_stays b1 h)))
  have g1 : ∀ {a v}, w2.cell? a = some v → W.cell? a = some v := fun h => cell_stays b4 (cell_stays b3 (cell_stays b2 h))
  have g2 : ∀ {a v}, w3.cell? a = some v → W.cell? a = some v := fun h => cell_stays b4 (cell_stays b3 h)
  have g3 : ∀ {a v}, w4.cell? a = some v → W.cell? a = some v := fun h => cell_stays b4 h
  show ∀ i (h : i < 6), CardT W w.heap.size (w.heap.size + 1 + 1 + 1 + 1) (i * 7) (T13[i]'h)
  intro i hi
  rcases (show i = 0 ∨ i = 1 ∨ i = 2 ∨ i = 3 ∨ i = 4 ∨ i = 5 by omega) with rfl | rfl | rfl | rfl | rfl | rfl
  · exact ⟨none, 0, hc 0, hc 1, hc 2, hc 3, hc 4, hc 5, hc 6, .inl ⟨none, 0, rfl, rfl⟩, fun p e => by cases e⟩
  · refine ⟨some ⟨w.heap.size, 0, none⟩, 1, hc 7, hc 8, hc 9, hc 10, hc 11, hc 12, hc 13, .inr ⟨w.heap.size + 0, 0, 1, rfl, by omega, fun j hj => ?_⟩, fun p e => by cases e; dsimp only; omega⟩
    obtain rfl : j = 0 := by simp [T13] at hj; omega
    exact ⟨g0 (hc0 0), g0 (hc0 1), g0 (hc0 2)⟩
  · refine ⟨some ⟨w.heap.size + 1, 0, none⟩, 1, hc 14, hc 15, hc 16, hc 17, hc 18, hc 19, hc 20, .inr ⟨w.heap.size + 1, 0, 1, rfl, by omega, fun j hj => ?_⟩, fun p e => by cases e; dsimp only; omega⟩
    obtain rfl : j = 0 := by simp [T13] at hj; omega
    exact ⟨g1 (hc1 0), g1 (hc1 1), g1 (hc1 2)⟩
  · refine ⟨some ⟨w.heap.size + 1 + 1, 0, none⟩, 1, hc 21, hc 22, hc 23, hc 24, hc 25, hc 26, hc 27, .inr ⟨w.heap.size + 2, 0, 1, rfl, by omega, fun j hj => ?_⟩, fun p e => by cases e; dsimp only; omega⟩
    obtain rfl : j = 0 := by simp [T13] at hj; omega
    exact ⟨g2 (hc2 0), g2 (hc2 1), g2 (hc2 2)⟩
  · refine ⟨some ⟨w.heap.size + 1 + 1 + 1, 0, none⟩, 2, hc 28, hc 29, hc 30, hc 31, hc 32, hc 33, hc 34, .inr ⟨w.heap.size + 3, 0, 2, rfl, by omega, fun j hj => ?_⟩, fun p e => by cases e; dsimp only; omega⟩
    rcases (show j = 0 ∨ j = 1 by simp [T13] at hj; omega) with rfl | rfl
    · exact ⟨g3 (hc3 0), g3 (hc3 1), g3 (hc3 2)⟩
    · exact ⟨g3 (hc3 3), g3 (hc3 4), g3 (hc3 5)⟩
  · exact ⟨none, 0, hc 35, hc 36, hc 37, hc 38, hc 39, hc 40, hc 41, .inl ⟨none, 0, rfl, rfl⟩, fun p e => by cases e⟩
theorem and7 (x : Int) : ∃ s : Nat, s < 8 ∧ bits .and .i64 x 7 = (s : Int) := by
  have h : (BitVec.ofInt 64 x &&& BitVec.ofInt 64 7).toNat ≤ 7 := by
    rw [BitVec.toNat_and]
    have h3 : (BitVec.ofInt 64 7).toNat = 7 := by decide
    have := Nat.and_le_right (n := (BitVec.ofInt 64 x).toNat) (m := (BitVec.ofInt 64 7).toNat)
    omega
  refine ⟨(BitVec.ofInt 64 x &&& BitVec.ofInt 64 7).toNat, by omega, ?_⟩
  show IntKind.i64.wrap ((BitVec.ofInt 64 x &&& BitVec.ofInt 64 7).toNat : Int) = _
  rw [IntKind.wrap_i64]
  omega
end Go.Proofs.YtookicopjphmnaaGreat

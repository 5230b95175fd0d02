/- Triples of numbers in memory; hydralaw13's Table, and its Board: objects of that table, added one by one, on sides (layer 13). -/
import Derived.Test.YtdlkdilgjmmlaaaDoorCd
import Derived.Test.YtdlkdilgjmmlaaaDoorFh
namespace Go.Proofs.YtdlkdilgjmmlaaaDoor
open Go.RowKit Go.Maps

structure TriL where
  x : Int
  y : Int
  z : Int
instance : DecidableEq TriL := fun a b => by
  cases a; cases b
  rw [TriL.mk.injEq]; infer_instance
def TriCells (w : World) (b o : Nat) (t : TriL) : Prop := w.cell? ⟨b, o, none⟩ = some (.int .i64 t.x) ∧ w.cell? ⟨b, o + 1, none⟩ = some (.int .i64 t.y) ∧ w.cell? ⟨b, o + 2, none⟩ = some (.int .i64 t.z)
def TrisAt (w : World) (v : Value) (l : List TriL) : Prop :=
  (∃ xa cap, v = .slice xa 0 cap ∧ l = []) ∨ ∃ b off cap, v = .slice (some ⟨b, off, none⟩) l.length cap ∧ b < w.heap.size ∧ ∀ i (h : i < l.length), TriCells w b (off + i * 3) l[i]
theorem TriCells.later {w w' : World} {b o : Nat} {x : TriL} (h : TriCells w b o x) (hb : Below w.heap.size w w') : TriCells w' b o x := by
  obtain ⟨c0, c1, c2⟩ := h
  exact ⟨cell_stays hb c0, cell_stays hb c1, cell_stays hb c2⟩
theorem TrisAt.later {w w' : World} {v : Value} {l : List TriL} (h : TrisAt w v l) (hb : Below w.heap.size w w') : TrisAt w' v l := by
  rcases h with h | ⟨b, off, cap, rfl, hlt, hc⟩
  · exact .inl h
  · exact .inr ⟨b, off, cap, rfl, Nat.lt_of_lt_of_le hlt hb.size, fun i hi => (hc i hi).later hb⟩
theorem TrisAt.form {w : World} {v : Value} {l : List TriL} (h : TrisAt w v l) : ∃ xa xc, v = .slice xa l.length xc := by
  rcases h with ⟨xa, cap, rfl, rfl⟩ | ⟨b, off, cap, rfl, _⟩
  · exact ⟨xa, cap, rfl⟩
  · exact ⟨_, cap, rfl⟩
theorem TrisAt.at {w : World} {xa : Option Addr} {xc : Nat} {l : List TriL} (h : TrisAt w (.slice xa l.length xc) l) (k : Nat) (hk : k < l.length) : ∃ b off, xa = some ⟨b, off, none⟩ ∧ TriCells w b (off + k * 3) l[k] := by
  rcases h with ⟨_, _, _, h2⟩ | ⟨b, off, cap, h1, _, hc⟩
  · subst h2; simp at hk
  · injection h1 with h1 _ _; exact ⟨b, off, h1, hc k hk⟩

/-! The table. -/
def T13 : List Crd.CardL := [⟨1, 0, 0, 0, 0, 0, []⟩, ⟨2, 0, 1, 1, 0, 2, [⟨8, 2, 0⟩]⟩, ⟨2, 0, 2, 1, 0, 3, [⟨2, 1, 0⟩]⟩, ⟨2, 0, 1, 2, 0, 1, [⟨1, 1, 2⟩]⟩, ⟨2, 0, 1, 2, 0, 1, [⟨1, 3, 4⟩, ⟨2, 1, 0⟩]⟩, ⟨2, 0, 2, 2, 0, 0, []⟩]
theorem T13_ok : Crd.tableE T13 = 0 := by decide
set_option maxRecDepth 100000 in
set_option maxHeartbeats 4000000 in
theorem table13_law (w : World) : Calls Tryd.prog 17 #[] w (fun e w' => ∃ v, e = .returned v ∧ Crd.CardsAt w' v T13 ∧ Below w.heap.size w w') := by
  go_enter Tryd.func17, Tryd.ntmps17
  go_wp2
  go_ret
  refine ⟨_, rfl, ?_, below_alloc2 (below_alloc2 (below_alloc2 (below_alloc2 (below_new w _) _) _) _) _⟩
  have s0 := heap_alloc_new w (.cells #[.int .i64 8, .int .i64 2, .int .i64 0] 72)
  have hc0 := fun j => cell_of_row _ w.heap.size j _ _ _ s0
  obtain ⟨w1, hw1⟩ : ∃ w1, w.alloc (.cells #[.int .i64 8, .int .i64 2, .int .i64 0] 72) = w1 := ⟨_, rfl⟩
  rw [hw1] at hc0
  have z1 : w1.heap.size = w.heap.size + 1 := by rw [← hw1, World.size_alloc]
  rw [hw1]
  have s1 := heap_alloc_new w1 (.cells #[.int .i64 2, .int .i64 1, .int .i64 0] 72)
  have hc1 := fun j => cell_of_row _ w1.heap.size j _ _ _ s1
  have b1 := below_new w1 (.cells #[.int .i64 2, .int .i64 1, .int .i64 0] 72)
  obtain ⟨w2, hw2⟩ : ∃ w2, w1.alloc (.cells #[.int .i64 2, .int .i64 1, .int .i64 0] 72) = w2 := ⟨_, rfl⟩
  rw [hw2] at hc1 b1
  have z2 : w2.heap.size = w.heap.size + 2 := by rw [← hw2, World.size_alloc, z1]
  rw [hw2]
  have s2 := heap_alloc_new w2 (.cells #[.int .i64 1, .int .i64 1, .int .i64 2] 72)
  have hc2 := fun j => cell_of_row _ w2.heap.size j _ _ _ s2
  have b2 := below_new w2 (.cells #[.int .i64 1, .int .i64 1, .int .i64 2] 72)
  obtain ⟨w3, hw3⟩ : ∃ w3, w2.alloc (.cells #[.int .i64 1, .int .i64 1, .int .i64 2] 72) = w3 := ⟨_, rfl⟩
  rw [hw3] at hc2 b2
  have z3 : w3.heap.size = w.heap.size + 3 := by rw [← hw3, World.size_alloc, z2]
  rw [hw3]
  have s3 := heap_alloc_new w3 (.cells #[.int .i64 1, .int .i64 3, .int .i64 4, .int .i64 2, .int .i64 1, .int .i64 0] 72)
  have hc3 := fun j => cell_of_row _ w3.heap.size j _ _ _ s3
  have b3 := below_new w3 (.cells #[.int .i64 1, .int .i64 3, .int .i64 4, .int .i64 2, .int .i64 1, .int .i64 0] 72)
  obtain ⟨w4, hw4⟩ : ∃ w4, w3.alloc (.cells #[.int .i64 1, .int .i64 3, .int .i64 4, .int .i64 2, .int .i64 1, .int .i64 0] 72) = w4 := ⟨_, rfl⟩
  rw [hw4] at hc3 b3
  have z4 : w4.heap.size = w.heap.size + 4 := by rw [← hw4, World.size_alloc, z3]
  rw [hw4]
  rw [z1] at hc1
  rw [z2] at hc2
  rw [z3] at hc3
  have s4 := heap_alloc_new w4 (.cells #[.int .i64 1, .int .i64 0, .int .i64 0, .int .i64 0, .int .i64 0, .int .i64 0, .slice none 0 0, .int .i64 2, .int .i64 0, .int .i64 1, .int .i64 1, .int .i64 0, .int .i64 2, .slice (some ⟨w.heap.size, 0, none⟩) 1 1, .int .i64 2, .int .i64 0, .int .i64 2, .int .i64 1, .int .i64 0, .int .i64 3, .slice (some ⟨w.heap.size + 1, 0, none⟩) 1 1, .int .i64 2, .int .i64 0, .int .i64 1, .int .i64 2, .int .i64 0, .int .i64 1, .slice (some ⟨w.heap.size + 1 + 1, 0, none⟩) 1 1, .int .i64 2, .int .i64 0, .int .i64 1, .int .i64 2, .int .i64 0, .int .i64 1, .slice (some ⟨w.heap.size + 1 + 1 + 1, 0, none⟩) 2 2, .int .i64 2, .int .i64 0, .int .i64 2, .int .i64 2, .int .i64 0, .int .i64 0, .slice none 0 0] 70)
  have b4 := below_new w4 (.cells #[.int .i64 1, .int .i64 0, .int .i64 0, .int .i64 0, .int .i64 0, .int .i64 0, .slice none 0 0, .int .i64 2, .int .i64 0, .int .i64 1, .int .i64 1, .int .i64 0, .int .i64 2, .slice (some ⟨w.heap.size, 0, none⟩) 1 1, .int .i64 2, .int .i64 0, .int .i64 2, .int .i64 1, .int .i64 0, .int .i64 3, .slice (some ⟨w.heap.size + 1, 0, none⟩) 1 1, .int .i64 2, .int .i64 0, .int .i64 1, .int .i64 2, .int .i64 0, .int .i64 1, .slice (some ⟨w.heap.size + 1 + 1, 0, none⟩) 1 1, .int .i64 2, .int .i64 0, .int .i64 1, .int .i64 2, .int .i64 0, .int .i64 1, .slice (some ⟨w.heap.size + 1 + 1 + 1, 0, none⟩) 2 2, .int .i64 2, .int .i64 0, .int .i64 2, .int .i64 2, .int .i64 0, .int .i64 0, .slice none 0 0] 70)
  have hc := fun j => cell_of_row _ w4.heap.size j _ _ _ s4
  rw [z4] at hc
  obtain ⟨W, hW⟩ : ∃ W, w4.alloc (.cells #[.int .i64 1, .int .i64 0, .int .i64 0, .int .i64 0, .int .i64 0, .int .i64 0, .slice none 0 0, .int .i64 2, .int .i64 0, .int .i64 1, .int .i64 1, .int .i64 0, .int .i64 2, .slice (some ⟨w.heap.size, 0, none⟩) 1 1, .int .i64 2, .int .i64 0, .int .i64 2, .int .i64 1, .int .i64 0, .int .i64 3, .slice (some ⟨w.heap.size + 1, 0, none⟩) 1 1, .int .i64 2, .int .i64 0, .int .i64 1, .int .i64 2, .int .i64 0, .int .i64 1, .slice (some ⟨w.heap.size + 1 + 1, 0, none⟩) 1 1, .int .i64 2, .int .i64 0, .int .i64 1, .int .i64 2, .int .i64 0, .int .i64 1, .slice (some ⟨w.heap.size + 1 + 1 + 1, 0, none⟩) 2 2, .int .i64 2, .int .i64 0, .int .i64 2, .int .i64 2, .int .i64 0, .int .i64 0, .slice none 0 0] 70) = W := ⟨_, rfl⟩
  have zz : W.heap.size = w.heap.size + 5 := by rw [← hW, World.size_alloc, z4]
  rw [hW] at hc b4
  rw [hW]
  clear s4 hW s0 s1 s2 s3 hw1 hw2 hw3 hw4
  have g0 : ∀ {a v}, w1.cell? a = some v → W.cell? a = some v := fun h => cell_stays b4 (cell_stays b3 (cell_stays b2 (cell_stays b1 h)))
  have g1 : ∀ {a v}, w2.cell? a = some v → W.cell? a = some v := fun h => cell_stays b4 (cell_stays b3 (cell_stays b2 h))
  have g2 : ∀ {a v}, w3.cell? a = some v → W.cell? a = some v := fun h => cell_stays b4 (cell_stays b3 h)
  have g3 : ∀ {a v}, w4.cell? a = some v → W.cell? a = some v := fun h => cell_stays b4 h
  show Crd.CardsAt W (.slice (some ⟨w.heap.size + 1 + 1 + 1 + 1, 0, none⟩) 6 6) T13
  refine .inr ⟨w.heap.size + 4, 0, 6, rfl, by omega, fun i hi => ?_⟩
  rcases (show i = 0 ∨ i = 1 ∨ i = 2 ∨ i = 3 ∨ i = 4 ∨ i = 5 by simp [T13] at hi; omega) with rfl | rfl | rfl | rfl | rfl | rfl
  · exact ⟨none, 0, hc 0, hc 1, hc 2, hc 3, hc 4, hc 5, hc 6, .inl ⟨none, 0, rfl, rfl⟩⟩
  · refine ⟨some ⟨w.heap.size, 0, none⟩, 1, hc 7, hc 8, hc 9, hc 10, hc 11, hc 12, hc 13, .inr ⟨w.heap.size + 0, 0, 1, rfl, by omega, fun j hj => ?_⟩⟩
    obtain rfl : j = 0 := by simp [T13] at hj; omega
    exact ⟨g0 (hc0 0), g0 (hc0 1), g0 (hc0 2)⟩
  · refine ⟨some ⟨w.heap.size + 1, 0, none⟩, 1, hc 14, hc 15, hc 16, hc 17, hc 18, hc 19, hc 20, .inr ⟨w.heap.size + 1, 0, 1, rfl, by omega, fun j hj => ?_⟩⟩
    obtain rfl : j = 0 := by simp [T13] at hj; omega
    exact ⟨g1 (hc1 0), g1 (hc1 1), g1 (hc1 2)⟩
  · refine ⟨some ⟨w.heap.size + 1 + 1, 0, none⟩, 1, hc 21, hc 22, hc 23, hc 24, hc 25, hc 26, hc 27, .inr ⟨w.heap.size + 2, 0, 1, rfl, by omega, fun j hj => ?_⟩⟩
    obtain rfl : j = 0 := by simp [T13] at hj; omega
    exact ⟨g2 (hc2 0), g2 (hc2 1), g2 (hc2 2)⟩
  · refine ⟨some ⟨w.heap.size + 1 + 1 + 1, 0, none⟩, 2, hc 28, hc 29, hc 30, hc 31, hc 32, hc 33, hc 34, .inr ⟨w.heap.size + 3, 0, 2, rfl, by omega, fun j hj => ?_⟩⟩
    rcases (show j = 0 ∨ j = 1 by simp [T13] at hj; omega) with rfl | rfl
    · exact ⟨g3 (hc3 0), g3 (hc3 1), g3 (hc3 2)⟩
    · exact ⟨g3 (hc3 3), g3 (hc3 4), g3 (hc3 5)⟩
  · exact ⟨none, 0, hc 35, hc 36, hc 37, hc 38, hc 39, hc 40, hc 41, .inl ⟨none, 0, rfl, rfl⟩⟩
end Go.Proofs.YtdlkdilgjmmlaaaDoor

/- The contracts of own, at numbers and texts (layer 4): a row of the call's own that holds the same. -/
import Derived.Test.YtokjghfpdolojaaEa
namespace Go.Proofs.Ytokjghfpdolojaa
open Go.RowKit

def RetRow (w : World) (t : TypeId) (xs : List Value) (e : Ending) (w' : World) : Prop :=
  e = .returned (.slice (some ⟨w.heap.size, 0, none⟩) xs.length xs.length) ∧ RowAt w' w.heap.size t xs ∧ Below w.heap.size w w'
theorem replicate_row (w : World) (z : Value) (n : Nat) (t : TypeId) : RowAt (w.alloc (.cells (madeCells #[z] n) t)) w.heap.size t (List.replicate n z) := by
  unfold RowAt
  rw [heap_alloc_new, ← toList_madeCells_one]
theorem addr_at (b off k : Nat) : (⟨b, off, none⟩ : Addr).add k = ⟨b, off + k, none⟩ := by simp [Addr.add]
theorem splice_all (n : Nat) (z : Value) (xs : List Value) (h : xs.length = n) : splice (List.replicate n z) 0 xs = xs := by
  subst h; simp [splice]

set_option maxRecDepth 100000 in
set_option maxHeartbeats 4000000 in
theorem own_int {v : Value} {xs : List Value} {w : World} (h : ValsAt w v xs) (h1 : ∀ u ∈ xs, u.oneCell' = true) (hl : xs.length ≤ 1000) :
    Calls Try.prog 22 #[v] w (RetRow w 3 xs) := by
  obtain ⟨xa, xc, rfl⟩ := h.form
  have H := Lib.hid h
  have H1 := Lib.hid h1
  clear h h1
  obtain ⟨i0, hi, hz0, hz1, hz2⟩ := info_parts info_int
  have hmk : ∀ (u : World), (Instr.makeSlice 22 (.int .i64 (xs.length : Int)) (.int .i64 (xs.length : Int))).run Try.prog u = .ok (.slice (some ⟨u.heap.size, 0, none⟩) xs.length xs.length) (u.alloc (.cells (madeCells #[.int .i64 0] xs.length) 3)) := fun u => by
    have h := run_make (P := Try.prog) u 22 3 i0 (.int .i64 0) Try.underlying22 hi hz0 .i64 .i64 (xs.length : Int) (xs.length : Int) (by omega) (Int.le_refl _) (by rw [hz2]; omega) (by omega)
    simpa [hz1, Value.cells] using h
  have hsz : (Try.prog.info? 3).map (·.size) = some 1 := by rw [hi]; simp [hz1]
  have HSZ := Lib.hid hsz
  obtain ⟨n, hn⟩ : ∃ n, xs.length = n := ⟨_, rfl⟩
  have HN := Lib.hid hn
  rw [hn] at hmk hl H ⊢
  clear hi hz0 hz1 hz2 hsz hn
  go_enter Try.func22, Try.ntmps22
  go_wp2_with ((with_reducible show wpList _ _ _ _ _ _); refine wpList_copy_splice rfl (.tmp 7) (.tmp 8) 22 22 rfl 3 Try.underlying22 HSZ.out _ _ _ _ _ _ rfl rfl w.heap.size 0 (List.replicate n (.int .i64 0)) 3 (replicate_row w _ _ _) xs (by rw [HN.out]; exact (Nat.min_self n).symm) ?pos (by rw [HN.out]; simp) H1.out w.heap.size w (below_new w _) (Nat.le_refl _) ?f)
  case pos =>
    intro hpos
    rcases H.out with ⟨_, _, _, h2⟩ | ⟨b, off, cap, h1, h2, h3⟩
    · rw [h2] at hpos; simp at hpos
    · injection h1 with h1 _ _
      refine ⟨_, h1, fun j u hj => ?_⟩
      obtain ⟨hj1, hj2⟩ := List.getElem?_eq_some_iff.1 hj
      subst hj2
      rw [addr_at]; exact cell_stays (below_new w _) (h3 j hj1)
  case f =>
    intro w2 HG HB
    have HB2 := Lib.hid HB
    clear HB
    go_wp2
    go_ret
    exact ⟨by rw [HN.out]; rfl, by have h := HG.out; rwa [splice_all n _ xs HN.out] at h, HB2.out⟩

set_option maxRecDepth 100000 in
set_option maxHeartbeats 4000000 in
theorem own_str {v : Value} {xs : List Value} {w : World} (h : ValsAt w v xs) (h1 : ∀ u ∈ xs, u.oneCell' = true) (hl : xs.length ≤ 1000) :
    Calls Try.prog 28 #[v] w (RetRow w 9 xs) := by
  obtain ⟨xa, xc, rfl⟩ := h.form
  have H := Lib.hid h
  have H1 := Lib.hid h1
  clear h h1
  obtain ⟨i0, hi, hz0, hz1, hz2⟩ := info_parts info_string
  have hmk : ∀ (u : World), (Instr.makeSlice 45 (.int .i64 (xs.length : Int)) (.int .i64 (xs.length : Int))).run Try.prog u = .ok (.slice (some ⟨u.heap.size, 0, none⟩) xs.length xs.length) (u.alloc (.cells (madeCells #[.string ⟨#[]⟩] xs.length) 9)) := fun u => by
    have h := run_make (P := Try.prog) u 45 9 i0 (.string ⟨#[]⟩) Try.underlying45 hi hz0 .i64 .i64 (xs.length : Int) (xs.length : Int) (by omega) (Int.le_refl _) (by rw [hz2]; omega) (by omega)
    simpa [hz1, Value.cells] using h
  have hsz : (Try.prog.info? 9).map (·.size) = some 1 := by rw [hi]; simp [hz1]
  have HSZ := Lib.hid hsz
  obtain ⟨n, hn⟩ : ∃ n, xs.length = n := ⟨_, rfl⟩
  have HN := Lib.hid hn
  rw [hn] at hmk hl H ⊢
  clear hi hz0 hz1 hz2 hsz hn
  go_enter Try.func28, Try.ntmps28
  go_wp2_with ((with_reducible show wpList _ _ _ _ _ _); refine wpList_copy_splice rfl (.tmp 7) (.tmp 8) 45 45 rfl 9 Try.underlying45 HSZ.out _ _ _ _ _ _ rfl rfl w.heap.size 0 (List.replicate n (.string ⟨#[]⟩)) 9 (replicate_row w _ _ _) xs (by rw [HN.out]; exact (Nat.min_self n).symm) ?pos (by rw [HN.out]; simp) H1.out w.heap.size w (below_new w _) (Nat.le_refl _) ?f)
  case pos =>
    intro hpos
    rcases H.out with ⟨_, _, _, h2⟩ | ⟨b, off, cap, h1, h2, h3⟩
    · rw [h2] at hpos; simp at hpos
    · injection h1 with h1 _ _
      refine ⟨_, h1, fun j u hj => ?_⟩
      obtain ⟨hj1, hj2⟩ := List.getElem?_eq_some_iff.1 hj
      subst hj2
      rw [addr_at]; exact cell_stays (below_new w _) (h3 j hj1)
  case f =>
    intro w2 HG HB
    have HB2 := Lib.hid HB
    clear HB
    go_wp2
    go_ret
    exact ⟨by rw [HN.out]; rfl, by have h := HG.out; rwa [splice_all n _ xs HN.out] at h, HB2.out⟩
end Go.Proofs.Ytokjghfpdolojaa

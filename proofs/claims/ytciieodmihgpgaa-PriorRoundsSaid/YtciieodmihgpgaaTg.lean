/- Copy and Same of teams (layer 9). -/
import Derived.Test.YtciieodmihgpgaaTf
namespace Go.Proofs.Ytciieodmihgpgaa
open Go.RowKit

theorem info_share : (Try.prog.info? 60).map (fun i => (i.zero, i.size, i.bytes)) = some (some (.agg #[.int .i64 0, .int .i64 0, .bool false]), 3, 24) := by kernel_rfl
/-- A row that begins with xs. -/
def RowIn (w : World) (t : TypeId) (g : Nat) (xs : List Value) : Prop := ∃ cur, w.heap[g]? = some (.cells cur t (0, 0)) ∧ cur.toList.take xs.length = xs
theorem RowIn.lt {w : World} {t : TypeId} {g : Nat} {xs : List Value} (h : RowIn w t g xs) : g < w.heap.size := by
  obtain ⟨_, h, _⟩ := h
  exact (Array.getElem?_eq_some_iff.1 h).1
theorem RowIn.later {w w' : World} {t : TypeId} {g : Nat} {xs : List Value} (h : RowIn w t g xs) (hb : Below w.heap.size w w') : RowIn w' t g xs := by
  have hl := h.lt
  obtain ⟨cur, h1, h2⟩ := h
  exact ⟨cur, (hb.block g hl).trans h1, h2⟩
theorem RowIn.cell {w : World} {t : TypeId} {g : Nat} {xs : List Value} (h : RowIn w t g xs) (j : Nat) (hj : j < xs.length) : w.cell? ⟨g, j, none⟩ = some xs[j] := by
  obtain ⟨cur, h1, h2⟩ := h
  have e : cur[j]? = xs[j]? := by rw [← Array.getElem?_toList, ← List.getElem?_take_of_lt hj, h2]
  rw [cell_of_row w g j cur t _ h1, e]
  simp [hj]
theorem own_rowIn {w : World} {base sz : Nat} {t : TypeId} {v : Value} {n : Nat} {xs : List Value} (h : w.ownsRow base t sz v n xs) (hn : 0 < n) : ∃ g cap, v = .slice (some ⟨g, 0, none⟩) n cap ∧ base ≤ g ∧ RowIn w t g xs := by
  have hl : xs.length = n * sz := h.1
  rcases h.2 with ⟨rfl, h0⟩ | ⟨g, cap, cur, rfl, hb, hg, _, _, hs, ht⟩
  · omega
  · exact ⟨g, cap, rfl, hb, cur, hg, by rw [hl]; exact ht⟩
def RetRow (w : World) (t : TypeId) (n : Nat) (xs : List Value) (e : Ending) (w' : World) : Prop := ∃ g cap, e = .returned (.slice (some ⟨g, 0, none⟩) n cap) ∧ w.heap.size ≤ g ∧ RowIn w' t g xs ∧ Below w.heap.size w w'
theorem clone_ints {w : World} {b off cap : Nat} {L : List Int} (hc : ∀ j (h : j < L.length), w.cell? ⟨b, off + j, none⟩ = some (.int .i64 L[j])) (h0 : 0 < L.length) (hL : L.length ≤ 1000) :
    Calls Try.prog 28 #[.slice (some ⟨b, off, none⟩) L.length cap] w (RetRow w 3 L.length (intsV L)) := by
  refine (Try.slices_Clone_int b off L.length cap L w (Nat.le_refl _) (by omega) (fun j hj => ?_)).mono ?_
  · rw [hc j hj]
    simp [List.getD, hj]
  · rintro e w' ⟨v', rfl, ho, _, hb'⟩
    rw [List.take_length] at ho
    obtain ⟨g, cap', rfl, h1, h2⟩ := own_rowIn ho h0
    exact ⟨g, cap', rfl, h1, h2, hb'⟩
theorem some_share (a : Addr) (n c : Nat) (W : World) : (binOp .eql 47 (.slice (some a) n c) (.slice none 0 0)).run Try.prog W = .ok (.bool false) W := by kernel_rfl
theorem team_parts {w : World} {lo b s r c1 c2 : Nat} {T : TeamL} (hd : w.heap[b]? = some (.cells #[.slice (some ⟨s, 0, none⟩) T.sides.length c1, .slice (some ⟨r, 0, none⟩) T.sh.length c2] 49 (0, 0)))
    (hs : RowIn w 3 s (intsV T.sides)) (hr : RowIn w 60 r (sharesV T.sh)) (lb : lo ≤ b) (ls : lo ≤ s) (lr : lo ≤ r) (br : b ≠ r) (sr : s ≠ r) (n1 : 1 ≤ T.sides.length ∧ T.sides.length ≤ 4) (n2 : T.sh.length ≤ 4)
    (nd : ∀ x ∈ T.sides, 0 ≤ x ∧ x < T.sh.length) : TeamAt w lo b s r T := by
  refine ⟨⟨c1, c2, hd⟩, ⟨hs.lt, fun k hk => ?_⟩, ?_, lb, ls, lr, br, sr, n1, n2, nd⟩
  · rw [hs.cell k (by rw [intsV_len]; exact hk)]
    simp [intsV]
  · obtain ⟨cur, h1, h2⟩ := hr
    rw [sharesV_len] at h2
    exact ⟨cur, h1, h2⟩
theorem TeamAt.rowS {w : World} {lo b s r : Nat} {T : TeamL} (h : TeamAt w lo b s r T) : RowIn w 60 r (sharesV T.sh) := by
  obtain ⟨cur, h1, h2⟩ := h.rw
  exact ⟨cur, h1, by rw [sharesV_len]; exact h2⟩
theorem TeamAt.pos {w : World} {lo b s r : Nat} {T : TeamL} (h : TeamAt w lo b s r T) : 0 < T.sh.length := by
  have h1 := h.n1.1
  have := h.nd _ (List.getElem_mem (show 0 < T.sides.length by omega))
  omega
def RetTeam (w : World) (T : TeamL) (e : Ending) (w' : World) : Prop := ∃ b s r, e = .returned (.pointer (some ⟨b, 0, none⟩)) ∧ TeamAt w' w.heap.size b s r T ∧ Below w.heap.size w w'
end Go.Proofs.Ytciieodmihgpgaa

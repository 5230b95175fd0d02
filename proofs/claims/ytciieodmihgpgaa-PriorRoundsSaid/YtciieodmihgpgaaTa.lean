/- Teams in memory (layer 9), and the contracts of what reads them: Len, Seats, Of, Mates, has, Life, Poison, Lost. -/
import Derived.Test.YtciieodmihgpgaaHm
namespace Go.Proofs.Ytciieodmihgpgaa
open Go.RowKit

structure ShareL where
  life : Int
  poison : Int
  lost : Bool
structure TeamL where
  sides : List Int
  sh : List ShareL
def scells (x : ShareL) : List Value := [.int .i64 x.life, .int .i64 x.poison, .bool x.lost]
def sharesV (l : List ShareL) : List Value := l.flatMap scells
theorem sharesV_len (l : List ShareL) : (sharesV l).length = l.length * 3 := by
  induction l with
  | nil => rfl
  | cons x l ih => simp only [sharesV, List.flatMap_cons, List.length_append, List.length_cons] at ih ⊢; rw [ih]; simp [scells]; omega
theorem sharesV_append (l r : List ShareL) : sharesV (l ++ r) = sharesV l ++ sharesV r := by simp [sharesV]
theorem sharesV_get : ∀ (l : List ShareL) (k j : Nat) (hk : k < l.length) (_ : j < 3), (sharesV l)[k * 3 + j]? = (scells l[k])[j]?
  | x :: l, 0, j, _, hj => by
    simp only [sharesV, List.flatMap_cons, Nat.zero_mul, Nat.zero_add, List.getElem_cons_zero]
    exact List.getElem?_append_left (by simpa [scells] using hj)
  | x :: l, k + 1, j, hk, hj => by
    have h := sharesV_get l k j (by simpa using hk) hj
    simp only [sharesV, List.flatMap_cons, List.getElem_cons_succ] at h ⊢
    rw [← h, List.getElem?_append_right (by simp [scells]; omega)]
    congr 1
    simp [scells]; omega
theorem scells_one (x : ShareL) : ∀ u ∈ scells x, u.oneCell' = true := by
  intro u hu
  simp only [scells, List.mem_cons, List.not_mem_nil, or_false] at hu
  rcases hu with rfl | rfl | rfl <;> rfl
theorem sharesV_one (l : List ShareL) : ∀ u ∈ sharesV l, u.oneCell' = true := by
  intro u hu
  obtain ⟨x, _, hx⟩ := List.mem_flatMap.1 hu
  exact scells_one x u hx
/-- Teams in memory: their box b, the row s of the seats' teams, the row r of what the teams share. -/
structure TeamAt (w : World) (lo b s r : Nat) (T : TeamL) : Prop where
  hd : ∃ c1 c2, w.heap[b]? = some (.cells #[.slice (some ⟨s, 0, none⟩) T.sides.length c1, .slice (some ⟨r, 0, none⟩) T.sh.length c2] 49 (0, 0))
  sd : s < w.heap.size ∧ ∀ k (h : k < T.sides.length), w.cell? ⟨s, k, none⟩ = some (.int .i64 T.sides[k])
  rw : ∃ cur, w.heap[r]? = some (.cells cur 60 (0, 0)) ∧ cur.toList.take (T.sh.length * 3) = sharesV T.sh
  lb : lo ≤ b
  ls : lo ≤ s
  lr : lo ≤ r
  br : b ≠ r
  sr : s ≠ r
  n1 : 1 ≤ T.sides.length ∧ T.sides.length ≤ 4
  n2 : T.sh.length ≤ 4
  nd : ∀ x ∈ T.sides, 0 ≤ x ∧ x < T.sh.length
theorem TeamAt.lt {w : World} {lo b s r : Nat} {T : TeamL} (h : TeamAt w lo b s r T) : b < w.heap.size := by
  obtain ⟨_, _, h⟩ := h.hd
  exact (Array.getElem?_eq_some_iff.1 h).1
theorem TeamAt.ltr {w : World} {lo b s r : Nat} {T : TeamL} (h : TeamAt w lo b s r T) : r < w.heap.size := by
  obtain ⟨_, h, _⟩ := h.rw
  exact (Array.getElem?_eq_some_iff.1 h).1
theorem TeamAt.grown {w w' : World} {lo b s r g : Nat} {T : TeamL} (h : TeamAt w lo b s r T) (hg : w.grownBy w' (some g)) (h1 : b ≠ g) (h2 : s ≠ g) (h3 : r ≠ g) : TeamAt w' lo b s r T := by
  obtain ⟨c1, c2, h0⟩ := h.hd
  obtain ⟨cur, hr, ht⟩ := h.rw
  exact ⟨⟨c1, c2, (hg.block b h.lt (by simpa using h1)).trans h0⟩, ⟨Nat.lt_of_lt_of_le h.sd.1 hg.size, fun k hk => (hg.cell_far ⟨s, k, none⟩ h.sd.1 (by simpa using h2)).trans (h.sd.2 k hk)⟩,
    ⟨cur, (hg.block r h.ltr (by simpa using h3)).trans hr, ht⟩, h.lb, h.ls, h.lr, h.br, h.sr, h.n1, h.n2, h.nd⟩
theorem TeamAt.later {w w' : World} {lo b s r : Nat} {T : TeamL} (h : TeamAt w lo b s r T) (hb : Below w.heap.size w w') : TeamAt w' lo b s r T := by
  have hl := h.lt
  have hr := h.ltr
  have hs := h.sd.1
  exact h.grown (g := w.heap.size) (grown_below hb) (by omega) (by omega) (by omega)
theorem TeamAt.heads {w : World} {lo b s r : Nat} {T : TeamL} (h : TeamAt w lo b s r T) : ∃ c1 c2, w.cell? ⟨b, 0, none⟩ = some (.slice (some ⟨s, 0, none⟩) T.sides.length c1) ∧ w.cell? ⟨b, 1, none⟩ = some (.slice (some ⟨r, 0, none⟩) T.sh.length c2) := by
  obtain ⟨c1, c2, h0⟩ := h.hd
  exact ⟨c1, c2, by rw [cell_of_row w b 0 _ _ _ h0]; rfl, by rw [cell_of_row w b 1 _ _ _ h0]; rfl⟩
theorem TeamAt.share {w : World} {lo b s r : Nat} {T : TeamL} (h : TeamAt w lo b s r T) (k j : Nat) (hk : k < T.sh.length) (hj : j < 3) : w.cell? ⟨r, k * 3 + j, none⟩ = (scells T.sh[k])[j]? := by
  obtain ⟨cur, hr, ht⟩ := h.rw
  rw [cell_of_row w r _ cur _ _ hr, ← sharesV_get T.sh k j hk hj, ← ht, List.getElem?_take_of_lt (by omega)]
  simp
def inL (T : TeamL) (k : Int) : Bool := decide (0 ≤ k) && decide (k < T.sh.length)
def ofT (T : TeamL) (k : Int) : Int := if 0 ≤ k then T.sides.getD k.toNat (-1) else -1
def lifeT (T : TeamL) (k : Int) : Int := if inL T k then (T.sh.getD k.toNat ⟨0, 0, true⟩).life else 0
def poisonT (T : TeamL) (k : Int) : Int := if inL T k then (T.sh.getD k.toNat ⟨0, 0, true⟩).poison else 0
def lostT (T : TeamL) (k : Int) : Bool := if inL T k then (T.sh.getD k.toNat ⟨0, 0, true⟩).lost else true
set_option maxRecDepth 100000 in
theorem tlen_any {w : World} {lo b s r : Nat} {T : TeamL} (h : TeamAt w lo b s r T) : Calls Try.prog 8 #[.pointer (some ⟨b, 0, none⟩)] w (Same w (.int .i64 T.sh.length)) := by
  obtain ⟨c1, c2, k0, k1⟩ := h.heads
  clear h
  go_enter Try.func8, Try.ntmps8
  go_wp2
  go_ret
  exact ⟨rfl, rfl⟩
set_option maxRecDepth 100000 in
theorem tseats_any {w : World} {lo b s r : Nat} {T : TeamL} (h : TeamAt w lo b s r T) : Calls Try.prog 20 #[.pointer (some ⟨b, 0, none⟩)] w (Same w (.int .i64 T.sides.length)) := by
  obtain ⟨c1, c2, k0, k1⟩ := h.heads
  clear h
  go_enter Try.func20, Try.ntmps20
  go_wp2
  go_ret
  exact ⟨rfl, rfl⟩
set_option maxRecDepth 100000 in
theorem thas_any {w : World} {lo b s r : Nat} {T : TeamL} (h : TeamAt w lo b s r T) (k : Int) : Calls Try.prog 32 #[.pointer (some ⟨b, 0, none⟩), .int .i64 k] w (Same w (.bool (inL T k))) := by
  have HL := Lib.hid (tlen_any h)
  clear h
  by_cases h0 : 0 ≤ k
  · have d0 : decide (0 ≤ k) = true := decide_eq_true h0
    have e : inL T k = decide (k < T.sh.length) := by simp [inL, h0]
    rw [e]
    clear e
    go_enter Try.func32, Try.ntmps32
    go_wp2_with fail
    refine HL.out.mono ?_
    rintro e w1 ⟨rfl, rfl⟩
    go_wp2
    go_ret
    exact ⟨rfl, rfl⟩
  · have d0 : decide (0 ≤ k) = false := decide_eq_false h0
    have e : inL T k = false := by simp [inL, h0]
    rw [e]
    clear e
    go_enter Try.func32, Try.ntmps32
    go_wp2
    go_ret
    exact ⟨rfl, rfl⟩
set_option maxRecDepth 100000 in
theorem tof_any {w : World} {lo b s r : Nat} {T : TeamL} (h : TeamAt w lo b s r T) (k : Int) : Calls Try.prog 25 #[.pointer (some ⟨b, 0, none⟩), .int .i64 k] w (Same w (.int .i64 (ofT T k))) := by
  have HL := Lib.hid (tseats_any h)
  obtain ⟨c1, c2, k0, k1⟩ := h.heads
  have HS := Lib.hid h.sd.2
  clear h
  by_cases h0 : 0 ≤ k
  · have d0 : decide (k < 0) = false := decide_eq_false (by omega)
    by_cases h1 : k < T.sides.length
    · obtain ⟨n, rfl⟩ : ∃ n : Nat, k = n := ⟨k.toNat, by omega⟩
      have hn : n < T.sides.length := by omega
      have e : ofT T n = T.sides[n] := by simp [ofT, List.getD, hn]
      have c0 := HS.out n hn
      obtain ⟨x, hx⟩ : ∃ x, T.sides[n] = x := ⟨_, rfl⟩
      rw [e, hx]
      rw [hx] at c0
      have d1 : decide (T.sides.length ≤ n) = false := decide_eq_false (by omega)
      clear e hx
      go_enter Try.func25, Try.ntmps25
      go_wp2_with fail
      refine HL.out.mono ?_
      rintro e w1 ⟨rfl, rfl⟩
      go_wp2
      go_ret
      exact ⟨rfl, rfl⟩
    · have e : ofT T k = -1 := by simp [ofT, h0, List.getD, List.getElem?_eq_none (show T.sides.length ≤ k.toNat by omega)]
      have d1 : decide ((T.sides.length : Int) ≤ k) = true := decide_eq_true (by omega)
      rw [e]
      clear e
      go_enter Try.func25, Try.ntmps25
      go_wp2_with fail
      refine HL.out.mono ?_
      rintro e w1 ⟨rfl, rfl⟩
      go_wp2
      go_ret
      exact ⟨rfl, rfl⟩
  · have d0 : decide (k < 0) = true := decide_eq_true (by omega)
    have e : ofT T k = -1 := by simp [ofT, h0]
    rw [e]
    clear e
    go_enter Try.func25, Try.ntmps25
    go_wp2
    go_ret
    exact ⟨rfl, rfl⟩
theorem ofT_nonneg {w : World} {lo b s r : Nat} {T : TeamL} (h : TeamAt w lo b s r T) (k : Int) : (0 ≤ ofT T k ∧ ofT T k < T.sh.length) ∨ ofT T k = -1 := by
  unfold ofT
  split
  · by_cases hk : k.toNat < T.sides.length
    · exact .inl (by simpa [List.getD, hk] using h.nd _ (List.getElem_mem hk))
    · exact .inr (by simp [List.getD, List.getElem?_eq_none (show T.sides.length ≤ k.toNat by omega)])
  · exact .inr rfl
end Go.Proofs.Ytciieodmihgpgaa

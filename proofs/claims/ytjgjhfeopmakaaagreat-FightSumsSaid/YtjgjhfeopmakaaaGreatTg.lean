/- Teams in memory (layer 9), and the contracts of what reads them: Len, Seats, Of, Mates, has, Life, Poison, Lost. What reads and what changes teams (layer 9): Mates, Life, Poison, Lost, Lose, Gain, Sicken. What changes teams (layer 9): Lose, Gain, Sicken, of any number. Gain, Sicken of any number; who is left, who has won, who is next; a team's seats (layer 9). A team's seats; the library's Equal and Clone at what teams share; Copy, Same (layer 9). Copy and Same of teams (layer 9). -/
import Derived.Test.YtjgjhfeopmakaaaGreatJx
import Derived.Test.YtjgjhfeopmakaaaGreatSd
import Derived.Laws.StructEq
import Derived.Deep.RegionHeld3
namespace Go.Proofs.YtjgjhfeopmakaaaGreat
open Go.RowKit

structure ShareL where
  life : Int
  poison : Int
  lost : Bool
structure TeamL where
  sides : List Int
  sh : List ShareL
def scells (x : ShareL) : List Value := [.int .i64 x.life, .int .i64 x.poison, .bool x.lost]
def sharesV (l : List ShareL) : List Value := l.flatMap scells
theorem sharesV_len (l : List ShareL) : (sharesV l).length = l.length * 3 := by
  induction l with
  | nil => rfl
  | cons x l ih => simp only [sharesV, List.flatMap_cons, List.length_append, List.length_cons] at ih ⊢; rw [ih]; simp [scells]; omega
theorem sharesV_append (l r : List ShareL) : sharesV (l ++ r) = sharesV l ++ sharesV r := by simp [sharesV]
theorem sharesV_get : ∀ (l : List ShareL) (k j : Nat) (hk : k < l.length) (_ : j < 3), (sharesV l)[k * 3 + j]? = (scells l[k])[j]?
  | x :: l, 0, j, _, hj => by
    simp only [sharesV, List.flatMap_cons, Nat.zero_mul, Nat.zero_add, List.getElem_cons_zero]
    exact List.getElem?_append_left (by simpa [scells] using hj)
  | x :: l, k + 1, j, hk, hj => by
    have h := sharesV_get l k j (by simpa using hk) hj
    simp only [sharesV, List.flatMap_cons, List.getElem_cons_succ] at h ⊢
    rw [← h, List.getElem?_append_right (by simp [scells]; omega)]
    congr 1
    simp [scells]; omega
theorem scells_one (x : ShareL) : ∀ u ∈ scells x, u.oneCell' = true := by
  intro u hu
  simp only [scells, List.mem_cons, List.not_mem_nil, or_false] at hu
  rcases hu with rfl | rfl | rfl <;> rfl
theorem sharesV_one (l : List ShareL) : ∀ u ∈ sharesV l, u.oneCell' = true := by
  intro u hu
  obtain ⟨x, _, hx⟩ := List.mem_flatMap.1 hu
  exact scells_one x u hx
/-- Teams in memory: their box b, the row s of the seats' teams, the row r of what the teams share. -/
structure TeamAt (w : World) (lo b s r : Nat) (T : TeamL) : Prop where
  hd : ∃ c1 c2, w.heap[b]? = some (.cells #[.slice (some ⟨s, 0, none⟩) T.sides.length c1, .slice (some ⟨r, 0, none⟩) T.sh.length c2] 82 (0, 0))
  sd : s < w.heap.size ∧ ∀ k (h : k < T.sides.length), w.cell? ⟨s, k, none⟩ = some (.int .i64 T.sides[k])
  rw : ∃ cur, w.heap[r]? = some (.cells cur 103 (0, 0)) ∧ cur.toList.take (T.sh.length * 3) = sharesV T.sh
  lb : lo ≤ b
  ls : lo ≤ s
  lr : lo ≤ r
  br : b ≠ r
  sr : s ≠ r
  n1 : 1 ≤ T.sides.length ∧ T.sides.length ≤ 4
  n2 : T.sh.length ≤ 4
  nd : ∀ x ∈ T.sides, 0 ≤ x ∧ x < T.sh.length
theorem TeamAt.lt {w : World} {lo b s r : Nat} {T : TeamL} (h : TeamAt w lo b s r T) : b < w.heap.size := by
  obtain ⟨_, _, h⟩ := h.hd
  exact (Array.getElem?_eq_some_iff.1 h).1
theorem TeamAt.ltr {w : World} {lo b s r : Nat} {T : TeamL} (h : TeamAt w lo b s r T) : r < w.heap.size := by
  obtain ⟨_, h, _⟩ := h.rw
  exact (Array.getElem?_eq_some_iff.1 h).1
theorem TeamAt.grown {w w' : World} {lo b s r g : Nat} {T : TeamL} (h : TeamAt w lo b s r T) (hg : w.grownBy w' (some g)) (h1 : b ≠ g) (h2 : s ≠ g) (h3 : r ≠ g) : TeamAt w' lo b s r T := by
  obtain ⟨c1, c2, h0⟩ := h.hd
  obtain ⟨cur, hr, ht⟩ := h.rw
  exact ⟨⟨c1, c2, (hg.block b h.lt (by simpa using h1)).trans h0⟩, ⟨Nat.lt_of_lt_of_le h.sd.1 hg.size, fun k hk => (hg.cell_far ⟨s, k, none⟩ h.sd.1 (by simpa using h2)).trans (h.sd.2 k hk)⟩,
    ⟨cur, (hg.block r h.ltr (by simpa using h3)).trans hr, ht⟩, h.lb, h.ls, h.lr, h.br, h.sr, h.n1, h.n2, h.nd⟩
theorem TeamAt.later {w w' : World} {lo b s r : Nat} {T : TeamL} (h : TeamAt w lo b s r T) (hb : Below w.heap.size w w') : TeamAt w' lo b s r T := by
  have hl := h.lt
  have hr := h.ltr
  have hs := h.sd.1
  exact h.grown (g := w.heap.size) (grown_below hb) (by omega) (by omega) (by omega)
theorem TeamAt.heads {w : World} {lo b s r : Nat} {T : TeamL} (h : TeamAt w lo b s r T) : ∃ c1 c2, w.cell? ⟨b, 0, none⟩ = some (.slice (some ⟨s, 0, none⟩) T.sides.length c1) ∧ w.cell? ⟨b, 1, none⟩ = some (.slice (some ⟨r, 0, none⟩) T.sh.length c2) := by
  obtain ⟨c1, c2, h0⟩ := h.hd
  exact ⟨c1, c2, by rw [cell_of_row w b 0 _ _ _ h0]; rfl, by rw [cell_of_row w b 1 _ _ _ h0]; rfl⟩
theorem TeamAt.share {w : World} {lo b s r : Nat} {T : TeamL} (h : TeamAt w lo b s r T) (k j : Nat) (hk : k < T.sh.length) (hj : j < 3) : w.cell? ⟨r, k * 3 + j, none⟩ = (scells T.sh[k])[j]? := by
  obtain ⟨cur, hr, ht⟩ := h.rw
  rw [cell_of_row w r _ cur _ _ hr, ← sharesV_get T.sh k j hk hj, ← ht, List.getElem?_take_of_lt (by omega)]
  simp
def inT (T : TeamL) (k : Int) : Bool := decide (0 ≤ k) && decide (k < T.sh.length)
def ofT (T : TeamL) (k : Int) : Int := if 0 ≤ k then T.sides.getD k.toNat (-1) else -1
def lifeT (T : TeamL) (k : Int) : Int := if inT T k then (T.sh.getD k.toNat ⟨0, 0, true⟩).life else 0
def poisonT (T : TeamL) (k : Int) : Int := if inT T k then (T.sh.getD k.toNat ⟨0, 0, true⟩).poison else 0
def lostT (T : TeamL) (k : Int) : Bool := if inT T k then (T.sh.getD k.toNat ⟨0, 0, true⟩).lost else true
set_option maxRecDepth 100000 in
theorem tlen_any {w : World} {lo b s r : Nat} {T : TeamL} (h : TeamAt w lo b s r T) : Calls Tryz.prog 15 #[.pointer (some ⟨b, 0, none⟩)] w (Same w (.int .i64 T.sh.length)) := by
  obtain ⟨c1, c2, k0, k1⟩ := h.heads
  clear h
  go_enter Tryz.func15, Tryz.ntmps15
  go_wp2
  go_ret
  exact ⟨rfl, rfl⟩
set_option maxRecDepth 100000 in
theorem tseats_any {w : World} {lo b s r : Nat} {T : TeamL} (h : TeamAt w lo b s r T) : Calls Tryz.prog 29 #[.pointer (some ⟨b, 0, none⟩)] w (Same w (.int .i64 T.sides.length)) := by
  obtain ⟨c1, c2, k0, k1⟩ := h.heads
  clear h
  go_enter Tryz.func29, Tryz.ntmps29
  go_wp2
  go_ret
  exact ⟨rfl, rfl⟩
set_option maxRecDepth 100000 in
theorem thas_any {w : World} {lo b s r : Nat} {T : TeamL} (h : TeamAt w lo b s r T) (k : Int) : Calls Tryz.prog 39 #[.pointer (some ⟨b, 0, none⟩), .int .i64 k] w (Same w (.bool (inT T k))) := by
  have HL := Lib.hid (tlen_any h)
  clear h
  by_cases h0 : 0 ≤ k
  · have d0 : decide (0 ≤ k) = true := decide_eq_true h0
    have e : inT T k = decide (k < T.sh.length) := by simp [inT, h0]
    rw [e]
    clear e
    go_enter Tryz.func39, Tryz.ntmps39
    go_wp2_with fail
    refine HL.out.mono ?_
    rintro e w1 ⟨rfl, rfl⟩
    go_wp2
    go_ret
    exact ⟨rfl, rfl⟩
  · have d0 : decide (0 ≤ k) = false := decide_eq_false h0
    have e : inT T k = false := by simp [inT, h0]
    rw [e]
    clear e
    go_enter Tryz.func39, Tryz.ntmps39
    go_wp2
    go_ret
    exact ⟨rfl, rfl⟩
set_option maxRecDepth 100000 in
theorem tof_any {w : World} {lo b s r : Nat} {T : TeamL} (h : TeamAt w lo b s r T) (k : Int) : Calls Tryz.prog 10 #[.pointer (some ⟨b, 0, none⟩), .int .i64 k] w (Same w (.int .i64 (ofT T k))) := by
  have HL := Lib.hid (tseats_any h)
  obtain ⟨c1, c2, k0, k1⟩ := h.heads
  have HS := Lib.hid h.sd.2
  clear h
  by_cases h0 : 0 ≤ k
  · have d0 : decide (k < 0) = false := decide_eq_false (by omega)
    by_cases h1 : k < T.sides.length
    · obtain ⟨n, rfl⟩ : ∃ n : Nat, k = n := ⟨k.toNat, by omega⟩
      have hn : n < T.sides.length := by omega
      have e : ofT T n = T.sides[n] := by simp [ofT, List.getD, hn]
      have c0 := HS.out n hn
      obtain ⟨x, hx⟩ : ∃ x, T.sides[n] = x := ⟨_, rfl⟩
      rw [e, hx]
      rw [hx] at c0
      have d1 : decide (T.sides.length ≤ n) = false := decide_eq_false (by omega)
      clear e hx
      go_enter Tryz.func10, Tryz.ntmps10
      go_wp2_with fail
      refine HL.out.mono ?_
      rintro e w1 ⟨rfl, rfl⟩
      go_wp2
      go_ret
      exact ⟨rfl, rfl⟩
    · have e : ofT T k = -1 := by simp [ofT, h0, List.getD, List.getElem?_eq_none (show T.sides.length ≤ k.toNat by omega)]
      have d1 : decide ((T.sides.length : Int) ≤ k) = true := decide_eq_true (by omega)
      rw [e]
      clear e
      go_enter Tryz.func10, Tryz.ntmps10
      go_wp2_with fail
      refine HL.out.mono ?_
      rintro e w1 ⟨rfl, rfl⟩
      go_wp2
      go_ret
      exact ⟨rfl, rfl⟩
  · have d0 : decide (k < 0) = true := decide_eq_true (by omega)
    have e : ofT T k = -1 := by simp [ofT, h0]
    rw [e]
    clear e
    go_enter Tryz.func10, Tryz.ntmps10
    go_wp2
    go_ret
    exact ⟨rfl, rfl⟩
theorem ofT_nonneg {w : World} {lo b s r : Nat} {T : TeamL} (h : TeamAt w lo b s r T) (k : Int) : (0 ≤ ofT T k ∧ ofT T k < T.sh.length) ∨ ofT T k = -1 := by
  unfold ofT
  split
  · by_cases hk : k.toNat < T.sides.length
    · exact .inl (by simpa [List.getD, hk] using h.nd _ (List.getElem_mem hk))
    · exact .inr (by simp [List.getD, List.getElem?_eq_none (show T.sides.length ≤ k.toNat by omega)])
  · exact .inr rfl
end Go.Proofs.YtjgjhfeopmakaaaGreat
namespace Go.Proofs.YtjgjhfeopmakaaaGreat
open Go.RowKit

theorem in_nat {T : TeamL} {k : Int} (h : inT T k = true) : ∃ n : Nat, k = n ∧ n < T.sh.length := by
  simp only [inT, Bool.and_eq_true, decide_eq_true_eq] at h
  exact ⟨k.toNat, by omega, by omega⟩
theorem inL_nat {T : TeamL} {n : Nat} (h : n < T.sh.length) : inT T n = true := by simp [inT]; omega
theorem lifeT_in {T : TeamL} {n : Nat} (h : n < T.sh.length) : lifeT T n = T.sh[n].life := by simp [lifeT, inL_nat h, List.getD, h]
theorem poisonT_in {T : TeamL} {n : Nat} (h : n < T.sh.length) : poisonT T n = T.sh[n].poison := by simp [poisonT, inL_nat h, List.getD, h]
theorem lostT_in {T : TeamL} {n : Nat} (h : n < T.sh.length) : lostT T n = T.sh[n].lost := by simp [lostT, inL_nat h, List.getD, h]
theorem TeamAt.cells {w : World} {lo b s r : Nat} {T : TeamL} (h : TeamAt w lo b s r T) (n : Nat) (hn : n < T.sh.length) :
    w.cell? ⟨r, n * 3, none⟩ = some (.int .i64 T.sh[n].life) ∧ w.cell? ⟨r, n * 3 + 1, none⟩ = some (.int .i64 T.sh[n].poison) ∧ w.cell? ⟨r, n * 3 + 2, none⟩ = some (.bool T.sh[n].lost) :=
  ⟨h.share n 0 hn (by decide), h.share n 1 hn (by decide), h.share n 2 hn (by decide)⟩
def matesT (T : TeamL) (a b : Int) : Bool := decide (0 ≤ ofT T a) && (ofT T a == ofT T b)
set_option maxRecDepth 100000 in
theorem tlost_any {w : World} {lo b s r : Nat} {T : TeamL} (h : TeamAt w lo b s r T) (k : Int) : Calls Tryz.prog 40 #[.pointer (some ⟨b, 0, none⟩), .int .i64 k] w (Same w (.bool (lostT T k))) := by
  have HI := Lib.hid (thas_any h k)
  cases hi : inT T k with
  | false =>
    have e : lostT T k = true := by simp [lostT, hi]
    rw [hi] at HI
    rw [e]
    clear h hi e
    go_enter Tryz.func40, Tryz.ntmps40
    go_wp2_with fail
    refine HI.out.mono ?_
    rintro e w1 ⟨rfl, rfl⟩
    go_wp2
    go_ret
    exact ⟨rfl, rfl⟩
  | true =>
    obtain ⟨n, rfl, hn⟩ := in_nat hi
    rw [hi] at HI
    rw [lostT_in hn]
    obtain ⟨c1, c2, k0, k1⟩ := h.heads
    obtain ⟨_, _, c0⟩ := h.cells n hn
    obtain ⟨x, hx⟩ : ∃ x, T.sh[n].lost = x := ⟨_, rfl⟩
    rw [hx] at c0 ⊢
    have h2 := h.n2
    clear h hi hx
    go_enter Tryz.func40, Tryz.ntmps40
    go_wp2_with fail
    refine HI.out.mono ?_
    rintro e w1 ⟨rfl, rfl⟩
    go_wp2
    go_ret
    exact ⟨rfl, rfl⟩
end Go.Proofs.YtjgjhfeopmakaaaGreat
namespace Go.Proofs.YtjgjhfeopmakaaaGreat
open Go.RowKit

theorem sharesV_set : ∀ (l : List ShareL) (n j : Nat) (u : Value) (x : ShareL) (hn : n < l.length) (_ : j < 3) (_ : scells x = (scells l[n]).set j u), (sharesV l).set (n * 3 + j) u = sharesV (l.set n x)
  | y :: l, 0, j, u, x, _, hj, hx => by
    simp only [List.getElem_cons_zero] at hx
    simp only [sharesV, List.flatMap_cons, List.set_cons_zero, Nat.zero_mul, Nat.zero_add]
    rw [List.set_append_left _ _ (by simpa [scells] using hj), ← hx]
  | y :: l, n + 1, j, u, x, hn, hj, hx => by
    have h := sharesV_set l n j u x (by simpa using hn) hj (by simpa using hx)
    simp only [sharesV, List.flatMap_cons, List.set_cons_succ] at h ⊢
    rw [← h, List.set_append_right _ _ (by simp [scells]; omega)]
    congr 2
    simp [scells]; omega
def putT (T : TeamL) (n : Nat) (x : ShareL) : TeamL := ⟨T.sides, T.sh.set n x⟩
theorem TeamAt.put {w : World} {lo b s r : Nat} {T : TeamL} (h : TeamAt w lo b s r T) (n j : Nat) (hn : n < T.sh.length) (hj : j < 3) (u : Value) (x : ShareL) (hx : scells x = (scells T.sh[n]).set j u) :
    TeamAt (w.setCell ⟨r, n * 3 + j, none⟩ u) lo b s r (putT T n x) ∧ w.grownBy (w.setCell ⟨r, n * 3 + j, none⟩ u) (some r) ∧ w.frozen? ⟨r, n * 3 + j, none⟩ = false := by
  have hg := grown_set w r (n * 3 + j) u
  obtain ⟨c1, c2, h0⟩ := h.hd
  obtain ⟨cur, hr, ht⟩ := h.rw
  have e : (putT T n x).sh.length = T.sh.length := by simp [putT]
  refine ⟨⟨⟨c1, c2, ?_⟩, ⟨Nat.lt_of_lt_of_le h.sd.1 hg.size, fun k hk => (hg.cell_far ⟨s, k, none⟩ h.sd.1 (by simpa using h.sr)).trans (h.sd.2 k hk)⟩, ⟨_, heap_setCell_same w r (n * 3 + j) cur _ u hr, ?_⟩, h.lb, h.ls, h.lr, h.br, h.sr, h.n1, by rw [e]; exact h.n2, fun y hy => by rw [e]; exact h.nd y hy⟩, hg, frozen_of_row w r _ _ _ hr⟩
  · rw [e]
    exact (hg.block b h.lt (by simpa using h.br)).trans h0
  · rw [e]
    have e2 := sharesV_set T.sh n j u x hn hj hx
    show _ = sharesV (T.sh.set n x)
    rw [← e2, ← ht]
    simp [List.take_set]
def RetT (w : World) (lo b s r : Nat) (v : Value) (T : TeamL) (e : Ending) (w' : World) : Prop := e = .returned v ∧ TeamAt w' lo b s r T ∧ w.grownBy w' (some r)
def shAt (T : TeamL) (n : Nat) : ShareL := T.sh.getD n ⟨0, 0, true⟩
def loseT (T : TeamL) (k : Int) : TeamL := if inT T k then putT T k.toNat ⟨(shAt T k.toNat).life, (shAt T k.toNat).poison, true⟩ else T
def gainT (T : TeamL) (k n : Int) : TeamL := if inT T k then putT T k.toNat ⟨addZ (shAt T k.toNat).life n, (shAt T k.toNat).poison, (shAt T k.toNat).lost⟩ else T
def sickT (T : TeamL) (k n : Int) : TeamL := if inT T k then putT T k.toNat ⟨(shAt T k.toNat).life, max (addZ (shAt T k.toNat).poison n) 0, (shAt T k.toNat).lost⟩ else T
theorem shAt_in {T : TeamL} {n : Nat} (h : n < T.sh.length) : shAt T n = T.sh[n] := by simp [shAt, List.getD, h]
theorem putT_self {T : TeamL} {n : Nat} (h : n < T.sh.length) : putT T n T.sh[n] = T := by simp [putT]
set_option maxRecDepth 100000 in
set_option maxHeartbeats 4000000 in
theorem gainFn {w : World} {q o g : Nat} {h n : Int} (hq : w.cell? ⟨q, o, none⟩ = some (.int .i64 h)) (hf : w.frozen? ⟨q, o, none⟩ = false) (hg : w.cell? ⟨g, 0, none⟩ = some (.int .i64 n)) :
    Calls Tryz.prog 107 #[.pointer (some ⟨q, o, none⟩), .pointer (some ⟨g, 0, none⟩)] w (fun e w' => e = .returned (.tuple #[]) ∧ w' = (w.setCell ⟨q, o, none⟩ (.int .i64 (addZ h n))).drew) := by
  have HC := Lib.hid (add_any h n)
  go_enter Tryz.func107, Tryz.ntmps107
  go_wp2
  go_region_with ((go_at_call 92; refine (HC.out _).mono ?_; rintro e w1 ⟨rfl, rfl⟩; dsimp only))
  all_goals
    go_wp2
    exact bodyPost_end (v := .tuple #[]) (by simp [results, Tryz.results107, go_sem]) rfl ⟨rfl, rfl⟩
end Go.Proofs.YtjgjhfeopmakaaaGreat
namespace Go.Proofs.YtjgjhfeopmakaaaGreat
open Go.RowKit

set_option maxRecDepth 100000 in
theorem wpList_push {A wr : World} {ops : Array Oper} {rest : List Oper} {o : Oper} {a : Act} {Q : Exit → Act → World → Prop} (hgd : o.guard = none) (s x : Operand)
    (ho : o.op = .call { callee := .builtin .append, args := #[s, x], argTypes := #[79, 79] }) (hty : o.type = 79) (v : Value) (L : List Int) (k : Int) (hs : a.eval s = v)
    (hown : wr.ownsRow A.heap.size 3 1 v L.length (intsV L)) (hb : Below A.heap.size A wr) (hx : a.eval x = .slice (some ⟨wr.heap.size, 0, none⟩) 1 1) (hl : L.length ≤ 900)
    (h : ∀ v' w', w'.ownsRow A.heap.size 3 1 v' (L ++ [k]).length (intsV (L ++ [k])) → Below A.heap.size A w' → wpList Tryz.prog ops Q rest (a.put o.dst v') w') :
    wpList Tryz.prog ops Q (o :: rest) a (wr.alloc (.cells #[.int .i64 k] 3)) := by
  have hsz := hb.size
  refine wpList_append_ints hgd s x ho hty A.heap.size v L.length (intsV L) hs (hown.alloc _) _ 1 1 [k] hx rfl ((RowAt.new wr 3 (intsV [k])).vals 1) (by simp; omega) (by simp; omega) ?_
  intro v' w' h1 h2 _
  refine h v' w' ?_ ?_
  · have e : intsV (L ++ [k]) = intsV L ++ intsV [k] := by simp [intsV]
    rw [e, List.length_append]
    exact h1
  · exact grown_of (below_alloc2 hb _) h2 (fun q hq => (hown.lt q hq).1)
def upTo (p : Nat → Bool) (k : Nat) : List Int := ((List.range k).filter p).map fun n => ((n : Nat) : Int)
theorem upTo_yes {p : Nat → Bool} {k : Nat} (h : p k = true) : upTo p (k + 1) = upTo p k ++ [(k : Int)] := by simp [upTo, List.range_succ, List.filter_append, h]
theorem upTo_no {p : Nat → Bool} {k : Nat} (h : p k = false) : upTo p (k + 1) = upTo p k := by simp [upTo, List.range_succ, List.filter_append, h]
theorem upTo_len (p : Nat → Bool) (k : Nat) : (upTo p k).length ≤ k := by
  have := List.length_filter_le p (List.range k)
  simpa [upTo] using this
def leftT (T : TeamL) : List Int := upTo (fun n => !lostT T n) T.sh.length
def seatsT (T : TeamL) (k : Int) : List Int := upTo (fun n => ofT T n == k) T.sides.length
set_option maxRecDepth 100000 in
set_option maxHeartbeats 4000000 in
theorem tchange_out {w : World} {lo b s r : Nat} {T : TeamL} (h : TeamAt w lo b s r T) (k : Int) (hk : inT T k = false) (f : Value) : Calls Tryz.prog 90 #[.pointer (some ⟨b, 0, none⟩), .int .i64 k, f] w (Same w (.int .i64 2)) := by
  have HI := Lib.hid (thas_any h k)
  rw [hk] at HI
  clear h hk
  go_enter Tryz.func90, Tryz.ntmps90
  go_wp2_with fail
  refine HI.out.mono ?_
  rintro e w1 ⟨rfl, rfl⟩
  go_wp2
  go_ret
  exact ⟨rfl, rfl⟩
set_option maxRecDepth 100000 in
set_option maxHeartbeats 4000000 in
theorem tgain_any {w : World} {lo b s r : Nat} {T : TeamL} (h : TeamAt w lo b s r T) (k m : Int) : Calls Tryz.prog 87 #[.pointer (some ⟨b, 0, none⟩), .int .i64 k, .int .i64 m] w (RetT w lo b s r (.int .i64 (if inT T k then 0 else 2)) (gainT T k m)) := by
  have hmf := @mk_func
  have hb := below_new w (.cells #[.int .i64 m] 3)
  have h' := h.later hb
  have HG := Lib.hid (grown_below (b := r) hb)
  have hg : (w.alloc (.cells #[.int .i64 m] 3)).cell? ⟨w.heap.size, 0, none⟩ = some (.int .i64 m) := by simp [go_sem]
  cases hi : inT T k with
  | false =>
    have e : gainT T k m = T := by simp [gainT, hi]
    rw [e]
    have HC := Lib.hid (fun f => tchange_out h' k hi f)
    have HH := Lib.hid h'
    clear h h' hb hi e hg
    go_enter Tryz.func87, Tryz.ntmps87
    go_wp2_with fail
    refine (HC.out _).mono ?_
    rintro e w1 ⟨rfl, rfl⟩
    go_wp2
    go_ret
    exact ⟨rfl, HH.out, HG.out⟩
  | true =>
    obtain ⟨n, rfl, hn⟩ := in_nat hi
    have e : gainT T n m = putT T n ⟨addZ T.sh[n].life m, T.sh[n].poison, T.sh[n].lost⟩ := by rw [gainT, if_pos hi, Int.toNat_natCast, shAt_in hn]
    rw [e]
    obtain ⟨hp1, hp2, hp3⟩ := h'.put n 0 hn (by decide) (.int .i64 (addZ T.sh[n].life m)) ⟨addZ T.sh[n].life m, T.sh[n].poison, T.sh[n].lost⟩ rfl
    obtain ⟨c1, c2, k0, k1⟩ := h'.heads
    obtain ⟨c0, _, _⟩ := h'.cells n hn
    have HI := Lib.hid (thas_any h' n)
    rw [hi] at HI
    have HP := Lib.hid (And.intro hp1 hp2)
    have h2 := h.n2
    obtain ⟨x, hx⟩ : ∃ x, T.sh[n].life = x := ⟨_, rfl⟩
    have HF := Lib.hid (gainFn (w := w.alloc (.cells #[.int .i64 m] 3)) c0 hp3 hg)
    have HC : Hid (Calls Tryz.prog 90 #[.pointer (some ⟨b, 0, none⟩), .int .i64 n, .func (.func 107) #[] #[.pointer (some ⟨w.heap.size, 0, none⟩)]] (w.alloc (.cells #[.int .i64 m] 3))
        (RetT (w.alloc (.cells #[.int .i64 m] 3)) lo b s r (.int .i64 0) (putT T n ⟨addZ T.sh[n].life m, T.sh[n].poison, T.sh[n].lost⟩))) := Lib.hid (by
      obtain ⟨W, hW⟩ : ∃ W, w.alloc (.cells #[.int .i64 m] 3) = W := ⟨_, rfl⟩
      obtain ⟨g, hgn⟩ : ∃ g, w.heap.size = g := ⟨_, rfl⟩
      rw [hW] at HI HF HP k0 k1 ⊢
      rw [hgn] at HF ⊢
      clear h h' hb hi e hg hW hgn HG hp1 hp2 hp3 c0 hx hmf
      go_enter Tryz.func90, Tryz.ntmps90
      go_wp2_with fail
      refine HI.out.mono ?_
      rintro e w1 ⟨rfl, rfl⟩
      go_wp2_with fail
      refine HF.out.mono ?_
      rintro e w2 ⟨rfl, rfl⟩
      go_wp2
      go_ret
      exact ⟨rfl, HP.out.1.later (Below.drew (Below.refl _ _)), grown_trans HP.out.2 (grown_below (Below.drew (Below.refl _ _)))⟩)
    clear h h' hb hi e hg hp1 hp2 hp3 c0 hx HI HP HF k0 k1
    go_enter Tryz.func87, Tryz.ntmps87
    go_wp2_with fail
    refine HC.out.mono ?_
    rintro e w1 ⟨rfl, h3, h4⟩
    go_wp2
    go_ret
    exact ⟨rfl, h3, grown_trans HG.out h4⟩
end Go.Proofs.YtjgjhfeopmakaaaGreat
namespace Go.Proofs.YtjgjhfeopmakaaaGreat
open Go.RowKit

set_option maxHeartbeats 4000000 in
theorem eqShare (n : Nat) (a0 c0 a1 c1 : Int) (a2 c2 : Bool) (w : World) : (Op.equalIn (n + 2) 103 (.agg #[.int .i64 a0, .int .i64 a1, .bool a2]) (.agg #[.int .i64 c0, .int .i64 c1, .bool c2])).run Tryz.prog w = .ok (a0 == c0 && (a1 == c1 && (a2 == c2))) w := by
  have uI := Tryz.underlying3
  have gI := Tryz.isAgg3
  have zI := Tryz.sizeOf3
  have uB := Tryz.underlying4
  have gB := Tryz.isAgg4
  have zB := Tryz.sizeOf4
  have hS : Tryz.prog.underlying 103 = some (.struct (Tryz.prog.fieldsOf 103)) := by kernel_rfl
  rw [run_equalIn_agg w (n + 1) 103 _ _ hS (by kernel_rfl)]
  simp only [Program.fieldsOf, Tryz.underlying103]
  go_simp
  by_cases h0 : a0 = c0
  · subst h0
    by_cases h1 : a1 = c1
    · subst h1
      by_cases h2 : a2 = c2
      · subst h2
        simp
      · simp [h2]
    · simp [h1]
  · simp [h0]
theorem neqShare (a0 c0 a1 c1 : Int) (a2 c2 : Bool) (w : World) : (binOp .neq 103 (.agg #[.int .i64 a0, .int .i64 a1, .bool a2]) (.agg #[.int .i64 c0, .int .i64 c1, .bool c2])).run Tryz.prog w = .ok (.bool (!(a0 == c0 && (a1 == c1 && (a2 == c2))))) w := by
  rw [run_neq_struct, eqShare 9998]
  rfl
theorem neqgS (x y : Operand) (xs ys : Array Value) (W : World) : (eqGuard .neq 103 x y (.agg xs) (.agg ys)).run Tryz.prog W = .ok () W := run_eqGuard_agg W .neq 103 x y xs ys (by kernel_rfl)
def eqS (x y : ShareL) : Bool := x.life == y.life && (x.poison == y.poison && (x.lost == y.lost))
theorem eqS_iff (x y : ShareL) : eqS x y = true ↔ x = y := by
  unfold eqS
  obtain ⟨x0, x1, x2⟩ := x
  obtain ⟨y0, y1, y2⟩ := y
  simp only [Bool.and_eq_true, beq_iff_eq, ShareL.mk.injEq]
instance : DecidableEq ShareL := fun x y => decidable_of_iff (eqS x y = true) (eqS_iff x y)
def ShAt (w : World) (r : Nat) (l : List ShareL) : Prop := ∀ n (hn : n < l.length), w.cell? ⟨r, n * 3, none⟩ = some (.int .i64 l[n].life) ∧ w.cell? ⟨r, n * 3 + 1, none⟩ = some (.int .i64 l[n].poison) ∧ w.cell? ⟨r, n * 3 + 2, none⟩ = some (.bool l[n].lost)
set_option maxRecDepth 100000 in
set_option maxHeartbeats 4000000 in
theorem equal_shares {w : World} {q r xc yc : Nat} {l m : List ShareL} (hl : ShAt w q l) (hr : ShAt w r m) (hn : l.length ≤ 1000) :
    Calls Tryz.prog 71 #[.slice (some ⟨q, 0, none⟩) l.length xc, .slice (some ⟨r, 0, none⟩) m.length yc] w fun e w' => e = .returned (.bool (decide (l = m))) ∧ ∃ n, w' = w.drewN n := by
  have HL := Lib.hid hl
  have HR := Lib.hid hr
  clear hl hr
  by_cases hne : l.length ≠ m.length
  · have d : ((l.length : Int) != m.length) = true := bne_iff_ne.2 (by omega)
    have HS := Lib.hid (show decide (l = m) = false from decide_eq_false (fun e => hne (by rw [e])))
    clear hne
    go_enter Tryz.func71, Tryz.ntmps71
    go_wp2
    go_ret
    exact ⟨ret_bool HS.out.symm, 0, rfl⟩
  have heq : l.length = m.length := Classical.not_not.1 hne
  have d : ((l.length : Int) != m.length) = false := by rw [heq]; exact bne_self_eq_false _
  have HQ := Lib.hid heq
  clear hne heq
  have h2 := @neqgS
  go_enter Tryz.func71, Tryz.ntmps71
  go_wp2
  go_loopw [13] (fun i wr => ∃ k n : Nat, k ≤ l.length ∧ i = .int .i64 k ∧ wr = w.drewN n ∧ Hid (l.take k = m.take k)) (fun i _ => l.length - (intOf i).toNat)
  case atStart => exact ⟨0, 0, Nat.zero_le _, rfl, rfl, Lib.hid rfl⟩
  case round =>
    obtain ⟨k, n, hk, rfl, rfl, HK⟩ := hrel
    by_cases hlt : k < l.length
    · have hlt2 : k < m.length := by have := HQ.out; omega
      obtain ⟨o0, o1, o2⟩ := HL.out k hlt
      obtain ⟨p0, p1, p2⟩ := HR.out k hlt2
      have HT1 := Lib.hid (take_last l k hlt)
      have HT2 := Lib.hid (take_last m k hlt2)
      have HIX := Lib.hid (show l = m → l[k] = m[k] from fun e => by subst e; rfl)
      obtain ⟨x, hx⟩ : ∃ x, l[k] = x := ⟨_, rfl⟩
      obtain ⟨y, hy⟩ : ∃ y, m[k] = y := ⟨_, rfl⟩
      rw [hx] at o0 o1 o2 HT1 HIX
      rw [hy] at p0 p1 p2 HT2 HIX
      obtain ⟨E, hE⟩ : ∃ E, eqS x y = E := ⟨_, rfl⟩
      have h3 := fun W => neqShare x.life y.life x.poison y.poison x.lost y.lost W
      have hE' := hE
      unfold eqS at hE'
      rw [hE'] at h3
      have d0 : (0 : Int) ≤ k := by omega
      have d1 : (k : Int) < l.length := by omega
      have d2 : (k : Int) < m.length := by omega
      clear hE' hx hy
      cases E
      · have HS := Lib.hid (show decide (l = m) = false from decide_eq_false (fun e => by
          have h4 := HIX.out e
          rw [(eqS_iff x y).2 h4] at hE
          cases hE))
        clear hE
        go_wp2
        go_quiet (fail)
        go_wp2
        go_ret
        exact ⟨ret_bool HS.out.symm, _, World.drewN_drewN _ _ _⟩
      · have HT : Hid (l.take (k + 1) = m.take (k + 1)) := Lib.hid (by
          rw [HT1.out, HT2.out, HK.out, (eqS_iff x y).1 hE])
        clear hE
        go_wp2
        go_quiet (fail)
        go_wp2
        go_roundw
        case rel => exact ⟨k + 1, _, by omega, by go_num, rfl, HT⟩
        case measure => simp [intOf]; omega
    · obtain rfl : k = l.length := by omega
      have HS := Lib.hid (show decide (l = m) = true from decide_eq_true (by
        have h1 := HK.out
        rw [List.take_length, HQ.out, List.take_length] at h1
        exact h1))
      go_wp2
      go_ret
      exact ⟨ret_bool HS.out.symm, _, rfl⟩
end Go.Proofs.YtjgjhfeopmakaaaGreat
namespace Go.Proofs.YtjgjhfeopmakaaaGreat
open Go.RowKit

theorem info_share : (Tryz.prog.info? 103).map (fun i => (i.zero, i.size, i.bytes)) = some (some (.agg #[.int .i64 0, .int .i64 0, .bool false]), 3, 24) := by kernel_rfl
/-- A row that begins with xs. -/
def RowI9 (w : World) (t : TypeId) (g : Nat) (xs : List Value) : Prop := ∃ cur, w.heap[g]? = some (.cells cur t (0, 0)) ∧ cur.toList.take xs.length = xs
theorem RowI9.lt {w : World} {t : TypeId} {g : Nat} {xs : List Value} (h : RowI9 w t g xs) : g < w.heap.size := by
  obtain ⟨_, h, _⟩ := h
  exact (Array.getElem?_eq_some_iff.1 h).1
theorem RowI9.later {w w' : World} {t : TypeId} {g : Nat} {xs : List Value} (h : RowI9 w t g xs) (hb : Below w.heap.size w w') : RowI9 w' t g xs := by
  have hl := h.lt
  obtain ⟨cur, h1, h2⟩ := h
  exact ⟨cur, (hb.block g hl).trans h1, h2⟩
theorem RowI9.cell {w : World} {t : TypeId} {g : Nat} {xs : List Value} (h : RowI9 w t g xs) (j : Nat) (hj : j < xs.length) : w.cell? ⟨g, j, none⟩ = some xs[j] := by
  obtain ⟨cur, h1, h2⟩ := h
  have e : cur[j]? = xs[j]? := by rw [← Array.getElem?_toList, ← List.getElem?_take_of_lt hj, h2]
  rw [cell_of_row w g j cur t _ h1, e]
  simp [hj]
theorem own_rowIn {w : World} {base sz : Nat} {t : TypeId} {v : Value} {n : Nat} {xs : List Value} (h : w.ownsRow base t sz v n xs) (hn : 0 < n) : ∃ g cap, v = .slice (some ⟨g, 0, none⟩) n cap ∧ base ≤ g ∧ RowI9 w t g xs := by
  have hl : xs.length = n * sz := h.1
  rcases h.2 with ⟨rfl, h0⟩ | ⟨g, cap, cur, rfl, hb, hg, _, _, hs, ht⟩
  · omega
  · exact ⟨g, cap, rfl, hb, cur, hg, by rw [hl]; exact ht⟩
def RetRow (w : World) (t : TypeId) (n : Nat) (xs : List Value) (e : Ending) (w' : World) : Prop := ∃ g cap, e = .returned (.slice (some ⟨g, 0, none⟩) n cap) ∧ w.heap.size ≤ g ∧ RowI9 w' t g xs ∧ Below w.heap.size w w'
theorem clone_ints {w : World} {b off cap : Nat} {L : List Int} (hc : ∀ j (h : j < L.length), w.cell? ⟨b, off + j, none⟩ = some (.int .i64 L[j])) (h0 : 0 < L.length) (hL : L.length ≤ 1000) :
    Calls Tryz.prog 60 #[.slice (some ⟨b, off, none⟩) L.length cap] w (RetRow w 3 L.length (intsV L)) := by
  refine (Tryz.slices_Clone_int b off L.length cap L w (Nat.le_refl _) (by omega) (fun j hj => ?_)).mono ?_
  · rw [hc j hj]
    simp [List.getD, hj]
  · rintro e w' ⟨v', rfl, ho, _, hb'⟩
    rw [List.take_length] at ho
    obtain ⟨g, cap', rfl, h1, h2⟩ := own_rowIn ho h0
    exact ⟨g, cap', rfl, h1, h2, hb'⟩
theorem some_share (a : Addr) (n c : Nat) (W : World) : (binOp .eql 80 (.slice (some a) n c) (.slice none 0 0)).run Tryz.prog W = .ok (.bool false) W := by kernel_rfl
set_option maxRecDepth 100000 in
set_option maxHeartbeats 2000000 in
theorem clone_shares {w : World} {r cap : Nat} {l : List ShareL} (h : RowI9 w 103 r (sharesV l)) (h0 : 0 < l.length) (hl : l.length ≤ 1000) :
    Calls Tryz.prog 61 #[.slice (some ⟨r, 0, none⟩) l.length cap] w (RetRow w 103 l.length (sharesV l)) := by
  obtain ⟨i0, hi0, hz0, hz1, hz2⟩ := info_parts info_share
  have HNW : Hid (∀ j u, (sharesV l)[j]? = some u → (w.alloc (.cells #[] 103)).cell? ((⟨r, 0, none⟩ : Addr).add j) = some u) := Lib.hid fun j u hu => by
    obtain ⟨hj, rfl⟩ := List.getElem?_eq_some_iff.1 hu
    rw [show (⟨r, 0, none⟩ : Addr).add j = ⟨r, j, none⟩ by simp [Addr.add]; omega]
    exact cell_stays (below_new w _) (h.cell j hj)
  have HTL := Lib.hid (sharesV_len l)
  have HW0 := Lib.hid (show (w.alloc (.cells #[] 103)).ownsRow w.heap.size 103 3 (.slice (some ⟨w.heap.size, 0, none⟩) 0 0) 0 [] from ⟨rfl, .inr ⟨w.heap.size, 0, #[], rfl, Nat.le_refl _, heap_alloc_new w _, Nat.le_refl _, Nat.zero_le _, rfl, rfl⟩⟩)
  clear h
  have hq := some_share
  go_enter Tryz.func61, Tryz.ntmps61
  go_wp2_with (at_builtin; refine wpList_append_lies _ rfl _ _ 80 rfl w.heap.size 103 i0 _ 3 24 Tryz.underlying80 hi0 hz0 hz1 hz2 rfl (by decide) (.slice (some ⟨w.heap.size, 0, none⟩) 0 0) 0 [] rfl HW0.out ⟨r, 0, none⟩ l.length cap (sharesV l) rfl HTL.out HNW.out (sharesV_one _) h0 (by unfold maxLen; omega) (by omega) (by simp) _ rfl ?_)
  intro g' cap' w6 hown hgrow hat hlt6
  have HO := Lib.hid hown
  have HB := Lib.hid (show Below w.heap.size w w6 from (below_new w _).grown hgrow (by simp) (fun c e => by have e1 : w.heap.size = c := Option.some.inj e; omega))
  clear hown hgrow hat hlt6 hi0 hz0 hz1 hz2
  go_wp2
  go_ret
  obtain ⟨g, cap2, he, h1, h2⟩ := own_rowIn HO.out (by omega)
  (try simp only [Nat.zero_add, List.nil_append] at he h2)
  exact ⟨g, cap2, by simp [he], h1, h2, HB.out⟩
theorem team_parts {w : World} {lo b s r c1 c2 : Nat} {T : TeamL} (hd : w.heap[b]? = some (.cells #[.slice (some ⟨s, 0, none⟩) T.sides.length c1, .slice (some ⟨r, 0, none⟩) T.sh.length c2] 82 (0, 0)))
    (hs : RowI9 w 3 s (intsV T.sides)) (hr : RowI9 w 103 r (sharesV T.sh)) (lb : lo ≤ b) (ls : lo ≤ s) (lr : lo ≤ r) (br : b ≠ r) (sr : s ≠ r) (n1 : 1 ≤ T.sides.length ∧ T.sides.length ≤ 4) (n2 : T.sh.length ≤ 4)
    (nd : ∀ x ∈ T.sides, 0 ≤ x ∧ x < T.sh.length) : TeamAt w lo b s r T := by
  refine ⟨⟨c1, c2, hd⟩, ⟨hs.lt, fun k hk => ?_⟩, ?_, lb, ls, lr, br, sr, n1, n2, nd⟩
  · rw [hs.cell k (by rw [intsV_len]; exact hk)]
    simp [intsV]
  · obtain ⟨cur, h1, h2⟩ := hr
    rw [sharesV_len] at h2
    exact ⟨cur, h1, h2⟩
theorem TeamAt.rowS {w : World} {lo b s r : Nat} {T : TeamL} (h : TeamAt w lo b s r T) : RowI9 w 103 r (sharesV T.sh) := by
  obtain ⟨cur, h1, h2⟩ := h.rw
  exact ⟨cur, h1, by rw [sharesV_len]; exact h2⟩
theorem TeamAt.pos {w : World} {lo b s r : Nat} {T : TeamL} (h : TeamAt w lo b s r T) : 0 < T.sh.length := by
  have h1 := h.n1.1
  have := h.nd _ (List.getElem_mem (show 0 < T.sides.length by omega))
  omega
def RetTeam (w : World) (T : TeamL) (e : Ending) (w' : World) : Prop := ∃ b s r, e = .returned (.pointer (some ⟨b, 0, none⟩)) ∧ TeamAt w' w.heap.size b s r T ∧ Below w.heap.size w w'
set_option maxRecDepth 100000 in
set_option maxHeartbeats 4000000 in
theorem tcopy_any {w : World} {lo b s r : Nat} {T : TeamL} (h : TeamAt w lo b s r T) : Calls Tryz.prog 28 #[.pointer (some ⟨b, 0, none⟩)] w (RetTeam w T) := by
  obtain ⟨c1, c2, k0, k1⟩ := h.heads
  have HS : Hid (∀ w', Below w.heap.size w w' → Calls Tryz.prog 60 #[.slice (some ⟨s, 0, none⟩) T.sides.length c1] w' (RetRow w' 3 T.sides.length (intsV T.sides))) := Lib.hid fun w' hb =>
    clone_ints (fun j hj => by rw [Nat.zero_add]; exact cell_stays hb (h.sd.2 j hj)) (by have := h.n1; omega) (by have := h.n1; omega)
  have HR : Hid (∀ w', Below w.heap.size w w' → Calls Tryz.prog 61 #[.slice (some ⟨r, 0, none⟩) T.sh.length c2] w' (RetRow w' 103 T.sh.length (sharesV T.sh))) := Lib.hid fun w' hb =>
    clone_shares (h.rowS.later hb) h.pos (by have := h.n2; omega)
  have HT := Lib.hid (And.intro h.n1 (And.intro h.n2 h.nd))
  clear h
  go_enter Tryz.func28, Tryz.ntmps28
  go_wp2
  go_region_law ((first
    | (go_simp; go_at_call 60; refine (HS.out _ (below_drewN (Below.refl _ _) _)).mono ?_; rintro e w7 ⟨g7, x7, rfl, l7, o7, hb7⟩; have hb7' := stepB (below_drewN (Below.refl w.heap.size w) _) hb7; have c17 := cell_stays hb7' k1; dsimp only)
    | (go_simp; go_at_call 61; refine (HR.out _ hb7').mono ?_; rintro e w8 ⟨g8, x8, rfl, l8, o8, hb8⟩; have hb8' := stepB hb7' hb8; have c18 := cell_stays hb8' k0; have HRES : Hid (w.heap.size ≤ g7 ∧ w.heap.size ≤ g8 ∧ g7 ≠ g8 ∧ RowI9 w8 3 g7 (intsV T.sides) ∧ RowI9 w8 103 g8 (sharesV T.sh) ∧ Below w.heap.size w w8) := Lib.hid ⟨l7, Nat.le_trans hb7'.size l8, by have := o7.lt; omega, o7.later hb8, o8, hb8'⟩; dsimp only)
    | (go_simp; go_at_call 61; refine (HR.out _ (below_drewN (Below.refl _ _) _)).mono ?_; rintro e w7 ⟨g8, x8, rfl, l8, o8, hb7⟩; have hb7' := stepB (below_drewN (Below.refl w.heap.size w) _) hb7; have c07 := cell_stays hb7' k0; dsimp only)
    | (go_simp; go_at_call 60; refine (HS.out _ hb7').mono ?_; rintro e w8 ⟨g7, x7, rfl, l7, o7, hb8⟩; have hb8' := stepB hb7' hb8; have c18 := cell_stays hb8' k1; have HRES : Hid (w.heap.size ≤ g7 ∧ w.heap.size ≤ g8 ∧ g7 ≠ g8 ∧ RowI9 w8 3 g7 (intsV T.sides) ∧ RowI9 w8 103 g8 (sharesV T.sh) ∧ Below w.heap.size w w8) := Lib.hid ⟨Nat.le_trans hb7'.size l7, l8, by have := o8.lt; omega, o7, o8.later hb8, hb8'⟩; dsimp only)
    | (trace_state; fail "arm")))
  all_goals
    go_wp2
    go_ret
    obtain ⟨e1, e2, e3, e4, e5, e6⟩ := HRES.out
    have e7 := e4.lt
    have e8 := e5.lt
    refine ⟨_, g7, g8, rfl, team_parts (heap_alloc_new _ _) (e4.later (below_new _ _)) (e5.later (below_new _ _)) e6.size e1 e2 ?_ e3 HT.out.1 HT.out.2.1 HT.out.2.2, below_alloc2 e6 _⟩
    first | omega | (simp; omega)
end Go.Proofs.YtjgjhfeopmakaaaGreat

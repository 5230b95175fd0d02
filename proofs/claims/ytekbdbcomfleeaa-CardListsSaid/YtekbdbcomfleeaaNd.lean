/- The contract of nextList of a codec of cards (layers 1 and 2), for a string that holds the put cards. -/
import Derived.Test.YtekbdbcomfleeaaCj
import Derived.Test.YtekbdbcomfleeaaCl
import Derived.Test.YtekbdbcomfleeaaMp
import Derived.Test.YtekbdbcomfleeaaNn
namespace Go.Proofs.Ytekbdbcomfleeaa
open Go.RowKit Go.Lib

/-- What the first k cards take. -/
def offB (l : List CardL) (k : Nat) : Nat := ((l.take k).flatMap cardBytes).length
/-- Cards one behind the other. -/
def joined (l : List CardL) : List UInt8 := l.flatMap cardBytes
theorem offB_zero (l : List CardL) : offB l 0 = 0 := by simp [offB]
theorem offB_succ (l : List CardL) (k : Nat) (hk : k < l.length) : offB l (k + 1) = offB l k + 7 + 3 * l[k].terms.length := by
  unfold offB
  rw [List.take_succ_eq_append_getElem hk, List.flatMap_append, List.length_append]
  simp [cardBytes_len]; omega
theorem offB_all (l : List CardL) : offB l l.length = (joined l).length := by unfold offB joined; rw [List.take_length]
theorem ReadsAt.right {s : ByteArray} {a : Nat} {l r : List UInt8} (h : ReadsAt s a (l ++ r)) : ReadsAt s (a + l.length) r := by
  obtain ⟨h1, h2⟩ := h
  rw [List.length_append] at h1
  refine ⟨by omega, fun j hj => ?_⟩
  have := h2 (l.length + j) (by rw [List.length_append]; omega)
  rw [List.getElem_append_right (by omega)] at this
  rw [Nat.add_assoc, this]
  simp
theorem joined_at (l : List CardL) (k : Nat) (hk : k < l.length) : joined l = (l.take k).flatMap cardBytes ++ (cardBytes l[k] ++ (l.drop (k + 1)).flatMap cardBytes) := by
  have h : l = l.take k ++ (l[k] :: l.drop (k + 1)) := by rw [← List.drop_eq_getElem_cons hk, List.take_append_drop]
  unfold joined
  conv => lhs; rw [h]
  rw [List.flatMap_append, List.flatMap_cons]
theorem reads_item {s : ByteArray} {a : Nat} {l : List CardL} (h : ReadsAt s a (joined l)) (k : Nat) (hk : k < l.length) : ReadsAt s (a + offB l k) (cardBytes l[k]) := by
  rw [joined_at l k hk] at h
  exact h.right.left
theorem next_item {s : ByteArray} {a : Nat} {l : List CardL} (hm : ∀ c ∈ l, mayB c = true) (h : ReadsAt s a (joined l)) (k : Nat) (hk : k < l.length) :
    cnextAt s ((a : Int) + offB l k) = (l[k], (a : Int) + offB l (k + 1), 0) := by
  have hmk := hm l[k] (List.getElem_mem hk)
  obtain ⟨h1, h2, h3⟩ := may_fits hmk
  have he := errC h1 h2 h3 (reads_item h k hk)
  rw [if_pos hmk] at he
  rw [show ((a + offB l k : Nat) : Int) = (a : Int) + offB l k by omega] at he
  rw [he, offB_succ l k hk]
  congr 2
  omega

theorem info_card : (Try.prog.info? 24).map (fun i => (i.zero, i.size, i.bytes)) = some (some (.agg #[.int .i64 0, .int .i64 0, .int .i64 0, .int .i64 0, .int .i64 0, .int .i64 0, .slice none 0 0]), 7, 72) := by kernel_rfl

def set7 (C : Array Value) (m : Nat) (u0 u1 u2 u3 u4 u5 u6 : Value) : Array Value := (((((((C.setIfInBounds (m) u0).setIfInBounds (m + 1) u1).setIfInBounds (m + 2) u2).setIfInBounds (m + 3) u3).setIfInBounds (m + 4) u4).setIfInBounds (m + 5) u5).setIfInBounds (m + 6) u6)
theorem set7_size (C : Array Value) (m : Nat) (u0 u1 u2 u3 u4 u5 u6 : Value) : (set7 C m u0 u1 u2 u3 u4 u5 u6).size = C.size := by simp [set7]
theorem set7_far (C : Array Value) (m : Nat) (u0 u1 u2 u3 u4 u5 u6 : Value) (j : Nat) (h : j < m) : (set7 C m u0 u1 u2 u3 u4 u5 u6)[j]? = C[j]? := by
  unfold set7
  simp only [Array.getElem?_setIfInBounds]
  rw [if_neg (by omega), if_neg (by omega), if_neg (by omega), if_neg (by omega), if_neg (by omega), if_neg (by omega), if_neg (by omega)]
theorem set7_0 (C : Array Value) (m : Nat) (u0 u1 u2 u3 u4 u5 u6 : Value) (h : m + 7 ≤ C.size) : (set7 C m u0 u1 u2 u3 u4 u5 u6)[m]? = some u0 := by
  unfold set7
  have h0 : m < C.size := by omega
  simp [h0]
theorem set7_1 (C : Array Value) (m : Nat) (u0 u1 u2 u3 u4 u5 u6 : Value) (h : m + 7 ≤ C.size) : (set7 C m u0 u1 u2 u3 u4 u5 u6)[m + 1]? = some u1 := by
  unfold set7
  have h0 : m + 1 < C.size := by omega
  simp [h0]
theorem set7_2 (C : Array Value) (m : Nat) (u0 u1 u2 u3 u4 u5 u6 : Value) (h : m + 7 ≤ C.size) : (set7 C m u0 u1 u2 u3 u4 u5 u6)[m + 2]? = some u2 := by
  unfold set7
  have h0 : m + 2 < C.size := by omega
  simp [h0]
theorem set7_3 (C : Array Value) (m : Nat) (u0 u1 u2 u3 u4 u5 u6 : Value) (h : m + 7 ≤ C.size) : (set7 C m u0 u1 u2 u3 u4 u5 u6)[m + 3]? = some u3 := by
  unfold set7
  have h0 : m + 3 < C.size := by omega
  simp [h0]
theorem set7_4 (C : Array Value) (m : Nat) (u0 u1 u2 u3 u4 u5 u6 : Value) (h : m + 7 ≤ C.size) : (set7 C m u0 u1 u2 u3 u4 u5 u6)[m + 4]? = some u4 := by
  unfold set7
  have h0 : m + 4 < C.size := by omega
  simp [h0]
theorem set7_5 (C : Array Value) (m : Nat) (u0 u1 u2 u3 u4 u5 u6 : Value) (h : m + 7 ≤ C.size) : (set7 C m u0 u1 u2 u3 u4 u5 u6)[m + 5]? = some u5 := by
  unfold set7
  have h0 : m + 5 < C.size := by omega
  simp [h0]
theorem set7_6 (C : Array Value) (m : Nat) (u0 u1 u2 u3 u4 u5 u6 : Value) (h : m + 7 ≤ C.size) : (set7 C m u0 u1 u2 u3 u4 u5 u6)[m + 6]? = some u6 := by
  unfold set7
  have h0 : m + 6 < C.size := by omega
  simp [h0]

/-- A row of the call's own, of which the first cards are written. -/
def RowC (w : World) (b n : Nat) (acc : List CardL) : Prop :=
  ∃ (C : Array Value) (T : TypeId), w.heap[b]? = some (.cells C T (0, 0)) ∧ C.size = n * 7 ∧ ∀ j (h : j < acc.length), ∃ ya yn yc, C[j * 7]? = some (.int .i64 acc[j].kind) ∧ C[j * 7 + 1]? = some (.int .i64 acc[j].cost) ∧ C[j * 7 + 2]? = some (.int .i64 acc[j].power) ∧ C[j * 7 + 3]? = some (.int .i64 acc[j].tough) ∧ C[j * 7 + 4]? = some (.int .i64 acc[j].keys) ∧ C[j * 7 + 5]? = some (.int .i64 acc[j].whn) ∧ C[j * 7 + 6]? = some (.slice ya yn yc) ∧ TermsFrom (b + 1) w (.slice ya yn yc) acc[j].terms
theorem RowC.later {w w' : World} {b n : Nat} {acc : List CardL} (h : RowC w b n acc) (hb : Below w.heap.size w w') : RowC w' b n acc := by
  obtain ⟨C, T, hC, hs, hc⟩ := h
  refine ⟨C, T, (hb.block b (lt_of_row hC)).trans hC, hs, fun j hj => ?_⟩
  obtain ⟨ya, yn, yc, c0, c1, c2, c3, c4, c5, c6, ht⟩ := hc j hj
  exact ⟨ya, yn, yc, c0, c1, c2, c3, c4, c5, c6, ht.later hb⟩
theorem RowC.cell {w : World} {b n : Nat} {acc : List CardL} (h : RowC w b n acc) (k : Nat) (hk : k < n * 7) : ∃ v, w.cell? ⟨b, k, none⟩ = some v := by
  obtain ⟨C, T, hC, hs, _⟩ := h
  exact ⟨C[k]'(by omega), by simp [World.cell?, hC, hs, hk]⟩
theorem RowC.frozen {w : World} {b n : Nat} {acc : List CardL} (h : RowC w b n acc) (k : Nat) : w.frozen? ⟨b, k, none⟩ = false := by
  obtain ⟨C, T, hC, hs, _⟩ := h
  simp [World.frozen?, hC]
def wset7 (w : World) (b m : Nat) (u0 u1 u2 u3 u4 u5 u6 : Value) : World := (((((((w.setCell ⟨b, m, none⟩ u0).setCell ⟨b, m + 1, none⟩ u1).setCell ⟨b, m + 2, none⟩ u2).setCell ⟨b, m + 3, none⟩ u3).setCell ⟨b, m + 4, none⟩ u4).setCell ⟨b, m + 5, none⟩ u5).setCell ⟨b, m + 6, none⟩ u6)
theorem wset7_block (w : World) (b m : Nat) (u0 u1 u2 u3 u4 u5 u6 : Value) (C : Array Value) (T : TypeId) (h : w.heap[b]? = some (.cells C T (0, 0))) : (wset7 w b m u0 u1 u2 u3 u4 u5 u6).heap[b]? = some (.cells (set7 C m u0 u1 u2 u3 u4 u5 u6) T (0, 0)) := by
  simp [wset7, set7, World.setCell, Array.getElem?_modify, h]
theorem wset7_terms (w : World) (b m : Nat) (u0 u1 u2 u3 u4 u5 u6 : Value) (v : Value) (l : List TermL) (h : TermsFrom (b + 1) w v l) : TermsFrom (b + 1) (wset7 w b m u0 u1 u2 u3 u4 u5 u6) v l := by
  unfold wset7
  repeat (first | with_reducible exact h | with_reducible refine TermsFrom.setCell ?_ (Nat.lt_succ_self b) _)
theorem wset7_below (w0 w : World) (b m : Nat) (u0 u1 u2 u3 u4 u5 u6 : Value) (hb : w0.heap.size ≤ b) (h : Below w0.heap.size w0 w) : Below w0.heap.size w0 (wset7 w b m u0 u1 u2 u3 u4 u5 u6) := by
  unfold wset7
  repeat (first | with_reducible exact h | with_reducible refine Below.setCell ?_ hb _)
theorem RowC.put {w : World} {b n : Nat} {acc : List CardL} (h : RowC w b n acc) (c : CardL) (xa : Option Addr) (xn xc : Nat) (ht : TermsFrom (b + 1) w (.slice xa xn xc) c.terms) (hk : acc.length < n) :
    RowC (wset7 w b (acc.length * 7) (.int .i64 c.kind) (.int .i64 c.cost) (.int .i64 c.power) (.int .i64 c.tough) (.int .i64 c.keys) (.int .i64 c.whn) (.slice xa xn xc)) b n (acc ++ [c]) := by
  obtain ⟨C, T, hC, hs, hc⟩ := h
  refine ⟨_, T, wset7_block _ _ _ _ _ _ _ _ _ _ C T hC, by rw [set7_size]; exact hs, fun j hj => ?_⟩
  rw [List.length_append] at hj
  simp only [List.length_singleton] at hj
  by_cases e : j = acc.length
  · subst e
    have h7 : acc.length * 7 + 7 ≤ C.size := by omega
    rw [List.getElem_append_right (Nat.le_refl _)]
    simp only [Nat.sub_self, List.getElem_singleton]
    exact ⟨xa, xn, xc, set7_0 _ _ _ _ _ _ _ _ _ h7, set7_1 _ _ _ _ _ _ _ _ _ h7, set7_2 _ _ _ _ _ _ _ _ _ h7, set7_3 _ _ _ _ _ _ _ _ _ h7, set7_4 _ _ _ _ _ _ _ _ _ h7, set7_5 _ _ _ _ _ _ _ _ _ h7, set7_6 _ _ _ _ _ _ _ _ _ h7, wset7_terms _ _ _ _ _ _ _ _ _ _ _ _ ht⟩
  · have hj' : j < acc.length := by omega
    obtain ⟨ya, yn, yc, c0, c1, c2, c3, c4, c5, c6, ht'⟩ := hc j hj'
    rw [List.getElem_append_left hj']
    exact ⟨ya, yn, yc, (set7_far _ _ _ _ _ _ _ _ _ _ (by omega)).trans c0, (set7_far _ _ _ _ _ _ _ _ _ _ (by omega)).trans c1, (set7_far _ _ _ _ _ _ _ _ _ _ (by omega)).trans c2, (set7_far _ _ _ _ _ _ _ _ _ _ (by omega)).trans c3, (set7_far _ _ _ _ _ _ _ _ _ _ (by omega)).trans c4, (set7_far _ _ _ _ _ _ _ _ _ _ (by omega)).trans c5, (set7_far _ _ _ _ _ _ _ _ _ _ (by omega)).trans c6, wset7_terms _ _ _ _ _ _ _ _ _ _ _ _ ht'⟩
theorem RowC.slice {w : World} {b n : Nat} {acc : List CardL} (h : RowC w b n acc) (hn : acc.length = n) (B : Nat) (hB : B ≤ b) : CardsFrom B w (.slice (some ⟨b, 0, none⟩) n n) acc := by
  obtain ⟨C, T, hC, hs, hc⟩ := h
  refine .inr ⟨b, 0, n, by rw [hn], hB, lt_of_row hC, fun i hi => ?_⟩
  obtain ⟨ya, yn, yc, c0, c1, c2, c3, c4, c5, c6, ht⟩ := hc i hi
  simp only [Nat.zero_add]
  exact ⟨ya, yn, yc, by simp [World.cell?, hC, c0], by simp [World.cell?, hC, c1], by simp [World.cell?, hC, c2], by simp [World.cell?, hC, c3], by simp [World.cell?, hC, c4], by simp [World.cell?, hC, c5], by simp [World.cell?, hC, c6], ht.mono (by omega)⟩
theorem RowC.made (w : World) (n : Nat) (C : Array Value) (T : TypeId) (hs : C.size = n * 7) : RowC (w.alloc (.cells C T)) w.heap.size n [] :=
  ⟨C, T, heap_alloc_new w _, hs, fun j hj => by simp at hj⟩

set_option maxRecDepth 100000 in
set_option maxHeartbeats 4000000 in
theorem nextList_d {r : Nat} (s : ByteArray) (a : Nat) (l : List CardL) (w : World) (hh : CHas w r) (hs : s.size ≤ maxLen) (hl : l.length ≤ 20) (hm : ∀ c ∈ l, mayB c = true) (hr : ReadsAt s a (UInt8.ofNat l.length :: joined l)) :
    Calls Try.prog 50 #[cAgg r, .int .i64 (20 : Nat), .string s, .int .i64 a] w (Post_d w l ((a : Int) + 1 + (joined l).length) 0) := by
  obtain ⟨i0, hi, hz0, hz1, hz2⟩ := info_parts info_card
  have HS := Lib.hid hs
  unfold maxLen at hs
  have HHH := Lib.hid hh
  have hlt : a < s.size := by have := hr.1; rw [List.length_cons] at this; omega
  obtain ⟨hg, hr1⟩ := hr.tail
  have HIT := Lib.hid (fun k hk => next_item hm hr1 k hk)
  obtain ⟨n, hn⟩ : ∃ n, l.length = n := ⟨_, rfl⟩
  have HN : Hid (nextAt (nextN 1) s (a : Int) = ((n : Int), (a : Int) + 1, 0)) := Lib.hid (by
    rw [next1_yes s a hlt, byteAt_gb, hg, hn]
    congr 1
    simp; omega)
  have HE : Hid (offB l n = (joined l).length) := Lib.hid (by rw [← hn]; exact offB_all l)
  have HNL := Lib.hid hn
  have hn20 : n ≤ 20 := by omega
  have hd : decide ((20 : Int) < n) = false := decide_eq_false (by omega)
  obtain ⟨tot, htot⟩ : ∃ t, (joined l).length = t := ⟨_, rfl⟩
  rw [htot] at HE ⊢
  have hmk : ∀ u : World, (Instr.makeSlice 47 (.int .i64 (n : Int)) (.int .i64 (n : Int))).run Try.prog u =
      .ok (.slice (some ⟨u.heap.size, 0, none⟩) n n) (u.alloc (.cells (madeCells #[.int .i64 0, .int .i64 0, .int .i64 0, .int .i64 0, .int .i64 0, .int .i64 0, .slice none 0 0] (n * 7)) 24)) := fun u => by
    have h := run_make (P := Try.prog) u 47 24 i0 (.agg #[.int .i64 0, .int .i64 0, .int .i64 0, .int .i64 0, .int .i64 0, .int .i64 0, .slice none 0 0]) Try.underlying47 hi hz0 .i64 .i64 (n : Int) (n : Int) (by omega) (Int.le_refl _) (by rw [hz2]; omega) (by omega)
    simpa [hz1, Value.cells] using h
  clear hi hz0 hz1 hz2 hn htot hr hr1 hg hh hm hl hs hlt
  unfold cAgg
  go_enter Try.func50, Try.ntmps50
  go_wp2_with fail
  refine (num_codec 1 _).mono ?_
  rintro e w2 ⟨v1, rfl, hcod, hb1⟩
  have HC1 := Lib.hid hcod
  have HW2 := Lib.hid ((below_alloc1 w (.cells #[.func (.func 29) #[] #[.pointer (some ⟨r, 0, none⟩)], .func (.func 31) #[] #[.pointer (some ⟨r, 0, none⟩)]] 31)).trans (hb1.mono (by simp)))
  have HL2 := Lib.hid (show Below (w.heap.size + 1) (w.alloc (.cells #[.func (.func 29) #[] #[.pointer (some ⟨r, 0, none⟩)], .func (.func 31) #[] #[.pointer (some ⟨r, 0, none⟩)]] 31)) w2 from hb1.mono (by simp))
  clear hcod hb1
  go_wp2_with fail
  refine (next_codec HC1.out (Below.refl _ _) s a HS.out).mono ?_
  rw [show heldN 1 = 1 from rfl, HN.out]
  rintro e w3 ⟨rfl, hb3⟩
  unfold ret3
  have HW3 := Lib.hid (HW2.out.trans (hb3.mono HW2.out.size))
  have HL3 := Lib.hid (HL2.out.trans (hb3.mono (by have := HL2.out.size; simp at this; omega)))
  clear hb3
  go_wp2
  have hz3 : w.heap.size + 1 ≤ w3.heap.size := by have := HL3.out.size; simpa using this
  have hrow0 := RowC.made w3 n (madeCells #[.int .i64 0, .int .i64 0, .int .i64 0, .int .i64 0, .int .i64 0, .int .i64 0, .slice none 0 0] (n * 7)) 24 (size_madeCells _ _)
  have hbel0 : Below w3.heap.size w3 (w3.alloc (.cells (madeCells #[.int .i64 0, .int .i64 0, .int .i64 0, .int .i64 0, .int .i64 0, .int .i64 0, .slice none 0 0] (n * 7)) 24)) := below_alloc1 _ _
  go_loopw [3, 34] (fun at_ i wr => ∃ k : Nat, k ≤ n ∧ i = .int .i64 k ∧ (∃ q : Nat, at_ = .int .i64 ((a : Int) + 1 + q) ∧ Hid (q = offB l k)) ∧
      Hid (RowC wr w3.heap.size n (l.take k)) ∧ Hid (Below w3.heap.size w3 wr)) (fun _ i _ => n - (RowKit.intOf i).toNat)
  case atStart => exact ⟨0, Nat.zero_le _, rfl, ⟨0, by simp, Lib.hid (offB_zero l).symm⟩, Lib.hid hrow0, Lib.hid hbel0⟩
  case round =>
    obtain ⟨k, hk, rfl, ⟨q, rfl, HQ⟩, HROW, HBEL⟩ := hrel
    clear hrow0 hbel0
    have c1 : _ = some (Value.func (.func 29) #[] #[.pointer (some ⟨r, 0, none⟩)]) := (HBEL.out.cell (p := ⟨w.heap.size, 0, none⟩) (by dsimp only; omega)).trans ((HL3.out.cell (p := ⟨w.heap.size, 0, none⟩) (by simp)).trans (by simp [go_sem]))
    have c2 : _ = some (Value.func (.func 31) #[] #[.pointer (some ⟨r, 0, none⟩)]) := (HBEL.out.cell (p := ⟨w.heap.size, 1, none⟩) (by dsimp only; omega)).trans ((HL3.out.cell (p := ⟨w.heap.size, 1, none⟩) (by simp)).trans (by simp [go_sem]))
    have hsz := HBEL.out.size
    by_cases hkn : k < n
    · have hkl : k < l.length := by rw [HNL.out]; exact hkn
      have HT := Lib.hid (HIT.out k hkl)
      go_wp2_with fail
      refine (next_c s _ (HHH.out.later (HW3.out.trans (HBEL.out.mono (by omega)))) HS.out).mono ?_
      rw [show ((a : Int) + 1 + q) = (((a + 1 : Nat) : Int) + offB l k) by rw [HQ.out]; omega, HT.out]
      rintro e w4 ⟨x0, x1, x2, x3, x4, x5, xa, xn, xc, rfl, hx, hb4⟩
      unfold Val_c
      obtain ⟨q2, hq2⟩ : ∃ q2, offB l (k + 1) = q2 := ⟨_, rfl⟩
      rw [hq2]
      have HQ2 : Hid (q2 = offB l (k + 1)) := Lib.hid hq2.symm
      have hTT : TermsFrom (w3.heap.size + 1) w4 (.slice xa xn xc) l[k].terms := hx.2.2.2.2.2.2.mono (by have := (by obtain ⟨C, T, hC, _⟩ := HROW.out; exact lt_of_row hC : w3.heap.size < _); omega)
      have HROW4 := Lib.hid (HROW.out.later hb4)
      have HBEL4 := Lib.hid (HBEL.out.trans (hb4.mono hsz))

      obtain ⟨v0, hcell0⟩ := HROW4.out.cell (k * 7) (by omega)
      have hfro0 := HROW4.out.frozen (k * 7)
      obtain ⟨v1, hcell1⟩ := HROW4.out.cell (k * 7 + 1) (by omega)
      have hfro1 := HROW4.out.frozen (k * 7 + 1)
      obtain ⟨v2, hcell2⟩ := HROW4.out.cell (k * 7 + 2) (by omega)
      have hfro2 := HROW4.out.frozen (k * 7 + 2)
      obtain ⟨v3, hcell3⟩ := HROW4.out.cell (k * 7 + 3) (by omega)
      have hfro3 := HROW4.out.frozen (k * 7 + 3)
      obtain ⟨v4, hcell4⟩ := HROW4.out.cell (k * 7 + 4) (by omega)
      have hfro4 := HROW4.out.frozen (k * 7 + 4)
      obtain ⟨v5, hcell5⟩ := HROW4.out.cell (k * 7 + 5) (by omega)
      have hfro5 := HROW4.out.frozen (k * 7 + 5)
      obtain ⟨v6, hcell6⟩ := HROW4.out.cell (k * 7 + 6) (by omega)
      have hfro6 := HROW4.out.frozen (k * 7 + 6)
      have HRN : Hid (RowC (wset7 w4 w3.heap.size (k * 7) (.int .i64 x0) (.int .i64 x1) (.int .i64 x2) (.int .i64 x3) (.int .i64 x4) (.int .i64 x5) (.slice xa xn xc)) w3.heap.size n (l.take (k + 1))) := by
        have h := HROW4.out.put l[k] xa xn xc hTT (by rw [List.length_take]; omega)
        rw [List.length_take, Nat.min_eq_left (by omega), ← List.take_succ_eq_append_getElem hkl, ← hx.1, ← hx.2.1, ← hx.2.2.1, ← hx.2.2.2.1, ← hx.2.2.2.2.1, ← hx.2.2.2.2.2.1] at h
        exact Lib.hid h
      have HBN := Lib.hid (wset7_below _ _ w3.heap.size (k * 7) (.int .i64 x0) (.int .i64 x1) (.int .i64 x2) (.int .i64 x3) (.int .i64 x4) (.int .i64 x5) (.slice xa xn xc) (Nat.le_refl _) HBEL4.out)
      unfold wset7 at HRN HBN
      clear hb4 hx c1 c2 hTT hq2
      go_wp2
      go_roundw
      case rel => exact ⟨k + 1, by omega, by go_num, ⟨q2, congrArg (Value.int .i64) (by omega), HQ2⟩, HRN, HBN⟩
      case measure => simp [RowKit.intOf]; omega
    · obtain rfl : k = n := by omega
      have hq : q = tot := by rw [HQ.out, HE.out]
      subst hq
      go_wp2
      go_ret3
      exact ⟨_, _, _, _, rfl, fun _ => ⟨rfl, by have h := HROW.out; rw [← HNL.out, List.take_length, HNL.out] at h; exact h.slice HNL.out _ (by omega)⟩, HW3.out.trans (HBEL.out.mono (by omega))⟩
end Go.Proofs.Ytekbdbcomfleeaa

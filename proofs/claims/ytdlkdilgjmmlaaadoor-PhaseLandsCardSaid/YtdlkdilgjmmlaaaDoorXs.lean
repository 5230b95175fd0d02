/- What the laws of layer 15 keep of a turn and its board; the document's example (hydralaw15.awake). -/
import Derived.Test.YtdlkdilgjmmlaaaDoorXr
namespace Go.Proofs.YtdlkdilgjmmlaaaDoor
open Go.RowKit Go.Maps
attribute [local go_sem] Oper.semAt_some

/-- Behind V: the turn y at t, the board at q (no objects, teams T); the blocks P are neither's. -/
def PhJ (V wr : World) (lo : Nat) (g : GhostB) (q t : Nat) (T : TeamL) (y : TurnL) (P : Nat → Prop) : Prop :=
  ∃ g1 D1, PhAt wr lo g1 ⟨made13 [], T, D1⟩ t y ∧ g1.q = q ∧ TurnedO V wr (own3 g t) (own3 g1 t) ∧ ∀ k, P k → k < wr.heap.size ∧ ¬own3 g1 t k
theorem PhJ.later {V wr w' : World} {lo q t : Nat} {g : GhostB} {T : TeamL} {y : TurnL} {P : Nat → Prop} (h : PhJ V wr lo g q t T y P) (hb : Below wr.heap.size wr w') : PhJ V w' lo g q t T y P := by
  obtain ⟨g1, D1, h1, h2, h3, h4⟩ := h
  exact ⟨g1, D1, h1.later hb, h2, h3.trans (TurnedO.of_below hb), fun k hk => ⟨Nat.lt_of_lt_of_le (h4 k hk).1 hb.size, (h4 k hk).2⟩⟩
theorem PhJ.next {V wr : World} {lo q t : Nat} {g : GhostB} {T : TeamL} {y : TurnL} {P : Nat → Prop} (h : PhJ V wr lo g q t T y P) (hp1 : 1 ≤ y.phase) (hp8 : y.phase ≤ 8) (hn0 : 0 ≤ y.no) (hn1 : y.no ≤ 1000000) :
    Calls Tryd.prog 7 #[.pointer (some ⟨t, 0, none⟩), .pointer (some ⟨q, 0, none⟩)] wr (fun e w' => e = .returned (.tuple #[]) ∧ PhJ V w' lo g q t T (nextY T y) P ∧ (∀ k, P k → w'.heap[k]? = wr.heap[k]?) ∧ wr.heap.size ≤ w'.heap.size) := by
  obtain ⟨g1, D1, h1, h2, h3, h4⟩ := h
  have hc := next_bare h1 hp1 hp8 hn0 hn1
  rw [h2] at hc
  refine hc.mono ?_
  rintro e w' ⟨rfl, g2, D2, k1, k2, k3⟩
  exact ⟨rfl, ⟨g2, D2, k1, k2.trans h2, h3.trans k3, fun k hk => ⟨Nat.lt_of_lt_of_le (h4 k hk).1 k3.size, fun e => (h4 k hk).2 (k3.own k (h4 k hk).1 e)⟩⟩, fun k hk => k3.block k (h4 k hk).1 (h4 k hk).2, k3.size⟩
theorem PhJ.set {V wr : World} {lo q t p : Nat} {g : GhostB} {T : TeamL} {y : TurnL} {P : Nat → Prop} (h : PhJ V wr lo g q t T y P) (hp : P p) (hV : V.heap.size ≤ p) (j : Nat) (u : Value) : PhJ V (wr.setCell ⟨p, j, none⟩ u) lo g q t T y P := by
  obtain ⟨g1, D1, h1, h2, h3, h4⟩ := h
  have hk : ∀ k, k ≠ p → (wr.setCell ⟨p, j, none⟩ u).heap[k]? = wr.heap[k]? := fun k hk => heap_setCell_other wr ⟨p, j, none⟩ k u hk
  have hs : (wr.setCell ⟨p, j, none⟩ u).heap.size = wr.heap.size := by simp
  have ho : ∀ k, own3 g1 t k → k ≠ p := fun k e e2 => (h4 p hp).2 (by rw [← e2]; exact e)
  exact ⟨g1, D1, ⟨h1.bd.kept (by omega) fun k e => hk k (ho k (.inl e)), h1.tu.of (hk t (ho t (.inr rfl))), h1.nt⟩, h2,
    ⟨h3.os, h3.tape, h3.output, by have := h3.size; omega, fun k a b => (hk k (by omega)).trans (h3.block k a b), h3.own⟩, fun k e => ⟨by rw [hs]; exact (h4 k e).1, (h4 k e).2⟩⟩
theorem PhJ.cells {V wr : World} {lo q t : Nat} {g : GhostB} {T : TeamL} {y : TurnL} {P : Nat → Prop} (h : PhJ V wr lo g q t T y P) : wr.cell? ⟨t, 0, none⟩ = some (.int .i64 y.team) ∧ wr.cell? ⟨t, 1, none⟩ = some (.int .i64 y.no) ∧ wr.cell? ⟨t, 2, none⟩ = some (.int .i64 y.phase) := by
  obtain ⟨g1, D1, h1, h2, h3, h4⟩ := h
  obtain ⟨c0, c1, c2, -⟩ := h1.tu.cells
  exact ⟨c0, c1, c2⟩
theorem PhJ.turn {V wr : World} {lo q t : Nat} {g : GhostB} {T : TeamL} {y : TurnL} {P : Nat → Prop} (h : PhJ V wr lo g q t T y P) : TurnAt wr t y := by
  obtain ⟨g1, D1, h1, h2, h3, h4⟩ := h
  exact h1.tu
theorem PhJ.teams {V wr : World} {lo q t : Nat} {g : GhostB} {T : TeamL} {y : TurnL} {P : Nat → Prop} (h : PhJ V wr lo g q t T y P) : ∃ b s r, wr.cell? ⟨q, 1, none⟩ = some (.pointer (some ⟨b, 0, none⟩)) ∧ TeamAt wr lo b s r T := by
  obtain ⟨g1, D1, h1, h2, h3, h4⟩ := h
  obtain ⟨-, c1, -⟩ := h1.bd.cells
  rw [h2] at c1
  exact ⟨g1.tb, g1.s, g1.r, c1, h1.bd.tm⟩
theorem PhJ.below {V wr A : World} {lo q t : Nat} {g : GhostB} {T : TeamL} {y : TurnL} {P : Nat → Prop} (h : PhJ V wr lo g q t T y P) (hA : Below A.heap.size A V) (hlo : ∀ k, own3 g t k → A.heap.size ≤ k) : Below A.heap.size A wr := by
  obtain ⟨g1, D1, h1, h2, h3, h4⟩ := h
  exact h3.below hA hlo
/-- The turn i phases on. -/
def atY (T : TeamL) (tm no : Int) (i : Nat) : TurnL := if i < 8 then ⟨tm, no, 1 + (i : Int), dry0⟩ else ⟨nextT T tm, no + 1, 1, dry0⟩
theorem atY_next {T : TeamL} {tm no : Int} {i : Nat} (hi : i < 8) : nextY T (atY T tm no i) = atY T tm no (i + 1) := by
  have e : atY T tm no i = ⟨tm, no, 1 + (i : Int), dry0⟩ := if_pos hi
  rw [e]
  unfold nextY atY
  dsimp only
  by_cases h7 : i + 1 < 8
  · rw [if_pos h7, if_pos (by omega), show (1 : Int) + (i : Int) + 1 = 1 + ((i + 1 : Nat) : Int) by omega]
  · rw [if_neg h7, if_neg (by omega)]
theorem atY_ok {T : TeamL} {tm no : Int} {i : Nat} (hi : i < 8) : 1 ≤ (atY T tm no i).phase ∧ (atY T tm no i).phase ≤ 8 ∧ (atY T tm no i).no = no := by
  have e : atY T tm no i = ⟨tm, no, 1 + (i : Int), dry0⟩ := if_pos hi
  rw [e]
  exact ⟨by show 1 ≤ 1 + (i : Int); omega, by show 1 + (i : Int) ≤ 8; omega, rfl⟩
theorem nil_tris (w : World) : TrisAt w (.slice none 0 0) [] := .inl ⟨none, 0, rfl, rfl⟩
theorem play_nil : play13 [] := ⟨by decide, by decide⟩
def RetB0 (w : World) (n : Nat) (e : Ending) (w' : World) : Prop := ∃ lo g, e = .returned (.pointer (some ⟨g.q, 0, none⟩)) ∧ BoardAt w' lo g ⟨made13 [], sidesT n, dry0⟩ ∧ w.heap.size ≤ lo ∧ Below w.heap.size w w'
theorem board0_any (w : World) (n : Nat) (hn : n < 256) : Calls Tryd.prog 5 #[.slice none 0 0, .int .u8 n] w (RetB0 w n) := by
  refine (board13_any (nil_tris w) (by intro x hx; cases hx) (by decide) n hn).mono ?_
  rintro e w' (⟨_, h⟩ | ⟨h, _⟩)
  · exact h
  · exact absurd play_nil h
theorem phj_new {w1 w2 : World} {lo : Nat} {g : GhostB} {T : TeamL} {D : DryL} {y : TurnL} (h : BoardAt w1 lo g ⟨made13 [], T, D⟩) (ht : TurnAt w2 w1.heap.size y) (hb : Below w1.heap.size w1 w2) : PhJ w2 w2 lo g g.q w1.heap.size T y (fun _ => False) :=
  ⟨g, D, ⟨h.later hb, ht, fun e => Nat.lt_irrefl _ (h.ownLt e)⟩, rfl, TurnedO.of_below (Below.refl _ _), fun _ hk => hk.elim⟩
set_option maxRecDepth 100000 in
set_option maxHeartbeats 16000000 in
theorem awake15_any (w : World) : Calls Tryd.prog 4 #[] w (RetV w (.bool true)) := by
  have HBO := Lib.hid (fun (w' : World) => board0_any w' 0 (by decide))
  have HNT := Lib.hid (fun (w' : World) => newTurn_any 0 w')
  go_enter Tryd.func4, Tryd.ntmps4
  go_wp2_with fail
  refine (HBO.out _).mono ?_
  rintro e w1 ⟨lo, g, rfl, hbd, hlo, hb1⟩
  dsimp only
  go_wp2_with fail
  refine (HNT.out w1).mono ?_
  rintro e w2 ⟨rfl, ht, hb2⟩
  have HJ0 := Lib.hid (phj_new hbd ht hb2)
  have HB2 := Lib.hid (stepB hb1 hb2)
  have HLO := Lib.hid (show ∀ k, own3 g w1.heap.size k → w.heap.size ≤ k from fun k hk => by
    rcases hk with hk | rfl
    · exact Nat.le_trans hlo (hbd.ownLo hk)
    · exact hb1.size)
  obtain ⟨q, hq⟩ : ∃ q, g.q = q := ⟨_, rfl⟩
  obtain ⟨t, ht9⟩ : ∃ t, w1.heap.size = t := ⟨_, rfl⟩
  obtain ⟨T, hT⟩ : ∃ T, sidesT 0 = T := ⟨_, rfl⟩
  have HTT := Lib.hid hT
  rw [hT, ht9] at HJ0
  rw [hq] at HJ0 ⊢
  rw [ht9] at HLO ⊢
  clear hbd hlo hb1 ht hb2 hq ht9 hT HBO HNT
  dsimp only
  go_wp2
  go_loopw [3] (fun i wr => ∃ (k : Nat), k ≤ 8 ∧ i = .int .i64 k ∧ Hid (PhJ w2 wr lo g q t T (atY T 0 1 k) (fun _ => False))) (fun i _ => 8 - (intOf i).toNat)
  case atStart => exact ⟨0, by omega, rfl, HJ0⟩
  case round =>
    clear HJ0
    obtain ⟨k, hk, rfl, HJ⟩ := hrel
    by_cases hlt : k < 8
    · have e0 : decide ((k : Int) < 8) = true := decide_eq_true (by omega)
      have hw1 : IntKind.i64.wrap ((k : Int) + 1) = (k : Int) + 1 := wrap4 (by omega) (by omega)
      have hy := atY_ok (T := T) (tm := 0) (no := 1) hlt
      have hc := HJ.out.next hy.1 hy.2.1 (by rw [hy.2.2]; decide) (by rw [hy.2.2]; decide)
      rw [atY_next hlt] at hc
      have HC := Lib.hid hc
      clear hc hy
      go_wp2_with fail
      refine HC.out.mono ?_
      rintro e w5 ⟨rfl, hj, _⟩
      have HJ5 := Lib.hid hj
      clear hj HC
      dsimp only
      go_wp2
      go_roundw
      case rel => exact ⟨k + 1, by omega, by go_num, HJ5⟩
      case measure => simp [intOf]; omega
    · obtain rfl : k = 8 := by omega
      have HB9 := Lib.hid (HJ.out.below HB2.out HLO.out)
      obtain ⟨c0, c1, c2⟩ := HJ.out.cells
      rw [show atY T 0 1 8 = ⟨1, 2, 1, dry0⟩ from by rw [← HTT.out]; rfl] at c0 c1 c2
      dsimp only at c0 c1 c2
      go_wp2
      go_ret
      exact ⟨rfl, HB9.out⟩
end Go.Proofs.YtdlkdilgjmmlaaaDoor

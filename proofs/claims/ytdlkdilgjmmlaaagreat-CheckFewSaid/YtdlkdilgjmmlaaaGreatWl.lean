/- Plain facts for CheckRuns (layer 14). -/
import Derived.Test.YtdlkdilgjmmlaaaGreatWi
namespace Go.Proofs.YtdlkdilgjmmlaaaGreat
open Go.RowKit Go.Maps

/-! Plain facts. -/
theorem upTo_any {p : Nat → Bool} {n : Nat} {q : Int → Bool} (h : (upTo p n).any q = true) : ∃ m : Nat, m < n ∧ p m = true ∧ q m = true := by
  obtain ⟨y, hy, hq⟩ := List.any_eq_true.1 h
  obtain ⟨m, h1, h2, rfl⟩ := upTo_mem.1 hy
  exact ⟨m, h1, h2, hq⟩
theorem dry_parch {w : World} {lo : Nat} {g : GhostB} {B : BoardL} (h : BoardAt w lo g B) {k : Int} (hd : dryT B k = true) : ∃ n : Nat, n < B.T.sh.length ∧ parchT B n = true := by
  have hh : hasT B k = true := by
    unfold dryT at hd
    cases hx : hasT B k with
    | true => rfl
    | false => rw [hx] at hd; cases hd
  have hk := of_decide_eq_true hh
  obtain ⟨m, rfl⟩ : ∃ m : Nat, k = m := ⟨k.toNat, by omega⟩
  have hm : m < B.T.sides.length := by rw [h.se]; omega
  have ho : ofT B.T (m : Int) = B.T.sides[m] := by simp [ofT, List.getD, hm]
  have hn := h.tm.nd _ (List.getElem_mem hm)
  refine ⟨B.T.sides[m].toNat, by omega, List.any_eq_true.2 ⟨(m : Int), upTo_at.2 ⟨hm, ?_⟩, hd⟩⟩
  rw [ho]
  simp
  omega
def drys (B : BoardL) (k : Nat) : Bool := (List.range k).any (fun n => dryT B n)
theorem drys_succ (B : BoardL) (k : Nat) : drys B (k + 1) = (drys B k || dryT B k) := by simp [drys, List.range_succ]
theorem stable_some {w : World} {lo : Nat} {g : GhostB} {B : BoardL} (h : BoardAt w lo g B) (hs : B.S.seats = 4) : stableT B = !(decide (0 < (diesL B.S).length + (lostsL B).length) || drys B 4) := by
  cases hd : (decide (0 < (diesL B.S).length + (lostsL B).length) || drys B 4) with
  | true =>
    rcases Bool.or_eq_true_iff.1 hd with hd | hd
    · have hl := of_decide_eq_true hd
      cases he : diesL B.S with
      | cons y l => exact stable_dies (x := y) (by rw [he]; simp)
      | nil =>
        cases he2 : lostsL B with
        | nil => rw [he, he2] at hl; simp at hl
        | cons y l =>
          have hm : y ∈ lostsL B := by rw [he2]; simp
          obtain ⟨m, h1, h2, _⟩ := upTo_mem.1 hm
          exact stable_false h1 (.inl h2)
    · obtain ⟨m, _, hm⟩ := List.any_eq_true.1 hd
      obtain ⟨n, h1, h2⟩ := dry_parch h hm
      exact stable_false h1 (.inr h2)
  | false =>
    obtain ⟨h1, h2⟩ := Bool.or_eq_false_iff.1 hd
    have hl := of_decide_eq_false h1
    have hz1 : diesL B.S = [] := List.eq_nil_of_length_eq_zero (by omega)
    have hz2 : lostsL B = [] := List.eq_nil_of_length_eq_zero (by omega)
    refine stable_true hz1 fun m hm => ⟨?_, ?_⟩
    · cases hx : doomT B m with
      | false => rfl
      | true =>
        have := (upTo_at (p := fun n => doomT B n)).2 ⟨hm, hx⟩
        rw [show upTo (fun n => doomT B n) B.T.sh.length = lostsL B from rfl, hz2] at this
        cases this
    · cases hx : parchT B m with
      | false => rfl
      | true =>
        obtain ⟨k, hk, _, hq⟩ := upTo_any hx
        have h4 : k < 4 := by rw [h.se, hs] at hk; exact hk
        have : drys B 4 = true := List.any_eq_true.2 ⟨k, List.mem_range.2 h4, hq⟩
        rw [h2] at this
        cases this
theorem inL_field {S : StoreL} (hn : 1 ≤ S.seats) : inL S 0 3 = S.pl 0 3 := by
  unfold inL
  rw [show canS 0 3 = 0 from rfl, if_pos ⟨by decide, by decide, by show 0 < S.seats; omega, by decide, by decide, fun _ => rfl⟩]
  rfl
theorem dead_eq (S : StoreL) (i : Int) : deadS S i = (creE S i == 0 && (touS S i == 0 || decide (touS S i ≤ (objI S i).hurt))) := by
  unfold deadS
  cases he : (creE S i == 0) with
  | false => rfl
  | true =>
    have h0 : creE S i = 0 := by simpa using he
    have ho : creO S i = objI S i := by
      unfold creO objI
      rw [if_pos h0, if_pos (creE_has h0)]
    rw [ho]
theorem doom_eq (B : BoardL) (t : Int) : doomT B t = (((decide (lifeT B.T t ≤ 0) || decide (10 ≤ poisonT B.T t)) || parchT B t) && !lostT B.T t) := by
  unfold doomT
  rw [Bool.and_comm, Bool.or_assoc]
/-- The second board's state in the law: its rows beside. -/
structure RunsAt (V wr : World) (lb ls : Nat) (gb : GhostB) (b2 : Nat) (k2 : Option Nat) (g2 : GhostB) (m2 : Option Nat) (B : BoardL) (L : List EntL) (v1 v2 v3 v4 : Value) (D X die lose : List Int) : Prop where
  bo : BothAt wr lb ls g2 b2 m2 B L
  tu : TurnedO V wr (own2 gb b2 k2) (own2 g2 b2 m2)
  r1 : RepAt wr V.heap.size (own2 g2 b2 m2) v1 D
  r2 : RepAt wr V.heap.size (own2 g2 b2 m2) v2 X
  r3 : RepAt wr V.heap.size (own2 g2 b2 m2) v3 die
  r4 : RepAt wr V.heap.size (own2 g2 b2 m2) v4 lose
theorem RunsAt.turn {V wr w' : World} {lb ls b2 : Nat} {gb g2 g3 : GhostB} {k2 m2 m3 : Option Nat} {B B3 : BoardL} {L L3 : List EntL} {v1 v2 v3 v4 : Value} {D X die lose : List Int} (h : RunsAt V wr lb ls gb b2 k2 g2 m2 B L v1 v2 v3 v4 D X die lose)
    (hb : BothAt w' lb ls g3 b2 m3 B3 L3) (ht : TurnedO wr w' (own2 g2 b2 m2) (own2 g3 b2 m3)) : RunsAt V w' lb ls gb b2 k2 g3 m3 B3 L3 v1 v2 v3 v4 D X die lose := ⟨hb, h.tu.trans ht, h.r1.turn ht, h.r2.turn ht, h.r3.turn ht, h.r4.turn ht⟩
theorem BothAt.far {w w' : World} {lo lo' b : Nat} {g : GhostB} {gk : Option Nat} {B : BoardL} {L : List EntL} {a a' : Nat → Prop} (h : BothAt w lo lo' g b gk B L) (ht : TurnedO w w' a a') (ha : ∀ k, a k → ¬own2 g b gk k) : BothAt w' lo lo' g b gk B L ∧ ∀ k, a' k → ¬own2 g b gk k :=
  ⟨⟨h.bd.farO ht (fun k hk e => ha k hk (.inl e)), h.sk.farO ht (fun k hk e => ha k hk (.inr e)), h.ap⟩, apart_o ht ha (fun _ hk => h.ownLt hk)⟩
/-- A row that was made behind a world is nobody's who was there. -/
theorem rep_new {A V wr : World} {own : Nat → Prop} {v : Value} {L : List Int} (h : wr.ownsRow A.heap.size 3 1 v L.length (intsV L)) (hV : V.heap.size ≤ A.heap.size) (ho : ∀ k, own k → k < A.heap.size) : RepAt wr V.heap.size own v L :=
  ⟨own_mono h hV, fun k e hk => by have h1 := (World.ownsRow.lt h k e).1; have h2 := ho k hk; omega⟩
def dJ (B : BoardL) (j : Nat) : List Int := if j = 0 then [] else diesL B.S
def xJ (B : BoardL) (j : Nat) : List Int := if j = 0 then [] else lostsL B
end Go.Proofs.YtdlkdilgjmmlaaaGreat

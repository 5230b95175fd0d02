/- The contract of Turn between two piles of numbers (layer 5). -/
import Derived.Test.YtphcdeppilaceaaFg
namespace Go.Proofs.Ytphcdeppilaceaa
open Go.RowKit

/-- All that lay there but the blocks of two piles is as it was. -/
structure Chg2 (w w' : World) (b1 : Nat) (g1 : Option Nat) (b2 : Nat) (g2 : Option Nat) : Prop where
  os : w'.os = w.os
  tape : w'.tape = w.tape
  output : w'.output = w.output
  size : w.heap.size ≤ w'.heap.size
  block : ∀ k, k < w.heap.size → k ≠ b1 → g1 ≠ some k → k ≠ b2 → g2 ≠ some k → w'.heap[k]? = w.heap[k]?
theorem Chg2.of_below {w w' : World} {b1 b2 : Nat} {g1 g2 : Option Nat} (h : Below w.heap.size w w') : Chg2 w w' b1 g1 b2 g2 := ⟨h.os, h.tape, h.output, h.size, fun k hk _ _ _ _ => h.block k hk⟩
theorem Chg2.then {w w1 w2 : World} {b1 b2 : Nat} {g1 g2 : Option Nat} (h : Chg w w1 b1 g1) (k : Chg w1 w2 b2 g2) : Chg2 w w2 b1 g1 b2 g2 :=
  ⟨k.os.trans h.os, k.tape.trans h.tape, k.output.trans h.output, Nat.le_trans h.size k.size, fun i hi h1 h2 h3 h4 => (k.block i (Nat.lt_of_lt_of_le hi h.size) h3 h4).trans (h.block i hi h1 h2)⟩
theorem Chg2.ahead {w w1 w2 : World} {b1 b2 : Nat} {g1 g2 : Option Nat} (k : Below w.heap.size w w1) (h : Chg2 w1 w2 b1 g1 b2 g2) : Chg2 w w2 b1 g1 b2 g2 :=
  ⟨h.os.trans k.os, h.tape.trans k.tape, h.output.trans k.output, Nat.le_trans k.size h.size, fun i hi a b c d => (h.block i (Nat.lt_of_lt_of_le hi k.size) a b c d).trans (k.block i hi)⟩
theorem Chg2.one {w w' : World} {b1 b2 : Nat} {g1 g2 : Option Nat} (h : Chg w w' b1 g1) : Chg2 w w' b1 g1 b2 g2 := ⟨h.os, h.tape, h.output, h.size, fun k hk a b _ _ => h.block k hk a b⟩
theorem Chg2.flip {w w' : World} {b1 b2 : Nat} {g1 g2 : Option Nat} (h : Chg2 w w' b1 g1 b2 g2) : Chg2 w w' b2 g2 b1 g1 := ⟨h.os, h.tape, h.output, h.size, fun k hk a b c d => h.block k hk c d a b⟩
theorem Chg2.below {A w w' : World} {b1 b2 : Nat} {g1 g2 : Option Nat} (h : Chg2 w w' b1 g1 b2 g2) (hA : Below A.heap.size A w) (hb1 : A.heap.size ≤ b1) (hg1 : ∀ k, g1 = some k → A.heap.size ≤ k) (hb2 : A.heap.size ≤ b2) (hg2 : ∀ k, g2 = some k → A.heap.size ≤ k) : Below A.heap.size A w' :=
  ⟨h.os.trans hA.os, h.tape.trans hA.tape, h.output.trans hA.output, Nat.le_trans hA.size h.size, fun k hk => (h.block k (Nat.lt_of_lt_of_le hk hA.size) (by omega) (fun e => by have := hg1 k e; omega) (by omega) (fun e => by have := hg2 k e; omega)).trans (hA.block k hk)⟩
theorem Sep.flip {b1 b2 : Nat} {g1 g2 : Option Nat} (h : Sep b1 g1 b2 g2) : Sep b2 g2 b1 g1 := ⟨Ne.symm h.1, h.2.2.1, h.2.1, fun k hk hk' => h.2.2.2 k hk' hk⟩
/-- What a change of the first pile leaves apart. -/
theorem Sep.newer {w : World} {lo b1 b2 : Nat} {g1 g1' g2 : Option Nat} {L : List Int} (h : Sep b1 g1 b2 g2) (hn : Newer w g1 g1') (h2 : PileAt w lo b2 g2 L) : Sep b1 g1' b2 g2 := by
  rcases hn with hn | ⟨r, hn, hr⟩
  · rw [hn]; exact h
  · refine ⟨h.1, fun e => ?_, h.2.2.1, fun k hk hk' => ?_⟩
    · rw [hn] at e; injection e with e; have := h2.lt; omega
    · rw [hn] at hk; injection hk with hk; have := h2.row k hk'; omega
theorem Newer.later {w w1 : World} {g g' : Option Nat} (h : Newer w1 g g') (hs : w.heap.size ≤ w1.heap.size) : Newer w g g' := by
  rcases h with h | ⟨r, h, hr⟩
  · exact .inl h
  · exact .inr ⟨r, h, Nat.le_trans hs hr⟩

def turnB (L1 L2 : List Int) (x : Int) : Bool := decide (x ∈ L1) && !decide (x ∈ L2)
def RetTurn (w : World) (lo b1 : Nat) (g1 : Option Nat) (b2 : Nat) (g2 : Option Nat) (v : Bool) (L1 L2 : List Int) (e : Ending) (w' : World) : Prop :=
  ∃ g2', e = .returned (.bool v) ∧ PileAt w' lo b1 g1 L1 ∧ PileAt w' lo b2 g2' L2 ∧ Sep b1 g1 b2 g2' ∧ Chg2 w w' b1 g1 b2 g2 ∧ Newer w g2 g2'
set_option maxRecDepth 100000 in
set_option maxHeartbeats 2000000 in
theorem turn_no {w : World} {lo b1 b2 : Nat} {g1 g2 : Option Nat} {L1 L2 : List Int} (x : Int) (u : Bool) (h1 : PileAt w lo b1 g1 L1) (h2 : PileAt w lo b2 g2 L2) (hs : Sep b1 g1 b2 g2) (hL1 : L1.length ≤ 1000) (hL2 : L2.length ≤ 1000) (hT : turnB L1 L2 x = false) :
    Calls Try.prog 16 #[.pointer (some ⟨b1, 0, none⟩), .pointer (some ⟨b2, 0, none⟩), .int .i64 x, .bool u] w (RetTurn w lo b1 g1 b2 g2 false L1 L2) := by
  have H1 := Lib.hid h1
  have H2 := Lib.hid h2
  have HH := Lib.hid (has_any x h1 hL1)
  clear h1 h2
  by_cases hx : x ∈ L1
  · have hy : x ∈ L2 := by
      unfold turnB at hT
      simp only [decide_eq_true hx, Bool.true_and, Bool.not_eq_eq_eq_not, Bool.not_false, decide_eq_true_eq] at hT
      exact hT
    rw [decide_eq_true hx] at HH
    clear hT hx
    go_enter Try.func16, Try.ntmps16
    go_wp2_with fail
    refine HH.out.mono ?_
    rintro e w1 ⟨rfl, hb1⟩
    have hk := has_any x (H2.out.later hb1) hL2
    rw [decide_eq_true hy] at hk
    have HK := Lib.hid hk
    have HB1 := Lib.hid hb1
    clear hk hy hb1
    go_wp2_with fail
    refine HK.out.mono ?_
    rintro e w2 ⟨rfl, hb2⟩
    go_wp2
    go_ret
    have hB := stepB HB1.out hb2
    exact ⟨g2, rfl, H1.out.later hB, H2.out.later hB, hs, .of_below hB, .inl rfl⟩
  · rw [decide_eq_false hx] at HH
    clear hT hx
    go_enter Try.func16, Try.ntmps16
    go_wp2_with fail
    refine HH.out.mono ?_
    rintro e w1 ⟨rfl, hb1⟩
    go_wp2
    go_ret
    exact ⟨g2, rfl, H1.out.later hb1, H2.out.later hb1, hs, .of_below hb1, .inl rfl⟩
set_option maxRecDepth 100000 in
set_option maxHeartbeats 2000000 in
theorem turn_yes {w : World} {lo b1 b2 : Nat} {g1 g2 : Option Nat} {L1 L2 : List Int} (x : Int) (u : Bool) (h1 : PileAt w lo b1 g1 L1) (h2 : PileAt w lo b2 g2 L2) (hs : Sep b1 g1 b2 g2) (hL1 : L1.length ≤ 1000) (hL2 : L2.length ≤ 1000) (hT : turnB L1 L2 x = true) :
    Calls Try.prog 16 #[.pointer (some ⟨b1, 0, none⟩), .pointer (some ⟨b2, 0, none⟩), .int .i64 x, .bool u] w (RetTurn w lo b1 g1 b2 g2 true (L1.erase x) (if u then L2 ++ [x] else x :: L2)) := by
  unfold turnB at hT
  rw [Bool.and_eq_true] at hT
  have hx := hT.1
  have hy : decide (x ∈ L2) = false := by have := hT.2; simpa using this
  have H1 := Lib.hid h1
  have H2 := Lib.hid h2
  have HS := Lib.hid hs
  have hh := has_any x h1 hL1
  rw [hx] at hh
  have HH := Lib.hid hh
  have HX := Lib.hid hx
  have HY := Lib.hid hy
  clear h1 h2 hT hs hh hx hy
  rcases u with _ | _
  all_goals (
    go_enter Try.func16, Try.ntmps16
    go_wp2_with fail
    refine HH.out.mono ?_
    rintro e w1 ⟨rfl, hb1⟩
    have hk := has_any x (H2.out.later hb1) hL2
    rw [HY.out] at hk
    have HK := Lib.hid hk
    have HB1 := Lib.hid hb1
    clear hk hb1
    go_wp2_with fail
    refine HK.out.mono ?_
    rintro e w2 ⟨rfl, hb2⟩
    have HB2 := Lib.hid (stepB HB1.out hb2)
    have hd := drop_any x (H1.out.later (stepB HB1.out hb2)) hL1
    have HD := Lib.hid hd
    clear hb2 hd
    go_wp2_with fail
    refine HD.out.mono ?_
    rintro e w3 ⟨rfl, hp3, hc3⟩
    have h23 := (H2.out.later HB2.out).far hc3 HS.out
    have HP3 := Lib.hid hp3
    have HC3 := Lib.hid hc3
    have HU3 := Lib.hid (under_any x h23 hL2)
    have HV3 := Lib.hid (push_any x h23 hL2)
    have H23 := Lib.hid h23
    have hnx : x ∉ L2 := of_decide_eq_false HY.out
    have HE1 := Lib.hid (show layL L2 L2.length x = L2 ++ [x] by rw [← ins_end]; exact if_neg hnx)
    have HE2 := Lib.hid (show layL L2 0 x = x :: L2 by unfold layL; rw [if_neg hnx]; simp [insL])
    clear hp3 hc3 h23 hnx)
  · go_wp2_with fail
    refine HV3.out.mono ?_
    rw [HE2.out, HY.out]
    rintro e w4 ⟨g4, rfl, hp4, hc4, hn4⟩
    have hs4 := (Sep.newer HS.out.flip hn4 HP3.out).flip
    have hp1 := HP3.out.far hc4 HS.out.flip
    have HR := Lib.hid (And.intro hp1 (And.intro hp4 (And.intro hs4 (And.intro (Chg2.ahead HB2.out (Chg2.then HC3.out hc4)) (hn4.later (Nat.le_trans HB2.out.size HC3.out.size))))))
    clear hp4 hc4 hn4 hs4 hp1
    go_wp2
    go_ret
    exact ⟨g4, rfl, HR.out⟩
  · go_wp2_with fail
    refine HU3.out.mono ?_
    rw [HE1.out, HY.out]
    rintro e w4 ⟨g4, rfl, hp4, hc4, hn4⟩
    have hs4 := (Sep.newer HS.out.flip hn4 HP3.out).flip
    have hp1 := HP3.out.far hc4 HS.out.flip
    have HR := Lib.hid (And.intro hp1 (And.intro hp4 (And.intro hs4 (And.intro (Chg2.ahead HB2.out (Chg2.then HC3.out hc4)) (hn4.later (Nat.le_trans HB2.out.size HC3.out.size))))))
    clear hp4 hc4 hn4 hs4 hp1
    go_wp2
    go_ret
    exact ⟨g4, rfl, HR.out⟩
end Go.Proofs.Ytphcdeppilaceaa

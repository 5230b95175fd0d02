/- Priority (layer 16), as it lies there: New, Team, waits, May, refused, Reset, Act, Copy. -/
import Derived.Test.YtciieodmihgpgaaSi
import Derived.Deep.Cut
import Derived.Deep.DeepCutAuto
import Derived.Deep.RegionHeld3
import Derived.Deep.RegionWith
import Derived.Deep.QuietTactic
import Derived.BigQuiet
namespace Go.Proofs.Ytciieodmihgpgaa
open Go.RowKit
attribute [local go_sem] Oper.semAt_some

/-- Which seats have passed. -/
structure Four where
  a : Bool
  b : Bool
  c : Bool
  d : Bool
def no4 : Four := ⟨false, false, false, false⟩
def Four.get (x : Four) (s : Int) : Bool := if s = 0 then x.a else if s = 1 then x.b else if s = 2 then x.c else x.d
def Four.put (x : Four) (s : Int) : Four := if s = 0 then ⟨true, x.b, x.c, x.d⟩ else if s = 1 then ⟨x.a, true, x.c, x.d⟩ else if s = 2 then ⟨x.a, x.b, true, x.d⟩ else ⟨x.a, x.b, x.c, true⟩
structure PriL where
  team : Int
  row : Int
  p : Four
def PriAt (w : World) (t : Nat) (P : PriL) : Prop := w.heap[t]? = some (.cells #[.int .i64 P.team, .int .i64 P.row, .bool P.p.a, .bool P.p.b, .bool P.p.c, .bool P.p.d] 52 (0, 0))
theorem PriAt.lt {w : World} {t : Nat} {P : PriL} (h : PriAt w t P) : t < w.heap.size := (Array.getElem?_eq_some_iff.1 h).1
theorem PriAt.cells {w : World} {t : Nat} {P : PriL} (h : PriAt w t P) : w.cell? ⟨t, 0, none⟩ = some (.int .i64 P.team) ∧ w.cell? ⟨t, 1, none⟩ = some (.int .i64 P.row) ∧
    w.cell? ⟨t, 2, none⟩ = some (.bool P.p.a) ∧ w.cell? ⟨t, 3, none⟩ = some (.bool P.p.b) ∧ w.cell? ⟨t, 4, none⟩ = some (.bool P.p.c) ∧ w.cell? ⟨t, 5, none⟩ = some (.bool P.p.d) := by
  have hc := fun j => cell_of_row w t j _ _ _ h
  exact ⟨hc 0, hc 1, hc 2, hc 3, hc 4, hc 5⟩
theorem PriAt.free {w : World} {t : Nat} {P : PriL} (h : PriAt w t P) (j : Nat) : w.frozen? ⟨t, j, none⟩ = false := frozen_of_row w t j _ _ h
theorem PriAt.of {w w' : World} {t : Nat} {P : PriL} (h : PriAt w t P) (e : w'.heap[t]? = w.heap[t]?) : PriAt w' t P := e.trans h
theorem PriAt.later {w w' : World} {t : Nat} {P : PriL} (h : PriAt w t P) (hb : Below w.heap.size w w') : PriAt w' t P := h.of (hb.block t h.lt)
theorem PriAt.grown {w w' : World} {t g : Nat} {P : PriL} (h : PriAt w t P) (hg : w.grownBy w' (some g)) (hn : t ≠ g) : PriAt w' t P := h.of (hg.block t h.lt (by simpa using hn))
/-- What becomes of priority, and nothing else. -/
def RetP (w : World) (t : Nat) (v : Value) (P : PriL) (e : Ending) (w' : World) : Prop := e = .returned v ∧ PriAt w' t P ∧ w.grownBy w' (some t)
set_option maxRecDepth 100000 in
theorem newP_any (team : Int) (w : World) : Calls Try.prog 9 #[.int .i64 team] w (fun e w' => e = .returned (.pointer (some ⟨w.heap.size, 0, none⟩)) ∧ PriAt w' w.heap.size ⟨team, 0, no4⟩ ∧ Below w.heap.size w w') := by
  go_enter Try.func9, Try.ntmps9
  go_wp2
  go_ret
  exact ⟨rfl, heap_alloc_new w _, below_new w _⟩
theorem teamP_any {w : World} {t : Nat} {P : PriL} (h : PriAt w t P) : Calls Try.prog 11 #[.pointer (some ⟨t, 0, none⟩)] w (Same w (.int .i64 P.team)) := by
  obtain ⟨c0, -⟩ := h.cells
  clear h
  go_enter Try.func11, Try.ntmps11
  go_wp2
  go_ret
  exact ⟨rfl, rfl⟩
theorem four_cases {s : Int} (h0 : 0 ≤ s) (h4 : s < 4) : s = 0 ∨ s = 1 ∨ s = 2 ∨ s = 3 := by omega
set_option maxRecDepth 100000 in
theorem waits_any {w : World} {t : Nat} {P : PriL} (h : PriAt w t P) {s : Int} (h0 : 0 ≤ s) (h4 : s < 4) : Calls Try.prog 23 #[.pointer (some ⟨t, 0, none⟩), .int .i64 s] w (Same w (.bool (!P.p.get s))) := by
  obtain ⟨-, -, c2, c3, c4, c5⟩ := h.cells
  clear h
  rcases four_cases h0 h4 with rfl | rfl | rfl | rfl
  all_goals
    clear h0 h4
    go_enter Try.func23, Try.ntmps23
    go_wp2
    go_ret
    exact ⟨rfl, rfl⟩
/-- May a seat act? -/
def mayP (T : TeamL) (P : PriL) (s : Int) : Bool := (ofT T s == P.team) && (!lostT T P.team && !P.p.get s)
theorem lost_in {T : TeamL} {k : Int} (h : lostT T k = false) : 0 ≤ k := by
  unfold lostT at h
  split at h
  · rename_i h1
    simp [inL] at h1
    exact h1.1
  · exact absurd h (by simp)
theorem of_seat {w : World} {lo b s r : Nat} {T : TeamL} (h : TeamAt w lo b s r T) {k : Int} (hk : 0 ≤ ofT T k) : 0 ≤ k ∧ k < 4 := by
  have h1 := h.n1
  unfold ofT at hk
  split at hk
  · rename_i h0
    refine ⟨h0, ?_⟩
    refine Int.not_le.1 fun h4 => ?_
    rw [List.getD, List.getElem?_eq_none (by omega)] at hk
    exact absurd hk (by decide)
  · exact absurd hk (by decide)
set_option maxRecDepth 100000 in
set_option maxHeartbeats 4000000 in
theorem may_any {w : World} {lo b s r t : Nat} {T : TeamL} {P : PriL} (h : TeamAt w lo b s r T) (hp : PriAt w t P) (x : Int) :
    Calls Try.prog 18 #[.pointer (some ⟨t, 0, none⟩), .pointer (some ⟨b, 0, none⟩), .int .i64 x] w (RetV w (.bool (mayP T P x))) := by
  have HOF := Lib.hid (fun (q : Nat) => tof_any (h.later (below_drewN (Below.refl _ w) q)) x)
  have HLO := Lib.hid (fun (q : Nat) => tlost_any (h.later (below_drewN (Below.refl _ w) q)) P.team)
  obtain ⟨c0, -⟩ := hp.cells
  have hM : mayP T P x = ((ofT T x == P.team) && (!lostT T P.team && !P.p.get x)) := rfl
  rw [hM]
  by_cases h1 : ofT T x = P.team
  · by_cases h2 : lostT T P.team = true
    · rw [h2, Bool.not_true, Bool.false_and, Bool.and_false]
      obtain ⟨tm, ht⟩ : ∃ tm, P.team = tm := ⟨_, rfl⟩
      rw [h1] at HOF
      rw [h2] at HLO
      rw [ht] at c0 HLO HOF
      clear hM h1 h2 ht h hp
      have e1 : (tm == tm) = true := beq_self_eq_true _
      go_enter Try.func18, Try.ntmps18
      go_wp2
      go_quiet ((first | (go_at_call 25; exact Calls.quiet_of_same ((HOF.out _).mono fun _ _ ⟨he, hw⟩ => ⟨he, hw⟩)) | (go_at_call 26; exact Calls.quiet_of_same ((HLO.out _).mono fun _ _ ⟨he, hw⟩ => ⟨he, hw⟩))))
      go_wp2
      go_ret
      exact ⟨rfl, below_drewN (Below.refl _ _) _⟩
    · have h2 : lostT T P.team = false := by simpa using h2
      have hx := of_seat h (k := x) (by rw [h1]; exact lost_in h2)
      have HWA := Lib.hid (fun (q : Nat) => waits_any (hp.later (below_drewN (Below.refl _ w) q)) hx.1 hx.2)
      rw [h1, h2, Bool.not_false, Bool.true_and, beq_self_eq_true, Bool.true_and]
      obtain ⟨z, hz⟩ : ∃ z, (!P.p.get x) = z := ⟨_, rfl⟩
      obtain ⟨tm, ht⟩ : ∃ tm, P.team = tm := ⟨_, rfl⟩
      rw [h1] at HOF
      rw [h2] at HLO
      rw [hz] at HWA
      rw [ht] at c0 HLO HOF
      rw [hz]
      clear hM h1 h2 ht hz hx h hp
      have e1 : (tm == tm) = true := beq_self_eq_true _
      go_enter Try.func18, Try.ntmps18
      go_wp2
      go_quiet ((first | (go_at_call 25; exact Calls.quiet_of_same ((HOF.out _).mono fun _ _ ⟨he, hw⟩ => ⟨he, hw⟩)) | (go_at_call 26; exact Calls.quiet_of_same ((HLO.out _).mono fun _ _ ⟨he, hw⟩ => ⟨he, hw⟩)) | (go_at_call 23; exact Calls.quiet_of_same ((HWA.out _).mono fun _ _ ⟨he, hw⟩ => ⟨he, hw⟩))))
      go_wp2
      go_ret
      exact ⟨rfl, below_drewN (Below.refl _ _) _⟩
  · have e1 : (ofT T x == P.team) = false := beq_eq_false_iff_ne.2 h1
    rw [e1, Bool.false_and]
    obtain ⟨tm, ht⟩ : ∃ tm, P.team = tm := ⟨_, rfl⟩
    obtain ⟨ox, ho⟩ : ∃ ox, ofT T x = ox := ⟨_, rfl⟩
    rw [ho] at e1 HOF
    rw [ht] at e1 c0
    clear hM h1 ht ho h hp HLO
    go_enter Try.func18, Try.ntmps18
    go_wp2
    go_quiet ((go_at_call 25; exact Calls.quiet_of_same ((HOF.out _).mono fun _ _ ⟨he, hw⟩ => ⟨he, hw⟩)))
    go_wp2
    go_ret
    exact ⟨rfl, below_drewN (Below.refl _ _) _⟩
set_option maxRecDepth 100000 in
theorem refused_any {w : World} {lo b s r t : Nat} {T : TeamL} {P : PriL} (h : TeamAt w lo b s r T) (hp : PriAt w t P) (x : Int) :
    Calls Try.prog 21 #[.pointer (some ⟨t, 0, none⟩), .pointer (some ⟨b, 0, none⟩), .int .i64 x] w (RetV w (.int .i64 (if mayP T P x then 0 else 14))) := by
  have HM := Lib.hid (may_any h hp x)
  obtain ⟨z, hz⟩ : ∃ z, mayP T P x = z := ⟨_, rfl⟩
  rw [hz] at HM ⊢
  clear hz h hp
  go_enter Try.func21, Try.ntmps21
  cases z
  all_goals
    go_wp2_with fail
    refine HM.out.mono ?_
    rintro e w2 ⟨rfl, hb⟩
    have HB := Lib.hid hb
    clear hb HM
    dsimp only
    go_wp2
    go_ret
    exact ⟨rfl, HB.out⟩
end Go.Proofs.Ytciieodmihgpgaa

/- Wet; lists that are cut; what a board's change leaves of lists (layer 11). -/
import Derived.Test.YtlfffeinngkjgaaBj
import Derived.Lib.SliceRun
namespace Go.Proofs.Ytlfffeinngkjgaa
open Go.RowKit Go.Maps
attribute [local go_sem] Oper.semAt_some

theorem RetBd.mk' {w : World} {lo : Nat} {g : GhostB} {B : BoardL} {v : Value} {w' : World} (h : ∃ g', BoardAt w' lo g' B ∧ TurnedB w w' g g' ∧ g'.q = g.q) : RetBd w lo g B v (.returned v) w' := ⟨rfl, h⟩
set_option maxRecDepth 100000 in
set_option maxHeartbeats 2000000 in
theorem wet_any {w : World} {lo : Nat} {g : GhostB} {B : BoardL} (h : BoardAt w lo g B) : Calls Try.prog 10 #[.pointer (some ⟨g.q, 0, none⟩)] w (RetBd w lo g ⟨B.S, B.T, dry0⟩ (.tuple #[])) := by
  obtain ⟨c0, c1, c2, c3, c4, c5⟩ := h.cells
  have hf := fun j => h.free j
  have hcl : ∀ ty, (Builtin.clear_ #[50] ty #[.slice (some ⟨g.q, 2, none⟩) 4 4]).run Try.prog w = .ok (.tuple #[]) (w.setCells g.q 2 (List.replicate 4 (.bool false))) :=
    fun ty => Lib.run_clear_slice w 50 4 ty (.bool false) Try.underlying50 (fun _ => by kernel_rfl) rfl rfl g.q 2 4 4 (by omega)
      (fun j hj => by rcases (show j = 0 ∨ j = 1 ∨ j = 2 ∨ j = 3 by omega) with rfl | rfl | rfl | rfl <;> simp [c2, c3, c4, c5]) (fun j _ => hf _)
  have hs := heap_setCells_same (List.replicate 4 (Value.bool false)) 2 h.hd (by simp)
  have HW := Lib.hid (h.withD (D' := dry0) (Eq.trans hs rfl) (grown_setCells g.q (List.replicate 4 (.bool false)) 2 w))
  clear hs hf h c0 c1 c2 c3 c4 c5
  go_enter Try.func10, Try.ntmps10
  go_wp2
  go_end0
  exact ⟨rfl, g, HW.out.1, HW.out.2, rfl⟩
set_option maxRecDepth 100000 in
set_option maxHeartbeats 2000000 in
theorem draw_out {w : World} {lo : Nat} {g : GhostB} {B : BoardL} (h : BoardAt w lo g B) (k n : Int) (hk : hasT B k = false) : Calls Try.prog 7 #[.pointer (some ⟨g.q, 0, none⟩), .int .i64 k, .int .i64 n] w (Same w (.int .i64 0)) := by
  have hh := has11_any h k
  rw [hk] at hh
  have HH := Lib.hid hh
  clear hh h hk
  go_enter Try.func7, Try.ntmps7
  go_wp2_with fail
  refine HH.out.mono ?_
  rintro e w1 ⟨rfl, rfl⟩
  go_wp2
  go_ret
  exact ⟨rfl, rfl⟩
theorem own_ptr {w : World} {base n xc : Nat} {xa : Option Addr} {xs : List Value} (h : w.ownsRow base 3 1 (.slice xa n xc) n xs) : (xa = none ∧ n = 0 ∧ xc = 0) ∨ ∃ g, xa = some ⟨g, 0, none⟩ ∧ n ≤ xc ∧ base ≤ g := by
  rcases h.2 with ⟨h, h0⟩ | ⟨g', cap', cur, e, hb, _, h1, _⟩
  · injection h with h1 h2 h3
    exact .inl ⟨h1, h2, h3⟩
  · injection e with e1 e2 e3
    subst e3
    exact .inr ⟨g', e1, h1, hb⟩
/-- A list that is cut ahead. -/
def cutA (xa : Option Addr) (xc k : Nat) : Option Addr := if xc = k then xa else xa.map (·.add (k * 1))
theorem ints_cut {w : World} {base n xc k : Nat} {xa : Option Addr} {L : List Int} (h : w.ownsRow base 3 1 (.slice xa n xc) n (intsV L)) (hl : L.length = n) (hk : k ≤ n) : IntsAt w (.slice (cutA xa xc k) (n - k) (xc - k)) (L.drop k) := by
  by_cases hn : n - k = 0
  · have e : L.drop k = [] := List.drop_eq_nil_of_le (by omega)
    rw [e, hn]
    exact .inl ⟨_, _, rfl, rfl⟩
  · rcases own_ptr h with ⟨_, h0, _⟩ | ⟨g, rfl, hc, _⟩
    · omega
    · unfold cutA
      rw [if_neg (by omega)]
      have hi : IntsAt w (.slice (some ⟨g, 0, none⟩) n xc) L := own_ints (by rw [← hl] at h ⊢; exact h)
      rcases hi with ⟨_, _, h1, h2⟩ | ⟨b, off, cap, h1, h2, h3⟩
      · have : L = [] := by simpa [intsV] using h2
        subst this
        simp at hl
        omega
      · injection h1 with h1 h4 h5
        injection h1 with h1
        injection h1 with h1 h6
        subst h1 h6
        refine .inr ⟨g, k, xc - k, by rw [intsV_len, List.length_drop, hl]; simp [Addr.add]; try omega, h2, fun j hj => ?_⟩
        have hj' : k + j < (intsV L).length := by rw [intsV_len] at hj ⊢; rw [List.length_drop] at hj; omega
        have := h3 (k + j) hj'
        rw [Nat.zero_add] at this
        rw [this]
        simp [intsV]
theorem run_cut (xa : Option Addr) (n xc k : Nat) (hk : k ≤ n) (W : World) : (Instr.slice 26 (.slice xa n xc) (some (.int .i64 (k : Int))) none none).run Try.prog W = .ok (.slice (cutA xa xc k) (n - k) (xc - k)) W := by
  have hu : Try.prog.underlying 26 = some (.slice (Try.prog.elem 26)) := by kernel_rfl
  rw [run_slice_l (P := Try.prog) (w := W) 26 xa n xc hu .i64 (k : Int) (by omega) (by omega)]
  have hsz : (sizeOf (Try.prog.elem 26)).run Try.prog W = .ok 1 W := by kernel_rfl
  rw [hsz]
  simp [Result.andThen, sliced, cutA]
theorem TurnedB.ints {w w' : World} {g g' : GhostB} {v : Value} {L : List Int} (hv : IntsAt w v L) (ht : TurnedB w w' g g') (hb : ∀ b o n c, v = .slice (some ⟨b, o, none⟩) n c → L ≠ [] → ¬g.own b) : IntsAt w' v L := by
  rcases hv with h | ⟨b, off, cap, h1, h2, h3⟩
  · exact .inl h
  · by_cases hL : L = []
    · subst hL
      exact .inl ⟨_, _, h1, rfl⟩
    · have hk := (ht.keeps h2 (hb b off _ cap h1 hL)).1
      refine .inr ⟨b, off, cap, h1, Nat.lt_of_lt_of_le h2 ht.size, fun k hk2 => ?_⟩
      rw [World.cell?_of_block (a := ⟨b, off + k, none⟩) hk]
      exact h3 k hk2
theorem own_turn {w w' : World} {base : Nat} {g g' : GhostB} {v : Value} {n : Nat} {xs : List Value} (h : w.ownsRow base 3 1 v n xs) (ht : TurnedB w w' g g') (hg : ∀ k, g.own k → k < base) : w'.ownsRow base 3 1 v n xs :=
  own11_later h fun k e => (ht.keeps (World.ownsRow.lt h k e).2 (fun e2 => by have := hg k e2; have := (World.ownsRow.lt h k e).1; omega)).1
end Go.Proofs.Ytlfffeinngkjgaa

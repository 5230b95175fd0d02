/- Draws in memory, and the contracts of take, Below, Taken, Left, Copy and New (layer 4). -/
import Derived.Test.YtokjghfpdolojaaEb
namespace Go.Proofs.Ytokjghfpdolojaa
open Go.RowKit

/-- What is left of draws: a slice that shows it; the row lies from block lo on, ahead of block b. -/
def RestAt (w : World) (lo b : Nat) (v : Value) (m : List Int) : Prop :=
  (∃ xa cap, v = .slice xa 0 cap ∧ m = []) ∨ ∃ r off, lo ≤ r ∧ r < b ∧ r < w.heap.size ∧ v = .slice (some ⟨r, off, none⟩) m.length m.length ∧ ∀ i (h : i < m.length), w.cell? ⟨r, off + i, none⟩ = some (.int .i64 m[i])
/-- Draws in memory: what is left, how many were taken. -/
def DrawsAt (w : World) (lo b : Nat) (m : List Int) (k : Nat) : Prop := lo ≤ b ∧ ∃ v, RowAt w b 49 [v, .int .i64 k] ∧ RestAt w lo b v m
theorem RestAt.grown {w w' : World} {lo b c : Nat} {v : Value} {m : List Int} (h : RestAt w lo b v m) (hg : w.grownBy w' (some c)) (hc : c < lo ∨ b ≤ c) : RestAt w' lo b v m := by
  rcases h with h | ⟨r, off, h1, h2, h3, h4, h5⟩
  · exact .inl h
  · refine .inr ⟨r, off, h1, h2, Nat.lt_of_lt_of_le h3 hg.size, h4, fun i hi => ?_⟩
    rw [World.cell?_of_block (w := w) (a := ⟨r, off + i, none⟩) (hg.block r h3 (by simp; omega))]
    exact h5 i hi
theorem DrawsAt.grown {w w' : World} {lo b c k : Nat} {m : List Int} (h : DrawsAt w lo b m k) (hg : w.grownBy w' (some c)) (hc : c < lo ∨ b < c) : DrawsAt w' lo b m k := by
  obtain ⟨h0, v, h1, h2⟩ := h
  exact ⟨h0, v, h1.grown hg (by omega), h2.grown hg (by omega)⟩
theorem DrawsAt.later {w w' : World} {lo b k : Nat} {m : List Int} (h : DrawsAt w lo b m k) (hb : Below w.heap.size w w') : DrawsAt w' lo b m k := by
  obtain ⟨h0, v, h1, h2⟩ := h
  have hlt := h1.lt
  exact DrawsAt.grown (c := w.heap.size) ⟨h0, v, h1, h2⟩ (grown_below hb) (by omega)
theorem DrawsAt.lt {w : World} {lo b k : Nat} {m : List Int} (h : DrawsAt w lo b m k) : b < w.heap.size := by
  obtain ⟨_, v, h1, _⟩ := h; exact h1.lt
theorem RestAt.form {w : World} {lo b : Nat} {v : Value} {m : List Int} (h : RestAt w lo b v m) : ∃ xa xc, v = .slice xa m.length xc := by
  rcases h with ⟨xa, cap, rfl, rfl⟩ | ⟨r, off, _, _, _, rfl, _⟩
  · exact ⟨xa, cap, rfl⟩
  · exact ⟨_, _, rfl⟩
theorem RestAt.ints {w : World} {lo b : Nat} {v : Value} {m : List Int} (h : RestAt w lo b v m) : IntsAt w v m := by
  rcases h with ⟨xa, cap, rfl, rfl⟩ | ⟨r, off, _, _, h1, rfl, h2⟩
  · exact .inl ⟨_, _, rfl, rfl⟩
  · exact .inr ⟨r, off, _, by rw [intsV_len], h1, fun i hi => by rw [h2 i (by rwa [intsV_len] at hi)]; simp [intsV]⟩

theorem draws_end {w : World} {lo b k : Nat} {v v' : Value} {t : List Int} (h0 : lo ≤ b) (hr : RowAt w b 49 [v, .int .i64 k]) (ht : RestAt w lo b v' t) :
    DrawsAt ((w.setCell ⟨b, 1, none⟩ (.int .i64 ((k : Int) + 1))).setCell ⟨b, 0, none⟩ v') lo b t (k + 1) ∧ w.grownBy ((w.setCell ⟨b, 1, none⟩ (.int .i64 ((k : Int) + 1))).setCell ⟨b, 0, none⟩ v') (some b) ∧ ((w.setCell ⟨b, 1, none⟩ (.int .i64 ((k : Int) + 1))).setCell ⟨b, 0, none⟩ v').heap.size = w.heap.size := by
  have hg := grown_trans (grown_set w b 1 (.int .i64 ((k : Int) + 1))) (grown_set (w.setCell ⟨b, 1, none⟩ (.int .i64 ((k : Int) + 1))) b 0 v')
  refine ⟨⟨h0, v', ?_, ht.grown hg (by omega)⟩, hg, by simp⟩
  have := (hr.set 1 (.int .i64 ((k : Int) + 1))).set 0 v'
  simpa using this
def TookOne (w : World) (lo b : Nat) (x : Int) (m : List Int) (k : Nat) (e : Ending) (w' : World) : Prop :=
  e = .returned (.int .i64 x) ∧ DrawsAt w' lo b m k ∧ w.grownBy w' (some b) ∧ w'.heap.size = w.heap.size
set_option maxRecDepth 100000 in
set_option maxHeartbeats 4000000 in
theorem take_any {w : World} {lo b k : Nat} {m : List Int} (h : DrawsAt w lo b m k) (hk : k ≤ 1000000) (hm : m.length ≤ 1000000) :
    Calls Try.prog 23 #[.pointer (some ⟨b, 0, none⟩)] w (TookOne w lo b (m.headD 0) m.tail (k + 1)) := by
  obtain ⟨h0, v, hr, hv⟩ := h
  have c0 := hr.cell 0 (by simp)
  have c1 := hr.cell 1 (by simp)
  have f0 := hr.free 0
  have f1 := hr.free 1
  simp only [List.getElem_cons_zero, List.getElem_cons_succ] at c0 c1
  have k0 : (0 : Int) ≤ k := by omega
  have k1 : (k : Int) ≤ 1000000 := by omega
  have HR := Lib.hid hr
  have H0 := Lib.hid h0
  clear hr h0
  cases m with
  | nil =>
    obtain ⟨xa, xc, rfl⟩ := hv.form
    have HV := Lib.hid hv
    clear hv
    go_enter Try.func23, Try.ntmps23
    go_wp2
    go_ret
    refine ⟨rfl, ⟨H0.out, _, ?_, HV.out.grown (grown_set w b 1 _) (by omega)⟩, grown_set w b 1 _, by simp⟩
    have := HR.out.set 1 (.int .i64 ((k : Int) + 1))
    simpa using this
  | cons x t =>
    rcases hv with ⟨_, _, _, h2⟩ | ⟨r, off, h1, h2, h3, rfl, h5⟩
    · simp at h2
    have hx := h5 0 (by simp)
    simp only [List.getElem_cons_zero, Nat.add_zero] at hx
    have hne : r ≠ b := by omega
    have HS := Lib.hid (And.intro h1 (And.intro h2 (And.intro h3 h5)))
    clear h1 h2 h3 h5
    rw [List.length_cons] at c0
    cases t with
    | nil =>
      go_enter Try.func23, Try.ntmps23
      go_wp2
      go_ret
      exact ⟨rfl, draws_end H0.out HR.out (.inl ⟨_, _, rfl, rfl⟩)⟩
    | cons y t =>
      go_enter Try.func23, Try.ntmps23
      go_wp2
      go_ret
      refine ⟨rfl, draws_end H0.out HR.out (.inr ⟨r, off + 1, HS.out.1, HS.out.2.1, HS.out.2.2.1, rfl, fun i hi => ?_⟩)⟩
      have h := HS.out.2.2.2 (i + 1) (by simpa using hi)
      rw [show off + 1 + i = off + (i + 1) by omega, h]
      rfl
end Go.Proofs.Ytokjghfpdolojaa

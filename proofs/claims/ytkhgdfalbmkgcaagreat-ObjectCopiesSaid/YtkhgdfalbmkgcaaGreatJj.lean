/- Add with numbers that there aren't (layer 6): nothing comes of it. -/
import Derived.Test.YtkhgdfalbmkgcaaGreatHl
namespace Go.Proofs.YtkhgdfalbmkgcaaGreat
open Go.RowKit Go.Maps

/-- What may be added. -/
def addB (S : StoreL) (n owner zone : Int) : Prop := 0 ≤ n ∧ n < S.T.length ∧ 0 ≤ owner ∧ owner < S.seats ∧ 1 ≤ zone ∧ zone ≤ 7
instance (S : StoreL) (n owner zone : Int) : Decidable (addB S n owner zone) := by unfold addB; infer_instance
theorem ptr_form (n : Nat) (pb : Nat → Nat → Nat) (s z : Int) : ∃ p, ptrOf n pb s z = .pointer p := by
  unfold ptrOf
  split
  · exact ⟨_, rfl⟩
  · exact ⟨_, rfl⟩
set_option maxRecDepth 100000 in
set_option maxHeartbeats 4000000 in
theorem add_bad {w : World} {lo b : Nat} {G : Ghost} {S : StoreL} (h : StoreAt w lo b G S) (n owner zone : Int) (ho : Wf owner) (hz : Wf zone) (hb : ¬ addB S n owner zone) :
    Calls Tryz.prog 8 #[.pointer (some ⟨b, 0, none⟩), .int .i64 n, .int .i64 owner, .int .i64 zone] w (RetV w (.tuple #[.int .i64 0, .int .i64 2])) := by
  have HPA := Lib.hid (pileAt_any h ho hz)
  have hT := table_short h.ok
  have hn4 := h.n4
  have hn1 := h.n1
  have HH := Lib.hid h
  obtain ⟨ta, tc, htv⟩ := h.tab.is.form
  have HTV := Lib.hid htv
  have hptr : 0 ≤ n → n < S.T.length → 0 ≤ owner → owner < S.seats → ptrOf S.seats G.pb (canS owner zone) zone = .pointer none := fun h1 h2 h3 h4 => by
    refine if_neg (fun hk => hb ⟨h1, h2, h3, h4, ?_⟩)
    obtain ⟨_, k2, _, k4, k5, _⟩ := hk
    omega
  obtain ⟨p, hp⟩ := ptr_form S.seats G.pb (canS owner zone) zone
  rw [hp] at HPA hptr
  clear h htv hp ho hz hb
  by_cases c1 : n < 0
  · have d1 : decide (n < 0) = true := decide_eq_true c1
    clear hptr c1
    go_enter Tryz.func8, Tryz.ntmps8
    go_wp2_with fail
    refine HPA.out.mono ?_
    rintro e w1 ⟨rfl, hb1⟩
    dsimp only
    go_wp2
    go_ret2
    exact ⟨rfl, hb1⟩
  have d1 : decide (n < 0) = false := decide_eq_false c1
  have HC : Hid (∀ w1, Below w.heap.size w w1 → w1.cell? ⟨b, 0, none⟩ = some (.slice ta S.T.length tc) ∧ w1.cell? ⟨b, 1, none⟩ = some (.int .i64 S.seats)) := Lib.hid fun w1 hb1 => by
    have hh := HH.out.later hb1
    exact ⟨by rw [cell_of_row w1 b 0 _ _ _ hh.hd, ← HTV.out]; rfl, by rw [cell_of_row w1 b 1 _ _ _ hh.hd]; rfl⟩
  by_cases c2 : (S.T.length : Int) ≤ n
  · have d2 : decide ((S.T.length : Int) ≤ n) = true := decide_eq_true c2
    clear hptr c1 c2
    go_enter Tryz.func8, Tryz.ntmps8
    go_wp2_with fail
    refine HPA.out.mono ?_
    rintro e w1 ⟨rfl, hb1⟩
    obtain ⟨k0, k1⟩ := HC.out w1 hb1
    dsimp only
    go_wp2
    go_ret2
    exact ⟨rfl, hb1⟩
  have d2 : decide ((S.T.length : Int) ≤ n) = false := decide_eq_false c2
  by_cases c3 : owner < 0
  · have d3 : decide (owner < 0) = true := decide_eq_true c3
    clear hptr c1 c2 c3
    go_enter Tryz.func8, Tryz.ntmps8
    go_wp2_with fail
    refine HPA.out.mono ?_
    rintro e w1 ⟨rfl, hb1⟩
    obtain ⟨k0, k1⟩ := HC.out w1 hb1
    dsimp only
    go_wp2
    go_ret2
    exact ⟨rfl, hb1⟩
  have d3 : decide (owner < 0) = false := decide_eq_false c3
  by_cases c4 : (S.seats : Int) ≤ owner
  · have d4 : decide ((S.seats : Int) ≤ owner) = true := decide_eq_true c4
    clear hptr c1 c2 c3 c4
    go_enter Tryz.func8, Tryz.ntmps8
    go_wp2_with fail
    refine HPA.out.mono ?_
    rintro e w1 ⟨rfl, hb1⟩
    obtain ⟨k0, k1⟩ := HC.out w1 hb1
    dsimp only
    go_wp2
    go_ret2
    exact ⟨rfl, hb1⟩
  have d4 : decide ((S.seats : Int) ≤ owner) = false := decide_eq_false c4
  have hpp := hptr (by omega) (by omega) (by omega) (by omega)
  injection hpp with hpp
  subst hpp
  clear hptr c1 c2 c3 c4
  go_enter Tryz.func8, Tryz.ntmps8
  go_wp2_with fail
  refine HPA.out.mono ?_
  rintro e w1 ⟨rfl, hb1⟩
  obtain ⟨k0, k1⟩ := HC.out w1 hb1
  dsimp only
  go_wp2
  go_ret2
  exact ⟨rfl, hb1⟩
end Go.Proofs.YtkhgdfalbmkgcaaGreat

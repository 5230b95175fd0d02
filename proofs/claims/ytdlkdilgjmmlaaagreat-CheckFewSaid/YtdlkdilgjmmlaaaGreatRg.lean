/- How many teams come ahead of a seat's; whether an object's trigger fires (layer 13). -/
import Derived.Test.YtdlkdilgjmmlaaaGreatRf
import Derived.Test.YtdlkdilgjmmlaaaGreatKf
namespace Go.Proofs.YtdlkdilgjmmlaaaGreat
open Go.RowKit Go.Maps
attribute [local go_sem] Oper.semAt_some

theorem keepG1 {A w w' : World} {a : Addr} {v : Value} (hb : Below w.heap.size w w') (h : Below A.heap.size A w ∧ w.cell? a = some v) : Below A.heap.size A w' ∧ w'.cell? a = some v := ⟨stepB h.1 hb, cell_stays hb h.2⟩
theorem sameV {w : World} {v : Value} (e : Ending) (w' : World) (h : Same w v e w') : RetV w v e w' := ⟨h.1, by rw [h.2]; exact Below.refl _ _⟩
/-- How many teams come ahead of a seat's, from the active one on. -/
def aheadT (T : TeamL) (active seat : Int) : Int := if ofT T seat < 0 then T.sh.length else (ofT T seat + T.sh.length - max active 0 % T.sh.length) % T.sh.length
set_option maxRecDepth 100000 in
set_option maxHeartbeats 4000000 in
theorem ahead_any {w : World} {lo : Nat} {g : GhostB} {B : BoardL} (h : BoardAt w lo g B) (active seat : Int) :
    Calls Tryz.prog 94 #[.pointer (some ⟨g.q, 0, none⟩), .int .i64 active, .int .i64 seat] w (RetV w (.int .i64 (aheadT B.T active seat))) := by
  have HLN := Lib.hid (fun (w' : World) (hb : Below w.heap.size w w') => (tlen_any (h.tm.later hb)).mono sameV)
  have HOF := Lib.hid (fun (w' : World) (hb : Below w.heap.size w w') => (tof_any (h.tm.later hb) seat).mono sameV)
  have hrg := ofT_nonneg h.tm seat
  have hn4 := h.tm.n2
  obtain ⟨_, c1, -⟩ := h.cells
  obtain ⟨n, hn⟩ : ∃ n, B.T.sh.length = n := ⟨_, rfl⟩
  have HA := Lib.hid (show ∀ u, ofT B.T seat = u → aheadT B.T active seat = if u < 0 then (n : Int) else (u + n - max active 0 % n) % n from fun u hu => by unfold aheadT; rw [hu, hn])
  rw [hn] at HLN hrg hn4
  obtain ⟨u, hu⟩ : ∃ u, ofT B.T seat = u := ⟨_, rfl⟩
  have hA := HA.out u hu
  rw [hu] at HOF hrg
  obtain ⟨r, hr⟩ : ∃ r, aheadT B.T active seat = r := ⟨_, rfl⟩
  rw [hr] at hA ⊢
  have HA2 := Lib.hid hA
  have HI := Lib.hid (show Below w.heap.size w w ∧ _ from ⟨Below.refl _ _, c1⟩)
  have hn1 : 1 ≤ n := by
    have h1 := h.tm.n1
    have h2 := h.tm.nd (B.T.sides[0]'(by omega)) (List.getElem_mem _)
    omega
  clear h hn hu HA hA c1 hr
  obtain ⟨q, b, tb, s, r0, G⟩ := g
  dsimp only at HI HLN HOF ⊢
  by_cases hu0 : u < 0
  · have d0 : decide (u < 0) = true := decide_eq_true hu0
    have hA := HA2.out
    rw [if_pos hu0] at hA
    subst hA
    clear HA2 hu0 hrg
    go_enter Tryz.func94, Tryz.ntmps94
    go_wp2
    go_region_held3 (fun w' => Below w.heap.size w w' ∧ w'.cell? ⟨q, 1, none⟩ = some (.pointer (some ⟨tb, 0, none⟩)))
      (first | assumption | (with_reducible exact HI.out) | exact keepG1 ((Below.refl _ _).drew) HI.out | exact keepG1 (by assumption) (by assumption))
      (first
        | (go_at_call 13; refine (HLN.out _ (And.left (by assumption))).mono ?_; rintro e w2 ⟨rfl, hb2⟩)
        | (go_at_call 33; refine (HOF.out _ (And.left (by assumption))).mono ?_; rintro e w2 ⟨rfl, hb2⟩))
    have hB : Below w.heap.size w w2 := And.left (by assumption)
    go_wp2
    go_ret
    exact ⟨rfl, hB⟩
  · have d0 : decide (u < 0) = false := decide_eq_false hu0
    have hA := HA2.out
    rw [if_neg hu0] at hA
    have HA3 := Lib.hid hA
    clear HA2 hA
    obtain ⟨k, rfl⟩ : ∃ k : Nat, u = k := ⟨u.toNat, by omega⟩
    have hkn : k < n := by omega
    clear hu0 hrg
    go_enter Tryz.func94, Tryz.ntmps94
    go_wp2
    go_region_held3 (fun w' => Below w.heap.size w w' ∧ w'.cell? ⟨q, 1, none⟩ = some (.pointer (some ⟨tb, 0, none⟩)))
      (first | assumption | (with_reducible exact HI.out) | exact keepG1 ((Below.refl _ _).drew) HI.out | exact keepG1 (by assumption) (by assumption))
      (first
        | (go_at_call 13; refine (HLN.out _ (And.left (by assumption))).mono ?_; rintro e w2 ⟨rfl, hb2⟩)
        | (go_at_call 33; refine (HOF.out _ (And.left (by assumption))).mono ?_; rintro e w2 ⟨rfl, hb2⟩))
    have hB : Below w.heap.size w w2 := And.left (by assumption)
    have HE := Lib.hid (show (wrap64 ((k : Int) + n - max active 0 % n)).tmod n = r from by
      have h0 : 0 ≤ max active 0 % (n : Int) := Int.emod_nonneg _ (by omega)
      have h1 : max active 0 % (n : Int) < n := Int.emod_lt_of_pos _ (by omega)
      rw [HA3.out]
      generalize max active 0 % (n : Int) = m at h0 h1
      rw [show wrap64 ((k : Int) + n - m) = (k : Int) + n - m by unfold wrap64; omega]
      exact Int.tmod_eq_emod_of_nonneg (by omega))
    go_wp2
    go_ret
    exact ⟨by rw [← HE.out]; rfl, hB⟩
def wouldT (S : StoreL) (i when : Int) : Bool := decide (hasS S i) && (decide (when ≠ 0) && decide ((cardI S i).whn = when))
set_option maxRecDepth 100000 in
set_option maxHeartbeats 4000000 in
theorem would_any {w : World} {lo : Nat} {g : GhostB} {B : BoardL} (h : BoardAt w lo g B) (i when : Int) :
    Calls Tryz.prog 55 #[.pointer (some ⟨g.q, 0, none⟩), .int .i64 i, .int .i64 when] w (RetV w (.bool (wouldT B.S i when))) := by
  by_cases h0 : when = 0
  · subst h0
    have e : wouldT B.S i 0 = false := by simp [wouldT]
    rw [e]
    clear e h
    go_enter Tryz.func55, Tryz.ntmps55
    go_wp2
    go_ret
    exact ⟨rfl, Below.refl _ _⟩
  have HC := Lib.hid (cardI_any h i)
  obtain ⟨c0, -⟩ := h.cells
  have e0 : (when == 0) = false := beq_eq_false_iff_ne.2 h0
  obtain ⟨r, hr⟩ : ∃ r, wouldT B.S i when = r := ⟨_, rfl⟩
  have HR := Lib.hid hr
  have HE := Lib.hid (show (hasS B.S i → errI B.S i = 0) ∧ (¬hasS B.S i → errI B.S i = 7) from ⟨fun hh => if_pos hh, fun hh => if_neg hh⟩)
  have HW := Lib.hid (show wouldT B.S i when = (decide (hasS B.S i) && decide ((cardI B.S i).whn = when)) from by unfold wouldT; rw [decide_eq_true h0, Bool.true_and])
  rw [hr]
  obtain ⟨c, hc⟩ : ∃ c, cardI B.S i = c := ⟨_, rfl⟩
  rw [hc] at HC HW
  clear h hr h0 hc
  by_cases hh : hasS B.S i
  · have hw := HW.out
    rw [decide_eq_true hh, Bool.true_and, HR.out] at hw
    have HW2 := Lib.hid hw
    rw [HE.out.1 hh] at HC
    clear hh hw HW HE HR
    go_enter Tryz.func55, Tryz.ntmps55
    go_wp2_with fail
    refine HC.out.mono ?_
    rintro e w1 ⟨v, rfl, hv, hb1⟩
    have HB := Lib.hid hb1
    obtain ⟨va, vc, rfl⟩ := rows_form hv
    clear hv hb1
    unfold Crd.cagg
    dsimp only
    go_wp2
    go_ret
    exact ⟨by rw [HW2.out]; rfl, stepB HB.out (below_new _ _)⟩
  · have hw := HW.out
    rw [decide_eq_false hh, Bool.false_and, HR.out] at hw
    subst hw
    rw [HE.out.2 hh] at HC
    clear hh HW HE HR
    go_enter Tryz.func55, Tryz.ntmps55
    go_wp2_with fail
    refine HC.out.mono ?_
    rintro e w1 ⟨v, rfl, hv, hb1⟩
    have HB := Lib.hid hb1
    obtain ⟨va, vc, rfl⟩ := rows_form hv
    clear hv hb1
    unfold Crd.cagg
    dsimp only
    go_wp2
    go_ret
    exact ⟨rfl, stepB HB.out (below_new _ _)⟩
end Go.Proofs.YtdlkdilgjmmlaaaGreat

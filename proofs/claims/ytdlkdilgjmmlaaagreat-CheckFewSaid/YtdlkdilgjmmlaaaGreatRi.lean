/- An object's trigger is laid on a stack, if it may: trig.push (layer 13). -/
import Derived.Test.YtdlkdilgjmmlaaaGreatRh
import Derived.Test.YtdlkdilgjmmlaaaGreatAe
import Derived.Test.YtdlkdilgjmmlaaaGreatKh
namespace Go.Proofs.YtdlkdilgjmmlaaaGreat
open Go.RowKit Go.Maps
attribute [local go_sem] Oper.semAt_some

/-- What an object's trigger may be aimed at. -/
def aimT (B : BoardL) (i : Int) : List Int := aimL B.T B.S (objOf B.S i).owner (Crd.aimedAt (cardI B.S i).terms)
def entT (B : BoardL) (i : Int) : EntL := ⟨(objOf B.S i).owner, i, (aimT B i).getD 0 0, true⟩
/-- Whether it may be laid there, had the stack room. -/
def mayT13 (B : BoardL) (i : Int) : Bool := !lostT B.T (ofT B.T (objOf B.S i).owner) && decide (aimT B i ≠ [])
def pushB (B : BoardL) (L : List EntL) (i : Int) : Bool := mayT13 B i && decide (L.length < 8)
def pushE (B : BoardL) (L : List EntL) (i : Int) : List EntL := if pushB B L i then L ++ [entT B i] else L
def RetPush (w : World) (lo b : Nat) (g : Option Nat) (v : Value) (L : List EntL) (e : Ending) (w' : World) : Prop := e = .returned v ∧ ∃ g', StackAt w' lo b g' L ∧ TurnedO w w' (ownK b g) (ownK b g')
theorem keepG3 {A w w' : World} {a0 a1 a2 : Addr} {v0 v1 v2 : Value} (hb : Below w.heap.size w w') (h : Below A.heap.size A w ∧ w.cell? a0 = some v0 ∧ w.cell? a1 = some v1 ∧ w.cell? a2 = some v2) : Below A.heap.size A w' ∧ w'.cell? a0 = some v0 ∧ w'.cell? a1 = some v1 ∧ w'.cell? a2 = some v2 := ⟨stepB h.1 hb, cell_stays hb h.2.1, cell_stays hb h.2.2.1, cell_stays hb h.2.2.2⟩
theorem keepG10 {A w w' : World} {a0 a1 a2 a3 a4 a5 a6 a7 a8 a9 : Addr} {v0 v1 v2 v3 v4 v5 v6 v7 v8 v9 : Value} (hb : Below w.heap.size w w') (h : Below A.heap.size A w ∧ w.cell? a0 = some v0 ∧ w.cell? a1 = some v1 ∧ w.cell? a2 = some v2 ∧ w.cell? a3 = some v3 ∧ w.cell? a4 = some v4 ∧ w.cell? a5 = some v5 ∧ w.cell? a6 = some v6 ∧ w.cell? a7 = some v7 ∧ w.cell? a8 = some v8 ∧ w.cell? a9 = some v9) : Below A.heap.size A w' ∧ w'.cell? a0 = some v0 ∧ w'.cell? a1 = some v1 ∧ w'.cell? a2 = some v2 ∧ w'.cell? a3 = some v3 ∧ w'.cell? a4 = some v4 ∧ w'.cell? a5 = some v5 ∧ w'.cell? a6 = some v6 ∧ w'.cell? a7 = some v7 ∧ w'.cell? a8 = some v8 ∧ w'.cell? a9 = some v9 := ⟨stepB h.1 hb, cell_stays hb h.2.1, cell_stays hb h.2.2.1, cell_stays hb h.2.2.2.1, cell_stays hb h.2.2.2.2.1, cell_stays hb h.2.2.2.2.2.1, cell_stays hb h.2.2.2.2.2.2.1, cell_stays hb h.2.2.2.2.2.2.2.1, cell_stays hb h.2.2.2.2.2.2.2.2.1, cell_stays hb h.2.2.2.2.2.2.2.2.2.1, cell_stays hb h.2.2.2.2.2.2.2.2.2.2⟩
set_option maxRecDepth 100000 in
set_option maxHeartbeats 8000000 in
theorem push13_any {w : World} {lo lo' b : Nat} {g : GhostB} {gk : Option Nat} {B : BoardL} {L : List EntL} (h : BoardAt w lo g B) (hs : StackAt w lo' b gk L) (hL : L.length ≤ 8) (i : Int) (hi : hasS B.S i) :
    Calls Tryz.prog 56 #[.pointer (some ⟨g.q, 0, none⟩), .pointer (some ⟨b, 0, none⟩), .int .i64 i] w (RetPush w lo' b gk (.bool (pushB B L i)) (pushE B L i)) := by
  have HB := Lib.hid h
  have HS := Lib.hid hs
  have HG := Lib.hid (getI_any h i)
  have HC := Lib.hid (fun (w' : World) (hb : Below w.heap.size w w') => cardI_any (h.later hb) i)
  rw [show objI B.S i = objOf B.S i from if_pos hi, show errI B.S i = 0 from if_pos hi] at HG
  rw [show errI B.S i = 0 from if_pos hi] at HC
  have HP := Lib.hid (show pushB B L i = (!lostT B.T (ofT B.T (objOf B.S i).owner) && decide (aimL B.T B.S (objOf B.S i).owner (Crd.aimedAt (cardI B.S i).terms) ≠ []) && decide (L.length < 8)) ∧ entT B i = ⟨(objOf B.S i).owner, i, (aimL B.T B.S (objOf B.S i).owner (Crd.aimedAt (cardI B.S i).terms)).getD 0 0, true⟩ from ⟨rfl, rfl⟩)
  have ht30 : (cardI B.S i).terms.length ≤ 30 := cardI_terms h.st.ok i
  obtain ⟨c0, c1, -⟩ := h.cells
  obtain ⟨o, ho⟩ : ∃ o, objOf B.S i = o := ⟨_, rfl⟩
  obtain ⟨c, hc⟩ : ∃ c, cardI B.S i = c := ⟨_, rfl⟩
  rw [ho] at HG HP
  rw [hc] at HC HP ht30
  unfold RetGet oagg at HG
  clear h hs hi ho hc
  go_enter Tryz.func56, Tryz.ntmps56
  go_wp2_with fail
  refine HG.out.mono ?_
  rintro e w1 ⟨rfl, hb1⟩
  have o2 : (w1.alloc (.cells #[.int .i64 o.id, .int .i64 o.card, .int .i64 o.owner, .int .i64 o.zone, .bool o.tapped, .bool o.sick, .int .i64 o.hurt, .int .i64 o.count, .int .i64 o.boost, .int .i64 o.block, .bool o.attacks] 39)).cell? ⟨w1.heap.size, 2, none⟩ = some (.int .i64 o.owner) := cell_of_row _ w1.heap.size 2 _ _ _ (heap_alloc_new w1 _)
  have hb2 : Below w.heap.size w (w1.alloc (.cells #[.int .i64 o.id, .int .i64 o.card, .int .i64 o.owner, .int .i64 o.zone, .bool o.tapped, .bool o.sick, .int .i64 o.hurt, .int .i64 o.count, .int .i64 o.boost, .int .i64 o.block, .bool o.attacks] 39)) := stepB hb1 (below_new w1 _)
  have hb1x := hb1
  clear hb1
  dsimp only
  go_upto_region 2 with fail
  obtain ⟨W2, hW2⟩ : ∃ W2, w1.alloc (.cells #[.int .i64 o.id, .int .i64 o.card, .int .i64 o.owner, .int .i64 o.zone, .bool o.tapped, .bool o.sick, .int .i64 o.hurt, .int .i64 o.count, .int .i64 o.boost, .int .i64 o.block, .bool o.attacks] 39) = W2 := ⟨_, rfl⟩
  rw [hW2] at o2 hb2 ⊢
  obtain ⟨q1, hq1⟩ : ∃ q1, w1.heap.size = q1 := ⟨_, rfl⟩
  rw [hq1] at o2 ⊢
  have HC2 := Lib.hid (HC.out W2 hb2)
  have d0 := cell_stays hb2 c0
  clear hW2 hq1 hb1x HC
  go_wp2_with fail
  refine HC2.out.mono ?_
  rintro e w3 ⟨v, rfl, hv3, hb3⟩
  obtain ⟨va, vc, rfl⟩ := rows_form hv3
  have hci : Crd.CardIs w3 (Crd.cagg c (.slice va c.terms.length vc)) c := ⟨va, _, vc, rfl, hv3.is⟩
  have hbn := below_new w3 (.cells #[.int .i64 c.kind, .int .i64 c.cost, .int .i64 c.power, .int .i64 c.tough, .int .i64 c.keys, .int .i64 c.whn, .slice va c.terms.length vc] 87)
  have e3 := fun j => cell_of_row _ w3.heap.size j _ _ _ (heap_alloc_new w3 (.cells #[.int .i64 c.kind, .int .i64 c.cost, .int .i64 c.power, .int .i64 c.tough, .int .i64 c.keys, .int .i64 c.whn, .slice va c.terms.length vc] 87))
  have hb4 : Below w.heap.size w (w3.alloc (.cells #[.int .i64 c.kind, .int .i64 c.cost, .int .i64 c.power, .int .i64 c.tough, .int .i64 c.keys, .int .i64 c.whn, .slice va c.terms.length vc] 87)) := stepB (stepB hb2 hb3) hbn
  have o4 := cell_stays (stepB hb3 hbn) o2
  have hci4 := hci.later hbn
  clear d0 hv3 hb3 hbn hci o2 hb2
  unfold Crd.cagg
  dsimp only
  go_upto_region 3 with fail
  obtain ⟨W, hW⟩ : ∃ W, w3.alloc (.cells #[.int .i64 c.kind, .int .i64 c.cost, .int .i64 c.power, .int .i64 c.tough, .int .i64 c.keys, .int .i64 c.whn, .slice va c.terms.length vc] 87) = W := ⟨_, rfl⟩
  rw [hW] at e3 hb4 o4 hci4 ⊢
  obtain ⟨q3, hq3⟩ : ∃ q3, w3.heap.size = q3 := ⟨_, rfl⟩
  rw [hq3] at e3 ⊢
  have k0 : W.cell? ⟨q3, 0, none⟩ = some (.int .i64 c.kind) := e3 0
  have k1 : W.cell? ⟨q3, 1, none⟩ = some (.int .i64 c.cost) := e3 1
  have k2 : W.cell? ⟨q3, 2, none⟩ = some (.int .i64 c.power) := e3 2
  have k3 : W.cell? ⟨q3, 3, none⟩ = some (.int .i64 c.tough) := e3 3
  have k4 : W.cell? ⟨q3, 4, none⟩ = some (.int .i64 c.keys) := e3 4
  have k5 : W.cell? ⟨q3, 5, none⟩ = some (.int .i64 c.whn) := e3 5
  have k6 : W.cell? ⟨q3, 6, none⟩ = some (.slice va c.terms.length vc) := e3 6
  have HBW := Lib.hid hb4
  have d0 := cell_stays hb4 c0
  have d1 := cell_stays hb4 c1
  have HI := Lib.hid (show Below W.heap.size W W ∧ _ ∧ _ ∧ _ from ⟨Below.refl _ _, d0, d1, o4⟩)
  have HI9 := Lib.hid (show Below W.heap.size W W ∧ _ ∧ _ ∧ _ ∧ _ ∧ _ ∧ _ ∧ _ ∧ _ ∧ _ ∧ _ from ⟨Below.refl _ _, d0, d1, o4, k0, k1, k2, k3, k4, k5, k6⟩)
  obtain ⟨u, hu⟩ : ∃ u, ofT B.T o.owner = u := ⟨_, rfl⟩
  obtain ⟨lb, hlb⟩ : ∃ lb, lostT B.T u = lb := ⟨_, rfl⟩
  have HOF := Lib.hid (fun (w' : World) (hb : Below W.heap.size W w') => (tof_any ((HB.out.later (stepB HBW.out hb)).tm) o.owner).mono sameV)
  have HLS := Lib.hid (fun (w' : World) (hb : Below W.heap.size W w') => (tlost_any ((HB.out.later (stepB HBW.out hb)).tm) u).mono sameV)
  have HAI := Lib.hid (fun (w' : World) (hb : Below W.heap.size W w') => Crd.aimed_any (hci4.later hb) (by omega))
  unfold Crd.cagg at HAI
  obtain ⟨ai, hai⟩ : ∃ ai, Crd.aimedAt c.terms = ai := ⟨_, rfl⟩
  have HFI := Lib.hid (fun (w' : World) (hb : Below W.heap.size W w') => first_any (HB.out.later (stepB HBW.out hb)).st HB.out.wf (by have := HB.out.len; omega) (HB.out.later (stepB HBW.out hb)).tm o.owner ai)
  unfold RetFirst at HFI
  obtain ⟨A, hA⟩ : ∃ A, aimL B.T B.S o.owner ai = A := ⟨_, rfl⟩
  rw [hu] at HOF HP
  rw [hlb] at HLS HP
  rw [hai] at HAI HP
  rw [hA] at HFI HP
  obtain ⟨pv, hpv⟩ : ∃ pv, A.getD 0 0 = pv := ⟨_, rfl⟩
  obtain ⟨okb, hokb⟩ : ∃ okb, decide (A ≠ []) = okb := ⟨_, rfl⟩
  rw [hpv, hokb] at HFI HP
  clear hW hq3 e3 k0 k1 k2 k3 k4 k5 k6 hb4 hci4 c0 c1 d0 d1 o4 hu hlb hai hA ht30 hpv hokb
  obtain ⟨q, sb, tb, s, r, G⟩ := g
  dsimp only at HI HI9 HOF HLS HFI ⊢
  go_region_held3 (fun w' => Below W.heap.size W w' ∧ w'.cell? ⟨q, 0, none⟩ = some (.pointer (some ⟨sb, 0, none⟩)) ∧ w'.cell? ⟨q, 1, none⟩ = some (.pointer (some ⟨tb, 0, none⟩)) ∧ w'.cell? ⟨q1, 2, none⟩ = some (.int .i64 o.owner))
    (first | assumption | (with_reducible exact HI.out) | exact keepG3 ((Below.refl _ _).drew) HI.out | exact keepG3 (by assumption) (by assumption))
    (first
      | (go_at_call 33; refine (HOF.out _ (And.left (by assumption))).mono ?_; rintro e w4 ⟨rfl, hb4⟩)
      | (go_at_call 18; refine (HLS.out _ (And.left (by assumption))).mono ?_; rintro e w5 ⟨rfl, hb5⟩))
  have hw5 : Below W.heap.size W w5 := And.left (by assumption)
  have HI5 := Lib.hid (keepG10 hw5 HI9.out)
  cases lb with
  | true =>
    have hp := HP.out.1
    rw [Bool.not_true, Bool.false_and, Bool.false_and] at hp
    have HE := Lib.hid (show pushE B L i = L from if_neg (by rw [hp]; decide))
    have HR := Lib.hid (show RetPush w lo' b gk (.bool false) L (.returned (.bool false)) w5 from ⟨rfl, gk, HS.out.later (stepB HBW.out hw5), TurnedO.of_below (stepB HBW.out hw5)⟩)
    have HPB := Lib.hid hp
    clear hp
    go_wp2
    go_ret
    rw [HPB.out, HE.out]
    exact HR.out
  | false =>
    rw [Bool.not_false, Bool.true_and] at HP
    go_upto_region 5 with fail
    go_region_held3 (fun w' => Below W.heap.size W w' ∧ w'.cell? ⟨q, 0, none⟩ = some (.pointer (some ⟨sb, 0, none⟩)) ∧ w'.cell? ⟨q, 1, none⟩ = some (.pointer (some ⟨tb, 0, none⟩)) ∧ w'.cell? ⟨q1, 2, none⟩ = some (.int .i64 o.owner) ∧ w'.cell? ⟨q3, 0, none⟩ = some (.int .i64 c.kind) ∧ w'.cell? ⟨q3, 1, none⟩ = some (.int .i64 c.cost) ∧ w'.cell? ⟨q3, 2, none⟩ = some (.int .i64 c.power) ∧ w'.cell? ⟨q3, 3, none⟩ = some (.int .i64 c.tough) ∧ w'.cell? ⟨q3, 4, none⟩ = some (.int .i64 c.keys) ∧ w'.cell? ⟨q3, 5, none⟩ = some (.int .i64 c.whn) ∧ w'.cell? ⟨q3, 6, none⟩ = some (.slice va c.terms.length vc))
      (first | assumption | (with_reducible exact HI5.out) | exact keepG10 ((Below.refl _ _).drew) HI5.out | exact keepG10 (by assumption) (by assumption))
      (first
        | (go_at_call 100; refine (HAI.out _ (And.left (by assumption))).mono ?_; rintro e w6 ⟨rfl, hb6⟩)
        | (go_at_call 99; refine (HFI.out _ (And.left (by assumption))).mono ?_; rintro e w7 ⟨rfl, hb7⟩))
    have hw7 : Below W.heap.size W w7 := And.left (by assumption)
    have HB7 := Lib.hid (stepB HBW.out hw7)
    have HS7 := Lib.hid (HS.out.later (stepB HBW.out hw7))
    cases okb with
    | false =>
      have hp := HP.out.1
      rw [Bool.false_and] at hp
      have HE := Lib.hid (show pushE B L i = L from if_neg (by rw [hp]; decide))
      have HR := Lib.hid (show RetPush w lo' b gk (.bool false) L (.returned (.bool false)) w7 from ⟨rfl, gk, HS7.out, TurnedO.of_below HB7.out⟩)
      have HPB := Lib.hid hp
      clear hp
      go_wp2
      go_ret
      rw [HPB.out, HE.out]
      exact HR.out
    | true =>
      by_cases h8 : L.length < 8
      · have hp := HP.out.1
        rw [Bool.true_and, decide_eq_true h8] at hp
        have HE := Lib.hid (show pushE B L i = L ++ [⟨o.owner, i, pv, true⟩] from by unfold pushE; rw [if_pos hp, HP.out.2])
        have HPB := Lib.hid hp
        have HPU := Lib.hid (push_ok ⟨o.owner, i, pv, true⟩ HS7.out h8)
        unfold entV RetStk at HPU
        dsimp only at HPU
        clear hp h8
        go_wp2_with fail
        refine HPU.out.mono ?_
        rintro e w8 ⟨g', rfl, hs8, hc8, hn8⟩
        have HR := Lib.hid (show RetPush w lo' b gk (.bool true) (L ++ [⟨o.owner, i, pv, true⟩]) (.returned (.bool true)) w8 from ⟨rfl, g', hs8, (TurnedO.of_below HB7.out).trans (chg_o hc8 hn8)⟩)
        clear hs8 hc8 hn8
        dsimp only
        go_wp2
        go_ret
        rw [HPB.out, HE.out]
        exact HR.out
      · have hp := HP.out.1
        rw [Bool.true_and, decide_eq_false h8] at hp
        have HE := Lib.hid (show pushE B L i = L from if_neg (by rw [hp]; decide))
        have HPB := Lib.hid hp
        have HPU := Lib.hid (push_full ⟨o.owner, i, pv, true⟩ HS7.out (by omega))
        unfold entV at HPU
        dsimp only at HPU
        clear hp h8
        go_wp2_with fail
        refine HPU.out.mono ?_
        rintro e w8 ⟨rfl, hb8⟩
        have HR := Lib.hid (show RetPush w lo' b gk (.bool false) L (.returned (.bool false)) w8 from ⟨rfl, gk, HS7.out.later hb8, TurnedO.of_below (stepB HB7.out hb8)⟩)
        clear hb8
        dsimp only
        go_wp2
        go_ret
        rw [HPB.out, HE.out]
        exact HR.out
end Go.Proofs.YtdlkdilgjmmlaaaGreat

/- The statements' Board, and the document's example (layer 11). -/
import Derived.Test.YtgjojjhppgjkkaaGreatBd
import Derived.Test.YtgjojjhppgjkkaaGreatBe
import Derived.Test.YtgjojjhppgjkkaaGreatAg
namespace Go.Proofs.YtgjojjhppgjkkaaGreat
open Go.RowKit Go.Maps
attribute [local go_sem] Oper.semAt_some

def boardL (l : List ThingL) (n : Nat) : BoardL := ⟨madeF l, sidesT n, dry0⟩
/-- What Board answers. -/
def RetBoard (w : World) (l : List ThingL) (n : Nat) (e : Ending) (w' : World) : Prop :=
  (playT l ∧ MadeS (madeF l) l ∧ ∃ lo g, e = .returned (.pointer (some ⟨g.q, 0, none⟩)) ∧ BoardAt w' lo g (boardL l n) ∧ w.heap.size ≤ lo ∧ Below w.heap.size w w') ∨ (¬playT l ∧ e = .returned (.pointer none) ∧ Below w.heap.size w w')
set_option maxRecDepth 100000 in
set_option maxHeartbeats 4000000 in
theorem board_any {w : World} {v : Value} {l : List ThingL} (hv : ThingsAt w v l) (hw : ∀ x ∈ l, Wf x.owner ∧ Wf x.zone) (hlen : l.length ≤ 9223372036854775807) (n : Nat) (hn : n < 256) :
    Calls Tryz.prog 9 #[v, .int .u8 n] w (RetBoard w l n) := by
  have HM := Lib.hid (made_any hv hw hlen)
  have HSD := Lib.hid (fun (w' : World) => sides_any hn w')
  have HN4 := Lib.hid (sides_len n)
  clear hv hw
  go_enter Tryz.func9, Tryz.ntmps9
  go_wp2_with fail
  refine HM.out.mono ?_
  rintro e w1 (⟨hp, b, lo, G, S, rfl, hs, hm, hlo, hlo2, hb1⟩ | ⟨hn, rfl, hb1⟩)
  · have HS := Lib.hid hs
    have HMS := Lib.hid hm
    have HP := Lib.hid hp
    have HB1 := Lib.hid hb1
    clear hs hm hlo hlo2 hb1 hp
    dsimp only
    go_wp2_with fail
    refine (HSD.out _).mono ?_
    rintro e w2 ⟨lo2, tb, s, r, rfl, ht2, hlo2, hb2⟩
    have hl40 : S.objs.length ≤ 999 := by have := HMS.out.len; have := HP.out.1; omega
    have hnew := bnew_any (HS.out.later hb2) HMS.out.wf hl40 ht2
    rw [show decide (S.seats = (sidesT n).sides.length) = true from decide_eq_true (by rw [HMS.out.seats, HN4.out.1])] at hnew
    have HNW := Lib.hid hnew
    have HB2 := Lib.hid (stepB HB1.out hb2)
    clear hnew ht2 hlo2 hb2 hl40
    dsimp only
    go_wp2_with fail
    refine HNW.out.mono ?_
    rintro e w3 ⟨hy, _, hb3⟩
    obtain ⟨g, rfl, hg⟩ := hy rfl
    have HG := Lib.hid hg
    have HB3 := Lib.hid (stepB HB2.out hb3)
    have HLO := Lib.hid HB2.out.size
    clear hy hg hb3
    dsimp only
    go_wp2
    go_ret
    refine .inl ⟨HP.out, ?_, w2.heap.size, g, rfl, ?_, HLO.out, HB3.out⟩
    · rw [← HMS.out.fn]; exact HMS.out
    · unfold boardL; rw [← HMS.out.fn]; exact HG.out
  · have HN := Lib.hid hn
    have HB1 := Lib.hid hb1
    clear hn hb1
    dsimp only
    go_wp2_with fail
    refine (HSD.out _).mono ?_
    rintro e w2 ⟨lo2, tb, s, r, rfl, ht2, hlo2, hb2⟩
    have HB2 := Lib.hid (stepB HB1.out hb2)
    clear ht2 hlo2 hb2
    dsimp only
    go_wp2
    go_ret
    exact .inr ⟨HN.out, rfl, HB2.out⟩
/-- The two ways, parted. -/
def RetBY (w : World) (l : List ThingL) (n : Nat) (e : Ending) (w' : World) : Prop := ∃ lo g, e = .returned (.pointer (some ⟨g.q, 0, none⟩)) ∧ BoardAt w' lo g (boardL l n) ∧ w.heap.size ≤ lo ∧ Below w.heap.size w w'
theorem RetBoard.yes {w : World} {l : List ThingL} {n : Nat} (hp : playT l) {e : Ending} {w' : World} (h : RetBoard w l n e w') : RetBY w l n e w' := by
  rcases h with ⟨_, _, h⟩ | ⟨h, _⟩
  · exact h
  · exact absurd hp h
theorem RetBoard.no {w : World} {l : List ThingL} {n : Nat} (hp : ¬playT l) {e : Ending} {w' : World} (h : RetBoard w l n e w') : RetV w (.pointer none) e w' := by
  rcases h with ⟨h, _⟩ | ⟨_, h⟩
  · exact absurd h hp
  · exact h
/-- What things make, as a function. -/
theorem made_fold (l : List ThingL) (hl : l.all okT = true) : MadeS (madeF l) l := by
  have h : ∀ k, k ≤ l.length → MadeS (madeF (l.take k)) (l.take k) := fun k => by
    induction k with
    | zero => intro _; rw [List.take_zero]; exact made_none
    | succ k ih =>
      intro hk
      have h := ih (by omega)
      have hok : okT l[k] = true := (List.all_eq_true.1 hl) _ (List.getElem_mem (by omega))
      simp only [okT, decide_eq_true_eq] at hok
      rw [List.take_succ_eq_append_getElem (by omega)]
      obtain ⟨_, _, _, _, _, _, _, hm⟩ := h.step (q := k) l[k] l[k].card.toNat l[k].owner.toNat l[k].zone.toNat (by omega) (by omega) (by omega) (by omega) (by omega) (by omega) (by omega) (by rw [List.length_take]; omega)
      rw [madeF_snoc]
      have e : (madeF (l.take k)).objs.length = k := by rw [h.len, List.length_take]; omega
      unfold stepF
      rw [e]
      exact hm
  have := h l.length (Nat.le_refl _)
  rwa [List.take_length] at this
def oneB11 : ThingL := ⟨0, 0, 1, false, false⟩
theorem hasT_board (l : List ThingL) (hl : MadeS (madeF l) l) (n : Nat) (k : Int) : hasT (boardL l n) k = decide (0 ≤ k ∧ k < 4) := by
  unfold hasT boardL
  dsimp only
  rw [hl.seats]
  rfl
set_option maxRecDepth 100000 in
set_option maxHeartbeats 4000000 in
theorem awake11_any (w : World) : Calls Tryz.prog 8 #[] w (RetV w (.bool true)) := by
  have HM := Lib.hid (fun (w' : World) (v : Value) (hv : ThingsAt w' v [oneB11]) => board_any hv (by intro x hx; simp at hx; subst hx; exact ⟨⟨by decide, by decide⟩, ⟨by decide, by decide⟩⟩) (by simp) 0 (by decide))
  go_enter Tryz.func8, Tryz.ntmps8
  go_wp2_with fail
  refine (HM.out _ _ ?hv).mono ?_
  case hv =>
    refine .inr ⟨w.heap.size, 0, 1, rfl, by simp, fun i hi => ?_⟩
    have hc := fun j => cell_of_row _ w.heap.size j _ _ _ (heap_alloc_new w (.cells #[.int .i64 0, .int .i64 0, .int .i64 1, .bool false, .bool false] 79))
    obtain rfl : i = 0 := by simp at hi; omega
    exact ⟨hc 0, hc 1, hc 2, hc 3, hc 4⟩
  rintro e w1 (⟨_, hm, lo, g, rfl, hb, hlo, hb1⟩ | ⟨hn, _, _⟩)
  case inr => exact absurd (show playT [oneB11] from ⟨by decide, by decide⟩) hn
  have hd := draw_any hb 0 (by show 0 < (madeF [oneB11]).seats; rw [hm.seats]; decide) 2
  have e1 : drawnN (boardL [oneB11] 0).S 0 2 = 1 := by decide
  have HX := Lib.hid (show hasT (drawB (boardL [oneB11] 0) 0 2) 0 = true ∧ dryT (drawB (boardL [oneB11] 0) 0 2) 0 = true ∧ dryT (drawB (boardL [oneB11] 0) 0 2) 1 = false ∧ inL (drawB (boardL [oneB11] 0) 0 2).S 0 2 = [1] from by decide)
  rw [e1] at hd
  have HD := Lib.hid hd
  have HLO := Lib.hid (show ∀ k, g.own k → w.heap.size ≤ k from fun k hk => Nat.le_trans (Nat.le_trans (by simp) hlo) (hb.ownLo hk))
  have HB1 := Lib.hid (stepB (below_new w _) hb1)
  obtain ⟨BB, hBB⟩ : ∃ BB, drawB (boardL [oneB11] 0) 0 2 = BB := ⟨_, rfl⟩
  have hBS : drawB (boardL [oneB11] 0) (0 : Nat) 2 = BB := hBB
  rw [hBB] at HX
  rw [hBS] at HD
  clear hd hb hlo hb1 hm e1 hBB hBS HM
  dsimp only
  go_wp2_with fail
  refine HD.out.mono ?_
  rintro e w2 ⟨rfl, g2, hb2, ht2, hq2⟩
  have HB2 := Lib.hid hb2
  have HBW := Lib.hid (ht2.below HB1.out HLO.out)
  have hd0 := dry_any hb2 0
  have hd1 := dry_any hb2 1
  rw [HX.out.2.1] at hd0
  rw [HX.out.2.2.1] at hd1
  obtain ⟨c0, -⟩ := hb2.cells
  have hin := in_any hb2.st (hb2.wf.short (by have := hb2.len; omega)) (s := 0) (z := 2) ⟨by decide, by decide⟩ ⟨by decide, by decide⟩
  rw [HX.out.2.2.2] at hin
  rw [hq2] at hd0 hd1 c0
  have HD0 := Lib.hid hd0
  have HD1 := Lib.hid hd1
  have HIN := Lib.hid hin
  clear hb2 ht2 hq2 hd0 hd1 hin
  dsimp only
  go_wp2_with fail
  refine HD0.out.mono ?_
  rintro e w3 ⟨rfl, rfl⟩
  go_wp2_with fail
  refine HD1.out.mono ?_
  rintro e w3 ⟨rfl, rfl⟩
  go_wp2_with fail
  refine HIN.out.mono ?_
  rintro e w3 ⟨v, rfl, hown, hb3⟩
  have hv0 := own_ints hown
  obtain ⟨xa, xc, rfl⟩ := hv0.form
  have HV := Lib.hid hv0
  have HB3 := Lib.hid (stepB HBW.out hb3)
  clear hown hb3 hv0
  dsimp only
  go_wp2_with fail
  refine (ints_same (l := [1]) (HV.out.later (below_new _ (.cells #[.int .i64 1] 3))) ((RowAt.new _ 3 (intsV [1])).vals 1) (by simp)).mono ?_
  rintro e w4 ⟨rfl, n4, rfl⟩
  have HB4 := Lib.hid (below_drewN (below_alloc2 HB3.out (.cells #[.int .i64 1] 3)) n4)
  go_wp2
  go_ret
  exact ⟨rfl, HB4.out⟩
end Go.Proofs.YtgjojjhppgjkkaaGreat

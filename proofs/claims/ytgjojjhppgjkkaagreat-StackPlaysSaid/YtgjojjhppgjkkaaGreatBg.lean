/- What a term does to a board, once it may be done (layer 11): hurt, work. -/
import Derived.Test.YtgjojjhppgjkkaaGreatBd
import Derived.Test.YtgjojjhppgjkkaaGreatBf
import Derived.StillTailTactics
import Derived.Test.YtgjojjhppgjkkaaGreatOt
namespace Go.Proofs.YtgjojjhppgjkkaaGreat
open Go.RowKit Go.Maps
attribute [local go_sem] Oper.semAt_some

theorem RetBd.of {w w1 : World} {lo : Nat} {g g1 : GhostB} {B : BoardL} {v : Value} {e : Ending} {w' : World} (h : RetBd w1 lo g1 B v e w') (ht : TurnedB w w1 g g1) (hq : g1.q = g.q) : RetBd w lo g B v e w' := by
  obtain ⟨rfl, g', h1, h2, h3⟩ := h
  exact ⟨rfl, g', h1, ht.trans h2, h3.trans hq⟩
theorem RetBd.same {w : World} {lo : Nat} {g : GhostB} {B : BoardL} {v : Value} {e : Ending} {w' : World} (hb : BoardAt w lo g B) (h : RetV w v e w') : RetBd w lo g B v e w' := ⟨h.1, g, hb.later h.2, TurnedB.of_below h.2, rfl⟩
/-- A change of the store, by the store's own contract. -/
theorem BoardAt.retS {w : World} {lo : Nat} {g : GhostB} {B : BoardL} {S' : StoreL} {v : Value} {e : Ending} {w' : World} (h : BoardAt w lo g B) (hw : WfS S') (hl : S'.objs.length = B.S.objs.length) (hn : S'.seats = B.S.seats) (hr : RetS w lo g.b g.G S' v e w') : RetBd w lo g ⟨S', B.T, B.D⟩ v e w' := by
  obtain ⟨rfl, G', h1, h2⟩ := hr
  obtain ⟨b1, t1⟩ := h.withS h1 h2 hw (by rw [hl]; exact h.len) hn
  exact ⟨rfl, _, b1, t1, rfl⟩
theorem BoardAt.retT {w : World} {lo : Nat} {g : GhostB} {B : BoardL} {T' : TeamL} {v : Value} {e : Ending} {w' : World} (h : BoardAt w lo g B) (hn : T'.sides = B.T.sides) (hr : RetT w lo g.tb g.s g.r v T' e w') : RetBd w lo g ⟨B.S, T', B.D⟩ v e w' := by
  obtain ⟨rfl, h1, h2⟩ := hr
  obtain ⟨b1, t1⟩ := h.withT h1 h2 (congrArg List.length hn)
  exact ⟨rfl, _, b1, t1, rfl⟩
theorem gain_bd {w : World} {lo : Nat} {g : GhostB} {B : BoardL} (h : BoardAt w lo g B) (k m : Int) : ∃ v, Calls Tryz.prog 51 #[.pointer (some ⟨g.tb, 0, none⟩), .int .i64 k, .int .i64 m] w (RetBd w lo g ⟨B.S, gainT B.T k m, B.D⟩ (.int .i64 v)) :=
  ⟨_, (tgain_any h.tm k m).mono fun _ _ hr => h.retT (gain_sides _ _ _) hr⟩
theorem hurtS_seats (S : StoreL) (i n : Int) : (hurtS S i n).seats = S.seats := by unfold hurtS; split <;> rfl
theorem countS_seats (S : StoreL) (i n : Int) : (countS S i n).seats = S.seats := by unfold countS; split <;> rfl
theorem boostS_seats (S : StoreL) (i n : Int) : (boostS S i n).seats = S.seats := by unfold boostS; split <;> rfl
theorem hurt_bd {w : World} {lo : Nat} {g : GhostB} {B : BoardL} (h : BoardAt w lo g B) (i n : Int) : ∃ v, Calls Tryz.prog 113 #[.pointer (some ⟨g.b, 0, none⟩), .int .i64 i, .int .i64 n] w (RetBd w lo g ⟨hurtS B.S i n, B.T, B.D⟩ (.int .i64 v)) :=
  ⟨_, (hurt_any h.st h.wf (by have := h.len; omega) i n).mono fun _ _ hr => h.retS (hurtS_wf h.wf i n) (hurtS_len _ _ _) (hurtS_seats _ _ _) hr⟩
theorem count_bd {w : World} {lo : Nat} {g : GhostB} {B : BoardL} (h : BoardAt w lo g B) (i n : Int) : ∃ v, Calls Tryz.prog 81 #[.pointer (some ⟨g.b, 0, none⟩), .int .i64 i, .int .i64 n] w (RetBd w lo g ⟨countS B.S i n, B.T, B.D⟩ (.int .i64 v)) :=
  ⟨_, (count_any h.st h.wf (by have := h.len; omega) i n).mono fun _ _ hr => h.retS (countS_wf h.wf i n) (countS_len _ _ _) (countS_seats _ _ _) hr⟩
theorem boost_bd {w : World} {lo : Nat} {g : GhostB} {B : BoardL} (h : BoardAt w lo g B) (i n : Int) : ∃ v, Calls Tryz.prog 80 #[.pointer (some ⟨g.b, 0, none⟩), .int .i64 i, .int .i64 n] w (RetBd w lo g ⟨boostS B.S i n, B.T, B.D⟩ (.int .i64 v)) :=
  ⟨_, (boost_any h.st h.wf (by have := h.len; omega) i n).mono fun _ _ hr => h.retS (boostS_wf h.wf i n) (boostS_len _ _ _) (boostS_seats _ _ _) hr⟩
/-- An object that there is goes somewhere. -/
theorem move_bd {w : World} {lo : Nat} {g : GhostB} {B : BoardL} (h : BoardAt w lo g B) (i : Int) (hi : hasS B.S i) (z : Nat) (h1 : 1 ≤ z) (h7 : z ≤ 7) : Calls Tryz.prog 32 #[.pointer (some ⟨g.b, 0, none⟩), .int .i64 i, .int .i64 z, .bool false] w (RetBd w lo g ⟨moveI B.S i z, B.T, B.D⟩ (.int .i64 0)) := by
  obtain ⟨j, rfl⟩ : ∃ j : Nat, i = (j : Int) + 1 := ⟨(i - 1).toNat, by have := hi.1; omega⟩
  have hj : j < B.S.objs.length := by have := hi.2; omega
  rw [moveI_at hj]
  refine (move_ok h.st h.wf h.len j z hj h1 h7 false).mono fun _ _ hr => h.retS (h.wf.move hj h1 h7 false) (by simp [moveL]) rfl hr
def tapI (S : StoreL) (i : Int) : StoreL := setL S (i - 1).toNat (tapO (objOf S i))
theorem tapI_at {S : StoreL} {j : Nat} (hj : j < S.objs.length) : tapI S ((j : Int) + 1) = setL S j (tapO S.objs[j]) := by
  unfold tapI
  rw [objOf_at hj, show ((j : Int) + 1 - 1).toNat = j by omega]
theorem tapI_wf {S : StoreL} (h : WfS S) {j : Nat} (hj : j < S.objs.length) : WfS (tapI S ((j : Int) + 1)) := by
  rw [tapI_at hj]
  exact h.set hj (h.ids j hj).1 rfl rfl rfl
theorem tapO_self {o : ObjL} (h : o.tapped = true) : tapO o = o := by
  obtain ⟨x0, x1, x2, x3, x4, x5, x6, x7, x8, x9, x10⟩ := o
  cases h
  rfl
/-- A Creature is tapped. -/
theorem taps_bd {w : World} {lo : Nat} {g : GhostB} {B : BoardL} (h : BoardAt w lo g B) (i : Int) (hi : creE B.S i = 0) : ∃ v, Calls Tryz.prog 83 #[.pointer (some ⟨g.b, 0, none⟩), .int .i64 i] w (RetBd w lo g ⟨tapI B.S i, B.T, B.D⟩ (.int .i64 v)) := by
  obtain ⟨j, hj, rfl, _, hlv⟩ := creE_live hi
  have hz : B.S.objs[j].zone = 3 := by
    unfold liveO at hlv
    simp only [Bool.and_eq_true, beq_iff_eq] at hlv
    exact hlv.1
  have hl := h.len
  cases ht : B.S.objs[j].tapped with
  | false => exact ⟨_, (taps_ok h.st h.wf (by omega) j hj hz ht).mono fun _ _ hr => h.retS (tapI_wf h.wf hj) (by rw [tapI_at hj]; simp [setL]) rfl (by rw [tapI_at hj]; exact hr)⟩
  | true =>
    have e : tapI B.S ((j : Int) + 1) = B.S := by
      rw [tapI_at hj]
      have e2 : tapO B.S.objs[j] = B.S.objs[j] := tapO_self ht
      rw [e2]
      unfold setL
      rw [List.set_getElem_self]
    rw [e]
    exact ⟨_, ((taps_not h.st (by omega) j hj).2 hz ht).mono fun _ _ hr => RetBd.same h hr⟩
/-- What a term makes of a board. -/
def hurtB (B : BoardL) (on n i : Int) : BoardL := if on = 4 then ⟨B.S, gainT B.T i (-n), B.D⟩ else ⟨hurtS B.S i n, B.T, B.D⟩
def workB (B : BoardL) (seat : Int) (t : Crd.TermL) (i : Int) : BoardL :=
  if t.op = 1 then hurtB B t.on t.n i else if t.op = 2 then ⟨B.S, gainT B.T (ofT B.T seat) t.n, B.D⟩ else if t.op = 3 then drawB B seat.toNat t.n
  else if t.op = 4 then ⟨boostS B.S i t.n, B.T, B.D⟩ else if t.op = 5 then ⟨countS B.S i t.n, B.T, B.D⟩ else if t.op = 6 then ⟨moveI B.S i 5, B.T, B.D⟩ else if t.op = 7 then ⟨moveI B.S i 2, B.T, B.D⟩
  else if t.op = 8 then ⟨B.S, drainT B.T seat t.n, B.D⟩ else if t.op = 9 then ⟨tapI B.S i, B.T, B.D⟩ else B
set_option maxRecDepth 100000 in
set_option maxHeartbeats 4000000 in
theorem hurtB_any {w : World} {lo : Nat} {g : GhostB} {B : BoardL} (h : BoardAt w lo g B) (on n i : Int) (h0 : 0 ≤ n) (h20 : n ≤ 20) :
    Calls Tryz.prog 79 #[.pointer (some ⟨g.q, 0, none⟩), .int .i64 on, .int .i64 n, .int .i64 i] w (RetBd w lo g (hurtB B on n i) (.tuple #[])) := by
  obtain ⟨c0, c1, -⟩ := h.cells
  have hwr : IntKind.i64.wrap (-n) = -n := IntWalk.i64_in _ (by omega)
  unfold hurtB
  by_cases h4 : on = 4
  · subst h4
    rw [if_pos rfl]
    obtain ⟨v, hg⟩ := gain_bd h i (-n)
    have HG := Lib.hid hg
    clear hg h c0
    go_enter Tryz.func79, Tryz.ntmps79
    go_wp2_with fail
    refine HG.out.mono ?_
    rintro e w1 ⟨rfl, g1, hr⟩
    have HR := Lib.hid hr
    clear hr
    go_wp2
    go_end0
    exact ⟨rfl, g1, HR.out⟩
  · rw [if_neg h4]
    have e4 : (on == 4) = false := beq_eq_false_iff_ne.2 h4
    obtain ⟨v, hg⟩ := hurt_bd h i n
    have HG := Lib.hid hg
    clear hg h c1 h4
    go_enter Tryz.func79, Tryz.ntmps79
    go_wp2_with fail
    refine HG.out.mono ?_
    rintro e w1 ⟨rfl, g1, hr⟩
    have HR := Lib.hid hr
    clear hr
    go_wp2
    go_end0
    exact ⟨rfl, g1, HR.out⟩
theorem term_parts {t : Crd.TermL} (h : Crd.termB t = true) : 0 ≤ t.n ∧ t.n ≤ 20 ∧ ((t.op = 1 ∧ (t.on = 1 ∨ t.on = 2 ∨ t.on = 4)) ∨ ((t.op = 2 ∨ t.op = 3 ∨ t.op = 8) ∧ t.on = 0) ∨ ((t.op = 4 ∨ t.op = 5) ∧ (t.on = 1 ∨ t.on = 3)) ∨ ((t.op = 6 ∨ t.op = 7 ∨ t.op = 9) ∧ t.n = 0 ∧ (t.on = 1 ∨ t.on = 2))) := by
  unfold Crd.termB at h
  simp only [Bool.and_eq_true, decide_eq_true_eq] at h
  obtain ⟨h0, h1, h2⟩ := h
  unfold Crd.mostI at h1
  unfold Crd.aimsI at h2
  by_cases e1 : t.op = 1
  · rw [if_pos e1] at h2
    simp at h2
    rw [if_neg (by omega)] at h1
    exact ⟨h0, h1, .inl ⟨e1, h2⟩⟩
  · rw [if_neg e1] at h2
    by_cases e2 : t.op = 2 ∨ t.op = 3 ∨ t.op = 8
    · rw [if_pos e2] at h2
      simp at h2
      rw [if_neg (by omega)] at h1
      exact ⟨h0, h1, .inr (.inl ⟨e2, h2⟩)⟩
    · rw [if_neg e2] at h2
      by_cases e3 : t.op = 4 ∨ t.op = 5
      · rw [if_pos e3] at h2
        simp at h2
        rw [if_neg (by omega)] at h1
        exact ⟨h0, h1, .inr (.inr (.inl ⟨e3, h2⟩))⟩
      · rw [if_neg e3] at h2
        by_cases e4 : t.op = 6 ∨ t.op = 7 ∨ t.op = 9
        · rw [if_pos e4] at h2
          simp at h2
          rw [if_pos e4] at h1
          exact ⟨h0, by omega, .inr (.inr (.inr ⟨e4, by omega, h2⟩))⟩
        · rw [if_neg e4] at h2
          simp at h2
theorem creE_has {S : StoreL} {i : Int} (h : creE S i = 0) : hasS S i := by
  unfold creE at h
  split at h
  · assumption
  · cases h
set_option maxRecDepth 100000 in
set_option maxHeartbeats 4000000 in
theorem work_1 {w : World} {lo : Nat} {g : GhostB} {B : BoardL} (h : BoardAt w lo g B) (seat n on i : Int)  (h0 : 0 ≤ n) (h20 : n ≤ 20) :
    Calls Tryz.prog 47 #[.pointer (some ⟨g.q, 0, none⟩), .int .i64 seat, .agg #[.int .i64 1, .int .i64 n, .int .i64 on], .int .i64 i] w (RetBd w lo g (hurtB B on n i) (.tuple #[])) := by
  have hb0 := below_new w (.cells #[.int .i64 1, .int .i64 n, .int .i64 on] 24)
  have h' := h.later hb0
  have HTU := Lib.hid (TurnedB.of_below (g := g) hb0)
  obtain ⟨c0, c1, -⟩ := h'.cells
  have HC := Lib.hid (hurtB_any h' on n i h0 h20)
  clear h h' hb0
  go_enter Tryz.func47, Tryz.ntmps47
  go_wp2_with fail
  refine HC.out.mono ?_
  rintro e w1 hr
  obtain ⟨rfl, hr2⟩ := RetBd.of hr HTU.out rfl
  have HR := Lib.hid hr2
  clear hr hr2
  try dsimp only
  go_wp2
  go_end0
  exact ⟨rfl, HR.out⟩
set_option maxRecDepth 100000 in
set_option maxHeartbeats 4000000 in
theorem work_2 {w : World} {lo : Nat} {g : GhostB} {B : BoardL} (h : BoardAt w lo g B) (seat n on i : Int)  :
    Calls Tryz.prog 47 #[.pointer (some ⟨g.q, 0, none⟩), .int .i64 seat, .agg #[.int .i64 2, .int .i64 n, .int .i64 on], .int .i64 i] w (RetBd w lo g (⟨B.S, gainT B.T (ofT B.T seat) n, B.D⟩) (.tuple #[])) := by
  have hb0 := below_new w (.cells #[.int .i64 2, .int .i64 n, .int .i64 on] 24)
  have h' := h.later hb0
  have HTU := Lib.hid (TurnedB.of_below (g := g) hb0)
  obtain ⟨c0, c1, -⟩ := h'.cells
  have k1 : (w.alloc (.cells #[.int .i64 2, .int .i64 n, .int .i64 on] 24)).cell? ⟨w.heap.size, 1, none⟩ = some (.int .i64 n) := by simp [go_sem]
  obtain ⟨W, hW⟩ : ∃ W, w.alloc (.cells #[.int .i64 2, .int .i64 n, .int .i64 on] 24) = W := ⟨_, rfl⟩
  rw [hW] at c0 c1 k1 h' HTU
  have HW := Lib.hid hW
  clear hW
  have hb1 := (Below.refl W.heap.size W).drew
  have HOF := Lib.hid (tof_any (h'.tm.later hb1) seat)
  obtain ⟨v, hg⟩ := gain_bd (h'.later hb1) (ofT B.T seat) n
  have HC := Lib.hid hg
  have HTU := Lib.hid (HTU.out.trans (TurnedB.of_below hb1))
  clear hg hb1
  clear h h' hb0
  go_enter Tryz.func47, Tryz.ntmps47
  go_upto_region 5 with fail
  rw [HW.out]
  refine wp_region_noPanic ?_
  refine (wpIn_wide (n := 9)).1 ?_
  refine wpIn_region_any (by kernel_rfl) ?_
  change wpAnyIn _ _ _ _ _ _ _ _ _ (World.drew _)
  refine anyC.any (c := 12) (S := fun w' => w'.cell? ⟨g.q, 1, none⟩ = some (.pointer (some ⟨g.tb, 0, none⟩)) ∧ w'.cell? ⟨w.heap.size, 1, none⟩ = some (.int .i64 n)) ?_
  refine anyC_take [1, 2, 3, 12] (i := 0) (v := ?_) (by decide) (by decide) (by kernel_rfl) (by kernel_rfl) (by kernel_rfl) (by kernel_rfl) rfl (by kernel_rfl) (by kernel_rfl) (by kernel_rfl) (fun _ _ _ h => h) (by rfl) (fun _ => rfl) ?_ ?_
  rotate_left
  · intro w' hS
    go_simp
    try with_reducible rfl
  refine anyC_take [2, 3, 12] (i := 1) (v := ?_) (by decide) (by decide) (by kernel_rfl) (by kernel_rfl) (by kernel_rfl) (by kernel_rfl) rfl (by kernel_rfl) (by kernel_rfl) (by kernel_rfl) (fun _ _ _ h => h) (by rfl) (fun _ => rfl) ?_ ?_
  rotate_left
  · intro w' hS
    go_simp
    try with_reducible rfl
  refine anyC_take [3, 12] (i := 2) (v := ?_) (by decide) (by decide) (by kernel_rfl) (by kernel_rfl) (by kernel_rfl) (by kernel_rfl) rfl (by kernel_rfl) (by kernel_rfl) (by kernel_rfl) (fun _ _ _ h => h) (by rfl) (fun _ => rfl) ?_ ?_
  rotate_left
  · intro w' hS
    go_simp
    try with_reducible rfl
  refine anyC_take [12] (i := 3) (v := ?_) (by decide) (by decide) (by kernel_rfl) (by kernel_rfl) (by kernel_rfl) (by kernel_rfl) rfl (by kernel_rfl) (by kernel_rfl) (by kernel_rfl) (fun _ _ _ h => h) (by rfl) (fun _ => rfl) ?_ ?_
  rotate_left
  · intro w' hS
    obtain ⟨s1, s5⟩ := hS
    go_simp
    try with_reducible rfl
  refine anyC_take [5, 6, 7, 9, 12] (i := 4) (v := ?_) (by decide) (by decide) (by kernel_rfl) (by kernel_rfl) (by kernel_rfl) (by kernel_rfl) rfl (by kernel_rfl) (by kernel_rfl) (by kernel_rfl) (fun _ _ _ h => h) (by rfl) (fun _ => rfl) ?_ ?_
  rotate_left
  · intro w' hS
    go_simp
    try with_reducible rfl
  refine anyC_take [6, 7, 9, 12] (i := 5) (v := ?_) (by decide) (by decide) (by kernel_rfl) (by kernel_rfl) (by kernel_rfl) (by kernel_rfl) rfl (by kernel_rfl) (by kernel_rfl) (by kernel_rfl) (fun _ _ _ h => h) (by rfl) (fun _ => rfl) ?_ ?_
  rotate_left
  · intro w' hS
    go_simp
    try with_reducible rfl
  refine anyC_take [7, 9, 12] (i := 6) (v := ?_) (by decide) (by decide) (by kernel_rfl) (by kernel_rfl) (by kernel_rfl) (by kernel_rfl) rfl (by kernel_rfl) (by kernel_rfl) (by kernel_rfl) (fun _ _ _ h => h) (by rfl) (fun _ => rfl) ?_ ?_
  rotate_left
  · intro w' hS
    go_simp
    try with_reducible rfl
  refine anyC_take [9, 12] (i := 7) (v := ?_) (by decide) (by decide) (by kernel_rfl) (by kernel_rfl) (by kernel_rfl) (by kernel_rfl) rfl (by kernel_rfl) (by kernel_rfl) (by kernel_rfl) (fun _ _ _ h => h) (by rfl) (fun _ => rfl) ?_ ?_
  rotate_left
  · intro w' hS
    obtain ⟨s1, s5⟩ := hS
    go_simp
    try with_reducible rfl
  refine anyC_take [9, 12] (i := 8) (v := ?_) (by decide) (by decide) (by kernel_rfl) (by kernel_rfl) (by kernel_rfl) (by kernel_rfl) rfl (by kernel_rfl) (by kernel_rfl) (by kernel_rfl) (fun _ _ _ h => h) (by rfl) (fun _ => rfl) ?_ ?_
  rotate_left
  · intro w' hS
    go_simp
    try with_reducible rfl
  refine anyC_take [11, 12] (i := 10) (v := ?_) (by decide) (by decide) (by kernel_rfl) (by kernel_rfl) (by kernel_rfl) (by kernel_rfl) rfl (by kernel_rfl) (by kernel_rfl) (by kernel_rfl) (fun _ _ _ h => h) (by rfl) (fun _ => rfl) ?_ ?_
  rotate_left
  · intro w' hS
    go_simp
    try with_reducible rfl
  refine anyC_take [12] (i := 11) (v := ?_) (by decide) (by decide) (by kernel_rfl) (by kernel_rfl) (by kernel_rfl) (by kernel_rfl) rfl (by kernel_rfl) (by kernel_rfl) (by kernel_rfl) (fun _ _ _ h => h) (by rfl) (fun _ => rfl) ?_ ?_
  rotate_left
  · intro w' hS
    obtain ⟨s1, s5⟩ := hS
    go_simp
    try with_reducible rfl
  refine anyC_one (i := 9) (by kernel_rfl) rfl (fun _ => ⟨cell_stays (Below.refl W.heap.size W).drew c1, cell_stays (Below.refl W.heap.size W).drew k1⟩) (fun K hK => ?_)
  go_simp
  gi_wp2_with ((refine ⟨trivial, ?_⟩; gi_at_call 16; refine CallsIn.mono (F := Fence.wide) (callsIn_wide.2 (HOF.out)) ?_; rintro e w0 ⟨rfl, rfl⟩; dsimp only))
  refine anyC_one (i := 12) (by kernel_rfl) rfl (fun _ => ⟨cell_stays (Below.refl W.heap.size W).drew c1, cell_stays (Below.refl W.heap.size W).drew k1⟩) (fun K hK => ?_)
  go_simp
  gi_wp2_with ((refine ⟨trivial, ?_⟩; gi_at_call 51; refine CallsIn.mono (F := Fence.wide) (callsIn_wide.2 (HC.out)) ?_; rintro e w1 hr; obtain ⟨rfl, hr2⟩ := RetBd.of hr HTU.out rfl; have HR := Lib.hid hr2; clear hr hr2; dsimp only))
  refine anyC_done (by kernel_rfl) (fun h => absurd ((show Array.getD _ 12 true = true by kernel_rfl).symm.trans h) (by decide)) ?_ _
  refine NoPanic.normal ?_
  go_wp2
  go_end0
  exact ⟨rfl, HR.out⟩
set_option maxRecDepth 100000 in
set_option maxHeartbeats 4000000 in
theorem work_3 {w : World} {lo : Nat} {g : GhostB} {B : BoardL} (h : BoardAt w lo g B) (seat n on i : Int)  (hs : hasT B seat = true) :
    Calls Tryz.prog 47 #[.pointer (some ⟨g.q, 0, none⟩), .int .i64 seat, .agg #[.int .i64 3, .int .i64 n, .int .i64 on], .int .i64 i] w (RetBd w lo g (drawB B seat.toNat n) (.tuple #[])) := by
  have hb0 := below_new w (.cells #[.int .i64 3, .int .i64 n, .int .i64 on] 24)
  have h' := h.later hb0
  have HTU := Lib.hid (TurnedB.of_below (g := g) hb0)
  obtain ⟨c0, c1, -⟩ := h'.cells
  obtain ⟨k, rfl⟩ : ∃ k : Nat, seat = k := ⟨seat.toNat, by have := (of_decide_eq_true hs).1; omega⟩
  have hk : k < B.S.seats := by have := (of_decide_eq_true hs).2; omega
  have HC := Lib.hid (draw_any h' k hk n)
  rw [Int.toNat_natCast]
  clear hs
  clear h h' hb0
  go_enter Tryz.func47, Tryz.ntmps47
  go_wp2_with fail
  refine HC.out.mono ?_
  rintro e w1 hr
  obtain ⟨rfl, hr2⟩ := RetBd.of hr HTU.out rfl
  have HR := Lib.hid hr2
  clear hr hr2
  try dsimp only
  go_wp2
  go_end0
  exact ⟨rfl, HR.out⟩
set_option maxRecDepth 100000 in
set_option maxHeartbeats 4000000 in
theorem work_4 {w : World} {lo : Nat} {g : GhostB} {B : BoardL} (h : BoardAt w lo g B) (seat n on i : Int)  :
    Calls Tryz.prog 47 #[.pointer (some ⟨g.q, 0, none⟩), .int .i64 seat, .agg #[.int .i64 4, .int .i64 n, .int .i64 on], .int .i64 i] w (RetBd w lo g (⟨boostS B.S i n, B.T, B.D⟩) (.tuple #[])) := by
  have hb0 := below_new w (.cells #[.int .i64 4, .int .i64 n, .int .i64 on] 24)
  have h' := h.later hb0
  have HTU := Lib.hid (TurnedB.of_below (g := g) hb0)
  obtain ⟨c0, c1, -⟩ := h'.cells
  have k1 : (w.alloc (.cells #[.int .i64 4, .int .i64 n, .int .i64 on] 24)).cell? ⟨w.heap.size, 1, none⟩ = some (.int .i64 n) := by simp [go_sem]
  obtain ⟨W, hW⟩ : ∃ W, w.alloc (.cells #[.int .i64 4, .int .i64 n, .int .i64 on] 24) = W := ⟨_, rfl⟩
  rw [hW] at c0 c1 k1 h' HTU
  have HW := Lib.hid hW
  clear hW
  have hb1 := (Below.refl W.heap.size W).drew
  obtain ⟨v, hg⟩ := boost_bd (h'.later hb1) i n
  have HC := Lib.hid hg
  have HTU := Lib.hid (HTU.out.trans (TurnedB.of_below hb1))
  clear hg hb1
  clear h h' hb0
  go_enter Tryz.func47, Tryz.ntmps47
  go_upto_region 9 with fail
  rw [HW.out]
  go_still_tail 7, (by kernel_rfl)
  change wpList _ _ _ _ _ (World.drew _)
  go_wp2_with fail
  refine HC.out.mono ?_
  rintro e w1 hr
  obtain ⟨rfl, hr2⟩ := RetBd.of hr HTU.out rfl
  have HR := Lib.hid hr2
  clear hr hr2
  try dsimp only
  go_wp2
  go_end0
  exact ⟨rfl, HR.out⟩
set_option maxRecDepth 100000 in
set_option maxHeartbeats 4000000 in
theorem work_5 {w : World} {lo : Nat} {g : GhostB} {B : BoardL} (h : BoardAt w lo g B) (seat n on i : Int)  :
    Calls Tryz.prog 47 #[.pointer (some ⟨g.q, 0, none⟩), .int .i64 seat, .agg #[.int .i64 5, .int .i64 n, .int .i64 on], .int .i64 i] w (RetBd w lo g (⟨countS B.S i n, B.T, B.D⟩) (.tuple #[])) := by
  have hb0 := below_new w (.cells #[.int .i64 5, .int .i64 n, .int .i64 on] 24)
  have h' := h.later hb0
  have HTU := Lib.hid (TurnedB.of_below (g := g) hb0)
  obtain ⟨c0, c1, -⟩ := h'.cells
  have k1 : (w.alloc (.cells #[.int .i64 5, .int .i64 n, .int .i64 on] 24)).cell? ⟨w.heap.size, 1, none⟩ = some (.int .i64 n) := by simp [go_sem]
  obtain ⟨W, hW⟩ : ∃ W, w.alloc (.cells #[.int .i64 5, .int .i64 n, .int .i64 on] 24) = W := ⟨_, rfl⟩
  rw [hW] at c0 c1 k1 h' HTU
  have HW := Lib.hid hW
  clear hW
  have hb1 := (Below.refl W.heap.size W).drew
  obtain ⟨v, hg⟩ := count_bd (h'.later hb1) i n
  have HC := Lib.hid hg
  have HTU := Lib.hid (HTU.out.trans (TurnedB.of_below hb1))
  clear hg hb1
  clear h h' hb0
  go_enter Tryz.func47, Tryz.ntmps47
  go_upto_region 11 with fail
  rw [HW.out]
  go_still_tail 7, (by kernel_rfl)
  change wpList _ _ _ _ _ (World.drew _)
  go_wp2_with fail
  refine HC.out.mono ?_
  rintro e w1 hr
  obtain ⟨rfl, hr2⟩ := RetBd.of hr HTU.out rfl
  have HR := Lib.hid hr2
  clear hr hr2
  try dsimp only
  go_wp2
  go_end0
  exact ⟨rfl, HR.out⟩
set_option maxRecDepth 100000 in
set_option maxHeartbeats 4000000 in
theorem work_6 {w : World} {lo : Nat} {g : GhostB} {B : BoardL} (h : BoardAt w lo g B) (seat n on i : Int)  (hc : creE B.S i = 0) :
    Calls Tryz.prog 47 #[.pointer (some ⟨g.q, 0, none⟩), .int .i64 seat, .agg #[.int .i64 6, .int .i64 n, .int .i64 on], .int .i64 i] w (RetBd w lo g (⟨moveI B.S i 5, B.T, B.D⟩) (.tuple #[])) := by
  have hb0 := below_new w (.cells #[.int .i64 6, .int .i64 n, .int .i64 on] 24)
  have h' := h.later hb0
  have HTU := Lib.hid (TurnedB.of_below (g := g) hb0)
  obtain ⟨c0, c1, -⟩ := h'.cells
  have HC := Lib.hid (move_bd h' i (creE_has hc) 5 (by omega) (by omega))
  clear h h' hb0
  go_enter Tryz.func47, Tryz.ntmps47
  go_wp2_with fail
  refine HC.out.mono ?_
  rintro e w1 hr
  obtain ⟨rfl, hr2⟩ := RetBd.of hr HTU.out rfl
  have HR := Lib.hid hr2
  clear hr hr2
  try dsimp only
  go_wp2
  go_end0
  exact ⟨rfl, HR.out⟩
set_option maxRecDepth 100000 in
set_option maxHeartbeats 4000000 in
theorem work_7 {w : World} {lo : Nat} {g : GhostB} {B : BoardL} (h : BoardAt w lo g B) (seat n on i : Int)  (hc : creE B.S i = 0) :
    Calls Tryz.prog 47 #[.pointer (some ⟨g.q, 0, none⟩), .int .i64 seat, .agg #[.int .i64 7, .int .i64 n, .int .i64 on], .int .i64 i] w (RetBd w lo g (⟨moveI B.S i 2, B.T, B.D⟩) (.tuple #[])) := by
  have hb0 := below_new w (.cells #[.int .i64 7, .int .i64 n, .int .i64 on] 24)
  have h' := h.later hb0
  have HTU := Lib.hid (TurnedB.of_below (g := g) hb0)
  obtain ⟨c0, c1, -⟩ := h'.cells
  have HC := Lib.hid (move_bd h' i (creE_has hc) 2 (by omega) (by omega))
  clear h h' hb0
  go_enter Tryz.func47, Tryz.ntmps47
  go_wp2_with fail
  refine HC.out.mono ?_
  rintro e w1 hr
  obtain ⟨rfl, hr2⟩ := RetBd.of hr HTU.out rfl
  have HR := Lib.hid hr2
  clear hr hr2
  try dsimp only
  go_wp2
  go_end0
  exact ⟨rfl, HR.out⟩
set_option maxRecDepth 100000 in
set_option maxHeartbeats 4000000 in
theorem work_8 {w : World} {lo : Nat} {g : GhostB} {B : BoardL} (h : BoardAt w lo g B) (seat n on i : Int)  (h0 : 0 ≤ n) (h20 : n ≤ 20) :
    Calls Tryz.prog 47 #[.pointer (some ⟨g.q, 0, none⟩), .int .i64 seat, .agg #[.int .i64 8, .int .i64 n, .int .i64 on], .int .i64 i] w (RetBd w lo g (⟨B.S, drainT B.T seat n, B.D⟩) (.tuple #[])) := by
  have hb0 := below_new w (.cells #[.int .i64 8, .int .i64 n, .int .i64 on] 24)
  have h' := h.later hb0
  have HTU := Lib.hid (TurnedB.of_below (g := g) hb0)
  obtain ⟨c0, c1, -⟩ := h'.cells
  have HC := Lib.hid (drain_any h' seat n h0 h20)
  clear h h' hb0
  go_enter Tryz.func47, Tryz.ntmps47
  go_wp2_with fail
  refine HC.out.mono ?_
  rintro e w1 hr
  obtain ⟨rfl, hr2⟩ := RetBd.of hr HTU.out rfl
  have HR := Lib.hid hr2
  clear hr hr2
  try dsimp only
  go_wp2
  go_end0
  exact ⟨rfl, HR.out⟩
set_option maxRecDepth 100000 in
set_option maxHeartbeats 4000000 in
theorem work_9 {w : World} {lo : Nat} {g : GhostB} {B : BoardL} (h : BoardAt w lo g B) (seat n on i : Int)  (hc : creE B.S i = 0) :
    Calls Tryz.prog 47 #[.pointer (some ⟨g.q, 0, none⟩), .int .i64 seat, .agg #[.int .i64 9, .int .i64 n, .int .i64 on], .int .i64 i] w (RetBd w lo g (⟨tapI B.S i, B.T, B.D⟩) (.tuple #[])) := by
  have hb0 := below_new w (.cells #[.int .i64 9, .int .i64 n, .int .i64 on] 24)
  have h' := h.later hb0
  have HTU := Lib.hid (TurnedB.of_below (g := g) hb0)
  obtain ⟨c0, c1, -⟩ := h'.cells
  obtain ⟨v, hg⟩ := taps_bd h' i hc
  have HC := Lib.hid hg
  clear hg
  clear h h' hb0
  go_enter Tryz.func47, Tryz.ntmps47
  go_wp2_with fail
  refine HC.out.mono ?_
  rintro e w1 hr
  obtain ⟨rfl, hr2⟩ := RetBd.of hr HTU.out rfl
  have HR := Lib.hid hr2
  clear hr hr2
  try dsimp only
  go_wp2
  go_end0
  exact ⟨rfl, HR.out⟩
/-- What a term does that may be done. -/
theorem work_any {w : World} {lo : Nat} {g : GhostB} {B : BoardL} (h : BoardAt w lo g B) (seat : Int) (t : Crd.TermL) (i : Int) (hs : hasT B seat = true) (ht : Crd.termB t = true) (hc : t.op = 6 ∨ t.op = 7 ∨ t.op = 9 → creE B.S i = 0) :
    Calls Tryz.prog 47 #[.pointer (some ⟨g.q, 0, none⟩), .int .i64 seat, Crd.tval t, .int .i64 i] w (RetBd w lo g (workB B seat t i) (.tuple #[])) := by
  obtain ⟨op, n, on⟩ := t
  obtain ⟨h0, h20, hp⟩ := term_parts ht
  unfold Crd.tval workB
  dsimp only at h0 h20 hp hc ⊢
  clear ht
  rcases (show op = 1 ∨ op = 2 ∨ op = 3 ∨ op = 4 ∨ op = 5 ∨ op = 6 ∨ op = 7 ∨ op = 8 ∨ op = 9 by omega) with rfl | rfl | rfl | rfl | rfl | rfl | rfl | rfl | rfl
  · exact work_1 h seat n on i h0 h20
  · exact work_2 h seat n on i
  · exact work_3 h seat n on i hs
  · exact work_4 h seat n on i
  · exact work_5 h seat n on i
  · exact work_6 h seat n on i (hc (by omega))
  · exact work_7 h seat n on i (hc (by omega))
  · exact work_8 h seat n on i h0 h20
  · exact work_9 h seat n on i (hc (by omega))
end Go.Proofs.YtgjojjhppgjkkaaGreat

/- Terms that are done (layer 11): Do, All. -/
import Derived.Test.YtgjojjhppgjkkaaGreatBg
namespace Go.Proofs.YtgjojjhppgjkkaaGreat
open Go.RowKit Go.Maps
attribute [local go_sem] Oper.semAt_some

/-- Whether a term is done, and what it makes of a board. -/
def canB (B : BoardL) (seat : Int) (t : Crd.TermL) (i : Int) : Bool := hasT B seat && (Crd.termB t && (chkT B.T B.S seat t.on i == 0))
def doB (B : BoardL) (seat : Int) (t : Crd.TermL) (i : Int) : BoardL := if canB B seat t i then workB B seat t i else B
theorem can_cre {B : BoardL} {seat i : Int} {t : Crd.TermL} (h : canB B seat t i = true) (hop : t.op = 6 ∨ t.op = 7 ∨ t.op = 9) : creE B.S i = 0 := by
  unfold canB at h
  simp only [Bool.and_eq_true, beq_iff_eq] at h
  obtain ⟨_, ht, hc⟩ := h
  obtain ⟨_, _, hp⟩ := term_parts ht
  have hon : t.on = 1 ∨ t.on = 2 := by omega
  unfold chkT at hc
  split at hc
  · cases hc
  · split at hc
    · rename_i hm
      unfold mayT at hm
      rcases hon with e | e <;> rw [e] at hm <;> simp at hm
      · exact hm
      · exact hm.1
    · cases hc
theorem keepC5 {w w' : World} {a0 a1 a2 a3 a4 : Addr} {v0 v1 v2 v3 v4 : Value} (hb : Below w.heap.size w w') (h : w.cell? a0 = some v0 ∧ w.cell? a1 = some v1 ∧ w.cell? a2 = some v2 ∧ w.cell? a3 = some v3 ∧ w.cell? a4 = some v4) :
    w'.cell? a0 = some v0 ∧ w'.cell? a1 = some v1 ∧ w'.cell? a2 = some v2 ∧ w'.cell? a3 = some v3 ∧ w'.cell? a4 = some v4 :=
  ⟨cell_stays hb h.1, cell_stays hb h.2.1, cell_stays hb h.2.2.1, cell_stays hb h.2.2.2.1, cell_stays hb h.2.2.2.2⟩
set_option maxRecDepth 100000 in
set_option maxHeartbeats 8000000 in
theorem do_any {w : World} {lo : Nat} {g : GhostB} {B : BoardL} (h : BoardAt w lo g B) (seat : Int) (t : Crd.TermL) (i : Int) :
    Calls Tryz.prog 12 #[.pointer (some ⟨g.q, 0, none⟩), .int .i64 seat, Crd.tval t, .int .i64 i] w (RetBd w lo g (doB B seat t i) (.bool (canB B seat t i))) := by
  have hcre := fun hc => can_cre (B := B) (seat := seat) (t := t) (i := i) hc
  have hwk : canB B seat t i = true → hasT B seat = true ∧ Crd.termB t = true := fun e => by
    unfold canB at e
    simp only [Bool.and_eq_true] at e
    exact ⟨e.1, e.2.1⟩
  have hb0 := below_new w (.cells #[.int .i64 t.op, .int .i64 t.n, .int .i64 t.on] 24)
  have h' := h.later hb0
  have HTU := Lib.hid (TurnedB.of_below (g := g) hb0)
  have hk := fun j => cell_of_row (w.alloc (.cells #[.int .i64 t.op, .int .i64 t.n, .int .i64 t.on] 24)) w.heap.size j _ _ _ (heap_alloc_new w (.cells #[.int .i64 t.op, .int .i64 t.n, .int .i64 t.on] 24))
  have k0 := hk 0
  have k1 := hk 1
  have k2 := hk 2
  obtain ⟨W, hW⟩ : ∃ W, w.alloc (.cells #[.int .i64 t.op, .int .i64 t.n, .int .i64 t.on] 24) = W := ⟨_, rfl⟩
  rw [hW] at k0 k1 k2 h' HTU
  have HW := Lib.hid hW
  obtain ⟨q6, hq6⟩ : ∃ q, w.heap.size = q := ⟨_, rfl⟩
  rw [hq6] at k0 k1 k2
  have HQ6 := Lib.hid hq6
  obtain ⟨c0, c1, -⟩ := h'.cells
  have HI := Lib.hid (show W.cell? ⟨g.q, 0, none⟩ = some (.pointer (some ⟨g.b, 0, none⟩)) ∧ W.cell? ⟨g.q, 1, none⟩ = some (.pointer (some ⟨g.tb, 0, none⟩)) ∧ W.cell? ⟨q6, 0, none⟩ = some (.int .i64 t.op) ∧ W.cell? ⟨q6, 1, none⟩ = some (.int .i64 t.n) ∧ W.cell? ⟨q6, 2, none⟩ = some (.int .i64 t.on) from ⟨c0, c1, k0, k1, k2⟩)
  have HH := Lib.hid (fun (w' : World) (hb : Below W.heap.size W w') => has11_any (h'.later hb) seat)
  have HC := Lib.hid (fun (w' : World) => Crd.checkTerm_any t w')
  have HA := Lib.hid (fun (w' : World) (hb : Below W.heap.size W w') => aimCheck_any (h'.later hb).st h.wf (by have := h.len; omega) (h'.later hb).tm seat t.on i)
  have HWK := Lib.hid (fun (w' : World) (hb : Below W.heap.size W w') (hc : canB B seat t i = true) => work_any (h'.later hb) seat t i (hwk hc).1 (hwk hc).2 (fun ho => hcre hc ho))
  have HBD := Lib.hid h'
  unfold doB
  unfold canB at HWK ⊢
  obtain ⟨z, hz⟩ : ∃ z, chkT B.T B.S seat t.on i = z := ⟨_, rfl⟩
  rw [hz] at HA HWK ⊢
  obtain ⟨op, n, on⟩ := t
  unfold Crd.tval at HC HWK ⊢
  dsimp only at HI HC HA HWK ⊢
  clear h h' hb0 hk k0 k1 k2 c0 c1 hcre hwk hW hq6 hz
  cases hs : hasT B seat with
  | false =>
    rw [hs] at HH
    rw [Bool.false_and, if_neg Bool.false_ne_true]
    clear hs HC HA HWK
    go_enter Tryz.func12, Tryz.ntmps12
    go_upto_region 1 with fail
    rw [HW.out]
    simp only [HQ6.out]
    refine wp_region_noPanic ?_
    refine (wpIn_wide (n := 9)).1 ?_
    refine wpIn_region_any (by kernel_rfl) ?_
    change wpAnyIn _ _ _ _ _ _ _ _ _ (World.drew _)
    refine anyS.any (S := fun w' => w'.cell? ⟨g.q, 0, none⟩ = some (.pointer (some ⟨g.b, 0, none⟩)) ∧ w'.cell? ⟨g.q, 1, none⟩ = some (.pointer (some ⟨g.tb, 0, none⟩)) ∧ w'.cell? ⟨q6, 0, none⟩ = some (.int .i64 op) ∧ w'.cell? ⟨q6, 1, none⟩ = some (.int .i64 n) ∧ w'.cell? ⟨q6, 2, none⟩ = some (.int .i64 on)) ?_
    refine anyS_take (i := 0) (v := ?_) (by kernel_rfl) rfl (by kernel_rfl) (by kernel_rfl) (by kernel_rfl) (fun _ _ _ h => h) (by kernel_rfl) (fun _ => by kernel_rfl) ?_ ?_
    rotate_left
    · intro w' hS
      go_simp
      try with_reducible rfl
    refine anyS_take (i := 1) (v := ?_) (by kernel_rfl) rfl (by kernel_rfl) (by kernel_rfl) (by kernel_rfl) (fun _ _ _ h => h) (by kernel_rfl) (fun _ => by kernel_rfl) ?_ ?_
    rotate_left
    · intro w' hS
      go_simp
      try with_reducible rfl
    refine anyS_one (i := 2) (by kernel_rfl) rfl (keepC5 (Below.refl W.heap.size W).drew HI.out) (fun K hK => ?_)
    go_simp
    gi_wp2_with ((refine ⟨trivial, ?_⟩; gi_at_call 44; refine CallsIn.mono (F := Fence.wide) (callsIn_wide.2 (HH.out _ ((Below.refl W.heap.size W).drew))) ?_; rintro e w9 ⟨rfl, rfl⟩; dsimp only))
    refine anyS_take (i := 3) (v := ?_) (by kernel_rfl) rfl (by kernel_rfl) (by kernel_rfl) (by kernel_rfl) (fun _ _ _ h => h) (by kernel_rfl) (fun _ => by kernel_rfl) ?_ ?_
    rotate_left
    · intro w' hS
      go_simp
      try with_reducible rfl
    refine anyS_take (i := 4) (v := ?_) (by kernel_rfl) rfl (by kernel_rfl) (by kernel_rfl) (by kernel_rfl) (fun _ _ _ h => h) (by kernel_rfl) (fun _ => by kernel_rfl) ?_ ?_
    rotate_left
    · intro w' hS
      go_simp
      try with_reducible rfl
    refine anyS_skip (i := 5) (by kernel_rfl) rfl (by kernel_rfl) (by kernel_rfl) (by kernel_rfl) (fun _ _ _ h => h) (by kernel_rfl) (fun _ => by kernel_rfl) ?_
    refine anyS_one (i := 6) (by kernel_rfl) rfl (keepC5 (Below.refl W.heap.size W).drew HI.out) (fun K hK => ?_)
    go_simp
    refine ⟨trivial, hK _ _ ?_⟩
    clear hK K
    refine anyS_skip (i := 7) (by kernel_rfl) rfl (by kernel_rfl) (by kernel_rfl) (by kernel_rfl) (fun _ _ _ h => h) (by kernel_rfl) (fun _ => by kernel_rfl) ?_
    refine anyS_take (i := 8) (v := ?_) (by kernel_rfl) rfl (by kernel_rfl) (by kernel_rfl) (by kernel_rfl) (fun _ _ _ h => h) (by kernel_rfl) (fun _ => by kernel_rfl) ?_ ?_
    rotate_left
    · intro w' hS
      go_simp
      try with_reducible rfl
    refine anyS_take (i := 9) (v := ?_) (by kernel_rfl) rfl (by kernel_rfl) (by kernel_rfl) (by kernel_rfl) (fun _ _ _ h => h) (by kernel_rfl) (fun _ => by kernel_rfl) ?_ ?_
    rotate_left
    · intro w' hS
      go_simp
      try with_reducible rfl
    refine anyS_skip (i := 10) (by kernel_rfl) rfl (by kernel_rfl) (by kernel_rfl) (by kernel_rfl) (fun _ _ _ h => h) (by kernel_rfl) (fun _ => by kernel_rfl) ?_
    refine anyS_skip (i := 11) (by kernel_rfl) rfl (by kernel_rfl) (by kernel_rfl) (by kernel_rfl) (fun _ _ _ h => h) (by kernel_rfl) (fun _ => by kernel_rfl) ?_
    refine anyS_skip (i := 12) (by kernel_rfl) rfl (by kernel_rfl) (by kernel_rfl) (by kernel_rfl) (fun _ _ _ h => h) (by kernel_rfl) (fun _ => by kernel_rfl) ?_
    refine anyS_skip (i := 13) (by kernel_rfl) rfl (by kernel_rfl) (by kernel_rfl) (by kernel_rfl) (fun _ _ _ h => h) (by kernel_rfl) (fun _ => by kernel_rfl) ?_
    refine anyS_skip (i := 14) (by kernel_rfl) rfl (by kernel_rfl) (by kernel_rfl) (by kernel_rfl) (fun _ _ _ h => h) (by kernel_rfl) (fun _ => by kernel_rfl) ?_
    refine anyS_skip (i := 15) (by kernel_rfl) rfl (by kernel_rfl) (by kernel_rfl) (by kernel_rfl) (fun _ _ _ h => h) (by kernel_rfl) (fun _ => by kernel_rfl) ?_
    refine anyS_skip (i := 16) (by kernel_rfl) rfl (by kernel_rfl) (by kernel_rfl) (by kernel_rfl) (fun _ _ _ h => h) (by kernel_rfl) (fun _ => by kernel_rfl) ?_
    refine anyS_skip (i := 17) (by kernel_rfl) rfl (by kernel_rfl) (by kernel_rfl) (by kernel_rfl) (fun _ _ _ h => h) (by kernel_rfl) (fun _ => by kernel_rfl) ?_
    refine anyS_skip (i := 18) (by kernel_rfl) rfl (by kernel_rfl) (by kernel_rfl) (by kernel_rfl) (fun _ _ _ h => h) (by kernel_rfl) (fun _ => by kernel_rfl) ?_
    refine anyS_skip (i := 19) (by kernel_rfl) rfl (by kernel_rfl) (by kernel_rfl) (by kernel_rfl) (fun _ _ _ h => h) (by kernel_rfl) (fun _ => by kernel_rfl) ?_
    refine anyS_skip (i := 20) (by kernel_rfl) rfl (by kernel_rfl) (by kernel_rfl) (by kernel_rfl) (fun _ _ _ h => h) (by kernel_rfl) (fun _ => by kernel_rfl) ?_
    refine anyS_skip (i := 21) (by kernel_rfl) rfl (by kernel_rfl) (by kernel_rfl) (by kernel_rfl) (fun _ _ _ h => h) (by kernel_rfl) (fun _ => by kernel_rfl) ?_
    refine anyS_one (i := 22) (by kernel_rfl) rfl (keepC5 (Below.refl W.heap.size W).drew HI.out) (fun K hK => ?_)
    go_simp
    refine ⟨trivial, hK _ _ ?_⟩
    clear hK K
    refine anyS_skip (i := 23) (by kernel_rfl) rfl (by kernel_rfl) (by kernel_rfl) (by kernel_rfl) (fun _ _ _ h => h) (by kernel_rfl) (fun _ => by kernel_rfl) ?_
    refine anyS_take (i := 24) (v := ?_) (by kernel_rfl) rfl (by kernel_rfl) (by kernel_rfl) (by kernel_rfl) (fun _ _ _ h => h) (by kernel_rfl) (fun _ => by kernel_rfl) ?_ ?_
    rotate_left
    · intro w' hS
      go_simp
      try with_reducible rfl
    refine anyS_done (by kernel_rfl) (keepC5 (Below.refl W.heap.size W).drew HI.out) ?_ _
    refine NoPanic.normal ?_
    go_wp2
    go_ret
    exact ⟨rfl, g, HBD.out.later ((Below.refl W.heap.size W).drew), HTU.out.trans (TurnedB.of_below ((Below.refl W.heap.size W).drew)), rfl⟩
  | true =>
    rw [hs] at HH HWK
    rw [Bool.true_and] at HWK ⊢
    clear hs
    cases ht : Crd.termB ⟨op, n, on⟩ with
    | false =>
      rw [ht] at HC
      rw [Bool.false_and, if_neg Bool.false_ne_true]
      rw [show Crd.cardE false = 8 from rfl] at HC
      clear ht HA HWK
      go_enter Tryz.func12, Tryz.ntmps12
      go_upto_region 1 with fail
      rw [HW.out]
      simp only [HQ6.out]
      refine wp_region_noPanic ?_
      refine (wpIn_wide (n := 9)).1 ?_
      refine wpIn_region_any (by kernel_rfl) ?_
      change wpAnyIn _ _ _ _ _ _ _ _ _ (World.drew _)
      refine anyS.any (S := fun w' => w'.cell? ⟨g.q, 0, none⟩ = some (.pointer (some ⟨g.b, 0, none⟩)) ∧ w'.cell? ⟨g.q, 1, none⟩ = some (.pointer (some ⟨g.tb, 0, none⟩)) ∧ w'.cell? ⟨q6, 0, none⟩ = some (.int .i64 op) ∧ w'.cell? ⟨q6, 1, none⟩ = some (.int .i64 n) ∧ w'.cell? ⟨q6, 2, none⟩ = some (.int .i64 on)) ?_
      refine anyS_take (i := 0) (v := ?_) (by kernel_rfl) rfl (by kernel_rfl) (by kernel_rfl) (by kernel_rfl) (fun _ _ _ h => h) (by kernel_rfl) (fun _ => by kernel_rfl) ?_ ?_
      rotate_left
      · intro w' hS
        go_simp
        try with_reducible rfl
      refine anyS_take (i := 1) (v := ?_) (by kernel_rfl) rfl (by kernel_rfl) (by kernel_rfl) (by kernel_rfl) (fun _ _ _ h => h) (by kernel_rfl) (fun _ => by kernel_rfl) ?_ ?_
      rotate_left
      · intro w' hS
        go_simp
        try with_reducible rfl
      refine anyS_one (i := 2) (by kernel_rfl) rfl (keepC5 (Below.refl W.heap.size W).drew HI.out) (fun K hK => ?_)
      go_simp
      gi_wp2_with ((refine ⟨trivial, ?_⟩; gi_at_call 44; refine CallsIn.mono (F := Fence.wide) (callsIn_wide.2 (HH.out _ ((Below.refl W.heap.size W).drew))) ?_; rintro e w9 ⟨rfl, rfl⟩; dsimp only))
      refine anyS_take (i := 3) (v := ?_) (by kernel_rfl) rfl (by kernel_rfl) (by kernel_rfl) (by kernel_rfl) (fun _ _ _ h => h) (by kernel_rfl) (fun _ => by kernel_rfl) ?_ ?_
      rotate_left
      · intro w' hS
        go_simp
        try with_reducible rfl
      refine anyS_take (i := 4) (v := ?_) (by kernel_rfl) rfl (by kernel_rfl) (by kernel_rfl) (by kernel_rfl) (fun _ _ _ h => h) (by kernel_rfl) (fun _ => by kernel_rfl) ?_ ?_
      rotate_left
      · intro w' hS
        go_simp
        try with_reducible rfl
      refine anyS_take (i := 5) (v := ?_) (by kernel_rfl) rfl (by kernel_rfl) (by kernel_rfl) (by kernel_rfl) (fun _ _ _ h => h) (by kernel_rfl) (fun _ => by kernel_rfl) ?_ ?_
      rotate_left
      · intro w' hS
        obtain ⟨s0, s1, s2, s3, s4⟩ := hS
        go_simp
        try with_reducible rfl
      refine anyS_one (i := 6) (by kernel_rfl) rfl (keepC5 (Below.refl W.heap.size W).drew HI.out) (fun K hK => ?_)
      go_simp
      gi_wp2_with ((refine ⟨trivial, ?_⟩; gi_at_call 45; refine CallsIn.mono (F := Fence.wide) (callsIn_wide.2 (HC.out _)) ?_; rintro e w9 ⟨rfl, hb9⟩; have HB9 := Lib.hid (stepB (Below.refl W.heap.size W).drew hb9); clear hb9; dsimp only))
      refine anyS_take (i := 7) (v := ?_) (by kernel_rfl) rfl (by kernel_rfl) (by kernel_rfl) (by kernel_rfl) (fun _ _ _ h => h) (by kernel_rfl) (fun _ => by kernel_rfl) ?_ ?_
      rotate_left
      · intro w' hS
        go_simp
        try with_reducible rfl
      refine anyS_take (i := 8) (v := ?_) (by kernel_rfl) rfl (by kernel_rfl) (by kernel_rfl) (by kernel_rfl) (fun _ _ _ h => h) (by kernel_rfl) (fun _ => by kernel_rfl) ?_ ?_
      rotate_left
      · intro w' hS
        go_simp
        try with_reducible rfl
      refine anyS_take (i := 9) (v := ?_) (by kernel_rfl) rfl (by kernel_rfl) (by kernel_rfl) (by kernel_rfl) (fun _ _ _ h => h) (by kernel_rfl) (fun _ => by kernel_rfl) ?_ ?_
      rotate_left
      · intro w' hS
        go_simp
        try with_reducible rfl
      refine anyS_skip (i := 10) (by kernel_rfl) rfl (by kernel_rfl) (by kernel_rfl) (by kernel_rfl) (fun _ _ _ h => h) (by kernel_rfl) (fun _ => by kernel_rfl) ?_
      refine anyS_skip (i := 11) (by kernel_rfl) rfl (by kernel_rfl) (by kernel_rfl) (by kernel_rfl) (fun _ _ _ h => h) (by kernel_rfl) (fun _ => by kernel_rfl) ?_
      refine anyS_skip (i := 12) (by kernel_rfl) rfl (by kernel_rfl) (by kernel_rfl) (by kernel_rfl) (fun _ _ _ h => h) (by kernel_rfl) (fun _ => by kernel_rfl) ?_
      refine anyS_skip (i := 13) (by kernel_rfl) rfl (by kernel_rfl) (by kernel_rfl) (by kernel_rfl) (fun _ _ _ h => h) (by kernel_rfl) (fun _ => by kernel_rfl) ?_
      refine anyS_skip (i := 14) (by kernel_rfl) rfl (by kernel_rfl) (by kernel_rfl) (by kernel_rfl) (fun _ _ _ h => h) (by kernel_rfl) (fun _ => by kernel_rfl) ?_
      refine anyS_skip (i := 15) (by kernel_rfl) rfl (by kernel_rfl) (by kernel_rfl) (by kernel_rfl) (fun _ _ _ h => h) (by kernel_rfl) (fun _ => by kernel_rfl) ?_
      refine anyS_skip (i := 16) (by kernel_rfl) rfl (by kernel_rfl) (by kernel_rfl) (by kernel_rfl) (fun _ _ _ h => h) (by kernel_rfl) (fun _ => by kernel_rfl) ?_
      refine anyS_skip (i := 17) (by kernel_rfl) rfl (by kernel_rfl) (by kernel_rfl) (by kernel_rfl) (fun _ _ _ h => h) (by kernel_rfl) (fun _ => by kernel_rfl) ?_
      refine anyS_skip (i := 18) (by kernel_rfl) rfl (by kernel_rfl) (by kernel_rfl) (by kernel_rfl) (fun _ _ _ h => h) (by kernel_rfl) (fun _ => by kernel_rfl) ?_
      refine anyS_skip (i := 19) (by kernel_rfl) rfl (by kernel_rfl) (by kernel_rfl) (by kernel_rfl) (fun _ _ _ h => h) (by kernel_rfl) (fun _ => by kernel_rfl) ?_
      refine anyS_skip (i := 20) (by kernel_rfl) rfl (by kernel_rfl) (by kernel_rfl) (by kernel_rfl) (fun _ _ _ h => h) (by kernel_rfl) (fun _ => by kernel_rfl) ?_
      refine anyS_skip (i := 21) (by kernel_rfl) rfl (by kernel_rfl) (by kernel_rfl) (by kernel_rfl) (fun _ _ _ h => h) (by kernel_rfl) (fun _ => by kernel_rfl) ?_
      refine anyS_one (i := 22) (by kernel_rfl) rfl (keepC5 HB9.out HI.out) (fun K hK => ?_)
      go_simp
      refine ⟨trivial, hK _ _ ?_⟩
      clear hK K
      refine anyS_skip (i := 23) (by kernel_rfl) rfl (by kernel_rfl) (by kernel_rfl) (by kernel_rfl) (fun _ _ _ h => h) (by kernel_rfl) (fun _ => by kernel_rfl) ?_
      refine anyS_take (i := 24) (v := ?_) (by kernel_rfl) rfl (by kernel_rfl) (by kernel_rfl) (by kernel_rfl) (fun _ _ _ h => h) (by kernel_rfl) (fun _ => by kernel_rfl) ?_ ?_
      rotate_left
      · intro w' hS
        go_simp
        try with_reducible rfl
      refine anyS_done (by kernel_rfl) (keepC5 HB9.out HI.out) ?_ _
      refine NoPanic.normal ?_
      go_wp2
      go_ret
      exact ⟨rfl, g, HBD.out.later HB9.out, HTU.out.trans (TurnedB.of_below HB9.out), rfl⟩
    | true =>
      rw [ht] at HC HWK
      rw [Bool.true_and] at HWK ⊢
      rw [show Crd.cardE true = 0 from rfl] at HC
      clear ht
      by_cases hz : z = 0
      · subst hz
        have HWK2 := Lib.hid (fun (w' : World) (hb : Below W.heap.size W w') => HWK.out w' hb rfl)
        rw [show ((0 : Int) == 0) = true from rfl, if_pos rfl]
        clear HWK
        go_enter Tryz.func12, Tryz.ntmps12
        go_upto_region 1 with fail
        rw [HW.out]
        simp only [HQ6.out]
        refine wp_region_noPanic ?_
        refine (wpIn_wide (n := 9)).1 ?_
        refine wpIn_region_any (by kernel_rfl) ?_
        change wpAnyIn _ _ _ _ _ _ _ _ _ (World.drew _)
        refine anyS.any (S := fun w' => w'.cell? ⟨g.q, 0, none⟩ = some (.pointer (some ⟨g.b, 0, none⟩)) ∧ w'.cell? ⟨g.q, 1, none⟩ = some (.pointer (some ⟨g.tb, 0, none⟩)) ∧ w'.cell? ⟨q6, 0, none⟩ = some (.int .i64 op) ∧ w'.cell? ⟨q6, 1, none⟩ = some (.int .i64 n) ∧ w'.cell? ⟨q6, 2, none⟩ = some (.int .i64 on)) ?_
        refine anyS_take (i := 0) (v := ?_) (by kernel_rfl) rfl (by kernel_rfl) (by kernel_rfl) (by kernel_rfl) (fun _ _ _ h => h) (by kernel_rfl) (fun _ => by kernel_rfl) ?_ ?_
        rotate_left
        · intro w' hS
          go_simp
          try with_reducible rfl
        refine anyS_take (i := 1) (v := ?_) (by kernel_rfl) rfl (by kernel_rfl) (by kernel_rfl) (by kernel_rfl) (fun _ _ _ h => h) (by kernel_rfl) (fun _ => by kernel_rfl) ?_ ?_
        rotate_left
        · intro w' hS
          go_simp
          try with_reducible rfl
        refine anyS_one (i := 2) (by kernel_rfl) rfl (keepC5 (Below.refl W.heap.size W).drew HI.out) (fun K hK => ?_)
        go_simp
        gi_wp2_with ((refine ⟨trivial, ?_⟩; gi_at_call 44; refine CallsIn.mono (F := Fence.wide) (callsIn_wide.2 (HH.out _ ((Below.refl W.heap.size W).drew))) ?_; rintro e w9 ⟨rfl, rfl⟩; dsimp only))
        refine anyS_take (i := 3) (v := ?_) (by kernel_rfl) rfl (by kernel_rfl) (by kernel_rfl) (by kernel_rfl) (fun _ _ _ h => h) (by kernel_rfl) (fun _ => by kernel_rfl) ?_ ?_
        rotate_left
        · intro w' hS
          go_simp
          try with_reducible rfl
        refine anyS_take (i := 4) (v := ?_) (by kernel_rfl) rfl (by kernel_rfl) (by kernel_rfl) (by kernel_rfl) (fun _ _ _ h => h) (by kernel_rfl) (fun _ => by kernel_rfl) ?_ ?_
        rotate_left
        · intro w' hS
          go_simp
          try with_reducible rfl
        refine anyS_take (i := 5) (v := ?_) (by kernel_rfl) rfl (by kernel_rfl) (by kernel_rfl) (by kernel_rfl) (fun _ _ _ h => h) (by kernel_rfl) (fun _ => by kernel_rfl) ?_ ?_
        rotate_left
        · intro w' hS
          obtain ⟨s0, s1, s2, s3, s4⟩ := hS
          go_simp
          try with_reducible rfl
        refine anyS_one (i := 6) (by kernel_rfl) rfl (keepC5 (Below.refl W.heap.size W).drew HI.out) (fun K hK => ?_)
        go_simp
        gi_wp2_with ((refine ⟨trivial, ?_⟩; gi_at_call 45; refine CallsIn.mono (F := Fence.wide) (callsIn_wide.2 (HC.out _)) ?_; rintro e w9 ⟨rfl, hb9⟩; have HB9 := Lib.hid (stepB (Below.refl W.heap.size W).drew hb9); clear hb9; dsimp only))
        refine anyS_take (i := 7) (v := ?_) (by kernel_rfl) rfl (by kernel_rfl) (by kernel_rfl) (by kernel_rfl) (fun _ _ _ h => h) (by kernel_rfl) (fun _ => by kernel_rfl) ?_ ?_
        rotate_left
        · intro w' hS
          go_simp
          try with_reducible rfl
        refine anyS_take (i := 8) (v := ?_) (by kernel_rfl) rfl (by kernel_rfl) (by kernel_rfl) (by kernel_rfl) (fun _ _ _ h => h) (by kernel_rfl) (fun _ => by kernel_rfl) ?_ ?_
        rotate_left
        · intro w' hS
          go_simp
          try with_reducible rfl
        refine anyS_take (i := 9) (v := ?_) (by kernel_rfl) rfl (by kernel_rfl) (by kernel_rfl) (by kernel_rfl) (fun _ _ _ h => h) (by kernel_rfl) (fun _ => by kernel_rfl) ?_ ?_
        rotate_left
        · intro w' hS
          go_simp
          try with_reducible rfl
        refine anyS_take (i := 10) (v := ?_) (by kernel_rfl) rfl (by kernel_rfl) (by kernel_rfl) (by kernel_rfl) (fun _ _ _ h => h) (by kernel_rfl) (fun _ => by kernel_rfl) ?_ ?_
        rotate_left
        · intro w' hS
          go_simp
          try with_reducible rfl
        refine anyS_take (i := 11) (v := ?_) (by kernel_rfl) rfl (by kernel_rfl) (by kernel_rfl) (by kernel_rfl) (fun _ _ _ h => h) (by kernel_rfl) (fun _ => by kernel_rfl) ?_ ?_
        rotate_left
        · intro w' hS
          go_simp
          try with_reducible rfl
        refine anyS_take (i := 12) (v := ?_) (by kernel_rfl) rfl (by kernel_rfl) (by kernel_rfl) (by kernel_rfl) (fun _ _ _ h => h) (by kernel_rfl) (fun _ => by kernel_rfl) ?_ ?_
        rotate_left
        · intro w' hS
          go_simp
          try with_reducible rfl
        refine anyS_take (i := 13) (v := ?_) (by kernel_rfl) rfl (by kernel_rfl) (by kernel_rfl) (by kernel_rfl) (fun _ _ _ h => h) (by kernel_rfl) (fun _ => by kernel_rfl) ?_ ?_
        rotate_left
        · intro w' hS
          obtain ⟨s0, s1, s2, s3, s4⟩ := hS
          go_simp
          try with_reducible rfl
        refine anyS_take (i := 14) (v := ?_) (by kernel_rfl) rfl (by kernel_rfl) (by kernel_rfl) (by kernel_rfl) (fun _ _ _ h => h) (by kernel_rfl) (fun _ => by kernel_rfl) ?_ ?_
        rotate_left
        · intro w' hS
          go_simp
          try with_reducible rfl
        refine anyS_take (i := 15) (v := ?_) (by kernel_rfl) rfl (by kernel_rfl) (by kernel_rfl) (by kernel_rfl) (fun _ _ _ h => h) (by kernel_rfl) (fun _ => by kernel_rfl) ?_ ?_
        rotate_left
        · intro w' hS
          go_simp
          try with_reducible rfl
        refine anyS_take (i := 16) (v := ?_) (by kernel_rfl) rfl (by kernel_rfl) (by kernel_rfl) (by kernel_rfl) (fun _ _ _ h => h) (by kernel_rfl) (fun _ => by kernel_rfl) ?_ ?_
        rotate_left
        · intro w' hS
          go_simp
          try with_reducible rfl
        refine anyS_take (i := 17) (v := ?_) (by kernel_rfl) rfl (by kernel_rfl) (by kernel_rfl) (by kernel_rfl) (fun _ _ _ h => h) (by kernel_rfl) (fun _ => by kernel_rfl) ?_ ?_
        rotate_left
        · intro w' hS
          obtain ⟨s0, s1, s2, s3, s4⟩ := hS
          go_simp
          try with_reducible rfl
        refine anyS_take (i := 18) (v := ?_) (by kernel_rfl) rfl (by kernel_rfl) (by kernel_rfl) (by kernel_rfl) (fun _ _ _ h => h) (by kernel_rfl) (fun _ => by kernel_rfl) ?_ ?_
        rotate_left
        · intro w' hS
          go_simp
          try with_reducible rfl
        refine anyS_take (i := 19) (v := ?_) (by kernel_rfl) rfl (by kernel_rfl) (by kernel_rfl) (by kernel_rfl) (fun _ _ _ h => h) (by kernel_rfl) (fun _ => by kernel_rfl) ?_ ?_
        rotate_left
        · intro w' hS
          go_simp
          try with_reducible rfl
        refine anyS_take (i := 20) (v := ?_) (by kernel_rfl) rfl (by kernel_rfl) (by kernel_rfl) (by kernel_rfl) (fun _ _ _ h => h) (by kernel_rfl) (fun _ => by kernel_rfl) ?_ ?_
        rotate_left
        · intro w' hS
          obtain ⟨s0, s1, s2, s3, s4⟩ := hS
          go_simp
          try with_reducible rfl
        refine anyS_take (i := 21) (v := ?_) (by kernel_rfl) rfl (by kernel_rfl) (by kernel_rfl) (by kernel_rfl) (fun _ _ _ h => h) (by kernel_rfl) (fun _ => by kernel_rfl) ?_ ?_
        rotate_left
        · intro w' hS
          go_simp
          try with_reducible rfl
        refine anyS_one (i := 22) (by kernel_rfl) rfl (keepC5 HB9.out HI.out) (fun K hK => ?_)
        go_simp
        gi_wp2_with ((refine ⟨trivial, ?_⟩; gi_at_call 46; refine CallsIn.mono (F := Fence.wide) (callsIn_wide.2 (HA.out _ HB9.out)) ?_; rintro e w10 ⟨rfl, hb10⟩; have HB10 := Lib.hid (stepB HB9.out hb10); clear hb10; dsimp only))
        refine anyS_take (i := 23) (v := ?_) (by kernel_rfl) rfl (by kernel_rfl) (by kernel_rfl) (by kernel_rfl) (fun _ _ _ h => h) (by kernel_rfl) (fun _ => by kernel_rfl) ?_ ?_
        rotate_left
        · intro w' hS
          go_simp
          try with_reducible rfl
        refine anyS_take (i := 24) (v := ?_) (by kernel_rfl) rfl (by kernel_rfl) (by kernel_rfl) (by kernel_rfl) (fun _ _ _ h => h) (by kernel_rfl) (fun _ => by kernel_rfl) ?_ ?_
        rotate_left
        · intro w' hS
          go_simp
          try with_reducible rfl
        refine anyS_done (by kernel_rfl) (keepC5 HB10.out HI.out) ?_ _
        refine NoPanic.normal ?_
        have hI := keepC5 HB10.out HI.out
        obtain ⟨s0, s1, s2, s3, s4⟩ := hI
        go_wp2_with fail
        refine (HWK2.out _ HB10.out).mono ?_
        rintro e w11 hr
        obtain ⟨rfl, g', hr1, hr2, hr3⟩ := RetBd.of hr (HTU.out.trans (TurnedB.of_below HB10.out)) rfl
        have HR := Lib.hid (And.intro hr1 (And.intro hr2 hr3))
        clear hr hr1 hr2 hr3 s0 s1 s2 s3 s4
        go_wp2
        go_ret
        exact ⟨rfl, g', HR.out⟩
      · have ez : (z != 0) = true := bne_iff_ne.2 hz
        rw [show (z == 0) = false from beq_eq_false_iff_ne.2 hz, if_neg Bool.false_ne_true]
        clear hz HWK
        go_enter Tryz.func12, Tryz.ntmps12
        go_upto_region 1 with fail
        rw [HW.out]
        simp only [HQ6.out]
        refine wp_region_noPanic ?_
        refine (wpIn_wide (n := 9)).1 ?_
        refine wpIn_region_any (by kernel_rfl) ?_
        change wpAnyIn _ _ _ _ _ _ _ _ _ (World.drew _)
        refine anyS.any (S := fun w' => w'.cell? ⟨g.q, 0, none⟩ = some (.pointer (some ⟨g.b, 0, none⟩)) ∧ w'.cell? ⟨g.q, 1, none⟩ = some (.pointer (some ⟨g.tb, 0, none⟩)) ∧ w'.cell? ⟨q6, 0, none⟩ = some (.int .i64 op) ∧ w'.cell? ⟨q6, 1, none⟩ = some (.int .i64 n) ∧ w'.cell? ⟨q6, 2, none⟩ = some (.int .i64 on)) ?_
        refine anyS_take (i := 0) (v := ?_) (by kernel_rfl) rfl (by kernel_rfl) (by kernel_rfl) (by kernel_rfl) (fun _ _ _ h => h) (by kernel_rfl) (fun _ => by kernel_rfl) ?_ ?_
        rotate_left
        · intro w' hS
          go_simp
          try with_reducible rfl
        refine anyS_take (i := 1) (v := ?_) (by kernel_rfl) rfl (by kernel_rfl) (by kernel_rfl) (by kernel_rfl) (fun _ _ _ h => h) (by kernel_rfl) (fun _ => by kernel_rfl) ?_ ?_
        rotate_left
        · intro w' hS
          go_simp
          try with_reducible rfl
        refine anyS_one (i := 2) (by kernel_rfl) rfl (keepC5 (Below.refl W.heap.size W).drew HI.out) (fun K hK => ?_)
        go_simp
        gi_wp2_with ((refine ⟨trivial, ?_⟩; gi_at_call 44; refine CallsIn.mono (F := Fence.wide) (callsIn_wide.2 (HH.out _ ((Below.refl W.heap.size W).drew))) ?_; rintro e w9 ⟨rfl, rfl⟩; dsimp only))
        refine anyS_take (i := 3) (v := ?_) (by kernel_rfl) rfl (by kernel_rfl) (by kernel_rfl) (by kernel_rfl) (fun _ _ _ h => h) (by kernel_rfl) (fun _ => by kernel_rfl) ?_ ?_
        rotate_left
        · intro w' hS
          go_simp
          try with_reducible rfl
        refine anyS_take (i := 4) (v := ?_) (by kernel_rfl) rfl (by kernel_rfl) (by kernel_rfl) (by kernel_rfl) (fun _ _ _ h => h) (by kernel_rfl) (fun _ => by kernel_rfl) ?_ ?_
        rotate_left
        · intro w' hS
          go_simp
          try with_reducible rfl
        refine anyS_take (i := 5) (v := ?_) (by kernel_rfl) rfl (by kernel_rfl) (by kernel_rfl) (by kernel_rfl) (fun _ _ _ h => h) (by kernel_rfl) (fun _ => by kernel_rfl) ?_ ?_
        rotate_left
        · intro w' hS
          obtain ⟨s0, s1, s2, s3, s4⟩ := hS
          go_simp
          try with_reducible rfl
        refine anyS_one (i := 6) (by kernel_rfl) rfl (keepC5 (Below.refl W.heap.size W).drew HI.out) (fun K hK => ?_)
        go_simp
        gi_wp2_with ((refine ⟨trivial, ?_⟩; gi_at_call 45; refine CallsIn.mono (F := Fence.wide) (callsIn_wide.2 (HC.out _)) ?_; rintro e w9 ⟨rfl, hb9⟩; have HB9 := Lib.hid (stepB (Below.refl W.heap.size W).drew hb9); clear hb9; dsimp only))
        refine anyS_take (i := 7) (v := ?_) (by kernel_rfl) rfl (by kernel_rfl) (by kernel_rfl) (by kernel_rfl) (fun _ _ _ h => h) (by kernel_rfl) (fun _ => by kernel_rfl) ?_ ?_
        rotate_left
        · intro w' hS
          go_simp
          try with_reducible rfl
        refine anyS_take (i := 8) (v := ?_) (by kernel_rfl) rfl (by kernel_rfl) (by kernel_rfl) (by kernel_rfl) (fun _ _ _ h => h) (by kernel_rfl) (fun _ => by kernel_rfl) ?_ ?_
        rotate_left
        · intro w' hS
          go_simp
          try with_reducible rfl
        refine anyS_take (i := 9) (v := ?_) (by kernel_rfl) rfl (by kernel_rfl) (by kernel_rfl) (by kernel_rfl) (fun _ _ _ h => h) (by kernel_rfl) (fun _ => by kernel_rfl) ?_ ?_
        rotate_left
        · intro w' hS
          go_simp
          try with_reducible rfl
        refine anyS_take (i := 10) (v := ?_) (by kernel_rfl) rfl (by kernel_rfl) (by kernel_rfl) (by kernel_rfl) (fun _ _ _ h => h) (by kernel_rfl) (fun _ => by kernel_rfl) ?_ ?_
        rotate_left
        · intro w' hS
          go_simp
          try with_reducible rfl
        refine anyS_take (i := 11) (v := ?_) (by kernel_rfl) rfl (by kernel_rfl) (by kernel_rfl) (by kernel_rfl) (fun _ _ _ h => h) (by kernel_rfl) (fun _ => by kernel_rfl) ?_ ?_
        rotate_left
        · intro w' hS
          go_simp
          try with_reducible rfl
        refine anyS_take (i := 12) (v := ?_) (by kernel_rfl) rfl (by kernel_rfl) (by kernel_rfl) (by kernel_rfl) (fun _ _ _ h => h) (by kernel_rfl) (fun _ => by kernel_rfl) ?_ ?_
        rotate_left
        · intro w' hS
          go_simp
          try with_reducible rfl
        refine anyS_take (i := 13) (v := ?_) (by kernel_rfl) rfl (by kernel_rfl) (by kernel_rfl) (by kernel_rfl) (fun _ _ _ h => h) (by kernel_rfl) (fun _ => by kernel_rfl) ?_ ?_
        rotate_left
        · intro w' hS
          obtain ⟨s0, s1, s2, s3, s4⟩ := hS
          go_simp
          try with_reducible rfl
        refine anyS_take (i := 14) (v := ?_) (by kernel_rfl) rfl (by kernel_rfl) (by kernel_rfl) (by kernel_rfl) (fun _ _ _ h => h) (by kernel_rfl) (fun _ => by kernel_rfl) ?_ ?_
        rotate_left
        · intro w' hS
          go_simp
          try with_reducible rfl
        refine anyS_take (i := 15) (v := ?_) (by kernel_rfl) rfl (by kernel_rfl) (by kernel_rfl) (by kernel_rfl) (fun _ _ _ h => h) (by kernel_rfl) (fun _ => by kernel_rfl) ?_ ?_
        rotate_left
        · intro w' hS
          go_simp
          try with_reducible rfl
        refine anyS_take (i := 16) (v := ?_) (by kernel_rfl) rfl (by kernel_rfl) (by kernel_rfl) (by kernel_rfl) (fun _ _ _ h => h) (by kernel_rfl) (fun _ => by kernel_rfl) ?_ ?_
        rotate_left
        · intro w' hS
          go_simp
          try with_reducible rfl
        refine anyS_take (i := 17) (v := ?_) (by kernel_rfl) rfl (by kernel_rfl) (by kernel_rfl) (by kernel_rfl) (fun _ _ _ h => h) (by kernel_rfl) (fun _ => by kernel_rfl) ?_ ?_
        rotate_left
        · intro w' hS
          obtain ⟨s0, s1, s2, s3, s4⟩ := hS
          go_simp
          try with_reducible rfl
        refine anyS_take (i := 18) (v := ?_) (by kernel_rfl) rfl (by kernel_rfl) (by kernel_rfl) (by kernel_rfl) (fun _ _ _ h => h) (by kernel_rfl) (fun _ => by kernel_rfl) ?_ ?_
        rotate_left
        · intro w' hS
          go_simp
          try with_reducible rfl
        refine anyS_take (i := 19) (v := ?_) (by kernel_rfl) rfl (by kernel_rfl) (by kernel_rfl) (by kernel_rfl) (fun _ _ _ h => h) (by kernel_rfl) (fun _ => by kernel_rfl) ?_ ?_
        rotate_left
        · intro w' hS
          go_simp
          try with_reducible rfl
        refine anyS_take (i := 20) (v := ?_) (by kernel_rfl) rfl (by kernel_rfl) (by kernel_rfl) (by kernel_rfl) (fun _ _ _ h => h) (by kernel_rfl) (fun _ => by kernel_rfl) ?_ ?_
        rotate_left
        · intro w' hS
          obtain ⟨s0, s1, s2, s3, s4⟩ := hS
          go_simp
          try with_reducible rfl
        refine anyS_take (i := 21) (v := ?_) (by kernel_rfl) rfl (by kernel_rfl) (by kernel_rfl) (by kernel_rfl) (fun _ _ _ h => h) (by kernel_rfl) (fun _ => by kernel_rfl) ?_ ?_
        rotate_left
        · intro w' hS
          go_simp
          try with_reducible rfl
        refine anyS_one (i := 22) (by kernel_rfl) rfl (keepC5 HB9.out HI.out) (fun K hK => ?_)
        go_simp
        gi_wp2_with ((refine ⟨trivial, ?_⟩; gi_at_call 46; refine CallsIn.mono (F := Fence.wide) (callsIn_wide.2 (HA.out _ HB9.out)) ?_; rintro e w10 ⟨rfl, hb10⟩; have HB10 := Lib.hid (stepB HB9.out hb10); clear hb10; dsimp only))
        refine anyS_take (i := 23) (v := ?_) (by kernel_rfl) rfl (by kernel_rfl) (by kernel_rfl) (by kernel_rfl) (fun _ _ _ h => h) (by kernel_rfl) (fun _ => by kernel_rfl) ?_ ?_
        rotate_left
        · intro w' hS
          go_simp
          try with_reducible rfl
        refine anyS_take (i := 24) (v := ?_) (by kernel_rfl) rfl (by kernel_rfl) (by kernel_rfl) (by kernel_rfl) (fun _ _ _ h => h) (by kernel_rfl) (fun _ => by kernel_rfl) ?_ ?_
        rotate_left
        · intro w' hS
          go_simp
          try with_reducible rfl
        refine anyS_done (by kernel_rfl) (keepC5 HB10.out HI.out) ?_ _
        refine NoPanic.normal ?_
        go_wp2
        go_ret
        exact ⟨rfl, g, HBD.out.later HB10.out, HTU.out.trans (TurnedB.of_below HB10.out), rfl⟩
end Go.Proofs.YtgjojjhppgjkkaaGreat

/- What no board does (layer 11): Do, All, Draw. Boards of which the stores are unlike are not the same. -/
import Derived.Test.YtlfffeinngkjgaaGreatBi
import Derived.Test.YtlfffeinngkjgaaGreatBc
namespace Go.Proofs.YtlfffeinngkjgaaGreat
open Go.RowKit Go.Maps
attribute [local go_sem] Oper.semAt_some

set_option maxRecDepth 100000 in
set_option maxHeartbeats 2000000 in
theorem draw_nil (k n : Int) (w : World) : Calls Tryz.prog 22 #[.pointer none, .int .i64 k, .int .i64 n] w (Same w (.int .i64 0)) := by
  have HH := Lib.hid (has11_nil k w)
  go_enter Tryz.func22, Tryz.ntmps22
  go_wp2_with fail
  refine HH.out.mono ?_
  rintro e w1 ⟨rfl, rfl⟩
  go_wp2
  go_ret
  exact ⟨rfl, rfl⟩
set_option maxRecDepth 100000 in
set_option maxHeartbeats 4000000 in
theorem do_nil (seat op n on i : Int) (w : World) : Calls Tryz.prog 11 #[.pointer none, .int .i64 seat, .agg #[.int .i64 op, .int .i64 n, .int .i64 on], .int .i64 i] w (RetV w (.bool false)) := by
  have hb0 := below_new w (.cells #[.int .i64 op, .int .i64 n, .int .i64 on] 24)
  obtain ⟨W, hW⟩ : ∃ W, w.alloc (.cells #[.int .i64 op, .int .i64 n, .int .i64 on] 24) = W := ⟨_, rfl⟩
  rw [hW] at hb0
  have HB0 := Lib.hid hb0
  have HW := Lib.hid hW
  have HH := Lib.hid (fun (w' : World) => has11_nil seat w')
  clear hW hb0
  go_enter Tryz.func11, Tryz.ntmps11
  go_upto_region 1 with fail
  rw [HW.out]
  refine wp_region_noPanic ?_
  refine (wpIn_wide (n := 9)).1 ?_
  refine wpIn_region_any (by kernel_rfl) ?_
  change wpAnyIn _ _ _ _ _ _ _ _ _ (World.drew _)
  refine anyS.any (S := fun _ => True) ?_
  refine anyS_take (i := 0) (v := ?_) (by kernel_rfl) rfl (by kernel_rfl) (by kernel_rfl) (by kernel_rfl) (fun _ _ _ h => h) (by kernel_rfl) (fun _ => by kernel_rfl) ?_ ?_
  rotate_left
  · intro w' hS
    go_simp
    try with_reducible rfl
  refine anyS_take (i := 1) (v := ?_) (by kernel_rfl) rfl (by kernel_rfl) (by kernel_rfl) (by kernel_rfl) (fun _ _ _ h => h) (by kernel_rfl) (fun _ => by kernel_rfl) ?_ ?_
  rotate_left
  · intro w' hS
    go_simp
    try with_reducible rfl
  refine anyS_one (i := 2) (by kernel_rfl) rfl (trivial) (fun K hK => ?_)
  go_simp
  gi_wp2_with ((refine ⟨trivial, ?_⟩; gi_at_call 36; refine CallsIn.mono (F := Fence.wide) (callsIn_wide.2 (HH.out _)) ?_; rintro e w9 ⟨rfl, rfl⟩; dsimp only))
  refine anyS_take (i := 3) (v := ?_) (by kernel_rfl) rfl (by kernel_rfl) (by kernel_rfl) (by kernel_rfl) (fun _ _ _ h => h) (by kernel_rfl) (fun _ => by kernel_rfl) ?_ ?_
  rotate_left
  · intro w' hS
    go_simp
    try with_reducible rfl
  refine anyS_take (i := 4) (v := ?_) (by kernel_rfl) rfl (by kernel_rfl) (by kernel_rfl) (by kernel_rfl) (fun _ _ _ h => h) (by kernel_rfl) (fun _ => by kernel_rfl) ?_ ?_
  rotate_left
  · intro w' hS
    go_simp
    try with_reducible rfl
  refine anyS_skip (i := 5) (by kernel_rfl) rfl (by kernel_rfl) (by kernel_rfl) (by kernel_rfl) (fun _ _ _ h => h) (by kernel_rfl) (fun _ => by kernel_rfl) ?_
  refine anyS_one (i := 6) (by kernel_rfl) rfl (trivial) (fun K hK => ?_)
  go_simp
  refine ⟨trivial, hK _ _ ?_⟩
  clear hK K
  refine anyS_skip (i := 7) (by kernel_rfl) rfl (by kernel_rfl) (by kernel_rfl) (by kernel_rfl) (fun _ _ _ h => h) (by kernel_rfl) (fun _ => by kernel_rfl) ?_
  refine anyS_take (i := 8) (v := ?_) (by kernel_rfl) rfl (by kernel_rfl) (by kernel_rfl) (by kernel_rfl) (fun _ _ _ h => h) (by kernel_rfl) (fun _ => by kernel_rfl) ?_ ?_
  rotate_left
  · intro w' hS
    go_simp
    try with_reducible rfl
  refine anyS_take (i := 9) (v := ?_) (by kernel_rfl) rfl (by kernel_rfl) (by kernel_rfl) (by kernel_rfl) (fun _ _ _ h => h) (by kernel_rfl) (fun _ => by kernel_rfl) ?_ ?_
  rotate_left
  · intro w' hS
    go_simp
    try with_reducible rfl
  refine anyS_skip (i := 10) (by kernel_rfl) rfl (by kernel_rfl) (by kernel_rfl) (by kernel_rfl) (fun _ _ _ h => h) (by kernel_rfl) (fun _ => by kernel_rfl) ?_
  refine anyS_skip (i := 11) (by kernel_rfl) rfl (by kernel_rfl) (by kernel_rfl) (by kernel_rfl) (fun _ _ _ h => h) (by kernel_rfl) (fun _ => by kernel_rfl) ?_
  refine anyS_skip (i := 12) (by kernel_rfl) rfl (by kernel_rfl) (by kernel_rfl) (by kernel_rfl) (fun _ _ _ h => h) (by kernel_rfl) (fun _ => by kernel_rfl) ?_
  refine anyS_skip (i := 13) (by kernel_rfl) rfl (by kernel_rfl) (by kernel_rfl) (by kernel_rfl) (fun _ _ _ h => h) (by kernel_rfl) (fun _ => by kernel_rfl) ?_
  refine anyS_skip (i := 14) (by kernel_rfl) rfl (by kernel_rfl) (by kernel_rfl) (by kernel_rfl) (fun _ _ _ h => h) (by kernel_rfl) (fun _ => by kernel_rfl) ?_
  refine anyS_skip (i := 15) (by kernel_rfl) rfl (by kernel_rfl) (by kernel_rfl) (by kernel_rfl) (fun _ _ _ h => h) (by kernel_rfl) (fun _ => by kernel_rfl) ?_
  refine anyS_skip (i := 16) (by kernel_rfl) rfl (by kernel_rfl) (by kernel_rfl) (by kernel_rfl) (fun _ _ _ h => h) (by kernel_rfl) (fun _ => by kernel_rfl) ?_
  refine anyS_skip (i := 17) (by kernel_rfl) rfl (by kernel_rfl) (by kernel_rfl) (by kernel_rfl) (fun _ _ _ h => h) (by kernel_rfl) (fun _ => by kernel_rfl) ?_
  refine anyS_skip (i := 18) (by kernel_rfl) rfl (by kernel_rfl) (by kernel_rfl) (by kernel_rfl) (fun _ _ _ h => h) (by kernel_rfl) (fun _ => by kernel_rfl) ?_
  refine anyS_skip (i := 19) (by kernel_rfl) rfl (by kernel_rfl) (by kernel_rfl) (by kernel_rfl) (fun _ _ _ h => h) (by kernel_rfl) (fun _ => by kernel_rfl) ?_
  refine anyS_skip (i := 20) (by kernel_rfl) rfl (by kernel_rfl) (by kernel_rfl) (by kernel_rfl) (fun _ _ _ h => h) (by kernel_rfl) (fun _ => by kernel_rfl) ?_
  refine anyS_skip (i := 21) (by kernel_rfl) rfl (by kernel_rfl) (by kernel_rfl) (by kernel_rfl) (fun _ _ _ h => h) (by kernel_rfl) (fun _ => by kernel_rfl) ?_
  refine anyS_one (i := 22) (by kernel_rfl) rfl (trivial) (fun K hK => ?_)
  go_simp
  refine ⟨trivial, hK _ _ ?_⟩
  clear hK K
  refine anyS_skip (i := 23) (by kernel_rfl) rfl (by kernel_rfl) (by kernel_rfl) (by kernel_rfl) (fun _ _ _ h => h) (by kernel_rfl) (fun _ => by kernel_rfl) ?_
  refine anyS_take (i := 24) (v := ?_) (by kernel_rfl) rfl (by kernel_rfl) (by kernel_rfl) (by kernel_rfl) (fun _ _ _ h => h) (by kernel_rfl) (fun _ => by kernel_rfl) ?_ ?_
  rotate_left
  · intro w' hS
    go_simp
    try with_reducible rfl
  refine anyS_done (by kernel_rfl) (trivial) ?_ _
  refine NoPanic.normal ?_
  go_wp2
  go_ret
  exact ⟨rfl, stepB HB0.out (Below.refl W.heap.size W).drew⟩
set_option maxRecDepth 100000 in
set_option maxHeartbeats 4000000 in
theorem all_nil (seat i : Int) {u : Value} {l : List Crd.TermL} {w : World} (hu : Crd.TermsIs w u l) (hul : ∃ xa xc, u = .slice xa l.length xc) (hl : l.length ≤ 1000) :
    Calls Tryz.prog 19 #[.pointer none, .int .i64 seat, .int .i64 i, u] w (RetV w (.int .i64 0)) := by
  obtain ⟨xa, xc, rfl⟩ := hul
  have HU := Lib.hid hu
  clear hu
  go_enter Tryz.func19, Tryz.ntmps19
  go_wp2
  go_loopw [9, 14] (fun d j wr => ∃ k : Nat, k ≤ l.length ∧ d = .int .i64 0 ∧ j = .int .i64 (k : Int) ∧ Hid (Below w.heap.size w wr)) (fun _ j _ => l.length - (intOf j).toNat)
  case atStart => exact ⟨0, Nat.zero_le _, rfl, rfl, Lib.hid (Below.refl _ _)⟩
  case round =>
    obtain ⟨k, hk, rfl, rfl, HB'⟩ := hrel
    by_cases hlt : k < l.length
    · have d0 : decide ((k : Int) < l.length) = true := decide_eq_true (by omega)
      obtain ⟨bb, off, rfl, t0, t1, t2⟩ := Crd.terms_at (HU.out.later HB'.out) k hlt
      obtain ⟨x, hx⟩ : ∃ x, l[k] = x := ⟨_, rfl⟩
      rw [hx] at t0 t1 t2
      obtain ⟨op, n, on⟩ := x
      dsimp only at t0 t1 t2
      have hb0 := below_new wr (.cells #[.int .i64 op, .int .i64 n, .int .i64 on] 24)
      have hkk := fun j => cell_of_row (wr.alloc (.cells #[.int .i64 op, .int .i64 n, .int .i64 on] 24)) wr.heap.size j _ _ _ (heap_alloc_new wr (.cells #[.int .i64 op, .int .i64 n, .int .i64 on] 24))
      have k0 := hkk 0
      have k1 := hkk 1
      have k2 := hkk 2
      obtain ⟨W2, hW2⟩ : ∃ W2, wr.alloc (.cells #[.int .i64 op, .int .i64 n, .int .i64 on] 24) = W2 := ⟨_, rfl⟩
      rw [hW2] at k0 k1 k2 hb0
      go_upto_region 5 with fail
      obtain ⟨q, hqq⟩ : ∃ q, wr.heap.size = q := ⟨_, rfl⟩
      simp only [hqq]
      rw [hqq] at k0 k1 k2
      have HI := Lib.hid (show W2.cell? ⟨q, 0, none⟩ = some (.int .i64 op) ∧ W2.cell? ⟨q, 1, none⟩ = some (.int .i64 n) ∧ W2.cell? ⟨q, 2, none⟩ = some (.int .i64 on) from ⟨k0, k1, k2⟩)
      have HB2 := Lib.hid (stepB HB'.out hb0)
      have HPL := Lib.hid (fun (w' : World) => placeOf_any11 ⟨op, n, on⟩ i w')
      obtain ⟨pl, hpl⟩ : ∃ pl, placeI ⟨op, n, on⟩ i = pl := ⟨_, rfl⟩
      rw [hpl] at HPL
      have HDO := Lib.hid (fun (w' : World) => do_nil seat op n on pl w')
      unfold Crd.tval at HPL
      dsimp only at HPL
      clear hb0 k0 k1 k2 hkk hqq hW2 t0 t1 t2 hx hpl
      refine wp_region_noPanic ?_
      refine (wpIn_wide (n := 9)).1 ?_
      refine wpIn_region_any (by kernel_rfl) ?_
      change wpAnyIn _ _ _ _ _ _ _ _ _ (World.drew _)
      refine anyS.any (S := fun w' => w'.cell? ⟨q, 0, none⟩ = some (.int .i64 op) ∧ w'.cell? ⟨q, 1, none⟩ = some (.int .i64 n) ∧ w'.cell? ⟨q, 2, none⟩ = some (.int .i64 on)) ?_
      refine anyS_take (i := 0) (v := ?_) (by kernel_rfl) rfl (by kernel_rfl) (by kernel_rfl) (by kernel_rfl) (fun _ _ _ h => h) (by kernel_rfl) (fun _ => by kernel_rfl) ?_ ?_
      rotate_left
      · intro w' hS
        go_simp
        try with_reducible rfl
      refine anyS_take (i := 1) (v := ?_) (by kernel_rfl) rfl (by kernel_rfl) (by kernel_rfl) (by kernel_rfl) (fun _ _ _ h => h) (by kernel_rfl) (fun _ => by kernel_rfl) ?_ ?_
      rotate_left
      · intro w' hS
        go_simp
        try with_reducible rfl
      refine anyS_take (i := 2) (v := ?_) (by kernel_rfl) rfl (by kernel_rfl) (by kernel_rfl) (by kernel_rfl) (fun _ _ _ h => h) (by kernel_rfl) (fun _ => by kernel_rfl) ?_ ?_
      rotate_left
      · intro w' hS
        obtain ⟨s0, s1, s2⟩ := hS
        go_simp
        try with_reducible rfl
      refine anyS_take (i := 3) (v := ?_) (by kernel_rfl) rfl (by kernel_rfl) (by kernel_rfl) (by kernel_rfl) (fun _ _ _ h => h) (by kernel_rfl) (fun _ => by kernel_rfl) ?_ ?_
      rotate_left
      · intro w' hS
        obtain ⟨s0, s1, s2⟩ := hS
        go_simp
        try with_reducible rfl
      refine anyS_take (i := 4) (v := ?_) (by kernel_rfl) rfl (by kernel_rfl) (by kernel_rfl) (by kernel_rfl) (fun _ _ _ h => h) (by kernel_rfl) (fun _ => by kernel_rfl) ?_ ?_
      rotate_left
      · intro w' hS
        go_simp
        try with_reducible rfl
      refine anyS_one (i := 5) (by kernel_rfl) rfl (keepC3 (Below.refl W2.heap.size W2).drew HI.out) (fun K hK => ?_)
      go_simp
      gi_wp2_with ((refine ⟨trivial, ?_⟩; gi_at_call 46; refine CallsIn.mono (F := Fence.wide) (callsIn_wide.2 (HPL.out _)) ?_; rintro e w9 ⟨rfl, hb9⟩; have HB9 := Lib.hid (stepB (Below.refl W2.heap.size W2).drew hb9); clear hb9; dsimp only))
      refine anyS_one (i := 6) (by kernel_rfl) rfl (keepC3 HB9.out HI.out) (fun K hK => ?_)
      go_simp
      gi_wp2_with ((refine ⟨trivial, ?_⟩; gi_at_call 11; refine CallsIn.mono (F := Fence.wide) (callsIn_wide.2 (HDO.out _)) ?_; rintro e w10 ⟨rfl, hb10⟩; have HB10 := Lib.hid (stepB HB9.out hb10); clear hb10; dsimp only))
      refine anyS_done (by kernel_rfl) (keepC3 HB10.out HI.out) ?_ _
      refine NoPanic.normal ?_
      go_wp2
      go_roundw
      case rel => exact ⟨k + 1, by omega, rfl, by go_num, Lib.hid (stepB HB2.out HB10.out)⟩
      case measure => simp [intOf]; omega
    · obtain rfl : k = l.length := by omega
      go_wp2
      go_ret
      exact ⟨rfl, HB'.out⟩
set_option maxRecDepth 100000 in
set_option maxHeartbeats 4000000 in
theorem bsame_objs {w : World} {lo lo' : Nat} {g g' : GhostB} {B B' : BoardL} (h : BoardAt w lo g B) (h' : BoardAt w lo' g' B') (hn : B.S.seats = B'.S.seats) (hne : B.S.objs ≠ B'.S.objs) :
    Calls Tryz.prog 17 #[.pointer (some ⟨g.q, 0, none⟩), .pointer (some ⟨g'.q, 0, none⟩)] w (RetV w (.bool false)) := by
  obtain ⟨c0, -⟩ := h.cells
  obtain ⟨d0, -⟩ := h'.cells
  have HS := Lib.hid (fun (w' : World) (hb : Below w.heap.size w w') => same_false (h.st.later hb) (h'.st.later hb) hn (by have := h.len; omega) hne)
  have HI := Lib.hid (And.intro c0 d0)
  clear h h' c0 d0
  obtain ⟨q, b, tb, s, r, G⟩ := g
  obtain ⟨q', b', tb', s', r', G'⟩ := g'
  dsimp only at HI HS ⊢
  go_enter Tryz.func17, Tryz.ntmps17
  go_upto_region 3 with fail
  refine wp_region_noPanic ?_
  refine (wpIn_wide (n := 9)).1 ?_
  refine wpIn_region_any (by kernel_rfl) ?_
  change wpAnyIn _ _ _ _ _ _ _ _ _ (World.drew _)
  refine anyS.any (S := fun w' => w'.cell? ⟨q, 0, none⟩ = some (.pointer (some ⟨b, 0, none⟩)) ∧ w'.cell? ⟨q', 0, none⟩ = some (.pointer (some ⟨b', 0, none⟩))) ?_
  refine anyS_take (i := 0) (v := ?_) (by kernel_rfl) rfl (by kernel_rfl) (by kernel_rfl) (by kernel_rfl) (fun _ _ _ h => h) (by kernel_rfl) (fun _ => by kernel_rfl) ?_ ?_
  rotate_left
  · intro w' hS
    go_simp
    try with_reducible rfl
  refine anyS_take (i := 1) (v := ?_) (by kernel_rfl) rfl (by kernel_rfl) (by kernel_rfl) (by kernel_rfl) (fun _ _ _ h => h) (by kernel_rfl) (fun _ => by kernel_rfl) ?_ ?_
  rotate_left
  · intro w' hS
    go_simp
    try with_reducible rfl
  refine anyS_take (i := 2) (v := ?_) (by kernel_rfl) rfl (by kernel_rfl) (by kernel_rfl) (by kernel_rfl) (fun _ _ _ h => h) (by kernel_rfl) (fun _ => by kernel_rfl) ?_ ?_
  rotate_left
  · intro w' hS
    go_simp
    try with_reducible rfl
  refine anyS_take (i := 3) (v := ?_) (by kernel_rfl) rfl (by kernel_rfl) (by kernel_rfl) (by kernel_rfl) (fun _ _ _ h => h) (by kernel_rfl) (fun _ => by kernel_rfl) ?_ ?_
  rotate_left
  · intro w' hS
    obtain ⟨s0, s1⟩ := hS
    go_simp
    try with_reducible rfl
  refine anyS_take (i := 4) (v := ?_) (by kernel_rfl) rfl (by kernel_rfl) (by kernel_rfl) (by kernel_rfl) (fun _ _ _ h => h) (by kernel_rfl) (fun _ => by kernel_rfl) ?_ ?_
  rotate_left
  · intro w' hS
    go_simp
    try with_reducible rfl
  refine anyS_take (i := 5) (v := ?_) (by kernel_rfl) rfl (by kernel_rfl) (by kernel_rfl) (by kernel_rfl) (fun _ _ _ h => h) (by kernel_rfl) (fun _ => by kernel_rfl) ?_ ?_
  rotate_left
  · intro w' hS
    go_simp
    try with_reducible rfl
  refine anyS_take (i := 6) (v := ?_) (by kernel_rfl) rfl (by kernel_rfl) (by kernel_rfl) (by kernel_rfl) (fun _ _ _ h => h) (by kernel_rfl) (fun _ => by kernel_rfl) ?_ ?_
  rotate_left
  · intro w' hS
    go_simp
    try with_reducible rfl
  refine anyS_take (i := 7) (v := ?_) (by kernel_rfl) rfl (by kernel_rfl) (by kernel_rfl) (by kernel_rfl) (fun _ _ _ h => h) (by kernel_rfl) (fun _ => by kernel_rfl) ?_ ?_
  rotate_left
  · intro w' hS
    obtain ⟨s0, s1⟩ := hS
    go_simp
    try with_reducible rfl
  refine anyS_one (i := 8) (by kernel_rfl) rfl (⟨cell_stays (Below.refl w.heap.size w).drew HI.out.1, cell_stays (Below.refl w.heap.size w).drew HI.out.2⟩) (fun K hK => ?_)
  go_simp
  gi_wp2_with ((refine ⟨trivial, ?_⟩; gi_at_call 41; refine CallsIn.mono (F := Fence.wide) (callsIn_wide.2 (HS.out _ ((Below.refl w.heap.size w).drew))) ?_; rintro e w9 ⟨rfl, hb9⟩; have HB9 := Lib.hid (stepB (Below.refl w.heap.size w).drew hb9); clear hb9; dsimp only))
  refine anyS_take (i := 9) (v := ?_) (by kernel_rfl) rfl (by kernel_rfl) (by kernel_rfl) (by kernel_rfl) (fun _ _ _ h => h) (by kernel_rfl) (fun _ => by kernel_rfl) ?_ ?_
  rotate_left
  · intro w' hS
    go_simp
    try with_reducible rfl
  refine anyS_skip (i := 10) (by kernel_rfl) rfl (by kernel_rfl) (by kernel_rfl) (by kernel_rfl) (fun _ _ _ h => h) (by kernel_rfl) (fun _ => by kernel_rfl) ?_
  refine anyS_skip (i := 11) (by kernel_rfl) rfl (by kernel_rfl) (by kernel_rfl) (by kernel_rfl) (fun _ _ _ h => h) (by kernel_rfl) (fun _ => by kernel_rfl) ?_
  refine anyS_skip (i := 12) (by kernel_rfl) rfl (by kernel_rfl) (by kernel_rfl) (by kernel_rfl) (fun _ _ _ h => h) (by kernel_rfl) (fun _ => by kernel_rfl) ?_
  refine anyS_skip (i := 13) (by kernel_rfl) rfl (by kernel_rfl) (by kernel_rfl) (by kernel_rfl) (fun _ _ _ h => h) (by kernel_rfl) (fun _ => by kernel_rfl) ?_
  refine anyS_skip (i := 14) (by kernel_rfl) rfl (by kernel_rfl) (by kernel_rfl) (by kernel_rfl) (fun _ _ _ h => h) (by kernel_rfl) (fun _ => by kernel_rfl) ?_
  refine anyS_skip (i := 15) (by kernel_rfl) rfl (by kernel_rfl) (by kernel_rfl) (by kernel_rfl) (fun _ _ _ h => h) (by kernel_rfl) (fun _ => by kernel_rfl) ?_
  refine anyS_skip (i := 16) (by kernel_rfl) rfl (by kernel_rfl) (by kernel_rfl) (by kernel_rfl) (fun _ _ _ h => h) (by kernel_rfl) (fun _ => by kernel_rfl) ?_
  refine anyS_skip (i := 17) (by kernel_rfl) rfl (by kernel_rfl) (by kernel_rfl) (by kernel_rfl) (fun _ _ _ h => h) (by kernel_rfl) (fun _ => by kernel_rfl) ?_
  refine anyS_one (i := 18) (by kernel_rfl) rfl (⟨cell_stays HB9.out HI.out.1, cell_stays HB9.out HI.out.2⟩) (fun K hK => ?_)
  go_simp
  refine ⟨trivial, hK _ _ ?_⟩
  clear hK K
  refine anyS_one (i := 19) (by kernel_rfl) rfl (⟨cell_stays HB9.out HI.out.1, cell_stays HB9.out HI.out.2⟩) (fun K hK => ?_)
  go_simp
  refine hK _ _ ?_
  clear hK K
  refine anyS_one (i := 20) (by kernel_rfl) rfl (⟨cell_stays HB9.out HI.out.1, cell_stays HB9.out HI.out.2⟩) (fun K hK => ?_)
  go_simp
  refine hK _ _ ?_
  clear hK K
  refine anyS_skip (i := 21) (by kernel_rfl) rfl (by kernel_rfl) (by kernel_rfl) (by kernel_rfl) (fun _ _ _ h => h) (by kernel_rfl) (fun _ => by kernel_rfl) ?_
  refine anyS_skip (i := 22) (by kernel_rfl) rfl (by kernel_rfl) (by kernel_rfl) (by kernel_rfl) (fun _ _ _ h => h) (by kernel_rfl) (fun _ => by kernel_rfl) ?_
  refine anyS_skip (i := 23) (by kernel_rfl) rfl (by kernel_rfl) (by kernel_rfl) (by kernel_rfl) (fun _ _ _ h => h) (by kernel_rfl) (fun _ => by kernel_rfl) ?_
  refine anyS_skip (i := 24) (by kernel_rfl) rfl (by kernel_rfl) (by kernel_rfl) (by kernel_rfl) (fun _ _ _ h => h) (by kernel_rfl) (fun _ => by kernel_rfl) ?_
  refine anyS_skip (i := 25) (by kernel_rfl) rfl (by kernel_rfl) (by kernel_rfl) (by kernel_rfl) (fun _ _ _ h => h) (by kernel_rfl) (fun _ => by kernel_rfl) ?_
  refine anyS_skip (i := 26) (by kernel_rfl) rfl (by kernel_rfl) (by kernel_rfl) (by kernel_rfl) (fun _ _ _ h => h) (by kernel_rfl) (fun _ => by kernel_rfl) ?_
  refine anyS_skip (i := 27) (by kernel_rfl) rfl (by kernel_rfl) (by kernel_rfl) (by kernel_rfl) (fun _ _ _ h => h) (by kernel_rfl) (fun _ => by kernel_rfl) ?_
  refine anyS_skip (i := 28) (by kernel_rfl) rfl (by kernel_rfl) (by kernel_rfl) (by kernel_rfl) (fun _ _ _ h => h) (by kernel_rfl) (fun _ => by kernel_rfl) ?_
  refine anyS_skip (i := 29) (by kernel_rfl) rfl (by kernel_rfl) (by kernel_rfl) (by kernel_rfl) (fun _ _ _ h => h) (by kernel_rfl) (fun _ => by kernel_rfl) ?_
  refine anyS_one (i := 30) (by kernel_rfl) rfl (⟨cell_stays HB9.out HI.out.1, cell_stays HB9.out HI.out.2⟩) (fun K hK => ?_)
  go_simp
  refine hK _ _ ?_
  clear hK K
  refine anyS_one (i := 31) (by kernel_rfl) rfl (⟨cell_stays HB9.out HI.out.1, cell_stays HB9.out HI.out.2⟩) (fun K hK => ?_)
  go_simp
  refine hK _ _ ?_
  clear hK K
  refine anyS_done (by kernel_rfl) (⟨cell_stays HB9.out HI.out.1, cell_stays HB9.out HI.out.2⟩) ?_ _
  refine NoPanic.normal ?_
  go_wp2
  go_ret
  exact ⟨rfl, HB9.out⟩
end Go.Proofs.YtlfffeinngkjgaaGreat

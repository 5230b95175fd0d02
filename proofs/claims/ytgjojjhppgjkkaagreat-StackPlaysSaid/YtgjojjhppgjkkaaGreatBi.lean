/- Terms one by one (layer 11): All; what isn't there does nothing. -/
import Derived.Test.YtgjojjhppgjkkaaGreatBh
namespace Go.Proofs.YtgjojjhppgjkkaaGreat
open Go.RowKit Go.Maps
attribute [local go_sem] Oper.semAt_some

def placeI (t : Crd.TermL) (i : Int) : Int := if t.on = 0 then 0 else i
set_option maxRecDepth 100000 in
set_option maxHeartbeats 2000000 in
theorem placeOf_any11 (t : Crd.TermL) (i : Int) (w : World) : Calls Tryz.prog 58 #[Crd.tval t, .int .i64 i] w (RetV w (.int .i64 (placeI t i))) := by
  obtain ⟨op, n, on⟩ := t
  unfold Crd.tval placeI
  dsimp only
  have hb0 := below_new w (.cells #[.int .i64 op, .int .i64 n, .int .i64 on] 24)
  by_cases h : on = 0
  · subst h
    rw [if_pos rfl]
    go_enter Tryz.func58, Tryz.ntmps58
    go_wp2
    go_ret
    exact ⟨rfl, hb0⟩
  · have e : (on == 0) = false := beq_eq_false_iff_ne.2 h
    rw [if_neg h]
    clear h
    go_enter Tryz.func58, Tryz.ntmps58
    go_wp2
    go_ret
    exact ⟨rfl, hb0⟩
/-- Terms, one by one: what they make of a board, and how many are done. -/
def runAll (B : BoardL) (seat i : Int) (l : List Crd.TermL) : BoardL × Nat := l.foldl (fun p t => (doB p.1 seat t (placeI t i), if canB p.1 seat t (placeI t i) then p.2 + 1 else p.2)) (B, 0)
theorem runAll_snoc (B : BoardL) (seat i : Int) (l : List Crd.TermL) (t : Crd.TermL) : runAll B seat i (l ++ [t]) = (doB (runAll B seat i l).1 seat t (placeI t i), if canB (runAll B seat i l).1 seat t (placeI t i) then (runAll B seat i l).2 + 1 else (runAll B seat i l).2) := by
  unfold runAll
  rw [List.foldl_append]
  rfl
theorem runAll_le (B : BoardL) (seat i : Int) (l : List Crd.TermL) : (runAll B seat i l).2 ≤ l.length := by
  have h : ∀ (l : List Crd.TermL) (p : BoardL × Nat), (l.foldl (fun p t => (doB p.1 seat t (placeI t i), if canB p.1 seat t (placeI t i) then p.2 + 1 else p.2)) p).2 ≤ p.2 + l.length := fun l => by
    induction l with
    | nil => intro p; simp
    | cons t l ih =>
      intro p
      rw [List.foldl_cons, List.length_cons]
      refine Nat.le_trans (ih _) ?_
      dsimp only
      split <;> omega
  have := h l (B, 0)
  simpa [runAll] using this
theorem take_snoc {α : Type} (l : List α) (k : Nat) (h : k < l.length) : l.take (k + 1) = l.take k ++ [l[k]] := List.take_succ_eq_append_getElem h
theorem keepC3 {w w' : World} {a0 a1 a2 : Addr} {v0 v1 v2 : Value} (hb : Below w.heap.size w w') (h : w.cell? a0 = some v0 ∧ w.cell? a1 = some v1 ∧ w.cell? a2 = some v2) :
    w'.cell? a0 = some v0 ∧ w'.cell? a1 = some v1 ∧ w'.cell? a2 = some v2 := ⟨cell_stays hb h.1, cell_stays hb h.2.1, cell_stays hb h.2.2⟩
set_option maxRecDepth 100000 in
set_option maxHeartbeats 8000000 in
theorem all11_any {w : World} {lo : Nat} {g : GhostB} {B : BoardL} {u : Value} {l : List Crd.TermL} (h : BoardAt w lo g B) (hu : ∀ w' g', TurnedB w w' g g' → Crd.TermsIs w' u l) (hl : l.length ≤ 1000) (hul : ∃ xa xc, u = .slice xa l.length xc) (seat i : Int) :
    Calls Tryz.prog 31 #[.pointer (some ⟨g.q, 0, none⟩), .int .i64 seat, .int .i64 i, u] w (RetBd w lo g (runAll B seat i l).1 (.int .i64 (runAll B seat i l).2)) := by
  obtain ⟨xa, xc, rfl⟩ := hul
  have HB := Lib.hid h
  have HU := Lib.hid hu
  have HLE := Lib.hid (fun (k : Nat) => runAll_le B seat i (l.take k))
  clear h hu
  go_enter Tryz.func31, Tryz.ntmps31
  go_wp2
  go_loopw [9, 14] (fun d j wr => ∃ (k : Nat) (g' : GhostB), k ≤ l.length ∧ d = .int .i64 ((runAll B seat i (l.take k)).2 : Int) ∧ j = .int .i64 (k : Int) ∧ Hid (BoardAt wr lo g' (runAll B seat i (l.take k)).1) ∧ Hid (TurnedB w wr g g') ∧ g'.q = g.q) (fun _ j _ => l.length - (intOf j).toNat)
  case atStart => exact ⟨0, g, Nat.zero_le _, rfl, rfl, HB, Lib.hid (TurnedB.of_below (Below.refl _ _)), rfl⟩
  case round =>
    obtain ⟨k, g', hk, rfl, rfl, HB', HT', hq⟩ := hrel
    by_cases hlt : k < l.length
    · have d0 : decide ((k : Int) < l.length) = true := decide_eq_true (by omega)
      obtain ⟨bb, off, rfl, t0, t1, t2⟩ := Crd.terms_at (HU.out wr g' HT'.out) k hlt
      have HSN := Lib.hid (runAll_snoc B seat i (l.take k) l[k])
      rw [← take_snoc l k hlt] at HSN
      obtain ⟨x, hx⟩ : ∃ x, l[k] = x := ⟨_, rfl⟩
      rw [hx] at t0 t1 t2 HSN
      obtain ⟨P, hP⟩ : ∃ P, runAll B seat i (l.take k) = P := ⟨_, rfl⟩
      have hle := HLE.out k
      rw [hP] at HSN HB' hle ⊢
      obtain ⟨BP, c⟩ := P
      dsimp only at HSN HB' hle ⊢
      have hc1000 : c ≤ 1000 := by simp at hle; omega
      obtain ⟨op, n, on⟩ := x
      dsimp only at t0 t1 t2
      obtain ⟨W2, hW2⟩ : ∃ W2, wr.alloc (.cells #[.int .i64 op, .int .i64 n, .int .i64 on] 24) = W2 := ⟨_, rfl⟩
      have hb0 := below_new wr (.cells #[.int .i64 op, .int .i64 n, .int .i64 on] 24)
      have hkk := fun j => cell_of_row (wr.alloc (.cells #[.int .i64 op, .int .i64 n, .int .i64 on] 24)) wr.heap.size j _ _ _ (heap_alloc_new wr (.cells #[.int .i64 op, .int .i64 n, .int .i64 on] 24))
      have k0 := hkk 0
      have k1 := hkk 1
      have k2 := hkk 2
      rw [hW2] at k0 k1 k2 hb0
      go_upto_region 5 with fail
      obtain ⟨q, hqq⟩ : ∃ q, wr.heap.size = q := ⟨_, rfl⟩
      simp only [hqq]
      rw [hqq] at k0 k1 k2
      have HI := Lib.hid (show W2.cell? ⟨q, 0, none⟩ = some (.int .i64 op) ∧ W2.cell? ⟨q, 1, none⟩ = some (.int .i64 n) ∧ W2.cell? ⟨q, 2, none⟩ = some (.int .i64 on) from ⟨k0, k1, k2⟩)
      have HTU := Lib.hid (HT'.out.trans (TurnedB.of_below (g := g') hb0))
      have HPL := Lib.hid (fun (w' : World) => placeOf_any11 ⟨op, n, on⟩ i w')
      have HDO := Lib.hid (fun (w' : World) (hb : Below W2.heap.size W2 w') => do_any ((HB'.out.later hb0).later hb) seat ⟨op, n, on⟩ (placeI ⟨op, n, on⟩ i))
      obtain ⟨pl, hpl⟩ : ∃ pl, placeI ⟨op, n, on⟩ i = pl := ⟨_, rfl⟩
      rw [hpl] at HPL HDO HSN
      obtain ⟨cb, hcb⟩ : ∃ cb, canB BP seat ⟨op, n, on⟩ pl = cb := ⟨_, rfl⟩
      rw [hcb] at HDO HSN
      unfold Crd.tval at HPL HDO
      dsimp only at HPL HDO
      rw [hq] at HDO
      clear hb0 k0 k1 k2 hkk hqq hW2 t0 t1 t2 hx hP hpl hcb
      refine wp_region_noPanic ?_
      refine (wpIn_wide (n := 9)).1 ?_
      refine wpIn_region_any (by kernel_rfl) ?_
      change wpAnyIn _ _ _ _ _ _ _ _ _ (World.drew _)
      refine anyC.any (c := 6) (S := fun w' => w'.cell? ⟨q, 0, none⟩ = some (.int .i64 op) ∧ w'.cell? ⟨q, 1, none⟩ = some (.int .i64 n) ∧ w'.cell? ⟨q, 2, none⟩ = some (.int .i64 on)) ?_
      refine anyC_take [6] (i := 0) (v := ?_) (by decide) (by decide) (by kernel_rfl) (by kernel_rfl) (by kernel_rfl) (by kernel_rfl) rfl (by kernel_rfl) (by kernel_rfl) (by kernel_rfl) (fun _ _ _ h => h) (by rfl) (fun _ => rfl) ?_ ?_
      rotate_left
      · intro w' hS
        go_simp
        try with_reducible rfl
      refine anyC_take [6] (i := 1) (v := ?_) (by decide) (by decide) (by kernel_rfl) (by kernel_rfl) (by kernel_rfl) (by kernel_rfl) rfl (by kernel_rfl) (by kernel_rfl) (by kernel_rfl) (fun _ _ _ h => h) (by rfl) (fun _ => rfl) ?_ ?_
      rotate_left
      · intro w' hS
        go_simp
        try with_reducible rfl
      refine anyC_take [6] (i := 2) (v := ?_) (by decide) (by decide) (by kernel_rfl) (by kernel_rfl) (by kernel_rfl) (by kernel_rfl) rfl (by kernel_rfl) (by kernel_rfl) (by kernel_rfl) (fun _ _ _ h => h) (by rfl) (fun _ => rfl) ?_ ?_
      rotate_left
      · intro w' hS
        obtain ⟨s0, s1, s2⟩ := hS
        go_simp
        try with_reducible rfl
      refine anyC_take [5, 6] (i := 3) (v := ?_) (by decide) (by decide) (by kernel_rfl) (by kernel_rfl) (by kernel_rfl) (by kernel_rfl) rfl (by kernel_rfl) (by kernel_rfl) (by kernel_rfl) (fun _ _ _ h => h) (by rfl) (fun _ => rfl) ?_ ?_
      rotate_left
      · intro w' hS
        obtain ⟨s0, s1, s2⟩ := hS
        go_simp
        try with_reducible rfl
      refine anyC_take [5, 6] (i := 4) (v := ?_) (by decide) (by decide) (by kernel_rfl) (by kernel_rfl) (by kernel_rfl) (by kernel_rfl) rfl (by kernel_rfl) (by kernel_rfl) (by kernel_rfl) (fun _ _ _ h => h) (by rfl) (fun _ => rfl) ?_ ?_
      rotate_left
      · intro w' hS
        go_simp
        try with_reducible rfl
      refine anyC_one (i := 5) (by kernel_rfl) rfl (fun _ => keepC3 (Below.refl W2.heap.size W2).drew HI.out) (fun K hK => ?_)
      go_simp
      gi_wp2_with ((refine ⟨trivial, ?_⟩; gi_at_call 58; refine CallsIn.mono (F := Fence.wide) (callsIn_wide.2 (HPL.out _)) ?_; rintro e w9 ⟨rfl, hb9⟩; have HB9 := Lib.hid (stepB (Below.refl W2.heap.size W2).drew hb9); clear hb9; dsimp only))
      refine anyC_one (i := 6) (by kernel_rfl) rfl (fun _ => keepC3 HB9.out HI.out) (fun K hK => ?_)
      go_simp
      gi_wp2_with ((refine ⟨trivial, ?_⟩; gi_at_call 12; refine CallsIn.mono (F := Fence.wide) (callsIn_wide.2 (HDO.out _ HB9.out)) ?_; rintro e w10 hr; obtain ⟨rfl, g3, hr1, hr2, hr3⟩ := RetBd.of hr (HTU.out.trans (TurnedB.of_below HB9.out)) hq; have HR := Lib.hid (And.intro hr1 (And.intro hr2 hr3)); clear hr hr1 hr2 hr3; dsimp only))
      refine anyC_done (by kernel_rfl) (fun h => absurd ((show Array.getD _ 6 true = true by kernel_rfl).symm.trans h) (by decide)) ?_ _
      refine NoPanic.normal ?_
      cases cb with
      | true =>
        go_wp2
        go_roundw
        case rel => exact ⟨k + 1, g3, by omega, by rw [HSN.out]; first | rfl | go_num, by go_num, Lib.hid (by rw [HSN.out]; exact HR.out.1), Lib.hid HR.out.2.1, HR.out.2.2⟩
        case measure => simp [intOf]; omega
      | false =>
        go_wp2
        go_roundw
        case rel => exact ⟨k + 1, g3, by omega, by rw [HSN.out]; first | rfl | go_num, by go_num, Lib.hid (by rw [HSN.out]; exact HR.out.1), Lib.hid HR.out.2.1, HR.out.2.2⟩
        case measure => simp [intOf]; omega
    · obtain rfl : k = l.length := by omega
      have HFT := Lib.hid (List.take_length (l := l))
      go_wp2
      go_ret
      rw [HFT.out] at HB' ⊢
      exact ⟨rfl, g', HB'.out, HT'.out, hq⟩
end Go.Proofs.YtgjojjhppgjkkaaGreat

/- The law CheckTeams, walked. -/
import Derived.Test.YtdlkdilgjmmlaaaGreatWm
import Derived.Deep.Cut
import Derived.Deep.DeepCutAuto
import Derived.Deep.OwnRows
namespace Go.Proofs.YtdlkdilgjmmlaaaGreat
open Go.RowKit Go.Maps
attribute [local go_sem] Oper.semAt_some

theorem keep11 {A w w' : World} {q q5 tb : Nat} {d : Int} (hb : Below w.heap.size w w') (h : Below A.heap.size A w ∧ w.cell? ⟨q, 1, none⟩ = some (.pointer (some ⟨tb, 0, none⟩)) ∧ w.cell? ⟨q5, 4, none⟩ = some (.int .i64 d)) :
    Below A.heap.size A w' ∧ w'.cell? ⟨q, 1, none⟩ = some (.pointer (some ⟨tb, 0, none⟩)) ∧ w'.cell? ⟨q5, 4, none⟩ = some (.int .i64 d) := ⟨stepB h.1 hb, cell_stays hb h.2.1, cell_stays hb h.2.2⟩
theorem keep11s {A w : World} {q q5 tb p : Nat} {d : Int} (j : Nat) (u : Value) (hp : A.heap.size ≤ p) (h1 : q ≠ p) (h2 : q5 ≠ p) (h : Below A.heap.size A w ∧ w.cell? ⟨q, 1, none⟩ = some (.pointer (some ⟨tb, 0, none⟩)) ∧ w.cell? ⟨q5, 4, none⟩ = some (.int .i64 d)) :
    Below A.heap.size A (w.setCell ⟨p, j, none⟩ u) ∧ (w.setCell ⟨p, j, none⟩ u).cell? ⟨q, 1, none⟩ = some (.pointer (some ⟨tb, 0, none⟩)) ∧ (w.setCell ⟨p, j, none⟩ u).cell? ⟨q5, 4, none⟩ = some (.int .i64 d) := by
  have e : ∀ k, k ≠ p → (w.setCell ⟨p, j, none⟩ u).heap[k]? = w.heap[k]? := fun k hk => heap_setCell_other w ⟨p, j, none⟩ k u hk
  exact ⟨h.1.setCell hp u, (World.cell?_of_block (e q h1)).trans h.2.1, (World.cell?_of_block (e q5 h2)).trans h.2.2⟩
/-- The row of what is wanted, a step on. -/
theorem row_step {w : World} {p n k : Nat} {f : Nat → Bool} {b : Bool} (h : w.rowIs p 4 n (fun j => .bool (if j < k then f j else false))) (hk : k < n) (hb : f k = b) : (w.setCell ⟨p, k, none⟩ (.bool b)).rowIs p 4 n (fun j => .bool (if j < k + 1 then f j else false)) := by
  refine (h.set k (.bool b)).congr fun i hi => ?_
  by_cases e : i = k
  · subst e
    rw [if_pos rfl, if_pos (by omega), hb]
  · rw [if_neg e]
    by_cases e2 : i < k
    · rw [if_pos e2, if_pos (by omega)]
    · rw [if_neg e2, if_neg (by omega)]
/-- A report's box. -/
theorem box3 (w : World) (v0 v1 v2 : Value) : Below w.heap.size w ((((w.alloc (.cells #[.slice none 0 0, .slice none 0 0, .int .i64 0] 54)).setCell ⟨w.heap.size, 0, none⟩ v0).setCell ⟨w.heap.size, 1, none⟩ v1).setCell ⟨w.heap.size, 2, none⟩ v2) ∧
    ((((w.alloc (.cells #[.slice none 0 0, .slice none 0 0, .int .i64 0] 54)).setCell ⟨w.heap.size, 0, none⟩ v0).setCell ⟨w.heap.size, 1, none⟩ v1).setCell ⟨w.heap.size, 2, none⟩ v2).heap[w.heap.size]? = some (.cells #[v0, v1, v2] 54 (0, 0)) :=
  ⟨(((below_new w (.cells #[.slice none 0 0, .slice none 0 0, .int .i64 0] 54)).setCell (Nat.le_refl _) v0).setCell (Nat.le_refl _) v1).setCell (Nat.le_refl _) v2, rep2 v2 (rep1 v1 (rep0 v0 (heap_alloc_new w (.cells #[.slice none 0 0, .slice none 0 0, .int .i64 0] 54))))⟩
theorem anyS_skip1 {F : Fence} {n : Nat} {P : Program} {md : Region.Mode} {ops : Array Oper} {Q : Exit → Act → World → Prop} {S : World → Prop} {i : Nat} {o : Oper} {fuel : Nat} {listed : Array Bool} {a : Act} {w : World} (hr : Region.ready md ops listed = [i]) (ho : ops[i]? = some o) (hS : S w)
    (hw : Region.wanted o (yielded ops a.tmps) = false) (hf : ∀ f, o.about P w a.eval = some f → F.fn f) (h : anyS F n P md ops Q S fuel (listed.setIfInBounds i true) (a.put o.dst undef) w) : anyS F n P md ops Q S (fuel + 1) listed a w :=
  anyS_one hr ho hS fun K hK => by
    rw [if_neg (by rw [hw]; decide)]
    exact ⟨hf, hK _ _ h⟩
theorem keep17 {A w w' : World} {q p r9 tb k : Nat} {z : Bool} {v : Value} (hb : Below w.heap.size w w') (h : Below A.heap.size A w ∧ w.cell? ⟨q, 1, none⟩ = some (.pointer (some ⟨tb, 0, none⟩)) ∧ w.cell? ⟨p, k, none⟩ = some (.bool z) ∧ w.cell? ⟨r9, 1, none⟩ = some v) :
    Below A.heap.size A w' ∧ w'.cell? ⟨q, 1, none⟩ = some (.pointer (some ⟨tb, 0, none⟩)) ∧ w'.cell? ⟨p, k, none⟩ = some (.bool z) ∧ w'.cell? ⟨r9, 1, none⟩ = some v := ⟨stepB h.1 hb, cell_stays hb h.2.1, cell_stays hb h.2.2.1, cell_stays hb h.2.2.2⟩
set_option maxRecDepth 100000 in
set_option maxHeartbeats 400000000 in
theorem checkTeams_walk {n : Nat} (hn : n < 256) {w : World} {u : Value} {x : StL} (hu : StAt w u x) :
    Calls Tryz.prog 5 #[.int .u8 n, u] w (RetV w (.bool true)) := by
  have HAW := Lib.hid (fun (w' : World) => awake14_any w')
  have HNK := Lib.hid (fun (w' : World) => new_stk (w := w') (v := .slice none 0 0) (l := []) (.inl ⟨none, 0, rfl, rfl⟩) (by decide))
  have HBO := Lib.hid (fun (w' : World) (v : Value) (hb : Below w.heap.size w w') (hv : TrisAt w' v four13) => board14_any hv (by intro x hx; simp [four13] at hx; rcases hx with rfl | rfl | rfl | rfl <;> exact ⟨⟨by decide, by decide⟩, ⟨by decide, by decide⟩⟩) (by simp [four13]) n hn (hu.later hb))
  obtain ⟨u0, u1, u2, u3, rfl, i0, i1, i2, i3⟩ := hu
  obtain ⟨y0, z0, rfl⟩ := i0.form
  obtain ⟨y1, z1, rfl⟩ := i1.form
  obtain ⟨y2, z2, rfl⟩ := i2.form
  obtain ⟨y3, z3, rfl⟩ := i3.form
  have hb0 := below_new w (.cells #[.slice y0 x.hu.length z0, .slice y1 x.co.length z1, .slice y2 x.ga.length z2, .slice y3 x.po.length z3, .int .i64 x.dry] 26)
  have hrs : (w.alloc (.cells #[.slice y0 x.hu.length z0, .slice y1 x.co.length z1, .slice y2 x.ga.length z2, .slice y3 x.po.length z3, .int .i64 x.dry] 26)).heap[w.heap.size]? = some (.cells #[.slice y0 x.hu.length z0, .slice y1 x.co.length z1, .slice y2 x.ga.length z2, .slice y3 x.po.length z3, .int .i64 x.dry] 26 (0, 0)) := heap_alloc_new _ _
  obtain ⟨W, hW⟩ : ∃ W, w.alloc (.cells #[.slice y0 x.hu.length z0, .slice y1 x.co.length z1, .slice y2 x.ga.length z2, .slice y3 x.po.length z3, .int .i64 x.dry] 26) = W := ⟨_, rfl⟩
  obtain ⟨q5, hq5⟩ : ∃ q5, w.heap.size = q5 := ⟨_, rfl⟩
  rw [hW] at hb0 hrs
  rw [hq5] at hrs
  have HB0 := Lib.hid hb0
  have HW := Lib.hid hW
  have HQ5 := Lib.hid hq5
  have HQW := Lib.hid (Array.getElem?_eq_some_iff.1 hrs).1
  have HIX := Lib.hid (show ∀ w' : World, Below W.heap.size W w' → w'.cell? ⟨q5, 0, none⟩ = some (.slice y0 x.hu.length z0) ∧ w'.cell? ⟨q5, 1, none⟩ = some (.slice y1 x.co.length z1) ∧ w'.cell? ⟨q5, 2, none⟩ = some (.slice y2 x.ga.length z2) ∧ w'.cell? ⟨q5, 3, none⟩ = some (.slice y3 x.po.length z3) ∧ w'.cell? ⟨q5, 4, none⟩ = some (.int .i64 x.dry) from fun w' hb => by
    have h2 := (hb.block _ (Array.getElem?_eq_some_iff.1 hrs).1).trans hrs
    exact ⟨cell_of_row w' q5 0 _ _ (0, 0) h2, cell_of_row w' q5 1 _ _ (0, 0) h2, cell_of_row w' q5 2 _ _ (0, 0) h2, cell_of_row w' q5 3 _ _ (0, 0) h2, cell_of_row w' q5 4 _ _ (0, 0) h2⟩)
  clear i0 i1 i2 i3 hb0 hrs hW hq5
  go_enter Tryz.func5, Tryz.ntmps5
  go_upto_region 1 with fail
  rw [HW.out, HQ5.out]
  go_wp2_with fail
  refine (HAW.out _).mono ?_
  rintro e w1 ⟨rfl, hb1⟩
  have HB1 := Lib.hid hb1
  clear hb1 HAW
  dsimp only
  have hba := below_new w1 (.cells #[.int .i64 0, .int .i64 0, .int .i64 1, .int .i64 0, .int .i64 1, .int .i64 1, .int .i64 0, .int .i64 2, .int .i64 1, .int .i64 0, .int .i64 3, .int .i64 1] 64)
  have HBA := Lib.hid (stepB HB1.out hba)
  have hc1 := HIX.out w1 HB1.out
  have hca := HIX.out _ HBA.out
  obtain ⟨c0, c1, c2, c3, c4⟩ := hc1
  obtain ⟨d0, d1, d2, d3, d4⟩ := hca
  clear hba
  go_wp2_with fail
  refine (HBO.out _ _ (stepB HB0.out HBA.out) ?hv).mono ?_
  case hv =>
    have hc := fun j => cell_of_row _ w1.heap.size j _ _ _ (heap_alloc_new w1 (.cells #[.int .i64 0, .int .i64 0, .int .i64 1, .int .i64 0, .int .i64 1, .int .i64 1, .int .i64 0, .int .i64 2, .int .i64 1, .int .i64 0, .int .i64 3, .int .i64 1] 64))
    refine .inr ⟨w1.heap.size, 0, 4, rfl, by simp, fun i hi => ?_⟩
    match i, hi with
    | 0, _ => exact ⟨hc 0, hc 1, hc 2⟩
    | 1, _ => exact ⟨hc 3, hc 4, hc 5⟩
    | 2, _ => exact ⟨hc 6, hc 7, hc 8⟩
    | 3, _ => exact ⟨hc 9, hc 10, hc 11⟩
  clear c0 c1 c2 c3 c4 d0 d1 d2 d3 d4
  rintro e w2 (⟨hp, lo, g, rfl, hbd, hlo, hb2⟩ | ⟨_, rfl, hb2⟩)
  case inr =>
    have HB2 := Lib.hid (stepB HB0.out (stepB HBA.out hb2))
    clear hb2
    dsimp only
    go_wp2
    go_ret
    exact ⟨rfl, HB2.out⟩
  have HF := Lib.hid (four_any n x)
  have hln : (board14 four13 n x).S.objs.length ≤ 800 := by rw [b14_len four_play.2]; decide
  obtain ⟨B, hB⟩ : ∃ B, board14 four13 n x = B := ⟨_, rfl⟩
  rw [hB] at hbd hln HF
  have HLN := Lib.hid hln
  have HBW := Lib.hid (stepB HBA.out hb2)
  have hseat := b14_seats four_play.2 n x
  rw [hB] at hseat
  have HSD := Lib.hid (show B.T.sides.length = 4 from hbd.se.trans hseat)
  have HLT := Lib.hid (show ∀ k, g.own k → k < w2.heap.size from fun k hk => hbd.ownLt hk)
  have HLO := Lib.hid (show ∀ k, g.own k → w.heap.size ≤ k from fun k hk => Nat.le_trans (stepB HB0.out HBA.out).size (Nat.le_trans hlo (hbd.ownLo hk)))
  have HTN := Lib.hid (tlen_any hbd.tm)
  have HN4 := Lib.hid hbd.tm.n2
  obtain ⟨m, hm⟩ : ∃ m, B.T.sh.length = m := ⟨_, rfl⟩
  have HM := Lib.hid hm
  rw [hm] at HTN HN4
  obtain ⟨-, cq1, -⟩ := hbd.cells
  have HC4 := Lib.hid (HIX.out w2 HBW.out).2.2.2.2
  have HCQ := Lib.hid cq1
  have HTM2 := Lib.hid hbd.tm
  have HBD2 := Lib.hid hbd
  have NQ : g.q ≠ w2.heap.size := Nat.ne_of_lt hbd.lt
  have NQ5 : q5 ≠ w2.heap.size := Nat.ne_of_lt (Nat.lt_of_lt_of_le HQW.out HBW.out.size)
  obtain ⟨q, hq⟩ : ∃ q, g.q = q := ⟨_, rfl⟩
  obtain ⟨tb, htb⟩ : ∃ tb, g.tb = tb := ⟨_, rfl⟩
  have HQ := Lib.hid hq
  have HTB := Lib.hid htb
  rw [hq, htb] at cq1 HCQ
  rw [hq] at NQ ⊢
  rw [htb] at HTN HTM2
  clear hp hbd hlo hb2 hln hB HBO hm hseat hq htb
  dsimp only
  go_wp2_with fail
  refine HTN.out.mono ?_
  rintro e w3 ⟨rfl, e3⟩
  rw [e3]
  clear HTN e3 w3
  dsimp only
  have hmk := run_make_row' (P := Tryz.prog) 65 4 (.bool false) 1 Tryz.underlying65 (by kernel_rfl) rfl .i64 .i64 m (by have := HN4.out; omega) (by have := HN4.out; omega) w2
  have HR0 : Hid ((w2.alloc (.cells (madeCells #[.bool false] m) 4)).rowIs w2.heap.size 4 m (fun j => .bool (if j < 0 then wantT B x.dry j else false))) := Lib.hid ((World.rowIs_made w2 (.bool false) m 4).congr fun i _ => by rw [if_neg (Nat.not_lt_zero _)])
  have HBD0 := Lib.hid (HBD2.out.later (below_new w2 (.cells (madeCells #[.bool false] m) 4)))
  have HE0 := Lib.hid (below_new w2 (.cells (madeCells #[.bool false] m) 4))
  go_upto_region 8 with fail
  clear hmk
  go_wp2_with fail
  go_loopw [32] (fun i wr => ∃ k : Nat, k ≤ m ∧ i = .int .i64 k ∧ Hid (wr.rowIs w2.heap.size 4 m (fun j => .bool (if j < k then wantT B x.dry j else false))) ∧ Hid (BoardAt wr lo g B) ∧ Hid (Below w2.heap.size w2 wr)) (fun i _ => m - (intOf i).toNat)
  case atStart => exact ⟨0, Nat.zero_le _, rfl, HR0, HBD0, HE0⟩
  case round =>
    clear HR0 HBD0 HE0
    obtain ⟨k, hk, rfl, HR, HBD, HE⟩ := hrel
    have HS := Lib.hid (And.intro HE.out (And.intro (cell_stays HE.out HCQ.out) (cell_stays HE.out HC4.out)))
    by_cases hlt : k < m
    · have e0 : decide ((k : Int) < m) = true := decide_eq_true (by omega)
      have k1 : (0 : Int) ≤ k := by omega
      have k2 : (k : Int) < m := by omega
      have hw1 : IntKind.i64.wrap ((k : Int) + 1) = (k : Int) + 1 := by have := HN4.out; exact wrap_small (by omega) (by omega)
      have cw := HR.out.cell hlt
      have fw := HR.out.frozen k
      obtain ⟨li, hli⟩ : ∃ li, lifeT B.T (k : Int) = li := ⟨_, rfl⟩
      obtain ⟨po, hpo⟩ : ∃ po, poisonT B.T (k : Int) = po := ⟨_, rfl⟩
      obtain ⟨of, hof⟩ : ∃ of, ofT B.T x.dry = of := ⟨_, rfl⟩
      obtain ⟨dr, hdr⟩ : ∃ dr, x.dry = dr := ⟨_, rfl⟩
      have HWV := Lib.hid (show wantT B x.dry k = ((decide (li < 1) || decide (9 < po)) || (decide (0 ≤ dr) && decide (dr < 4) && (of == (k : Int)))) from by unfold wantT; rw [hli, hpo, hof, hdr])
      have HLI := Lib.hid (fun (w' : World) (h : TeamAt w' lo tb g.s g.r B.T) => by have h1 := tlife_any h (k : Int); rw [hli] at h1; exact h1)
      have HPO := Lib.hid (fun (w' : World) (h : TeamAt w' lo tb g.s g.r B.T) => by have h1 := tpoison_any h (k : Int); rw [hpo] at h1; exact h1)
      have HOF := Lib.hid (fun (w' : World) (h : TeamAt w' lo tb g.s g.r B.T) => by have h1 := tof_any h x.dry; rw [hof, hdr] at h1; exact h1)
      have HSC := Lib.hid (show TeamAt w2 lo tb g.s g.r B.T from HTM2.out)
      have TL : ∀ {w' : World}, Below w2.heap.size w2 w' → TeamAt w' lo tb g.s g.r B.T := fun hb => HTM2.out.later hb
      have HLQ := Lib.hid (HLI.out (World.drew wr) (TL (HE.out.drew)))
      have HPQ := Lib.hid (HPO.out (World.drew wr) (TL (HE.out.drew)))
      have HOQ := Lib.hid (HOF.out (World.drew wr) (TL (HE.out.drew)))
      have cwd : (World.drew wr).cell? ⟨w2.heap.size, k, none⟩ = _ := cw
      have fwd : (World.drew wr).frozen? ⟨w2.heap.size, k, none⟩ = false := fw
      clear HLI HPO HOF TL HSC
      clear hli hpo hof
      rw [hdr] at HS
      have HDR := Lib.hid hdr
      have HSQ := Lib.hid (keep11 (Below.refl _ _).drew HS.out)
      clear hdr
      cases h1 : decide (li < 1) with
      | true =>
        have HWK := Lib.hid (show wantT B x.dry k = true from by rw [HWV.out, h1]; rfl)
        go_upto_region 11 with fail
        refine wp_region_noPanic ?_
        refine (wpIn_wide (n := 9)).1 ?_
        refine wpIn_region_any (by kernel_rfl) ?_
        change wpAnyIn _ _ _ _ _ _ _ _ _ (World.drew wr)
        refine anyS.any (S := (fun w' => Below w2.heap.size w2 w' ∧ w'.cell? ⟨q, 1, none⟩ = some (.pointer (some ⟨tb, 0, none⟩)) ∧ w'.cell? ⟨q5, 4, none⟩ = some (.int .i64 dr))) ?_
        refine anyS_take (i := 0) (v := ?_) (by kernel_rfl) rfl (by kernel_rfl) (by kernel_rfl) (by kernel_rfl) (fun _ _ _ h => h) (by kernel_rfl) (fun _ => by kernel_rfl) ?_ ?_
        rotate_left
        · intro w' hS
          obtain ⟨s0, s1, s2⟩ := hS
          go_simp
          try with_reducible rfl
        refine anyS_take (i := 1) (v := ?_) (by kernel_rfl) rfl (by kernel_rfl) (by kernel_rfl) (by kernel_rfl) (fun _ _ _ h => h) (by kernel_rfl) (fun _ => by kernel_rfl) ?_ ?_
        rotate_left
        · intro w' hS
          obtain ⟨s0, s1, s2⟩ := hS
          go_simp
          try with_reducible rfl
        refine anyS_take (i := 2) (v := ?_) (by kernel_rfl) rfl (by kernel_rfl) (by kernel_rfl) (by kernel_rfl) (fun _ _ _ h => h) (by kernel_rfl) (fun _ => by kernel_rfl) ?_ ?_
        rotate_left
        · intro w' hS
          obtain ⟨s0, s1, s2⟩ := hS
          go_simp
          try with_reducible rfl
        refine anyS_take (i := 3) (v := ?_) (by kernel_rfl) rfl (by kernel_rfl) (by kernel_rfl) (by kernel_rfl) (fun _ _ _ h => h) (by kernel_rfl) (fun _ => by kernel_rfl) ?_ ?_
        rotate_left
        · intro w' hS
          obtain ⟨s0, s1, s2⟩ := hS
          go_simp
          try with_reducible rfl
        refine anyS_take (i := 4) (v := ?_) (by kernel_rfl) rfl (by kernel_rfl) (by kernel_rfl) (by kernel_rfl) (fun _ _ _ h => h) (by kernel_rfl) (fun _ => by kernel_rfl) ?_ ?_
        rotate_left
        · intro w' hS
          obtain ⟨s0, s1, s2⟩ := hS
          go_simp
          try with_reducible rfl
        refine anyS_take (i := 5) (v := ?_) (by kernel_rfl) rfl (by kernel_rfl) (by kernel_rfl) (by kernel_rfl) (fun _ _ _ h => h) (by kernel_rfl) (fun _ => by kernel_rfl) ?_ ?_
        rotate_left
        · intro w' hS
          obtain ⟨s0, s1, s2⟩ := hS
          go_simp
          try with_reducible rfl
        refine anyS_take (i := 6) (v := ?_) (by kernel_rfl) rfl (by kernel_rfl) (by kernel_rfl) (by kernel_rfl) (fun _ _ _ h => h) (by kernel_rfl) (fun _ => by kernel_rfl) ?_ ?_
        rotate_left
        · intro w' hS
          obtain ⟨s0, s1, s2⟩ := hS
          go_simp
          try with_reducible rfl
        refine anyS_one (i := 7) (by kernel_rfl) rfl (HSQ.out) (fun K hK => ?_)
        go_simp
        gi_wp2_with ((refine ⟨trivial, ?_⟩; gi_at_call 14; refine CallsIn.mono (F := Fence.wide) (callsIn_wide.2 HLQ.out) ?_; rintro e w9 ⟨rfl, rfl⟩; dsimp only))
        refine anyS_one (i := 8) (by kernel_rfl) rfl (HSQ.out) (fun K hK => ?_)
        go_simp
        refine hK _ _ ?_
        clear hK K
        refine anyS_take (i := 9) (v := ?_) (by kernel_rfl) rfl (by kernel_rfl) (by kernel_rfl) (by kernel_rfl) (fun _ _ _ h => h) (by kernel_rfl) (fun _ => by kernel_rfl) ?_ ?_
        rotate_left
        · intro w' hS
          obtain ⟨s0, s1, s2⟩ := hS
          go_simp
          try with_reducible rfl
        refine anyS_skip (i := 10) (by kernel_rfl) rfl (by kernel_rfl) (by kernel_rfl) (by kernel_rfl) (fun _ _ _ h => h) (by kernel_rfl) (fun _ => by kernel_rfl) ?_
        refine anyS_skip (i := 11) (by kernel_rfl) rfl (by kernel_rfl) (by kernel_rfl) (by kernel_rfl) (fun _ _ _ h => h) (by kernel_rfl) (fun _ => by kernel_rfl) ?_
        refine anyS_skip (i := 12) (by kernel_rfl) rfl (by kernel_rfl) (by kernel_rfl) (by kernel_rfl) (fun _ _ _ h => h) (by kernel_rfl) (fun _ => by kernel_rfl) ?_
        refine anyS_skip (i := 13) (by kernel_rfl) rfl (by kernel_rfl) (by kernel_rfl) (by kernel_rfl) (fun _ _ _ h => h) (by kernel_rfl) (fun _ => by kernel_rfl) ?_
        refine anyS_skip (i := 14) (by kernel_rfl) rfl (by kernel_rfl) (by kernel_rfl) (by kernel_rfl) (fun _ _ _ h => h) (by kernel_rfl) (fun _ => by kernel_rfl) ?_
        refine anyS_skip1 (i := 15) (by kernel_rfl) rfl (HSQ.out) (by kernel_rfl) (fun _ _ => trivial) ?_
        refine anyS_skip (i := 16) (by kernel_rfl) rfl (by kernel_rfl) (by kernel_rfl) (by kernel_rfl) (fun _ _ _ h => h) (by kernel_rfl) (fun _ => by kernel_rfl) ?_
        refine anyS_take (i := 17) (v := ?_) (by kernel_rfl) rfl (by kernel_rfl) (by kernel_rfl) (by kernel_rfl) (fun _ _ _ h => h) (by kernel_rfl) (fun _ => by kernel_rfl) ?_ ?_
        rotate_left
        · intro w' hS
          obtain ⟨s0, s1, s2⟩ := hS
          go_simp
          try with_reducible rfl
        refine anyS_take (i := 18) (v := ?_) (by kernel_rfl) rfl (by kernel_rfl) (by kernel_rfl) (by kernel_rfl) (fun _ _ _ h => h) (by kernel_rfl) (fun _ => by kernel_rfl) ?_ ?_
        rotate_left
        · intro w' hS
          obtain ⟨s0, s1, s2⟩ := hS
          go_simp
          try with_reducible rfl
        refine anyS_skip (i := 19) (by kernel_rfl) rfl (by kernel_rfl) (by kernel_rfl) (by kernel_rfl) (fun _ _ _ h => h) (by kernel_rfl) (fun _ => by kernel_rfl) ?_
        refine anyS_skip (i := 20) (by kernel_rfl) rfl (by kernel_rfl) (by kernel_rfl) (by kernel_rfl) (fun _ _ _ h => h) (by kernel_rfl) (fun _ => by kernel_rfl) ?_
        refine anyS_skip (i := 21) (by kernel_rfl) rfl (by kernel_rfl) (by kernel_rfl) (by kernel_rfl) (fun _ _ _ h => h) (by kernel_rfl) (fun _ => by kernel_rfl) ?_
        refine anyS_skip (i := 22) (by kernel_rfl) rfl (by kernel_rfl) (by kernel_rfl) (by kernel_rfl) (fun _ _ _ h => h) (by kernel_rfl) (fun _ => by kernel_rfl) ?_
        refine anyS_skip (i := 23) (by kernel_rfl) rfl (by kernel_rfl) (by kernel_rfl) (by kernel_rfl) (fun _ _ _ h => h) (by kernel_rfl) (fun _ => by kernel_rfl) ?_
        refine anyS_skip (i := 24) (by kernel_rfl) rfl (by kernel_rfl) (by kernel_rfl) (by kernel_rfl) (fun _ _ _ h => h) (by kernel_rfl) (fun _ => by kernel_rfl) ?_
        refine anyS_skip (i := 25) (by kernel_rfl) rfl (by kernel_rfl) (by kernel_rfl) (by kernel_rfl) (fun _ _ _ h => h) (by kernel_rfl) (fun _ => by kernel_rfl) ?_
        refine anyS_skip (i := 26) (by kernel_rfl) rfl (by kernel_rfl) (by kernel_rfl) (by kernel_rfl) (fun _ _ _ h => h) (by kernel_rfl) (fun _ => by kernel_rfl) ?_
        refine anyS_skip (i := 27) (by kernel_rfl) rfl (by kernel_rfl) (by kernel_rfl) (by kernel_rfl) (fun _ _ _ h => h) (by kernel_rfl) (fun _ => by kernel_rfl) ?_
        refine anyS_skip (i := 28) (by kernel_rfl) rfl (by kernel_rfl) (by kernel_rfl) (by kernel_rfl) (fun _ _ _ h => h) (by kernel_rfl) (fun _ => by kernel_rfl) ?_
        refine anyS_skip (i := 29) (by kernel_rfl) rfl (by kernel_rfl) (by kernel_rfl) (by kernel_rfl) (fun _ _ _ h => h) (by kernel_rfl) (fun _ => by kernel_rfl) ?_
        refine anyS_skip (i := 30) (by kernel_rfl) rfl (by kernel_rfl) (by kernel_rfl) (by kernel_rfl) (fun _ _ _ h => h) (by kernel_rfl) (fun _ => by kernel_rfl) ?_
        refine anyS_skip (i := 31) (by kernel_rfl) rfl (by kernel_rfl) (by kernel_rfl) (by kernel_rfl) (fun _ _ _ h => h) (by kernel_rfl) (fun _ => by kernel_rfl) ?_
        refine anyS_skip (i := 32) (by kernel_rfl) rfl (by kernel_rfl) (by kernel_rfl) (by kernel_rfl) (fun _ _ _ h => h) (by kernel_rfl) (fun _ => by kernel_rfl) ?_
        refine anyS_skip (i := 33) (by kernel_rfl) rfl (by kernel_rfl) (by kernel_rfl) (by kernel_rfl) (fun _ _ _ h => h) (by kernel_rfl) (fun _ => by kernel_rfl) ?_
        refine anyS_skip (i := 35) (by kernel_rfl) rfl (by kernel_rfl) (by kernel_rfl) (by kernel_rfl) (fun _ _ _ h => h) (by kernel_rfl) (fun _ => by kernel_rfl) ?_
        refine anyS_skip1 (i := 34) (by kernel_rfl) rfl (HSQ.out) (by kernel_rfl) (fun _ _ => trivial) ?_
        refine anyS_skip (i := 36) (by kernel_rfl) rfl (by kernel_rfl) (by kernel_rfl) (by kernel_rfl) (fun _ _ _ h => h) (by kernel_rfl) (fun _ => by kernel_rfl) ?_
        refine anyS_skip (i := 37) (by kernel_rfl) rfl (by kernel_rfl) (by kernel_rfl) (by kernel_rfl) (fun _ _ _ h => h) (by kernel_rfl) (fun _ => by kernel_rfl) ?_
        refine anyS_take (i := 38) (v := ?_) (by kernel_rfl) rfl (by kernel_rfl) (by kernel_rfl) (by kernel_rfl) (fun _ _ _ h => h) (by kernel_rfl) (fun _ => by kernel_rfl) ?_ ?_
        rotate_left
        · intro w' hS
          obtain ⟨s0, s1, s2⟩ := hS
          go_simp
          try with_reducible rfl
        refine anyS_take (i := 39) (v := ?_) (by kernel_rfl) rfl (by kernel_rfl) (by kernel_rfl) (by kernel_rfl) (fun _ _ _ h => h) (by kernel_rfl) (fun _ => by kernel_rfl) ?_ ?_
        rotate_left
        · intro w' hS
          obtain ⟨s0, s1, s2⟩ := hS
          go_simp
          try with_reducible rfl
        refine anyS_one (i := 40) (by kernel_rfl) rfl (HSQ.out) (fun K hK => ?_)
        go_simp
        refine hK _ _ ?_
        clear hK K
        refine anyS_done (by kernel_rfl) (keep11s _ _ (Nat.le_refl _) NQ NQ5 HSQ.out) ?_ _
        refine NoPanic.normal ?_
        have HB5 := Lib.hid (show BoardAt (wr.drew.setCell ⟨w2.heap.size, k, none⟩ (.bool true)) lo g B from (HBD.out.later (Below.refl _ _).drew).kept (by simp) (fun i hi => heap_setCell_other _ ⟨w2.heap.size, k, none⟩ i _ (Nat.ne_of_lt (HLT.out i hi))))
        have HR5 := Lib.hid (row_step (HR.out.drew) hlt HWK.out)
        have HE5 := Lib.hid (And.left (show Below w2.heap.size w2 (wr.drew.setCell ⟨w2.heap.size, k, none⟩ (.bool true)) ∧ _ from keep11s _ _ (Nat.le_refl _) NQ NQ5 HSQ.out))
        go_wp2
        go_roundw
        case rel => exact ⟨k + 1, by omega, by go_num, HR5, HB5, HE5⟩
        case measure => simp [intOf]; omega
      | false =>
        cases h2 : decide (9 < po) with
        | true =>
          have HWK := Lib.hid (show wantT B x.dry k = true from by rw [HWV.out, h1, h2]; rfl)
          go_upto_region 11 with fail
          refine wp_region_noPanic ?_
          refine (wpIn_wide (n := 9)).1 ?_
          refine wpIn_region_any (by kernel_rfl) ?_
          change wpAnyIn _ _ _ _ _ _ _ _ _ (World.drew wr)
          refine anyS.any (S := (fun w' => Below w2.heap.size w2 w' ∧ w'.cell? ⟨q, 1, none⟩ = some (.pointer (some ⟨tb, 0, none⟩)) ∧ w'.cell? ⟨q5, 4, none⟩ = some (.int .i64 dr))) ?_
          refine anyS_take (i := 0) (v := ?_) (by kernel_rfl) rfl (by kernel_rfl) (by kernel_rfl) (by kernel_rfl) (fun _ _ _ h => h) (by kernel_rfl) (fun _ => by kernel_rfl) ?_ ?_
          rotate_left
          · intro w' hS
            obtain ⟨s0, s1, s2⟩ := hS
            go_simp
            try with_reducible rfl
          refine anyS_take (i := 1) (v := ?_) (by kernel_rfl) rfl (by kernel_rfl) (by kernel_rfl) (by kernel_rfl) (fun _ _ _ h => h) (by kernel_rfl) (fun _ => by kernel_rfl) ?_ ?_
          rotate_left
          · intro w' hS
            obtain ⟨s0, s1, s2⟩ := hS
            go_simp
            try with_reducible rfl
          refine anyS_take (i := 2) (v := ?_) (by kernel_rfl) rfl (by kernel_rfl) (by kernel_rfl) (by kernel_rfl) (fun _ _ _ h => h) (by kernel_rfl) (fun _ => by kernel_rfl) ?_ ?_
          rotate_left
          · intro w' hS
            obtain ⟨s0, s1, s2⟩ := hS
            go_simp
            try with_reducible rfl
          refine anyS_take (i := 3) (v := ?_) (by kernel_rfl) rfl (by kernel_rfl) (by kernel_rfl) (by kernel_rfl) (fun _ _ _ h => h) (by kernel_rfl) (fun _ => by kernel_rfl) ?_ ?_
          rotate_left
          · intro w' hS
            obtain ⟨s0, s1, s2⟩ := hS
            go_simp
            try with_reducible rfl
          refine anyS_take (i := 4) (v := ?_) (by kernel_rfl) rfl (by kernel_rfl) (by kernel_rfl) (by kernel_rfl) (fun _ _ _ h => h) (by kernel_rfl) (fun _ => by kernel_rfl) ?_ ?_
          rotate_left
          · intro w' hS
            obtain ⟨s0, s1, s2⟩ := hS
            go_simp
            try with_reducible rfl
          refine anyS_take (i := 5) (v := ?_) (by kernel_rfl) rfl (by kernel_rfl) (by kernel_rfl) (by kernel_rfl) (fun _ _ _ h => h) (by kernel_rfl) (fun _ => by kernel_rfl) ?_ ?_
          rotate_left
          · intro w' hS
            obtain ⟨s0, s1, s2⟩ := hS
            go_simp
            try with_reducible rfl
          refine anyS_take (i := 6) (v := ?_) (by kernel_rfl) rfl (by kernel_rfl) (by kernel_rfl) (by kernel_rfl) (fun _ _ _ h => h) (by kernel_rfl) (fun _ => by kernel_rfl) ?_ ?_
          rotate_left
          · intro w' hS
            obtain ⟨s0, s1, s2⟩ := hS
            go_simp
            try with_reducible rfl
          refine anyS_one (i := 7) (by kernel_rfl) rfl (HSQ.out) (fun K hK => ?_)
          go_simp
          gi_wp2_with ((refine ⟨trivial, ?_⟩; gi_at_call 14; refine CallsIn.mono (F := Fence.wide) (callsIn_wide.2 HLQ.out) ?_; rintro e w9 ⟨rfl, rfl⟩; dsimp only))
          refine anyS_one (i := 8) (by kernel_rfl) rfl (HSQ.out) (fun K hK => ?_)
          go_simp
          refine hK _ _ ?_
          clear hK K
          refine anyS_take (i := 9) (v := ?_) (by kernel_rfl) rfl (by kernel_rfl) (by kernel_rfl) (by kernel_rfl) (fun _ _ _ h => h) (by kernel_rfl) (fun _ => by kernel_rfl) ?_ ?_
          rotate_left
          · intro w' hS
            obtain ⟨s0, s1, s2⟩ := hS
            go_simp
            try with_reducible rfl
          refine anyS_take (i := 10) (v := ?_) (by kernel_rfl) rfl (by kernel_rfl) (by kernel_rfl) (by kernel_rfl) (fun _ _ _ h => h) (by kernel_rfl) (fun _ => by kernel_rfl) ?_ ?_
          rotate_left
          · intro w' hS
            obtain ⟨s0, s1, s2⟩ := hS
            go_simp
            try with_reducible rfl
          refine anyS_take (i := 11) (v := ?_) (by kernel_rfl) rfl (by kernel_rfl) (by kernel_rfl) (by kernel_rfl) (fun _ _ _ h => h) (by kernel_rfl) (fun _ => by kernel_rfl) ?_ ?_
          rotate_left
          · intro w' hS
            obtain ⟨s0, s1, s2⟩ := hS
            go_simp
            try with_reducible rfl
          refine anyS_take (i := 12) (v := ?_) (by kernel_rfl) rfl (by kernel_rfl) (by kernel_rfl) (by kernel_rfl) (fun _ _ _ h => h) (by kernel_rfl) (fun _ => by kernel_rfl) ?_ ?_
          rotate_left
          · intro w' hS
            obtain ⟨s0, s1, s2⟩ := hS
            go_simp
            try with_reducible rfl
          refine anyS_take (i := 13) (v := ?_) (by kernel_rfl) rfl (by kernel_rfl) (by kernel_rfl) (by kernel_rfl) (fun _ _ _ h => h) (by kernel_rfl) (fun _ => by kernel_rfl) ?_ ?_
          rotate_left
          · intro w' hS
            obtain ⟨s0, s1, s2⟩ := hS
            go_simp
            try with_reducible rfl
          refine anyS_take (i := 14) (v := ?_) (by kernel_rfl) rfl (by kernel_rfl) (by kernel_rfl) (by kernel_rfl) (fun _ _ _ h => h) (by kernel_rfl) (fun _ => by kernel_rfl) ?_ ?_
          rotate_left
          · intro w' hS
            obtain ⟨s0, s1, s2⟩ := hS
            go_simp
            try with_reducible rfl
          refine anyS_one (i := 15) (by kernel_rfl) rfl (HSQ.out) (fun K hK => ?_)
          go_simp
          gi_wp2_with ((refine ⟨trivial, ?_⟩; gi_at_call 15; refine CallsIn.mono (F := Fence.wide) (callsIn_wide.2 HPQ.out) ?_; rintro e w9 ⟨rfl, rfl⟩; dsimp only))
          refine anyS_one (i := 16) (by kernel_rfl) rfl (HSQ.out) (fun K hK => ?_)
          go_simp
          refine hK _ _ ?_
          clear hK K
          refine anyS_take (i := 17) (v := ?_) (by kernel_rfl) rfl (by kernel_rfl) (by kernel_rfl) (by kernel_rfl) (fun _ _ _ h => h) (by kernel_rfl) (fun _ => by kernel_rfl) ?_ ?_
          rotate_left
          · intro w' hS
            obtain ⟨s0, s1, s2⟩ := hS
            go_simp
            try with_reducible rfl
          refine anyS_take (i := 18) (v := ?_) (by kernel_rfl) rfl (by kernel_rfl) (by kernel_rfl) (by kernel_rfl) (fun _ _ _ h => h) (by kernel_rfl) (fun _ => by kernel_rfl) ?_ ?_
          rotate_left
          · intro w' hS
            obtain ⟨s0, s1, s2⟩ := hS
            go_simp
            try with_reducible rfl
          refine anyS_skip (i := 19) (by kernel_rfl) rfl (by kernel_rfl) (by kernel_rfl) (by kernel_rfl) (fun _ _ _ h => h) (by kernel_rfl) (fun _ => by kernel_rfl) ?_
          refine anyS_skip (i := 20) (by kernel_rfl) rfl (by kernel_rfl) (by kernel_rfl) (by kernel_rfl) (fun _ _ _ h => h) (by kernel_rfl) (fun _ => by kernel_rfl) ?_
          refine anyS_skip (i := 21) (by kernel_rfl) rfl (by kernel_rfl) (by kernel_rfl) (by kernel_rfl) (fun _ _ _ h => h) (by kernel_rfl) (fun _ => by kernel_rfl) ?_
          refine anyS_skip (i := 22) (by kernel_rfl) rfl (by kernel_rfl) (by kernel_rfl) (by kernel_rfl) (fun _ _ _ h => h) (by kernel_rfl) (fun _ => by kernel_rfl) ?_
          refine anyS_skip (i := 23) (by kernel_rfl) rfl (by kernel_rfl) (by kernel_rfl) (by kernel_rfl) (fun _ _ _ h => h) (by kernel_rfl) (fun _ => by kernel_rfl) ?_
          refine anyS_skip (i := 24) (by kernel_rfl) rfl (by kernel_rfl) (by kernel_rfl) (by kernel_rfl) (fun _ _ _ h => h) (by kernel_rfl) (fun _ => by kernel_rfl) ?_
          refine anyS_skip (i := 25) (by kernel_rfl) rfl (by kernel_rfl) (by kernel_rfl) (by kernel_rfl) (fun _ _ _ h => h) (by kernel_rfl) (fun _ => by kernel_rfl) ?_
          refine anyS_skip (i := 26) (by kernel_rfl) rfl (by kernel_rfl) (by kernel_rfl) (by kernel_rfl) (fun _ _ _ h => h) (by kernel_rfl) (fun _ => by kernel_rfl) ?_
          refine anyS_skip (i := 27) (by kernel_rfl) rfl (by kernel_rfl) (by kernel_rfl) (by kernel_rfl) (fun _ _ _ h => h) (by kernel_rfl) (fun _ => by kernel_rfl) ?_
          refine anyS_skip (i := 28) (by kernel_rfl) rfl (by kernel_rfl) (by kernel_rfl) (by kernel_rfl) (fun _ _ _ h => h) (by kernel_rfl) (fun _ => by kernel_rfl) ?_
          refine anyS_skip (i := 29) (by kernel_rfl) rfl (by kernel_rfl) (by kernel_rfl) (by kernel_rfl) (fun _ _ _ h => h) (by kernel_rfl) (fun _ => by kernel_rfl) ?_
          refine anyS_skip (i := 30) (by kernel_rfl) rfl (by kernel_rfl) (by kernel_rfl) (by kernel_rfl) (fun _ _ _ h => h) (by kernel_rfl) (fun _ => by kernel_rfl) ?_
          refine anyS_skip (i := 31) (by kernel_rfl) rfl (by kernel_rfl) (by kernel_rfl) (by kernel_rfl) (fun _ _ _ h => h) (by kernel_rfl) (fun _ => by kernel_rfl) ?_
          refine anyS_skip (i := 32) (by kernel_rfl) rfl (by kernel_rfl) (by kernel_rfl) (by kernel_rfl) (fun _ _ _ h => h) (by kernel_rfl) (fun _ => by kernel_rfl) ?_
          refine anyS_skip (i := 33) (by kernel_rfl) rfl (by kernel_rfl) (by kernel_rfl) (by kernel_rfl) (fun _ _ _ h => h) (by kernel_rfl) (fun _ => by kernel_rfl) ?_
          refine anyS_skip (i := 35) (by kernel_rfl) rfl (by kernel_rfl) (by kernel_rfl) (by kernel_rfl) (fun _ _ _ h => h) (by kernel_rfl) (fun _ => by kernel_rfl) ?_
          refine anyS_skip1 (i := 34) (by kernel_rfl) rfl (HSQ.out) (by kernel_rfl) (fun _ _ => trivial) ?_
          refine anyS_skip (i := 36) (by kernel_rfl) rfl (by kernel_rfl) (by kernel_rfl) (by kernel_rfl) (fun _ _ _ h => h) (by kernel_rfl) (fun _ => by kernel_rfl) ?_
          refine anyS_skip (i := 37) (by kernel_rfl) rfl (by kernel_rfl) (by kernel_rfl) (by kernel_rfl) (fun _ _ _ h => h) (by kernel_rfl) (fun _ => by kernel_rfl) ?_
          refine anyS_take (i := 38) (v := ?_) (by kernel_rfl) rfl (by kernel_rfl) (by kernel_rfl) (by kernel_rfl) (fun _ _ _ h => h) (by kernel_rfl) (fun _ => by kernel_rfl) ?_ ?_
          rotate_left
          · intro w' hS
            obtain ⟨s0, s1, s2⟩ := hS
            go_simp
            try with_reducible rfl
          refine anyS_take (i := 39) (v := ?_) (by kernel_rfl) rfl (by kernel_rfl) (by kernel_rfl) (by kernel_rfl) (fun _ _ _ h => h) (by kernel_rfl) (fun _ => by kernel_rfl) ?_ ?_
          rotate_left
          · intro w' hS
            obtain ⟨s0, s1, s2⟩ := hS
            go_simp
            try with_reducible rfl
          refine anyS_one (i := 40) (by kernel_rfl) rfl (HSQ.out) (fun K hK => ?_)
          go_simp
          refine hK _ _ ?_
          clear hK K
          refine anyS_done (by kernel_rfl) (keep11s _ _ (Nat.le_refl _) NQ NQ5 HSQ.out) ?_ _
          refine NoPanic.normal ?_
          have HB5 := Lib.hid (show BoardAt (wr.drew.setCell ⟨w2.heap.size, k, none⟩ (.bool true)) lo g B from (HBD.out.later (Below.refl _ _).drew).kept (by simp) (fun i hi => heap_setCell_other _ ⟨w2.heap.size, k, none⟩ i _ (Nat.ne_of_lt (HLT.out i hi))))
          have HR5 := Lib.hid (row_step (HR.out.drew) hlt HWK.out)
          have HE5 := Lib.hid (And.left (show Below w2.heap.size w2 (wr.drew.setCell ⟨w2.heap.size, k, none⟩ (.bool true)) ∧ _ from keep11s _ _ (Nat.le_refl _) NQ NQ5 HSQ.out))
          go_wp2
          go_roundw
          case rel => exact ⟨k + 1, by omega, by go_num, HR5, HB5, HE5⟩
          case measure => simp [intOf]; omega
        | false =>
          cases h3 : decide (0 ≤ dr) with
          | false =>
            have HWK := Lib.hid (show wantT B x.dry k = false from by rw [HWV.out, h1, h2, h3]; rfl)
            go_upto_region 11 with fail
            refine wp_region_noPanic ?_
            refine (wpIn_wide (n := 9)).1 ?_
            refine wpIn_region_any (by kernel_rfl) ?_
            change wpAnyIn _ _ _ _ _ _ _ _ _ (World.drew wr)
            refine anyS.any (S := (fun w' => Below w2.heap.size w2 w' ∧ w'.cell? ⟨q, 1, none⟩ = some (.pointer (some ⟨tb, 0, none⟩)) ∧ w'.cell? ⟨q5, 4, none⟩ = some (.int .i64 dr))) ?_
            refine anyS_take (i := 0) (v := ?_) (by kernel_rfl) rfl (by kernel_rfl) (by kernel_rfl) (by kernel_rfl) (fun _ _ _ h => h) (by kernel_rfl) (fun _ => by kernel_rfl) ?_ ?_
            rotate_left
            · intro w' hS
              obtain ⟨s0, s1, s2⟩ := hS
              go_simp
              try with_reducible rfl
            refine anyS_take (i := 1) (v := ?_) (by kernel_rfl) rfl (by kernel_rfl) (by kernel_rfl) (by kernel_rfl) (fun _ _ _ h => h) (by kernel_rfl) (fun _ => by kernel_rfl) ?_ ?_
            rotate_left
            · intro w' hS
              obtain ⟨s0, s1, s2⟩ := hS
              go_simp
              try with_reducible rfl
            refine anyS_take (i := 2) (v := ?_) (by kernel_rfl) rfl (by kernel_rfl) (by kernel_rfl) (by kernel_rfl) (fun _ _ _ h => h) (by kernel_rfl) (fun _ => by kernel_rfl) ?_ ?_
            rotate_left
            · intro w' hS
              obtain ⟨s0, s1, s2⟩ := hS
              go_simp
              try with_reducible rfl
            refine anyS_take (i := 3) (v := ?_) (by kernel_rfl) rfl (by kernel_rfl) (by kernel_rfl) (by kernel_rfl) (fun _ _ _ h => h) (by kernel_rfl) (fun _ => by kernel_rfl) ?_ ?_
            rotate_left
            · intro w' hS
              obtain ⟨s0, s1, s2⟩ := hS
              go_simp
              try with_reducible rfl
            refine anyS_take (i := 4) (v := ?_) (by kernel_rfl) rfl (by kernel_rfl) (by kernel_rfl) (by kernel_rfl) (fun _ _ _ h => h) (by kernel_rfl) (fun _ => by kernel_rfl) ?_ ?_
            rotate_left
            · intro w' hS
              obtain ⟨s0, s1, s2⟩ := hS
              go_simp
              try with_reducible rfl
            refine anyS_take (i := 5) (v := ?_) (by kernel_rfl) rfl (by kernel_rfl) (by kernel_rfl) (by kernel_rfl) (fun _ _ _ h => h) (by kernel_rfl) (fun _ => by kernel_rfl) ?_ ?_
            rotate_left
            · intro w' hS
              obtain ⟨s0, s1, s2⟩ := hS
              go_simp
              try with_reducible rfl
            refine anyS_take (i := 6) (v := ?_) (by kernel_rfl) rfl (by kernel_rfl) (by kernel_rfl) (by kernel_rfl) (fun _ _ _ h => h) (by kernel_rfl) (fun _ => by kernel_rfl) ?_ ?_
            rotate_left
            · intro w' hS
              obtain ⟨s0, s1, s2⟩ := hS
              go_simp
              try with_reducible rfl
            refine anyS_one (i := 7) (by kernel_rfl) rfl (HSQ.out) (fun K hK => ?_)
            go_simp
            gi_wp2_with ((refine ⟨trivial, ?_⟩; gi_at_call 14; refine CallsIn.mono (F := Fence.wide) (callsIn_wide.2 HLQ.out) ?_; rintro e w9 ⟨rfl, rfl⟩; dsimp only))
            refine anyS_one (i := 8) (by kernel_rfl) rfl (HSQ.out) (fun K hK => ?_)
            go_simp
            refine hK _ _ ?_
            clear hK K
            refine anyS_take (i := 9) (v := ?_) (by kernel_rfl) rfl (by kernel_rfl) (by kernel_rfl) (by kernel_rfl) (fun _ _ _ h => h) (by kernel_rfl) (fun _ => by kernel_rfl) ?_ ?_
            rotate_left
            · intro w' hS
              obtain ⟨s0, s1, s2⟩ := hS
              go_simp
              try with_reducible rfl
            refine anyS_take (i := 10) (v := ?_) (by kernel_rfl) rfl (by kernel_rfl) (by kernel_rfl) (by kernel_rfl) (fun _ _ _ h => h) (by kernel_rfl) (fun _ => by kernel_rfl) ?_ ?_
            rotate_left
            · intro w' hS
              obtain ⟨s0, s1, s2⟩ := hS
              go_simp
              try with_reducible rfl
            refine anyS_take (i := 11) (v := ?_) (by kernel_rfl) rfl (by kernel_rfl) (by kernel_rfl) (by kernel_rfl) (fun _ _ _ h => h) (by kernel_rfl) (fun _ => by kernel_rfl) ?_ ?_
            rotate_left
            · intro w' hS
              obtain ⟨s0, s1, s2⟩ := hS
              go_simp
              try with_reducible rfl
            refine anyS_take (i := 12) (v := ?_) (by kernel_rfl) rfl (by kernel_rfl) (by kernel_rfl) (by kernel_rfl) (fun _ _ _ h => h) (by kernel_rfl) (fun _ => by kernel_rfl) ?_ ?_
            rotate_left
            · intro w' hS
              obtain ⟨s0, s1, s2⟩ := hS
              go_simp
              try with_reducible rfl
            refine anyS_take (i := 13) (v := ?_) (by kernel_rfl) rfl (by kernel_rfl) (by kernel_rfl) (by kernel_rfl) (fun _ _ _ h => h) (by kernel_rfl) (fun _ => by kernel_rfl) ?_ ?_
            rotate_left
            · intro w' hS
              obtain ⟨s0, s1, s2⟩ := hS
              go_simp
              try with_reducible rfl
            refine anyS_take (i := 14) (v := ?_) (by kernel_rfl) rfl (by kernel_rfl) (by kernel_rfl) (by kernel_rfl) (fun _ _ _ h => h) (by kernel_rfl) (fun _ => by kernel_rfl) ?_ ?_
            rotate_left
            · intro w' hS
              obtain ⟨s0, s1, s2⟩ := hS
              go_simp
              try with_reducible rfl
            refine anyS_one (i := 15) (by kernel_rfl) rfl (HSQ.out) (fun K hK => ?_)
            go_simp
            gi_wp2_with ((refine ⟨trivial, ?_⟩; gi_at_call 15; refine CallsIn.mono (F := Fence.wide) (callsIn_wide.2 HPQ.out) ?_; rintro e w9 ⟨rfl, rfl⟩; dsimp only))
            refine anyS_one (i := 16) (by kernel_rfl) rfl (HSQ.out) (fun K hK => ?_)
            go_simp
            refine hK _ _ ?_
            clear hK K
            refine anyS_take (i := 17) (v := ?_) (by kernel_rfl) rfl (by kernel_rfl) (by kernel_rfl) (by kernel_rfl) (fun _ _ _ h => h) (by kernel_rfl) (fun _ => by kernel_rfl) ?_ ?_
            rotate_left
            · intro w' hS
              obtain ⟨s0, s1, s2⟩ := hS
              go_simp
              try with_reducible rfl
            refine anyS_take (i := 18) (v := ?_) (by kernel_rfl) rfl (by kernel_rfl) (by kernel_rfl) (by kernel_rfl) (fun _ _ _ h => h) (by kernel_rfl) (fun _ => by kernel_rfl) ?_ ?_
            rotate_left
            · intro w' hS
              obtain ⟨s0, s1, s2⟩ := hS
              go_simp
              try with_reducible rfl
            refine anyS_take (i := 19) (v := ?_) (by kernel_rfl) rfl (by kernel_rfl) (by kernel_rfl) (by kernel_rfl) (fun _ _ _ h => h) (by kernel_rfl) (fun _ => by kernel_rfl) ?_ ?_
            rotate_left
            · intro w' hS
              obtain ⟨s0, s1, s2⟩ := hS
              go_simp
              try with_reducible rfl
            refine anyS_take (i := 20) (v := ?_) (by kernel_rfl) rfl (by kernel_rfl) (by kernel_rfl) (by kernel_rfl) (fun _ _ _ h => h) (by kernel_rfl) (fun _ => by kernel_rfl) ?_ ?_
            rotate_left
            · intro w' hS
              obtain ⟨s0, s1, s2⟩ := hS
              go_simp
              try with_reducible rfl
            refine anyS_one (i := 21) (by kernel_rfl) rfl (HSQ.out) (fun K hK => ?_)
            go_simp
            refine hK _ _ ?_
            clear hK K
            refine anyS_take (i := 22) (v := ?_) (by kernel_rfl) rfl (by kernel_rfl) (by kernel_rfl) (by kernel_rfl) (fun _ _ _ h => h) (by kernel_rfl) (fun _ => by kernel_rfl) ?_ ?_
            rotate_left
            · intro w' hS
              obtain ⟨s0, s1, s2⟩ := hS
              go_simp
              try with_reducible rfl
            refine anyS_skip (i := 23) (by kernel_rfl) rfl (by kernel_rfl) (by kernel_rfl) (by kernel_rfl) (fun _ _ _ h => h) (by kernel_rfl) (fun _ => by kernel_rfl) ?_
            refine anyS_skip (i := 24) (by kernel_rfl) rfl (by kernel_rfl) (by kernel_rfl) (by kernel_rfl) (fun _ _ _ h => h) (by kernel_rfl) (fun _ => by kernel_rfl) ?_
            refine anyS_skip (i := 25) (by kernel_rfl) rfl (by kernel_rfl) (by kernel_rfl) (by kernel_rfl) (fun _ _ _ h => h) (by kernel_rfl) (fun _ => by kernel_rfl) ?_
            refine anyS_take (i := 26) (v := ?_) (by kernel_rfl) rfl (by kernel_rfl) (by kernel_rfl) (by kernel_rfl) (fun _ _ _ h => h) (by kernel_rfl) (fun _ => by kernel_rfl) ?_ ?_
            rotate_left
            · intro w' hS
              obtain ⟨s0, s1, s2⟩ := hS
              go_simp
              try with_reducible rfl
            refine anyS_take (i := 27) (v := ?_) (by kernel_rfl) rfl (by kernel_rfl) (by kernel_rfl) (by kernel_rfl) (fun _ _ _ h => h) (by kernel_rfl) (fun _ => by kernel_rfl) ?_ ?_
            rotate_left
            · intro w' hS
              obtain ⟨s0, s1, s2⟩ := hS
              go_simp
              try with_reducible rfl
            refine anyS_skip (i := 28) (by kernel_rfl) rfl (by kernel_rfl) (by kernel_rfl) (by kernel_rfl) (fun _ _ _ h => h) (by kernel_rfl) (fun _ => by kernel_rfl) ?_
            refine anyS_skip (i := 29) (by kernel_rfl) rfl (by kernel_rfl) (by kernel_rfl) (by kernel_rfl) (fun _ _ _ h => h) (by kernel_rfl) (fun _ => by kernel_rfl) ?_
            refine anyS_skip (i := 30) (by kernel_rfl) rfl (by kernel_rfl) (by kernel_rfl) (by kernel_rfl) (fun _ _ _ h => h) (by kernel_rfl) (fun _ => by kernel_rfl) ?_
            refine anyS_skip (i := 31) (by kernel_rfl) rfl (by kernel_rfl) (by kernel_rfl) (by kernel_rfl) (fun _ _ _ h => h) (by kernel_rfl) (fun _ => by kernel_rfl) ?_
            refine anyS_skip (i := 32) (by kernel_rfl) rfl (by kernel_rfl) (by kernel_rfl) (by kernel_rfl) (fun _ _ _ h => h) (by kernel_rfl) (fun _ => by kernel_rfl) ?_
            refine anyS_skip (i := 33) (by kernel_rfl) rfl (by kernel_rfl) (by kernel_rfl) (by kernel_rfl) (fun _ _ _ h => h) (by kernel_rfl) (fun _ => by kernel_rfl) ?_
            refine anyS_skip (i := 35) (by kernel_rfl) rfl (by kernel_rfl) (by kernel_rfl) (by kernel_rfl) (fun _ _ _ h => h) (by kernel_rfl) (fun _ => by kernel_rfl) ?_
            refine anyS_skip1 (i := 34) (by kernel_rfl) rfl (HSQ.out) (by kernel_rfl) (fun _ _ => trivial) ?_
            refine anyS_skip (i := 36) (by kernel_rfl) rfl (by kernel_rfl) (by kernel_rfl) (by kernel_rfl) (fun _ _ _ h => h) (by kernel_rfl) (fun _ => by kernel_rfl) ?_
            refine anyS_take (i := 37) (v := ?_) (by kernel_rfl) rfl (by kernel_rfl) (by kernel_rfl) (by kernel_rfl) (fun _ _ _ h => h) (by kernel_rfl) (fun _ => by kernel_rfl) ?_ ?_
            rotate_left
            · intro w' hS
              obtain ⟨s0, s1, s2⟩ := hS
              go_simp
              try with_reducible rfl
            refine anyS_take (i := 38) (v := ?_) (by kernel_rfl) rfl (by kernel_rfl) (by kernel_rfl) (by kernel_rfl) (fun _ _ _ h => h) (by kernel_rfl) (fun _ => by kernel_rfl) ?_ ?_
            rotate_left
            · intro w' hS
              obtain ⟨s0, s1, s2⟩ := hS
              go_simp
              try with_reducible rfl
            refine anyS_take (i := 39) (v := ?_) (by kernel_rfl) rfl (by kernel_rfl) (by kernel_rfl) (by kernel_rfl) (fun _ _ _ h => h) (by kernel_rfl) (fun _ => by kernel_rfl) ?_ ?_
            rotate_left
            · intro w' hS
              obtain ⟨s0, s1, s2⟩ := hS
              go_simp
              try with_reducible rfl
            refine anyS_one (i := 40) (by kernel_rfl) rfl (HSQ.out) (fun K hK => ?_)
            go_simp
            refine hK _ _ ?_
            clear hK K
            refine anyS_done (by kernel_rfl) (keep11s _ _ (Nat.le_refl _) NQ NQ5 HSQ.out) ?_ _
            refine NoPanic.normal ?_
            have HB5 := Lib.hid (show BoardAt (wr.drew.setCell ⟨w2.heap.size, k, none⟩ (.bool false)) lo g B from (HBD.out.later (Below.refl _ _).drew).kept (by simp) (fun i hi => heap_setCell_other _ ⟨w2.heap.size, k, none⟩ i _ (Nat.ne_of_lt (HLT.out i hi))))
            have HR5 := Lib.hid (row_step (HR.out.drew) hlt HWK.out)
            have HE5 := Lib.hid (And.left (show Below w2.heap.size w2 (wr.drew.setCell ⟨w2.heap.size, k, none⟩ (.bool false)) ∧ _ from keep11s _ _ (Nat.le_refl _) NQ NQ5 HSQ.out))
            go_wp2
            go_roundw
            case rel => exact ⟨k + 1, by omega, by go_num, HR5, HB5, HE5⟩
            case measure => simp [intOf]; omega
          | true =>
            cases h4 : decide (dr < 4) with
            | false =>
              have HWK := Lib.hid (show wantT B x.dry k = false from by rw [HWV.out, h1, h2, h3, h4]; rfl)
              go_upto_region 11 with fail
              refine wp_region_noPanic ?_
              refine (wpIn_wide (n := 9)).1 ?_
              refine wpIn_region_any (by kernel_rfl) ?_
              change wpAnyIn _ _ _ _ _ _ _ _ _ (World.drew wr)
              refine anyS.any (S := (fun w' => Below w2.heap.size w2 w' ∧ w'.cell? ⟨q, 1, none⟩ = some (.pointer (some ⟨tb, 0, none⟩)) ∧ w'.cell? ⟨q5, 4, none⟩ = some (.int .i64 dr))) ?_
              refine anyS_take (i := 0) (v := ?_) (by kernel_rfl) rfl (by kernel_rfl) (by kernel_rfl) (by kernel_rfl) (fun _ _ _ h => h) (by kernel_rfl) (fun _ => by kernel_rfl) ?_ ?_
              rotate_left
              · intro w' hS
                obtain ⟨s0, s1, s2⟩ := hS
                go_simp
                try with_reducible rfl
              refine anyS_take (i := 1) (v := ?_) (by kernel_rfl) rfl (by kernel_rfl) (by kernel_rfl) (by kernel_rfl) (fun _ _ _ h => h) (by kernel_rfl) (fun _ => by kernel_rfl) ?_ ?_
              rotate_left
              · intro w' hS
                obtain ⟨s0, s1, s2⟩ := hS
                go_simp
                try with_reducible rfl
              refine anyS_take (i := 2) (v := ?_) (by kernel_rfl) rfl (by kernel_rfl) (by kernel_rfl) (by kernel_rfl) (fun _ _ _ h => h) (by kernel_rfl) (fun _ => by kernel_rfl) ?_ ?_
              rotate_left
              · intro w' hS
                obtain ⟨s0, s1, s2⟩ := hS
                go_simp
                try with_reducible rfl
              refine anyS_take (i := 3) (v := ?_) (by kernel_rfl) rfl (by kernel_rfl) (by kernel_rfl) (by kernel_rfl) (fun _ _ _ h => h) (by kernel_rfl) (fun _ => by kernel_rfl) ?_ ?_
              rotate_left
              · intro w' hS
                obtain ⟨s0, s1, s2⟩ := hS
                go_simp
                try with_reducible rfl
              refine anyS_take (i := 4) (v := ?_) (by kernel_rfl) rfl (by kernel_rfl) (by kernel_rfl) (by kernel_rfl) (fun _ _ _ h => h) (by kernel_rfl) (fun _ => by kernel_rfl) ?_ ?_
              rotate_left
              · intro w' hS
                obtain ⟨s0, s1, s2⟩ := hS
                go_simp
                try with_reducible rfl
              refine anyS_take (i := 5) (v := ?_) (by kernel_rfl) rfl (by kernel_rfl) (by kernel_rfl) (by kernel_rfl) (fun _ _ _ h => h) (by kernel_rfl) (fun _ => by kernel_rfl) ?_ ?_
              rotate_left
              · intro w' hS
                obtain ⟨s0, s1, s2⟩ := hS
                go_simp
                try with_reducible rfl
              refine anyS_take (i := 6) (v := ?_) (by kernel_rfl) rfl (by kernel_rfl) (by kernel_rfl) (by kernel_rfl) (fun _ _ _ h => h) (by kernel_rfl) (fun _ => by kernel_rfl) ?_ ?_
              rotate_left
              · intro w' hS
                obtain ⟨s0, s1, s2⟩ := hS
                go_simp
                try with_reducible rfl
              refine anyS_one (i := 7) (by kernel_rfl) rfl (HSQ.out) (fun K hK => ?_)
              go_simp
              gi_wp2_with ((refine ⟨trivial, ?_⟩; gi_at_call 14; refine CallsIn.mono (F := Fence.wide) (callsIn_wide.2 HLQ.out) ?_; rintro e w9 ⟨rfl, rfl⟩; dsimp only))
              refine anyS_one (i := 8) (by kernel_rfl) rfl (HSQ.out) (fun K hK => ?_)
              go_simp
              refine hK _ _ ?_
              clear hK K
              refine anyS_take (i := 9) (v := ?_) (by kernel_rfl) rfl (by kernel_rfl) (by kernel_rfl) (by kernel_rfl) (fun _ _ _ h => h) (by kernel_rfl) (fun _ => by kernel_rfl) ?_ ?_
              rotate_left
              · intro w' hS
                obtain ⟨s0, s1, s2⟩ := hS
                go_simp
                try with_reducible rfl
              refine anyS_take (i := 10) (v := ?_) (by kernel_rfl) rfl (by kernel_rfl) (by kernel_rfl) (by kernel_rfl) (fun _ _ _ h => h) (by kernel_rfl) (fun _ => by kernel_rfl) ?_ ?_
              rotate_left
              · intro w' hS
                obtain ⟨s0, s1, s2⟩ := hS
                go_simp
                try with_reducible rfl
              refine anyS_take (i := 11) (v := ?_) (by kernel_rfl) rfl (by kernel_rfl) (by kernel_rfl) (by kernel_rfl) (fun _ _ _ h => h) (by kernel_rfl) (fun _ => by kernel_rfl) ?_ ?_
              rotate_left
              · intro w' hS
                obtain ⟨s0, s1, s2⟩ := hS
                go_simp
                try with_reducible rfl
              refine anyS_take (i := 12) (v := ?_) (by kernel_rfl) rfl (by kernel_rfl) (by kernel_rfl) (by kernel_rfl) (fun _ _ _ h => h) (by kernel_rfl) (fun _ => by kernel_rfl) ?_ ?_
              rotate_left
              · intro w' hS
                obtain ⟨s0, s1, s2⟩ := hS
                go_simp
                try with_reducible rfl
              refine anyS_take (i := 13) (v := ?_) (by kernel_rfl) rfl (by kernel_rfl) (by kernel_rfl) (by kernel_rfl) (fun _ _ _ h => h) (by kernel_rfl) (fun _ => by kernel_rfl) ?_ ?_
              rotate_left
              · intro w' hS
                obtain ⟨s0, s1, s2⟩ := hS
                go_simp
                try with_reducible rfl
              refine anyS_take (i := 14) (v := ?_) (by kernel_rfl) rfl (by kernel_rfl) (by kernel_rfl) (by kernel_rfl) (fun _ _ _ h => h) (by kernel_rfl) (fun _ => by kernel_rfl) ?_ ?_
              rotate_left
              · intro w' hS
                obtain ⟨s0, s1, s2⟩ := hS
                go_simp
                try with_reducible rfl
              refine anyS_one (i := 15) (by kernel_rfl) rfl (HSQ.out) (fun K hK => ?_)
              go_simp
              gi_wp2_with ((refine ⟨trivial, ?_⟩; gi_at_call 15; refine CallsIn.mono (F := Fence.wide) (callsIn_wide.2 HPQ.out) ?_; rintro e w9 ⟨rfl, rfl⟩; dsimp only))
              refine anyS_one (i := 16) (by kernel_rfl) rfl (HSQ.out) (fun K hK => ?_)
              go_simp
              refine hK _ _ ?_
              clear hK K
              refine anyS_take (i := 17) (v := ?_) (by kernel_rfl) rfl (by kernel_rfl) (by kernel_rfl) (by kernel_rfl) (fun _ _ _ h => h) (by kernel_rfl) (fun _ => by kernel_rfl) ?_ ?_
              rotate_left
              · intro w' hS
                obtain ⟨s0, s1, s2⟩ := hS
                go_simp
                try with_reducible rfl
              refine anyS_take (i := 18) (v := ?_) (by kernel_rfl) rfl (by kernel_rfl) (by kernel_rfl) (by kernel_rfl) (fun _ _ _ h => h) (by kernel_rfl) (fun _ => by kernel_rfl) ?_ ?_
              rotate_left
              · intro w' hS
                obtain ⟨s0, s1, s2⟩ := hS
                go_simp
                try with_reducible rfl
              refine anyS_take (i := 19) (v := ?_) (by kernel_rfl) rfl (by kernel_rfl) (by kernel_rfl) (by kernel_rfl) (fun _ _ _ h => h) (by kernel_rfl) (fun _ => by kernel_rfl) ?_ ?_
              rotate_left
              · intro w' hS
                obtain ⟨s0, s1, s2⟩ := hS
                go_simp
                try with_reducible rfl
              refine anyS_take (i := 20) (v := ?_) (by kernel_rfl) rfl (by kernel_rfl) (by kernel_rfl) (by kernel_rfl) (fun _ _ _ h => h) (by kernel_rfl) (fun _ => by kernel_rfl) ?_ ?_
              rotate_left
              · intro w' hS
                obtain ⟨s0, s1, s2⟩ := hS
                go_simp
                try with_reducible rfl
              refine anyS_one (i := 21) (by kernel_rfl) rfl (HSQ.out) (fun K hK => ?_)
              go_simp
              refine hK _ _ ?_
              clear hK K
              refine anyS_take (i := 22) (v := ?_) (by kernel_rfl) rfl (by kernel_rfl) (by kernel_rfl) (by kernel_rfl) (fun _ _ _ h => h) (by kernel_rfl) (fun _ => by kernel_rfl) ?_ ?_
              rotate_left
              · intro w' hS
                obtain ⟨s0, s1, s2⟩ := hS
                go_simp
                try with_reducible rfl
              refine anyS_take (i := 23) (v := ?_) (by kernel_rfl) rfl (by kernel_rfl) (by kernel_rfl) (by kernel_rfl) (fun _ _ _ h => h) (by kernel_rfl) (fun _ => by kernel_rfl) ?_ ?_
              rotate_left
              · intro w' hS
                obtain ⟨s0, s1, s2⟩ := hS
                go_simp
                try with_reducible rfl
              refine anyS_take (i := 24) (v := ?_) (by kernel_rfl) rfl (by kernel_rfl) (by kernel_rfl) (by kernel_rfl) (fun _ _ _ h => h) (by kernel_rfl) (fun _ => by kernel_rfl) ?_ ?_
              rotate_left
              · intro w' hS
                obtain ⟨s0, s1, s2⟩ := hS
                go_simp
                try with_reducible rfl
              refine anyS_one (i := 25) (by kernel_rfl) rfl (HSQ.out) (fun K hK => ?_)
              go_simp
              refine hK _ _ ?_
              clear hK K
              refine anyS_take (i := 26) (v := ?_) (by kernel_rfl) rfl (by kernel_rfl) (by kernel_rfl) (by kernel_rfl) (fun _ _ _ h => h) (by kernel_rfl) (fun _ => by kernel_rfl) ?_ ?_
              rotate_left
              · intro w' hS
                obtain ⟨s0, s1, s2⟩ := hS
                go_simp
                try with_reducible rfl
              refine anyS_take (i := 27) (v := ?_) (by kernel_rfl) rfl (by kernel_rfl) (by kernel_rfl) (by kernel_rfl) (fun _ _ _ h => h) (by kernel_rfl) (fun _ => by kernel_rfl) ?_ ?_
              rotate_left
              · intro w' hS
                obtain ⟨s0, s1, s2⟩ := hS
                go_simp
                try with_reducible rfl
              refine anyS_skip (i := 28) (by kernel_rfl) rfl (by kernel_rfl) (by kernel_rfl) (by kernel_rfl) (fun _ _ _ h => h) (by kernel_rfl) (fun _ => by kernel_rfl) ?_
              refine anyS_skip (i := 29) (by kernel_rfl) rfl (by kernel_rfl) (by kernel_rfl) (by kernel_rfl) (fun _ _ _ h => h) (by kernel_rfl) (fun _ => by kernel_rfl) ?_
              refine anyS_skip (i := 30) (by kernel_rfl) rfl (by kernel_rfl) (by kernel_rfl) (by kernel_rfl) (fun _ _ _ h => h) (by kernel_rfl) (fun _ => by kernel_rfl) ?_
              refine anyS_skip (i := 31) (by kernel_rfl) rfl (by kernel_rfl) (by kernel_rfl) (by kernel_rfl) (fun _ _ _ h => h) (by kernel_rfl) (fun _ => by kernel_rfl) ?_
              refine anyS_skip (i := 32) (by kernel_rfl) rfl (by kernel_rfl) (by kernel_rfl) (by kernel_rfl) (fun _ _ _ h => h) (by kernel_rfl) (fun _ => by kernel_rfl) ?_
              refine anyS_skip (i := 33) (by kernel_rfl) rfl (by kernel_rfl) (by kernel_rfl) (by kernel_rfl) (fun _ _ _ h => h) (by kernel_rfl) (fun _ => by kernel_rfl) ?_
              refine anyS_skip (i := 35) (by kernel_rfl) rfl (by kernel_rfl) (by kernel_rfl) (by kernel_rfl) (fun _ _ _ h => h) (by kernel_rfl) (fun _ => by kernel_rfl) ?_
              refine anyS_skip1 (i := 34) (by kernel_rfl) rfl (HSQ.out) (by kernel_rfl) (fun _ _ => trivial) ?_
              refine anyS_skip (i := 36) (by kernel_rfl) rfl (by kernel_rfl) (by kernel_rfl) (by kernel_rfl) (fun _ _ _ h => h) (by kernel_rfl) (fun _ => by kernel_rfl) ?_
              refine anyS_take (i := 37) (v := ?_) (by kernel_rfl) rfl (by kernel_rfl) (by kernel_rfl) (by kernel_rfl) (fun _ _ _ h => h) (by kernel_rfl) (fun _ => by kernel_rfl) ?_ ?_
              rotate_left
              · intro w' hS
                obtain ⟨s0, s1, s2⟩ := hS
                go_simp
                try with_reducible rfl
              refine anyS_take (i := 38) (v := ?_) (by kernel_rfl) rfl (by kernel_rfl) (by kernel_rfl) (by kernel_rfl) (fun _ _ _ h => h) (by kernel_rfl) (fun _ => by kernel_rfl) ?_ ?_
              rotate_left
              · intro w' hS
                obtain ⟨s0, s1, s2⟩ := hS
                go_simp
                try with_reducible rfl
              refine anyS_take (i := 39) (v := ?_) (by kernel_rfl) rfl (by kernel_rfl) (by kernel_rfl) (by kernel_rfl) (fun _ _ _ h => h) (by kernel_rfl) (fun _ => by kernel_rfl) ?_ ?_
              rotate_left
              · intro w' hS
                obtain ⟨s0, s1, s2⟩ := hS
                go_simp
                try with_reducible rfl
              refine anyS_one (i := 40) (by kernel_rfl) rfl (HSQ.out) (fun K hK => ?_)
              go_simp
              refine hK _ _ ?_
              clear hK K
              refine anyS_done (by kernel_rfl) (keep11s _ _ (Nat.le_refl _) NQ NQ5 HSQ.out) ?_ _
              refine NoPanic.normal ?_
              have HB5 := Lib.hid (show BoardAt (wr.drew.setCell ⟨w2.heap.size, k, none⟩ (.bool false)) lo g B from (HBD.out.later (Below.refl _ _).drew).kept (by simp) (fun i hi => heap_setCell_other _ ⟨w2.heap.size, k, none⟩ i _ (Nat.ne_of_lt (HLT.out i hi))))
              have HR5 := Lib.hid (row_step (HR.out.drew) hlt HWK.out)
              have HE5 := Lib.hid (And.left (show Below w2.heap.size w2 (wr.drew.setCell ⟨w2.heap.size, k, none⟩ (.bool false)) ∧ _ from keep11s _ _ (Nat.le_refl _) NQ NQ5 HSQ.out))
              go_wp2
              go_roundw
              case rel => exact ⟨k + 1, by omega, by go_num, HR5, HB5, HE5⟩
              case measure => simp [intOf]; omega
            | true =>
              cases h5 : (of == (k : Int)) with
              | true =>
                have HWK := Lib.hid (show wantT B x.dry k = true from by rw [HWV.out, h1, h2, h3, h4, h5]; rfl)
                go_upto_region 11 with fail
                refine wp_region_noPanic ?_
                refine (wpIn_wide (n := 9)).1 ?_
                refine wpIn_region_any (by kernel_rfl) ?_
                change wpAnyIn _ _ _ _ _ _ _ _ _ (World.drew wr)
                refine anyS.any (S := (fun w' => Below w2.heap.size w2 w' ∧ w'.cell? ⟨q, 1, none⟩ = some (.pointer (some ⟨tb, 0, none⟩)) ∧ w'.cell? ⟨q5, 4, none⟩ = some (.int .i64 dr))) ?_
                refine anyS_take (i := 0) (v := ?_) (by kernel_rfl) rfl (by kernel_rfl) (by kernel_rfl) (by kernel_rfl) (fun _ _ _ h => h) (by kernel_rfl) (fun _ => by kernel_rfl) ?_ ?_
                rotate_left
                · intro w' hS
                  obtain ⟨s0, s1, s2⟩ := hS
                  go_simp
                  try with_reducible rfl
                refine anyS_take (i := 1) (v := ?_) (by kernel_rfl) rfl (by kernel_rfl) (by kernel_rfl) (by kernel_rfl) (fun _ _ _ h => h) (by kernel_rfl) (fun _ => by kernel_rfl) ?_ ?_
                rotate_left
                · intro w' hS
                  obtain ⟨s0, s1, s2⟩ := hS
                  go_simp
                  try with_reducible rfl
                refine anyS_take (i := 2) (v := ?_) (by kernel_rfl) rfl (by kernel_rfl) (by kernel_rfl) (by kernel_rfl) (fun _ _ _ h => h) (by kernel_rfl) (fun _ => by kernel_rfl) ?_ ?_
                rotate_left
                · intro w' hS
                  obtain ⟨s0, s1, s2⟩ := hS
                  go_simp
                  try with_reducible rfl
                refine anyS_take (i := 3) (v := ?_) (by kernel_rfl) rfl (by kernel_rfl) (by kernel_rfl) (by kernel_rfl) (fun _ _ _ h => h) (by kernel_rfl) (fun _ => by kernel_rfl) ?_ ?_
                rotate_left
                · intro w' hS
                  obtain ⟨s0, s1, s2⟩ := hS
                  go_simp
                  try with_reducible rfl
                refine anyS_take (i := 4) (v := ?_) (by kernel_rfl) rfl (by kernel_rfl) (by kernel_rfl) (by kernel_rfl) (fun _ _ _ h => h) (by kernel_rfl) (fun _ => by kernel_rfl) ?_ ?_
                rotate_left
                · intro w' hS
                  obtain ⟨s0, s1, s2⟩ := hS
                  go_simp
                  try with_reducible rfl
                refine anyS_take (i := 5) (v := ?_) (by kernel_rfl) rfl (by kernel_rfl) (by kernel_rfl) (by kernel_rfl) (fun _ _ _ h => h) (by kernel_rfl) (fun _ => by kernel_rfl) ?_ ?_
                rotate_left
                · intro w' hS
                  obtain ⟨s0, s1, s2⟩ := hS
                  go_simp
                  try with_reducible rfl
                refine anyS_take (i := 6) (v := ?_) (by kernel_rfl) rfl (by kernel_rfl) (by kernel_rfl) (by kernel_rfl) (fun _ _ _ h => h) (by kernel_rfl) (fun _ => by kernel_rfl) ?_ ?_
                rotate_left
                · intro w' hS
                  obtain ⟨s0, s1, s2⟩ := hS
                  go_simp
                  try with_reducible rfl
                refine anyS_one (i := 7) (by kernel_rfl) rfl (HSQ.out) (fun K hK => ?_)
                go_simp
                gi_wp2_with ((refine ⟨trivial, ?_⟩; gi_at_call 14; refine CallsIn.mono (F := Fence.wide) (callsIn_wide.2 HLQ.out) ?_; rintro e w9 ⟨rfl, rfl⟩; dsimp only))
                refine anyS_one (i := 8) (by kernel_rfl) rfl (HSQ.out) (fun K hK => ?_)
                go_simp
                refine hK _ _ ?_
                clear hK K
                refine anyS_take (i := 9) (v := ?_) (by kernel_rfl) rfl (by kernel_rfl) (by kernel_rfl) (by kernel_rfl) (fun _ _ _ h => h) (by kernel_rfl) (fun _ => by kernel_rfl) ?_ ?_
                rotate_left
                · intro w' hS
                  obtain ⟨s0, s1, s2⟩ := hS
                  go_simp
                  try with_reducible rfl
                refine anyS_take (i := 10) (v := ?_) (by kernel_rfl) rfl (by kernel_rfl) (by kernel_rfl) (by kernel_rfl) (fun _ _ _ h => h) (by kernel_rfl) (fun _ => by kernel_rfl) ?_ ?_
                rotate_left
                · intro w' hS
                  obtain ⟨s0, s1, s2⟩ := hS
                  go_simp
                  try with_reducible rfl
                refine anyS_take (i := 11) (v := ?_) (by kernel_rfl) rfl (by kernel_rfl) (by kernel_rfl) (by kernel_rfl) (fun _ _ _ h => h) (by kernel_rfl) (fun _ => by kernel_rfl) ?_ ?_
                rotate_left
                · intro w' hS
                  obtain ⟨s0, s1, s2⟩ := hS
                  go_simp
                  try with_reducible rfl
                refine anyS_take (i := 12) (v := ?_) (by kernel_rfl) rfl (by kernel_rfl) (by kernel_rfl) (by kernel_rfl) (fun _ _ _ h => h) (by kernel_rfl) (fun _ => by kernel_rfl) ?_ ?_
                rotate_left
                · intro w' hS
                  obtain ⟨s0, s1, s2⟩ := hS
                  go_simp
                  try with_reducible rfl
                refine anyS_take (i := 13) (v := ?_) (by kernel_rfl) rfl (by kernel_rfl) (by kernel_rfl) (by kernel_rfl) (fun _ _ _ h => h) (by kernel_rfl) (fun _ => by kernel_rfl) ?_ ?_
                rotate_left
                · intro w' hS
                  obtain ⟨s0, s1, s2⟩ := hS
                  go_simp
                  try with_reducible rfl
                refine anyS_take (i := 14) (v := ?_) (by kernel_rfl) rfl (by kernel_rfl) (by kernel_rfl) (by kernel_rfl) (fun _ _ _ h => h) (by kernel_rfl) (fun _ => by kernel_rfl) ?_ ?_
                rotate_left
                · intro w' hS
                  obtain ⟨s0, s1, s2⟩ := hS
                  go_simp
                  try with_reducible rfl
                refine anyS_one (i := 15) (by kernel_rfl) rfl (HSQ.out) (fun K hK => ?_)
                go_simp
                gi_wp2_with ((refine ⟨trivial, ?_⟩; gi_at_call 15; refine CallsIn.mono (F := Fence.wide) (callsIn_wide.2 HPQ.out) ?_; rintro e w9 ⟨rfl, rfl⟩; dsimp only))
                refine anyS_one (i := 16) (by kernel_rfl) rfl (HSQ.out) (fun K hK => ?_)
                go_simp
                refine hK _ _ ?_
                clear hK K
                refine anyS_take (i := 17) (v := ?_) (by kernel_rfl) rfl (by kernel_rfl) (by kernel_rfl) (by kernel_rfl) (fun _ _ _ h => h) (by kernel_rfl) (fun _ => by kernel_rfl) ?_ ?_
                rotate_left
                · intro w' hS
                  obtain ⟨s0, s1, s2⟩ := hS
                  go_simp
                  try with_reducible rfl
                refine anyS_take (i := 18) (v := ?_) (by kernel_rfl) rfl (by kernel_rfl) (by kernel_rfl) (by kernel_rfl) (fun _ _ _ h => h) (by kernel_rfl) (fun _ => by kernel_rfl) ?_ ?_
                rotate_left
                · intro w' hS
                  obtain ⟨s0, s1, s2⟩ := hS
                  go_simp
                  try with_reducible rfl
                refine anyS_take (i := 19) (v := ?_) (by kernel_rfl) rfl (by kernel_rfl) (by kernel_rfl) (by kernel_rfl) (fun _ _ _ h => h) (by kernel_rfl) (fun _ => by kernel_rfl) ?_ ?_
                rotate_left
                · intro w' hS
                  obtain ⟨s0, s1, s2⟩ := hS
                  go_simp
                  try with_reducible rfl
                refine anyS_take (i := 20) (v := ?_) (by kernel_rfl) rfl (by kernel_rfl) (by kernel_rfl) (by kernel_rfl) (fun _ _ _ h => h) (by kernel_rfl) (fun _ => by kernel_rfl) ?_ ?_
                rotate_left
                · intro w' hS
                  obtain ⟨s0, s1, s2⟩ := hS
                  go_simp
                  try with_reducible rfl
                refine anyS_one (i := 21) (by kernel_rfl) rfl (HSQ.out) (fun K hK => ?_)
                go_simp
                refine hK _ _ ?_
                clear hK K
                refine anyS_take (i := 22) (v := ?_) (by kernel_rfl) rfl (by kernel_rfl) (by kernel_rfl) (by kernel_rfl) (fun _ _ _ h => h) (by kernel_rfl) (fun _ => by kernel_rfl) ?_ ?_
                rotate_left
                · intro w' hS
                  obtain ⟨s0, s1, s2⟩ := hS
                  go_simp
                  try with_reducible rfl
                refine anyS_take (i := 23) (v := ?_) (by kernel_rfl) rfl (by kernel_rfl) (by kernel_rfl) (by kernel_rfl) (fun _ _ _ h => h) (by kernel_rfl) (fun _ => by kernel_rfl) ?_ ?_
                rotate_left
                · intro w' hS
                  obtain ⟨s0, s1, s2⟩ := hS
                  go_simp
                  try with_reducible rfl
                refine anyS_take (i := 24) (v := ?_) (by kernel_rfl) rfl (by kernel_rfl) (by kernel_rfl) (by kernel_rfl) (fun _ _ _ h => h) (by kernel_rfl) (fun _ => by kernel_rfl) ?_ ?_
                rotate_left
                · intro w' hS
                  obtain ⟨s0, s1, s2⟩ := hS
                  go_simp
                  try with_reducible rfl
                refine anyS_one (i := 25) (by kernel_rfl) rfl (HSQ.out) (fun K hK => ?_)
                go_simp
                refine hK _ _ ?_
                clear hK K
                refine anyS_take (i := 26) (v := ?_) (by kernel_rfl) rfl (by kernel_rfl) (by kernel_rfl) (by kernel_rfl) (fun _ _ _ h => h) (by kernel_rfl) (fun _ => by kernel_rfl) ?_ ?_
                rotate_left
                · intro w' hS
                  obtain ⟨s0, s1, s2⟩ := hS
                  go_simp
                  try with_reducible rfl
                refine anyS_take (i := 27) (v := ?_) (by kernel_rfl) rfl (by kernel_rfl) (by kernel_rfl) (by kernel_rfl) (fun _ _ _ h => h) (by kernel_rfl) (fun _ => by kernel_rfl) ?_ ?_
                rotate_left
                · intro w' hS
                  obtain ⟨s0, s1, s2⟩ := hS
                  go_simp
                  try with_reducible rfl
                refine anyS_take (i := 28) (v := ?_) (by kernel_rfl) rfl (by kernel_rfl) (by kernel_rfl) (by kernel_rfl) (fun _ _ _ h => h) (by kernel_rfl) (fun _ => by kernel_rfl) ?_ ?_
                rotate_left
                · intro w' hS
                  obtain ⟨s0, s1, s2⟩ := hS
                  go_simp
                  try with_reducible rfl
                refine anyS_take (i := 29) (v := ?_) (by kernel_rfl) rfl (by kernel_rfl) (by kernel_rfl) (by kernel_rfl) (fun _ _ _ h => h) (by kernel_rfl) (fun _ => by kernel_rfl) ?_ ?_
                rotate_left
                · intro w' hS
                  obtain ⟨s0, s1, s2⟩ := hS
                  go_simp
                  try with_reducible rfl
                refine anyS_take (i := 30) (v := ?_) (by kernel_rfl) rfl (by kernel_rfl) (by kernel_rfl) (by kernel_rfl) (fun _ _ _ h => h) (by kernel_rfl) (fun _ => by kernel_rfl) ?_ ?_
                rotate_left
                · intro w' hS
                  obtain ⟨s0, s1, s2⟩ := hS
                  go_simp
                  try with_reducible rfl
                refine anyS_take (i := 31) (v := ?_) (by kernel_rfl) rfl (by kernel_rfl) (by kernel_rfl) (by kernel_rfl) (fun _ _ _ h => h) (by kernel_rfl) (fun _ => by kernel_rfl) ?_ ?_
                rotate_left
                · intro w' hS
                  obtain ⟨s0, s1, s2⟩ := hS
                  go_simp
                  try with_reducible rfl
                refine anyS_take (i := 32) (v := ?_) (by kernel_rfl) rfl (by kernel_rfl) (by kernel_rfl) (by kernel_rfl) (fun _ _ _ h => h) (by kernel_rfl) (fun _ => by kernel_rfl) ?_ ?_
                rotate_left
                · intro w' hS
                  obtain ⟨s0, s1, s2⟩ := hS
                  go_simp
                  try with_reducible rfl
                refine anyS_take (i := 33) (v := ?_) (by kernel_rfl) rfl (by kernel_rfl) (by kernel_rfl) (by kernel_rfl) (fun _ _ _ h => h) (by kernel_rfl) (fun _ => by kernel_rfl) ?_ ?_
                rotate_left
                · intro w' hS
                  obtain ⟨s0, s1, s2⟩ := hS
                  go_simp
                  try with_reducible rfl
                refine anyS_take (i := 35) (v := ?_) (by kernel_rfl) rfl (by kernel_rfl) (by kernel_rfl) (by kernel_rfl) (fun _ _ _ h => h) (by kernel_rfl) (fun _ => by kernel_rfl) ?_ ?_
                rotate_left
                · intro w' hS
                  obtain ⟨s0, s1, s2⟩ := hS
                  go_simp
                  try with_reducible rfl
                refine anyS_one (i := 34) (by kernel_rfl) rfl (HSQ.out) (fun K hK => ?_)
                go_simp
                gi_wp2_with ((refine ⟨trivial, ?_⟩; gi_at_call 33; refine CallsIn.mono (F := Fence.wide) (callsIn_wide.2 HOQ.out) ?_; rintro e w9 ⟨rfl, rfl⟩; dsimp only))
                refine anyS_one (i := 36) (by kernel_rfl) rfl (HSQ.out) (fun K hK => ?_)
                go_simp
                refine hK _ _ ?_
                clear hK K
                refine anyS_take (i := 37) (v := ?_) (by kernel_rfl) rfl (by kernel_rfl) (by kernel_rfl) (by kernel_rfl) (fun _ _ _ h => h) (by kernel_rfl) (fun _ => by kernel_rfl) ?_ ?_
                rotate_left
                · intro w' hS
                  obtain ⟨s0, s1, s2⟩ := hS
                  go_simp
                  try with_reducible rfl
                refine anyS_take (i := 38) (v := ?_) (by kernel_rfl) rfl (by kernel_rfl) (by kernel_rfl) (by kernel_rfl) (fun _ _ _ h => h) (by kernel_rfl) (fun _ => by kernel_rfl) ?_ ?_
                rotate_left
                · intro w' hS
                  obtain ⟨s0, s1, s2⟩ := hS
                  go_simp
                  try with_reducible rfl
                refine anyS_take (i := 39) (v := ?_) (by kernel_rfl) rfl (by kernel_rfl) (by kernel_rfl) (by kernel_rfl) (fun _ _ _ h => h) (by kernel_rfl) (fun _ => by kernel_rfl) ?_ ?_
                rotate_left
                · intro w' hS
                  obtain ⟨s0, s1, s2⟩ := hS
                  go_simp
                  try with_reducible rfl
                refine anyS_one (i := 40) (by kernel_rfl) rfl (HSQ.out) (fun K hK => ?_)
                go_simp
                refine hK _ _ ?_
                clear hK K
                refine anyS_done (by kernel_rfl) (keep11s _ _ (Nat.le_refl _) NQ NQ5 HSQ.out) ?_ _
                refine NoPanic.normal ?_
                have HB5 := Lib.hid (show BoardAt (wr.drew.setCell ⟨w2.heap.size, k, none⟩ (.bool true)) lo g B from (HBD.out.later (Below.refl _ _).drew).kept (by simp) (fun i hi => heap_setCell_other _ ⟨w2.heap.size, k, none⟩ i _ (Nat.ne_of_lt (HLT.out i hi))))
                have HR5 := Lib.hid (row_step (HR.out.drew) hlt HWK.out)
                have HE5 := Lib.hid (And.left (show Below w2.heap.size w2 (wr.drew.setCell ⟨w2.heap.size, k, none⟩ (.bool true)) ∧ _ from keep11s _ _ (Nat.le_refl _) NQ NQ5 HSQ.out))
                go_wp2
                go_roundw
                case rel => exact ⟨k + 1, by omega, by go_num, HR5, HB5, HE5⟩
                case measure => simp [intOf]; omega
              | false =>
                have HWK := Lib.hid (show wantT B x.dry k = false from by rw [HWV.out, h1, h2, h3, h4, h5]; rfl)
                go_upto_region 11 with fail
                refine wp_region_noPanic ?_
                refine (wpIn_wide (n := 9)).1 ?_
                refine wpIn_region_any (by kernel_rfl) ?_
                change wpAnyIn _ _ _ _ _ _ _ _ _ (World.drew wr)
                refine anyS.any (S := (fun w' => Below w2.heap.size w2 w' ∧ w'.cell? ⟨q, 1, none⟩ = some (.pointer (some ⟨tb, 0, none⟩)) ∧ w'.cell? ⟨q5, 4, none⟩ = some (.int .i64 dr))) ?_
                refine anyS_take (i := 0) (v := ?_) (by kernel_rfl) rfl (by kernel_rfl) (by kernel_rfl) (by kernel_rfl) (fun _ _ _ h => h) (by kernel_rfl) (fun _ => by kernel_rfl) ?_ ?_
                rotate_left
                · intro w' hS
                  obtain ⟨s0, s1, s2⟩ := hS
                  go_simp
                  try with_reducible rfl
                refine anyS_take (i := 1) (v := ?_) (by kernel_rfl) rfl (by kernel_rfl) (by kernel_rfl) (by kernel_rfl) (fun _ _ _ h => h) (by kernel_rfl) (fun _ => by kernel_rfl) ?_ ?_
                rotate_left
                · intro w' hS
                  obtain ⟨s0, s1, s2⟩ := hS
                  go_simp
                  try with_reducible rfl
                refine anyS_take (i := 2) (v := ?_) (by kernel_rfl) rfl (by kernel_rfl) (by kernel_rfl) (by kernel_rfl) (fun _ _ _ h => h) (by kernel_rfl) (fun _ => by kernel_rfl) ?_ ?_
                rotate_left
                · intro w' hS
                  obtain ⟨s0, s1, s2⟩ := hS
                  go_simp
                  try with_reducible rfl
                refine anyS_take (i := 3) (v := ?_) (by kernel_rfl) rfl (by kernel_rfl) (by kernel_rfl) (by kernel_rfl) (fun _ _ _ h => h) (by kernel_rfl) (fun _ => by kernel_rfl) ?_ ?_
                rotate_left
                · intro w' hS
                  obtain ⟨s0, s1, s2⟩ := hS
                  go_simp
                  try with_reducible rfl
                refine anyS_take (i := 4) (v := ?_) (by kernel_rfl) rfl (by kernel_rfl) (by kernel_rfl) (by kernel_rfl) (fun _ _ _ h => h) (by kernel_rfl) (fun _ => by kernel_rfl) ?_ ?_
                rotate_left
                · intro w' hS
                  obtain ⟨s0, s1, s2⟩ := hS
                  go_simp
                  try with_reducible rfl
                refine anyS_take (i := 5) (v := ?_) (by kernel_rfl) rfl (by kernel_rfl) (by kernel_rfl) (by kernel_rfl) (fun _ _ _ h => h) (by kernel_rfl) (fun _ => by kernel_rfl) ?_ ?_
                rotate_left
                · intro w' hS
                  obtain ⟨s0, s1, s2⟩ := hS
                  go_simp
                  try with_reducible rfl
                refine anyS_take (i := 6) (v := ?_) (by kernel_rfl) rfl (by kernel_rfl) (by kernel_rfl) (by kernel_rfl) (fun _ _ _ h => h) (by kernel_rfl) (fun _ => by kernel_rfl) ?_ ?_
                rotate_left
                · intro w' hS
                  obtain ⟨s0, s1, s2⟩ := hS
                  go_simp
                  try with_reducible rfl
                refine anyS_one (i := 7) (by kernel_rfl) rfl (HSQ.out) (fun K hK => ?_)
                go_simp
                gi_wp2_with ((refine ⟨trivial, ?_⟩; gi_at_call 14; refine CallsIn.mono (F := Fence.wide) (callsIn_wide.2 HLQ.out) ?_; rintro e w9 ⟨rfl, rfl⟩; dsimp only))
                refine anyS_one (i := 8) (by kernel_rfl) rfl (HSQ.out) (fun K hK => ?_)
                go_simp
                refine hK _ _ ?_
                clear hK K
                refine anyS_take (i := 9) (v := ?_) (by kernel_rfl) rfl (by kernel_rfl) (by kernel_rfl) (by kernel_rfl) (fun _ _ _ h => h) (by kernel_rfl) (fun _ => by kernel_rfl) ?_ ?_
                rotate_left
                · intro w' hS
                  obtain ⟨s0, s1, s2⟩ := hS
                  go_simp
                  try with_reducible rfl
                refine anyS_take (i := 10) (v := ?_) (by kernel_rfl) rfl (by kernel_rfl) (by kernel_rfl) (by kernel_rfl) (fun _ _ _ h => h) (by kernel_rfl) (fun _ => by kernel_rfl) ?_ ?_
                rotate_left
                · intro w' hS
                  obtain ⟨s0, s1, s2⟩ := hS
                  go_simp
                  try with_reducible rfl
                refine anyS_take (i := 11) (v := ?_) (by kernel_rfl) rfl (by kernel_rfl) (by kernel_rfl) (by kernel_rfl) (fun _ _ _ h => h) (by kernel_rfl) (fun _ => by kernel_rfl) ?_ ?_
                rotate_left
                · intro w' hS
                  obtain ⟨s0, s1, s2⟩ := hS
                  go_simp
                  try with_reducible rfl
                refine anyS_take (i := 12) (v := ?_) (by kernel_rfl) rfl (by kernel_rfl) (by kernel_rfl) (by kernel_rfl) (fun _ _ _ h => h) (by kernel_rfl) (fun _ => by kernel_rfl) ?_ ?_
                rotate_left
                · intro w' hS
                  obtain ⟨s0, s1, s2⟩ := hS
                  go_simp
                  try with_reducible rfl
                refine anyS_take (i := 13) (v := ?_) (by kernel_rfl) rfl (by kernel_rfl) (by kernel_rfl) (by kernel_rfl) (fun _ _ _ h => h) (by kernel_rfl) (fun _ => by kernel_rfl) ?_ ?_
                rotate_left
                · intro w' hS
                  obtain ⟨s0, s1, s2⟩ := hS
                  go_simp
                  try with_reducible rfl
                refine anyS_take (i := 14) (v := ?_) (by kernel_rfl) rfl (by kernel_rfl) (by kernel_rfl) (by kernel_rfl) (fun _ _ _ h => h) (by kernel_rfl) (fun _ => by kernel_rfl) ?_ ?_
                rotate_left
                · intro w' hS
                  obtain ⟨s0, s1, s2⟩ := hS
                  go_simp
                  try with_reducible rfl
                refine anyS_one (i := 15) (by kernel_rfl) rfl (HSQ.out) (fun K hK => ?_)
                go_simp
                gi_wp2_with ((refine ⟨trivial, ?_⟩; gi_at_call 15; refine CallsIn.mono (F := Fence.wide) (callsIn_wide.2 HPQ.out) ?_; rintro e w9 ⟨rfl, rfl⟩; dsimp only))
                refine anyS_one (i := 16) (by kernel_rfl) rfl (HSQ.out) (fun K hK => ?_)
                go_simp
                refine hK _ _ ?_
                clear hK K
                refine anyS_take (i := 17) (v := ?_) (by kernel_rfl) rfl (by kernel_rfl) (by kernel_rfl) (by kernel_rfl) (fun _ _ _ h => h) (by kernel_rfl) (fun _ => by kernel_rfl) ?_ ?_
                rotate_left
                · intro w' hS
                  obtain ⟨s0, s1, s2⟩ := hS
                  go_simp
                  try with_reducible rfl
                refine anyS_take (i := 18) (v := ?_) (by kernel_rfl) rfl (by kernel_rfl) (by kernel_rfl) (by kernel_rfl) (fun _ _ _ h => h) (by kernel_rfl) (fun _ => by kernel_rfl) ?_ ?_
                rotate_left
                · intro w' hS
                  obtain ⟨s0, s1, s2⟩ := hS
                  go_simp
                  try with_reducible rfl
                refine anyS_take (i := 19) (v := ?_) (by kernel_rfl) rfl (by kernel_rfl) (by kernel_rfl) (by kernel_rfl) (fun _ _ _ h => h) (by kernel_rfl) (fun _ => by kernel_rfl) ?_ ?_
                rotate_left
                · intro w' hS
                  obtain ⟨s0, s1, s2⟩ := hS
                  go_simp
                  try with_reducible rfl
                refine anyS_take (i := 20) (v := ?_) (by kernel_rfl) rfl (by kernel_rfl) (by kernel_rfl) (by kernel_rfl) (fun _ _ _ h => h) (by kernel_rfl) (fun _ => by kernel_rfl) ?_ ?_
                rotate_left
                · intro w' hS
                  obtain ⟨s0, s1, s2⟩ := hS
                  go_simp
                  try with_reducible rfl
                refine anyS_one (i := 21) (by kernel_rfl) rfl (HSQ.out) (fun K hK => ?_)
                go_simp
                refine hK _ _ ?_
                clear hK K
                refine anyS_take (i := 22) (v := ?_) (by kernel_rfl) rfl (by kernel_rfl) (by kernel_rfl) (by kernel_rfl) (fun _ _ _ h => h) (by kernel_rfl) (fun _ => by kernel_rfl) ?_ ?_
                rotate_left
                · intro w' hS
                  obtain ⟨s0, s1, s2⟩ := hS
                  go_simp
                  try with_reducible rfl
                refine anyS_take (i := 23) (v := ?_) (by kernel_rfl) rfl (by kernel_rfl) (by kernel_rfl) (by kernel_rfl) (fun _ _ _ h => h) (by kernel_rfl) (fun _ => by kernel_rfl) ?_ ?_
                rotate_left
                · intro w' hS
                  obtain ⟨s0, s1, s2⟩ := hS
                  go_simp
                  try with_reducible rfl
                refine anyS_take (i := 24) (v := ?_) (by kernel_rfl) rfl (by kernel_rfl) (by kernel_rfl) (by kernel_rfl) (fun _ _ _ h => h) (by kernel_rfl) (fun _ => by kernel_rfl) ?_ ?_
                rotate_left
                · intro w' hS
                  obtain ⟨s0, s1, s2⟩ := hS
                  go_simp
                  try with_reducible rfl
                refine anyS_one (i := 25) (by kernel_rfl) rfl (HSQ.out) (fun K hK => ?_)
                go_simp
                refine hK _ _ ?_
                clear hK K
                refine anyS_take (i := 26) (v := ?_) (by kernel_rfl) rfl (by kernel_rfl) (by kernel_rfl) (by kernel_rfl) (fun _ _ _ h => h) (by kernel_rfl) (fun _ => by kernel_rfl) ?_ ?_
                rotate_left
                · intro w' hS
                  obtain ⟨s0, s1, s2⟩ := hS
                  go_simp
                  try with_reducible rfl
                refine anyS_take (i := 27) (v := ?_) (by kernel_rfl) rfl (by kernel_rfl) (by kernel_rfl) (by kernel_rfl) (fun _ _ _ h => h) (by kernel_rfl) (fun _ => by kernel_rfl) ?_ ?_
                rotate_left
                · intro w' hS
                  obtain ⟨s0, s1, s2⟩ := hS
                  go_simp
                  try with_reducible rfl
                refine anyS_take (i := 28) (v := ?_) (by kernel_rfl) rfl (by kernel_rfl) (by kernel_rfl) (by kernel_rfl) (fun _ _ _ h => h) (by kernel_rfl) (fun _ => by kernel_rfl) ?_ ?_
                rotate_left
                · intro w' hS
                  obtain ⟨s0, s1, s2⟩ := hS
                  go_simp
                  try with_reducible rfl
                refine anyS_take (i := 29) (v := ?_) (by kernel_rfl) rfl (by kernel_rfl) (by kernel_rfl) (by kernel_rfl) (fun _ _ _ h => h) (by kernel_rfl) (fun _ => by kernel_rfl) ?_ ?_
                rotate_left
                · intro w' hS
                  obtain ⟨s0, s1, s2⟩ := hS
                  go_simp
                  try with_reducible rfl
                refine anyS_take (i := 30) (v := ?_) (by kernel_rfl) rfl (by kernel_rfl) (by kernel_rfl) (by kernel_rfl) (fun _ _ _ h => h) (by kernel_rfl) (fun _ => by kernel_rfl) ?_ ?_
                rotate_left
                · intro w' hS
                  obtain ⟨s0, s1, s2⟩ := hS
                  go_simp
                  try with_reducible rfl
                refine anyS_take (i := 31) (v := ?_) (by kernel_rfl) rfl (by kernel_rfl) (by kernel_rfl) (by kernel_rfl) (fun _ _ _ h => h) (by kernel_rfl) (fun _ => by kernel_rfl) ?_ ?_
                rotate_left
                · intro w' hS
                  obtain ⟨s0, s1, s2⟩ := hS
                  go_simp
                  try with_reducible rfl
                refine anyS_take (i := 32) (v := ?_) (by kernel_rfl) rfl (by kernel_rfl) (by kernel_rfl) (by kernel_rfl) (fun _ _ _ h => h) (by kernel_rfl) (fun _ => by kernel_rfl) ?_ ?_
                rotate_left
                · intro w' hS
                  obtain ⟨s0, s1, s2⟩ := hS
                  go_simp
                  try with_reducible rfl
                refine anyS_take (i := 33) (v := ?_) (by kernel_rfl) rfl (by kernel_rfl) (by kernel_rfl) (by kernel_rfl) (fun _ _ _ h => h) (by kernel_rfl) (fun _ => by kernel_rfl) ?_ ?_
                rotate_left
                · intro w' hS
                  obtain ⟨s0, s1, s2⟩ := hS
                  go_simp
                  try with_reducible rfl
                refine anyS_take (i := 35) (v := ?_) (by kernel_rfl) rfl (by kernel_rfl) (by kernel_rfl) (by kernel_rfl) (fun _ _ _ h => h) (by kernel_rfl) (fun _ => by kernel_rfl) ?_ ?_
                rotate_left
                · intro w' hS
                  obtain ⟨s0, s1, s2⟩ := hS
                  go_simp
                  try with_reducible rfl
                refine anyS_one (i := 34) (by kernel_rfl) rfl (HSQ.out) (fun K hK => ?_)
                go_simp
                gi_wp2_with ((refine ⟨trivial, ?_⟩; gi_at_call 33; refine CallsIn.mono (F := Fence.wide) (callsIn_wide.2 HOQ.out) ?_; rintro e w9 ⟨rfl, rfl⟩; dsimp only))
                refine anyS_one (i := 36) (by kernel_rfl) rfl (HSQ.out) (fun K hK => ?_)
                go_simp
                refine hK _ _ ?_
                clear hK K
                refine anyS_take (i := 37) (v := ?_) (by kernel_rfl) rfl (by kernel_rfl) (by kernel_rfl) (by kernel_rfl) (fun _ _ _ h => h) (by kernel_rfl) (fun _ => by kernel_rfl) ?_ ?_
                rotate_left
                · intro w' hS
                  obtain ⟨s0, s1, s2⟩ := hS
                  go_simp
                  try with_reducible rfl
                refine anyS_take (i := 38) (v := ?_) (by kernel_rfl) rfl (by kernel_rfl) (by kernel_rfl) (by kernel_rfl) (fun _ _ _ h => h) (by kernel_rfl) (fun _ => by kernel_rfl) ?_ ?_
                rotate_left
                · intro w' hS
                  obtain ⟨s0, s1, s2⟩ := hS
                  go_simp
                  try with_reducible rfl
                refine anyS_take (i := 39) (v := ?_) (by kernel_rfl) rfl (by kernel_rfl) (by kernel_rfl) (by kernel_rfl) (fun _ _ _ h => h) (by kernel_rfl) (fun _ => by kernel_rfl) ?_ ?_
                rotate_left
                · intro w' hS
                  obtain ⟨s0, s1, s2⟩ := hS
                  go_simp
                  try with_reducible rfl
                refine anyS_one (i := 40) (by kernel_rfl) rfl (HSQ.out) (fun K hK => ?_)
                go_simp
                refine hK _ _ ?_
                clear hK K
                refine anyS_done (by kernel_rfl) (keep11s _ _ (Nat.le_refl _) NQ NQ5 HSQ.out) ?_ _
                refine NoPanic.normal ?_
                have HB5 := Lib.hid (show BoardAt (wr.drew.setCell ⟨w2.heap.size, k, none⟩ (.bool false)) lo g B from (HBD.out.later (Below.refl _ _).drew).kept (by simp) (fun i hi => heap_setCell_other _ ⟨w2.heap.size, k, none⟩ i _ (Nat.ne_of_lt (HLT.out i hi))))
                have HR5 := Lib.hid (row_step (HR.out.drew) hlt HWK.out)
                have HE5 := Lib.hid (And.left (show Below w2.heap.size w2 (wr.drew.setCell ⟨w2.heap.size, k, none⟩ (.bool false)) ∧ _ from keep11s _ _ (Nat.le_refl _) NQ NQ5 HSQ.out))
                go_wp2
                go_roundw
                case rel => exact ⟨k + 1, by omega, by go_num, HR5, HB5, HE5⟩
                case measure => simp [intOf]; omega
    · obtain rfl : m = k := by omega
      have e0 : decide ((m : Int) < m) = false := decide_eq_false (by omega)
      have HRM := Lib.hid (HR.out.congr (g := fun j => .bool (wantT B x.dry j)) fun i hi => by rw [if_pos hi])
      clear HR
      go_wp2_with fail
      refine (HNK.out wr).mono ?_
      rintro e w4 ⟨b1, k1, rfl, hs1, hb4⟩
      rw [show List.take 8 ([] : List EntL) = [] from rfl] at hs1
      have hru := run_any (both_new HBD.out hb4 hs1) HLN.out (by decide) 0
      rw [HQ.out] at hru
      have HRU := Lib.hid hru
      have HB4 := Lib.hid (stepB HE.out hb4)
      have HR4 := Lib.hid (HRM.out.of_block (hb4.block _ HRM.out.lt))
      have HP9 := Lib.hid (show w2.heap.size < w4.heap.size from Nat.lt_of_lt_of_le HRM.out.lt hb4.size)
      have HOF := Lib.hid (show ∀ i, own2 g b1 k1 i → i ≠ w2.heap.size ∧ w.heap.size ≤ i from fun i hi => by
        rcases hi with hi | hi
        · exact ⟨Nat.ne_of_lt (HLT.out i hi), HLO.out i hi⟩
        · have h1 := hs1.ownLo hi
          have h2 := HRM.out.lt
          have h3 := (stepB HB0.out (stepB HBW.out HE.out)).size
          exact ⟨by omega, by omega⟩)
      clear hru hs1 hb4 HRM HBD HE
      dsimp only
      go_wp2_with fail
      refine HRU.out.mono ?_
      rintro e w5 ⟨v1, v2, g5, k5, rfl, hbo5, hq5, ht5, hd5, hx5⟩
      obtain ⟨xa1, xc1, rfl⟩ := own_form1 hd5.row
      obtain ⟨xa2, xc2, rfl⟩ := own_form1 hx5.row
      have HRD := Lib.hid (run_dies HF.out.dies)
      have HB5 := Lib.hid (ht5.below (stepB HB0.out (stepB HBW.out HB4.out)) (fun i hi => (HOF.out i hi).2))
      have HR5 := Lib.hid (HR4.out.of_block (ht5.block _ HP9.out (fun e => (HOF.out _ e).1 rfl)))
      have HBD5 := Lib.hid hbo5.bd
      have HX5 := Lib.hid (own_ints hx5.row)
      have HQ5 := Lib.hid (hq5.trans HQ.out)
      clear hbo5 hq5 ht5 hd5 hx5 HRU HP9 HOF HR4 HB4 HNK
      dsimp only
      obtain ⟨rn, hrn⟩ : ∃ rn, runN B = rn := ⟨_, rfl⟩
      rw [hrn]
      clear hrn
      have hbV := below_new w5 (.cells #[.slice xa1 (runD B).length xc1, .slice xa2 (runX B).length xc2, .int .i64 rn] 54)
      have hrV := heap_alloc_new w5 (.cells #[.slice xa1 (runD B).length xc1, .slice xa2 (runX B).length xc2, .int .i64 rn] 54)
      go_upto_region 14 with fail
      obtain ⟨V, hV⟩ : ∃ V, w5.alloc (.cells #[.slice xa1 (runD B).length xc1, .slice xa2 (runX B).length xc2, .int .i64 rn] 54) = V := ⟨_, rfl⟩
      obtain ⟨r9, hr9⟩ : ∃ r9, w5.heap.size = r9 := ⟨_, rfl⟩
      rw [hV] at hbV hrV ⊢
      rw [hr9] at hrV
      rw [hr9]
      have HBV := Lib.hid (stepB HB5.out hbV)
      have HBD6 := Lib.hid (HBD5.out.later hbV)
      have HR6 := Lib.hid (HR5.out.of_block (hbV.block _ HR5.out.lt))
      have HX6 := Lib.hid (HX5.out.later hbV)
      have HC0 := Lib.hid (cell_of_row V r9 0 _ _ (0, 0) hrV)
      have HC1 := Lib.hid (show V.cell? ⟨r9, 1, none⟩ = some (.slice xa2 (runX B).length xc2) from cell_of_row V r9 1 _ _ (0, 0) hrV)
      have HXL := Lib.hid (show (runX B).length ≤ 1000 from by
        have h1 := HN4.out
        have h2 : (runX B).length ≤ B.T.sh.length := by
          unfold runX
          split
          · exact Nat.zero_le _
          · exact upTo_len _ _
        rw [HM.out] at h2
        omega)
      obtain ⟨-, cq5, -⟩ := HBD6.out.cells
      rw [HQ5.out] at cq5
      obtain ⟨tb5, htb5⟩ : ∃ tb5, g5.tb = tb5 := ⟨_, rfl⟩
      have HTB5 := Lib.hid htb5
      rw [htb5] at cq5
      have HCT := Lib.hid cq5
      clear hbV hrV hV hr9 cq5 htb5 HB5 HBD5 HR5 HX5
      go_wp2
      go_loopw [81] (fun i wr => ∃ k : Nat, k ≤ m ∧ i = .int .i64 k ∧ Hid (Below V.heap.size V wr)) (fun i _ => m - (intOf i).toNat)
      case atStart => exact ⟨0, Nat.zero_le _, rfl, Lib.hid (Below.refl _ _)⟩
      case round =>
        obtain ⟨k, hk, rfl, HBE⟩ := hrel
        by_cases hlt : k < m
        · have e0 : decide ((k : Int) < m) = true := decide_eq_true (by omega)
          have k1 : (0 : Int) ≤ k := by omega
          have k2 : (k : Int) < m := by omega
          have hw1 : IntKind.i64.wrap ((k : Int) + 1) = (k : Int) + 1 := by have := HN4.out; exact wrap_small (by omega) (by omega)
          have hkT : k < B.T.sh.length := by rw [HM.out]; exact hlt
          have hz := four_doom HF.out HSD.out hkT
          have hz1 := run_lost HF.out hkT
          have hz2 := run_has (B := B) hkT
          have hz3 := stable_doom (run_stable HBD2.out) (t := k) (by rw [run_len]; exact hkT)
          obtain ⟨z, hzz⟩ : ∃ z, wantT B x.dry k = z := ⟨_, rfl⟩
          rw [hzz] at hz
          rw [hz] at hz1 hz2
          have cw := HR6.out.cell hlt
          rw [hzz] at cw
          have HLO := Lib.hid (fun (w' : World) (hb : Below V.heap.size V w') => by have h1 := tlost_any (HBD6.out.later hb).tm (k : Int); rw [hz1, HTB5.out] at h1; exact h1)
          have HHS := Lib.hid (fun (w' : World) (hb : Below V.heap.size V w') => by have h1 := hasRef_any (k : Int) (HX6.out.later hb) HXL.out; rw [hz2] at h1; exact h1)
          have HDO := Lib.hid (fun (w' : World) (hb : Below V.heap.size V w') => by have h1 := doomed_any (HBD6.out.later hb) (k : Int); rw [hz3, HQ5.out] at h1; exact h1)
          have HS := Lib.hid (And.intro HBE.out (And.intro (cell_stays HBE.out HCT.out) (And.intro (cell_stays HBE.out cw) (cell_stays HBE.out HC1.out))))
          clear hz hz1 hz2 hz3 hzz cw hkT
          cases z with
          | false =>
            go_upto_region 17 with fail
            go_region_held3 (fun w' => Below V.heap.size V w' ∧ w'.cell? ⟨q, 1, none⟩ = some (.pointer (some ⟨tb5, 0, none⟩)) ∧ w'.cell? ⟨w2.heap.size, k, none⟩ = some (.bool false) ∧ w'.cell? ⟨r9, 1, none⟩ = some (.slice xa2 (runX B).length xc2))
              (first | assumption | (with_reducible exact HS.out) | exact keep17 (Below.refl _ _).drew HS.out | exact keep17 (by assumption) (by assumption))
              (first
                | (go_at_call 18; refine (HLO.out _ (And.left (by assumption))).mono ?_; rintro e w6 ⟨rfl, rfl⟩)
                | (go_at_call 31; refine (HHS.out _ (And.left (by assumption))).mono ?_; rintro e w6 ⟨rfl, rfl⟩)
                | (go_at_call 19; refine (HDO.out _ (And.left (by assumption))).mono ?_; rintro e w6 ⟨rfl, hb6⟩))
            have HB6 := Lib.hid (And.left (show Below V.heap.size V w6 ∧ _ from by assumption))
            go_wp2
            go_roundw
            case rel => exact ⟨k + 1, by omega, by go_num, HB6⟩
            case measure => simp [intOf]; omega
          | true =>
            go_upto_region 17 with fail
            go_region_held3 (fun w' => Below V.heap.size V w' ∧ w'.cell? ⟨q, 1, none⟩ = some (.pointer (some ⟨tb5, 0, none⟩)) ∧ w'.cell? ⟨w2.heap.size, k, none⟩ = some (.bool true) ∧ w'.cell? ⟨r9, 1, none⟩ = some (.slice xa2 (runX B).length xc2))
              (first | assumption | (with_reducible exact HS.out) | exact keep17 (Below.refl _ _).drew HS.out | exact keep17 (by assumption) (by assumption))
              (first
                | (go_at_call 18; refine (HLO.out _ (And.left (by assumption))).mono ?_; rintro e w6 ⟨rfl, rfl⟩)
                | (go_at_call 31; refine (HHS.out _ (And.left (by assumption))).mono ?_; rintro e w6 ⟨rfl, rfl⟩)
                | (go_at_call 19; refine (HDO.out _ (And.left (by assumption))).mono ?_; rintro e w6 ⟨rfl, hb6⟩))
            have HB6 := Lib.hid (And.left (show Below V.heap.size V w6 ∧ _ from by assumption))
            go_wp2
            go_roundw
            case rel => exact ⟨k + 1, by omega, by go_num, HB6⟩
            case measure => simp [intOf]; omega
        · obtain rfl : m = k := by omega
          have e0 : decide ((m : Int) < m) = false := decide_eq_false (by omega)
          have c0 := cell_stays HBE.out HC0.out
          rw [HRD.out] at c0
          have c0 : wr.cell? ⟨r9, 0, none⟩ = some (.slice xa1 0 xc1) := c0
          go_wp2
          go_ret
          exact ⟨rfl, stepB HBV.out HBE.out⟩
end Go.Proofs.YtdlkdilgjmmlaaaGreat

/- Plan: all hits of a team's attack, those of 0 left out (layer 17). -/
import Derived.Test.YtjgjhfeopmakaaaGreatQf
import Derived.Test.YtjgjhfeopmakaaaGreatQg
namespace Go.Proofs.YtjgjhfeopmakaaaGreat
open Go.RowKit Go.Maps
attribute [local go_sem] Oper.semAt_some

theorem stepIn_append_hits {F : Fence} {fu : Nat} {ops : Array Oper} {o : Oper} {a : Act} {w : World} {K : Act → World → Prop} {Q : Exit → Act → World → Prop} {E : Prop} (hgd : o.guard = none) (s x : Operand)
    (hop : o.op = .call { callee := .builtin .append, args := #[s, x], argTypes := #[49, 49] }) (base : Nat) (v : Value) (l m : List HitL) (hs : a.eval s = v) (u : Value)
    (hown : w.ownsRow base 52 3 v l.length (hitsV l)) (hx : a.eval x = u) (hu : HitsAt w u m) (hm : 0 < m.length) (h1 : l.length + m.length ≤ 1000000) (hbase : base ≤ w.heap.size)
    (hK : ∀ g cap w', w'.ownsRow base 52 3 (.slice (some ⟨g, 0, none⟩) (l.length + m.length) cap) (l ++ m).length (hitsV (l ++ m)) → w.grownBy w' v.ownBlock → (v.ownBlock = some g ∨ g = w.heap.size) → g < w'.heap.size → K (a.put o.dst (.slice (some ⟨g, 0, none⟩) (l.length + m.length) cap)) w') :
    if Region.wanted o (yielded ops a.tmps) = true then Oper.wpIn F fu Tryz.prog o a w K Q else E := by
  have hw : Region.wanted o (yielded ops a.tmps) = true := by simp [Region.wanted, hgd]
  rw [if_pos hw]
  obtain ⟨i0, hi0, hz0, hz1, hz2⟩ := info_parts info_hit
  obtain ⟨b, off, cap, rfl⟩ : ∃ b off cap, u = .slice (some ⟨b, off, none⟩) m.length cap := by
    rcases hu with ⟨_, _, _, rfl⟩ | ⟨b, off, cap, rfl, _⟩
    · simp at hm
    · exact ⟨b, off, cap, rfl⟩
  obtain ⟨g, cp, w', hr, h2, h3, h4, h5⟩ := run_append_lies (P := Tryz.prog) w 49 o.type base 52 i0 _ 3 24 Tryz.underlying49 hi0 hz0 hz1 hz2 rfl (by decide) v l.length (hitsV l) hown ⟨b, off, none⟩ m.length cap (hitsV m) (hitsV_len m) (hits_news hu hm) (hcells_all m) hm (by unfold maxLen; omega) (by omega) hbase w.heap.size rfl
  unfold Oper.wpIn
  refine ⟨?_, ?_⟩
  · simp [Oper.about, hop, resolve, Target.leads, Sem.run_pure]
  · rw [Oper.semAt_plain F _ _ (by rw [hop]; intro c hc'; cases hc')]
    simp [execOp, hop, resolve, invoke, builtin, hs, hx, hr, Result.andThen]
    exact hK g cp w' (by rw [List.length_append, hitsV_append]; exact h2) h3 h4 h5
/-- A list of hits in a box. -/
structure HitIn (W : World) (lo s : Nat) (v : Value) (L : List HitL) : Prop where
  box : W.heap[s]? = some (.cells #[v] 49 (0, 0))
  own : W.ownsRow lo 52 3 v L.length (hitsV L)
theorem HitIn.head {W : World} {lo s : Nat} {v : Value} {L : List HitL} (h : HitIn W lo s v L) : HdAt W s v := ⟨_, h.box⟩
theorem HitIn.row {W : World} {lo s : Nat} {v : Value} {L : List HitL} (h : HitIn W lo s v L) : ∀ k, v.ownBlock = some k → lo ≤ k ∧ k < W.heap.size ∧ k ≠ s := fun k hk => by
  have := World.ownsRow.lt h.own k hk
  refine ⟨this.1, this.2, fun e => ?_⟩
  rcases h.own.2 with ⟨rfl, _⟩ | ⟨g', cap, cur, rfl, _, hg, _⟩
  · simp [Value.ownBlock] at hk
  · obtain rfl : g' = k := by simpa [Value.ownBlock] using hk
    rw [e, h.box] at hg
    injection hg with hg
    injection hg with _ ht
    exact absurd ht (by decide)
theorem HitIn.later {W W' : World} {lo s : Nat} {v : Value} {L : List HitL} (h : HitIn W lo s v L) (hb : Below W.heap.size W W') : HitIn W' lo s v L :=
  ⟨(hb.block s (Array.getElem?_eq_some_iff.1 h.box).1).trans h.box, hits_later h.own hb⟩
theorem hits_grown {A B : World} {lo n : Nat} {v : Value} {xs : List Value} {row : Option Nat} (h : A.ownsRow lo 52 3 v n xs) (hg : A.grownBy B row) (hr : ∀ r, row = some r → ∃ o : Obj, A.heap[r]? = some o ∧ o.isCells = false) : B.ownsRow lo 52 3 v n xs := by
  refine ⟨h.1, ?_⟩
  rcases h.2 with h5 | ⟨g', cap, cur, e, hb2, hg2, r⟩
  · exact .inl h5
  · exact .inr ⟨g', cap, cur, e, hb2, (grownBy_keeps_cells hg hr hg2 rfl).trans hg2, r⟩
theorem HitIn.grown {A B : World} {lo s : Nat} {v : Value} {L : List HitL} {row : Option Nat} (h : HitIn A lo s v L) (hg : A.grownBy B row) (hr : ∀ r, row = some r → ∃ o : Obj, A.heap[r]? = some o ∧ o.isCells = false) : HitIn B lo s v L :=
  ⟨(grownBy_keeps_cells hg hr h.box rfl).trans h.box, hits_grown h.own hg hr⟩
/-- More is put behind. -/
theorem HitIn.app {E H : Nat → Prop} {W w6 : World} {lo s : Nat} {v v' : Value} {L M : List HitL} (h : HitIn W lo s v L) (hs : H s) (hg : W.grownBy w6 v.ownBlock) (hown : w6.ownsRow lo 52 3 v' M.length (hitsV M))
    (hn : v'.ownBlock = v.ownBlock ∨ v'.ownBlock = some W.heap.size) (hsep : ∀ b, H b → v.ownBlock ≠ some b) :
    HitIn (w6.setCell ⟨s, 0, none⟩ v') lo s v' M ∧ KpP E H W (w6.setCell ⟨s, 0, none⟩ v') ∧ HdAt w6 s v := by
  have hsl := (Array.getElem?_eq_some_iff.1 h.box).1
  have hblk : ∀ k, k < W.heap.size → v.ownBlock ≠ some k → w6.heap[k]? = W.heap[k]? := fun k hk hv => hg.block k hk (Ne.symm hv)
  have h6 := (hblk s hsl (hsep s hs)).trans h.box
  have hnew : Newer W v.ownBlock v'.ownBlock := by
    rcases hn with e | e
    · exact .inl e
    · exact .inr ⟨_, e, Nat.le_refl _⟩
  have hne : v'.ownBlock ≠ some s := newer_ne1 hnew hsl (hsep s hs)
  refine ⟨⟨?_, ?_⟩, ⟨?_, fun k ob ho _ hO => ?_, fun b u hb hu => ?_⟩, ⟨_, h6⟩⟩
  · rw [heap_setCell_same w6 s 0 _ _ v' h6]; rfl
  · exact own11_later hown fun k hk => heap_setCell_other w6 ⟨s, 0, none⟩ k v' (fun e => hne (by rw [hk]; exact congrArg some e))
  · have := hg.size; simp at this ⊢; omega
  · have hk := (Array.getElem?_eq_some_iff.1 ho).1
    have hks : k ≠ s ∧ v.ownBlock ≠ some k := by
      cases hx : ob.isCells with
      | true =>
        have hO' := hO hx
        obtain ⟨u, h1, h2⟩ := hO'.2 s hs
        exact ⟨fun e => hO'.1 (by rw [e]; exact hs), by rw [← h1.one h.head]; exact h2⟩
      | false =>
        refine ⟨fun e => ?_, fun e => ?_⟩
        · rw [e, h.box] at ho; injection ho with ho; rw [← ho] at hx; simp [Obj.isCells] at hx
        · obtain ⟨o', ho', hc'⟩ := own_cellsN h.own k e
          rw [ho] at ho'; injection ho' with ho'; rw [ho', hc'] at hx; cases hx
    rw [heap_setCell_other w6 ⟨s, 0, none⟩ k v' hks.1, hblk k hk hks.2]
    exact ho
  · by_cases hbs : b = s
    · subst hbs
      exact ⟨v', HdAt.set ⟨_, h6⟩ v', by rw [hu.one h.head]; exact hnew⟩
    · exact ⟨u, (hu.of (hblk b hu.lt (hsep b hb))).other hbs v', .inl rfl⟩
theorem HitsAt.put {W : World} {D : Nat} {o : Obj} {v : Value} {L : List HitL} (h : HitsAt W v L) (o' : Obj) (hD : W.heap[D]? = some o) (ho : o.isCells = false) : HitsAt (W.putObj D o') v L := by
  rcases h with h | ⟨b, off, cap, rfl, hlt, hc⟩
  · exact .inl h
  · refine .inr ⟨b, off, cap, rfl, by simpa using hlt, fun i hi => ?_⟩
    obtain ⟨c0, c1, c2⟩ := hc i hi
    have hb : b ≠ D := by
      rintro rfl
      simp [World.cell?, hD] at c0
      cases o <;> simp_all [Obj.isCells]
    have e : ∀ j, (W.putObj D o').cell? ⟨b, j, none⟩ = W.cell? ⟨b, j, none⟩ := fun j => World.cell?_of_block (w := W) (a := ⟨b, j, none⟩) (World.putObj_heap_other hb)
    exact ⟨(e _).trans c0, (e _).trans c1, (e _).trans c2⟩
def planR (B : BoardL) (team : Int) (l : List Int) : List HitL := l.flatMap (blowsL B team)
def planL (B : BoardL) (team : Int) : List HitL := (planR B team (attackL B team)).filter nzB
theorem planR_snoc (B : BoardL) (team : Int) (l : List Int) (x : Int) : planR B team (l ++ [x]) = planR B team l ++ blowsL B team x := by simp [planR]
theorem blowsL_len {w : World} {lo : Nat} {g : GhostB} {B : BoardL} (h : BoardAt w lo g B) (team i : Int) : 0 < (blowsL B team i).length ∧ (blowsL B team i).length ≤ 2000 := by
  have h1 := blockL_len h i
  unfold blowsL
  split
  · exact ⟨by simp, by simp⟩
  · rename_i hne
    have := List.length_pos_iff.2 hne
    rw [List.length_append, shareK_len, List.length_map]
    omega
theorem planR_len {w : World} {lo : Nat} {g : GhostB} {B : BoardL} (h : BoardAt w lo g B) (team : Int) : ∀ l, (planR B team l).length ≤ 2000 * l.length
  | [] => by simp [planR]
  | x :: l => by
    have h1 := (blowsL_len h team x).2
    have h2 := planR_len h team l
    show (blowsL B team x ++ planR B team l).length ≤ 2000 * (l.length + 1)
    rw [List.length_append]
    omega
/-- What the loop over the attackers holds. -/
def PlanI (B : BoardL) (team : Int) (q : Nat) (A Wr : World) (pre : List Int) (W : World) : Prop :=
  ∃ v, HitIn W (q + 3) (q + 2) v (planR B team pre) ∧ KpP (fun _ => False) (fun k => k = q + 2) Wr W ∧ Below A.heap.size A W ∧ pre.length ≤ 100
theorem planI_own {B : BoardL} {team : Int} {q : Nat} {A Wr : World} {D : Nat} (hB : A.heap.size ≤ D) (hB5 : Wr.heap.size ≤ D) : OwnFrom D (PlanI B team q A Wr) := by
  rintro s X Y row ⟨v, h1, h2, h3, h4⟩ hg hr
  have hr' : ∀ r, row = some r → ∃ o : Obj, X.heap[r]? = some o ∧ o.isCells = false := fun r e => (hr r e).2
  exact ⟨v, h1.grown hg hr', kpP_own (β := Unit) hB5 () X Y row h2 hg hr, ownFrom_below (β := Unit) (Nat.le_refl _) hB () X Y row h3 hg hr, h4⟩
def RetPlan (w : World) (L : List HitL) (e : Ending) (w' : World) : Prop := ∃ v, e = .returned v ∧ HitsAt w' v L ∧ (∀ k, v.ownBlock = some k → w.heap.size ≤ k) ∧ Below w.heap.size w w'
set_option maxRecDepth 100000 in
set_option maxHeartbeats 16000000 in
theorem plan_in {w : World} {lo : Nat} {g : GhostB} {B : BoardL} (h : BoardAt w lo g B) (team : Int) (hat : (attackL B team).length ≤ 100) :
    CallsIn Fence.wide 9 Tryz.prog 16 #[.pointer (some ⟨g.q, 0, none⟩), .int .i64 team] w (RetPlan w (planL B team)) := by
  have HAT := Lib.hid hat
  have HH := Lib.hid h
  have HBW := Lib.hid (fun (W : World) (hb : Below w.heap.size w W) (x : Int) => blows_any (h.later hb) team x)
  have HBN := Lib.hid (fun x => blowsL_len h team x)
  have HPN := Lib.hid (fun l => planR_len h team l)
  have hb1 := below_new w (.cells #[.pointer (some ⟨g.q, 0, none⟩)] 26)
  have hb2 := below_new (w.alloc (.cells #[.pointer (some ⟨g.q, 0, none⟩)] 26)) (.cells #[.int .i64 team] 3)
  have hb3 := below_new ((w.alloc (.cells #[.pointer (some ⟨g.q, 0, none⟩)] 26)).alloc (.cells #[.int .i64 team] 3)) (.cells #[.slice none 0 0] 49)
  have hs0 := ((HdAt.new w (.pointer (some ⟨g.q, 0, none⟩)) 26).later hb2).later hb3
  have hs1 := (HdAt.new (w.alloc (.cells #[.pointer (some ⟨g.q, 0, none⟩)] 26)) (.int .i64 team) 3).later hb3
  have hl0 : HitIn (((w.alloc (.cells #[.pointer (some ⟨g.q, 0, none⟩)] 26)).alloc (.cells #[.int .i64 team] 3)).alloc (.cells #[.slice none 0 0] 49)) (w.heap.size + 3) (w.heap.size + 2) (.slice none 0 0) [] :=
    ⟨by have e := heap_alloc_new ((w.alloc (.cells #[.pointer (some ⟨g.q, 0, none⟩)] 26)).alloc (.cells #[.int .i64 team] 3)) (.cells #[.slice none 0 0] 49); simpa using e, World.ownsRow_nil _ _ _ _⟩
  have hbb := stepB (stepB hb1 hb2) hb3
  obtain ⟨Wc, hWc⟩ : ∃ Wc, ((w.alloc (.cells #[.pointer (some ⟨g.q, 0, none⟩)] 26)).alloc (.cells #[.int .i64 team] 3)).alloc (.cells #[.slice none 0 0] 49) = Wc := ⟨_, rfl⟩
  have hsz : Wc.heap.size = w.heap.size + 3 := by rw [← hWc]; simp
  rw [hWc] at hs0 hs1 hl0 hbb
  simp only [World.size_alloc] at hs1
  have HSZ := Lib.hid hsz
  have HS0 := Lib.hid hs0
  have HS1 := Lib.hid hs1
  have HL0 := Lib.hid hl0
  have HBB := Lib.hid hbb
  have cc1 := hs0.cell
  have cc2 := hs1.cell
  have HST := Lib.hid (attackers_any g.q team Wc)
  clear hb1 hb2 hb3 hs0 hs1 hl0 hbb h hsz hat
  obtain ⟨q, b, tb, s, r0, G⟩ := g
  dsimp only at cc1 HS0 HST HBW hWc ⊢
  refine callsIn_of_wp_marks Tryz.func16 rfl trivial ?_ rfl
  simp only [Tryz.ntmps16, List.size_toArray, List.length_cons, List.length_nil, Nat.reduceAdd, Nat.reduceSub, Array.replicate_succ, Array.replicate_zero, List.push_toArray, List.append_toArray, List.nil_append, List.cons_append]
  gi_wp2_with fail
  refine ⟨trivial, (callsIn_wide.2 HST.out).mono ?_⟩
  rintro e wr ⟨rfl, k1, k2, hbr⟩
  have HBR := Lib.hid (stepB HBB.out hbr)
  have HSB := Lib.hid (HS0.out.later hbr)
  have HSF := Lib.hid (HS1.out.later hbr)
  have HLB := Lib.hid (HL0.out.later hbr)
  obtain ⟨qq, hqq⟩ : ∃ qq, w.heap.size = qq := ⟨_, rfl⟩
  have HQQ := Lib.hid hqq
  rw [HSZ.out, hqq] at k1 k2
  have HSR := Lib.hid (show qq + 3 ≤ wr.heap.size by have := hbr.size; rw [HSZ.out, hqq] at this; exact this)
  have HSEQ := Lib.hid (attk_seq 8 (by omega) (w := wr) (fun _ => False) (fun k => k = qq + 2) (fun _ e => e.elim) k1 k2 (HH.out.later HBR.out) (fun c hc => by subst hc; refine ⟨_, (hqq ▸ HLB.out).head, fun k hk => by simp [Value.ownBlock] at hk⟩))
  rw [hqq] at HSB HSF
  have HOF := Lib.hid (show ∀ k, k ≠ qq + 2 → Off (fun k => k = qq + 2) wr k from fun k hk => off_one (hqq ▸ HLB.out).head hk (by simp [Value.ownBlock]))
  have HI0 : Hid (PlanI B team qq w wr [] wr) := Lib.hid ⟨.slice none 0 0, (by have := HLB.out; rw [hqq] at this; exact this), KpP.refl _ _ _, HBR.out, Nat.zero_le _⟩
  clear k1 k2 hbr HS0 HL0 HLB HS1 HST HBB cc1 cc2 hWc
  rw [HSZ.out]
  simp only [hqq]
  gi_wp2_with fail
  refine range_world3 rfl (by omega) (I := PlanI B team qq w wr) (Ix := fun _ _ _ => False) (gf := 41) (lb := _) rfl trivial (fun _ _ => by kernel_rfl) HSEQ.out KpP.trans (fun W' o o' ho hc _ => KpP.put o' (.inr rfl) ho hc) (fun W W' hb => KpP.of_below _ _ hb) (Below.refl _ _) (fun _ => rfl)
    (planI_own HBR.out.size (Nat.le_refl _)) (fun c s A B row hs hg hr => hs) (fun s A B row hs hg hr => hs) (fun s A B row hs hg hr => hs) HI0.out ?round ?done ?stop
  case stop =>
    rintro D c pre W hD hS hI hK
    exact hI.elim
  case round =>
    rintro pre x W K hI hT hsz hK
    have HSN := Lib.hid (planR_snoc B team pre x)
    have HTL := Lib.hid (show pre.length + 1 ≤ 100 from by have h1 := hT.length_le; have h2 := HAT.out; simp at h1; omega)
    have HK := Lib.hid hK
    clear hK hT hI
    simp only [encF]
    simp
    gi_wp2
    refine HK.out _ _ (Below.refl _ _) ?_
    clear HK
    intro Wb hsz2 hrest hkw ⟨v1, l0, k0, b0, hl1⟩
    have HKB := Lib.hid hkw
    have c2 := (box_kept HSB.out k0 (fun e => e) (HOF.out _ (by omega))).cell
    have c3 := (box_kept HSF.out k0 (fun e => e) (HOF.out _ (by omega))).cell
    have c5 := l0.head.cell
    have HL1 := Lib.hid l0
    have HK1 := Lib.hid k0
    have HB1 := Lib.hid b0
    obtain ⟨R, hR⟩ : ∃ R, planR B team pre = R := ⟨_, rfl⟩
    rw [hR] at HL1 HSN
    have HRL := Lib.hid (show R.length ≤ 200000 from by rw [← hR]; have h1 := HPN.out pre; have h2 := HTL.out; omega)
    have HM := Lib.hid (HBN.out x)
    have HBX := Lib.hid (fun (W' : World) (hb : Below Wb.heap.size Wb W') => HBW.out W' (stepB b0 hb) x)
    obtain ⟨M, hM⟩ : ∃ M, blowsL B team x = M := ⟨_, rfl⟩
    rw [hM] at HSN HM HBX
    obtain ⟨xa1, xc1, hv1⟩ := hits_form HL1.out.own
    subst hv1
    have HS := Lib.hid (fun (W' : World) (hb : Below Wb.heap.size Wb W') => show W'.cell? ⟨qq + 2, 0, none⟩ = some (.slice xa1 R.length xc1) ∧ W'.cell? ⟨qq, 0, none⟩ = some (.pointer (some ⟨q, 0, none⟩)) ∧ W'.cell? ⟨qq + 1, 0, none⟩ = some (.int .i64 team) from ⟨cell_stays hb c5, cell_stays hb c2, cell_stays hb c3⟩)
    clear hsz2 hrest hkw l0 k0 b0 hl1 hR hM c2 c3 c5
    gi_wp2_with fail
    refine wpIn_region_any (by kernel_rfl) ?_
    change wpAnyIn _ _ _ _ _ _ _ _ _ (World.drew _)
    refine anyC.any (c := 6) (S := fun w' => w'.cell? ⟨qq + 2, 0, none⟩ = some (.slice xa1 R.length xc1) ∧ w'.cell? ⟨qq, 0, none⟩ = some (.pointer (some ⟨q, 0, none⟩)) ∧ w'.cell? ⟨qq + 1, 0, none⟩ = some (.int .i64 team)) ?_
    refine anyC_take [5, 6] (i := 0) (v := ?_) (by decide) (by decide) (by kernel_rfl) (by kernel_rfl) (by kernel_rfl) (by kernel_rfl) rfl (by kernel_rfl) (by kernel_rfl) (by kernel_rfl) (fun _ _ _ h => h) (by kernel_rfl) (fun _ => rfl) ?_ ?_
    rotate_left
    · intro w' hS
      obtain ⟨s1, s2, s3⟩ := hS
      go_simp
      try with_reducible rfl
    refine anyC_take [4, 5, 6] (i := 1) (v := ?_) (by decide) (by decide) (by kernel_rfl) (by kernel_rfl) (by kernel_rfl) (by kernel_rfl) rfl (by kernel_rfl) (by kernel_rfl) (by kernel_rfl) (fun _ _ _ h => h) (by kernel_rfl) (fun _ => rfl) ?_ ?_
    rotate_left
    · intro w' hS
      obtain ⟨s1, s2, s3⟩ := hS
      go_simp
      try with_reducible rfl
    refine anyC_take [4, 5, 6] (i := 2) (v := ?_) (by decide) (by decide) (by kernel_rfl) (by kernel_rfl) (by kernel_rfl) (by kernel_rfl) rfl (by kernel_rfl) (by kernel_rfl) (by kernel_rfl) (fun _ _ _ h => h) (by kernel_rfl) (fun _ => rfl) ?_ ?_
    rotate_left
    · intro w' hS
      obtain ⟨s1, s2, s3⟩ := hS
      go_simp
      try with_reducible rfl
    refine anyC_take [4, 5, 6] (i := 3) (v := ?_) (by decide) (by decide) (by kernel_rfl) (by kernel_rfl) (by kernel_rfl) (by kernel_rfl) rfl (by kernel_rfl) (by kernel_rfl) (by kernel_rfl) (fun _ _ _ h => h) (by kernel_rfl) (fun _ => rfl) ?_ ?_
    rotate_left
    · intro w' hS
      obtain ⟨s1, s2, s3⟩ := hS
      go_simp
      try with_reducible rfl
    refine anyC_one (i := 4) (by kernel_rfl) rfl (fun _ => HS.out _ (Below.refl _ _).drew) (fun K hK => ?_)
    go_simp
    gi_wp2_with ((refine ⟨trivial, ?_⟩; gi_at_call 36; refine CallsIn.mono (F := Fence.wide) (callsIn_wide.2 (HBX.out _ (Below.refl _ _).drew)) ?_; rintro e w4 ⟨u, rfl, hu, hb4⟩; have HB4 := Lib.hid (stepB (Below.refl Wb.heap.size Wb).drew hb4); clear hb4))
    have HL4 := Lib.hid (HL1.out.later HB4.out)
    have HU := Lib.hid (own_hits hu)
    clear hu
    refine anyC_one (i := 5) (by kernel_rfl) rfl (fun _ => HS.out _ HB4.out) (fun K hK => ?_)
    refine stepIn_append_hits (w := w4) rfl _ _ rfl (qq + 3) (.slice xa1 R.length xc1) R M rfl _ HL4.out.own rfl HU.out HM.out.1 (by have h1 := HM.out.2; have h2 := HRL.out; omega) (by have h1 := HKB.out.size; have h2 := HB4.out.size; have h3 := HSR.out; omega) ?_
    intro ga cap w6 hown hgrow hat hlt
    have hsep : ∀ c, c = qq + 2 → (Value.slice xa1 R.length xc1).ownBlock ≠ some c := fun c hc e => by subst hc; exact (HL4.out.row _ e).2.2 rfl
    obtain ⟨l7, k7, h6⟩ := HitIn.app (E := fun _ => False) (H := fun k => k = qq + 2) HL4.out rfl hgrow hown (by
      rcases hat with e | e
      · exact .inl (by rw [e]; rfl)
      · exact .inr (by rw [e]; rfl)) hsep
    have c6 := h6.cell
    have f6 := h6.frozen
    have HB7 := Lib.hid (show Below w.heap.size w (w6.setCell ⟨qq + 2, 0, none⟩ (.slice (some ⟨ga, 0, none⟩) (R.length + M.length) cap)) from ((stepB HB1.out HB4.out).grown hgrow (by have h1 := HB1.out.size; have h2 := HB4.out.size; omega) (fun c e => by have := (HL4.out.row c e).1; have h2 := HQQ.out; omega)).setCell (by have h2 := HQQ.out; show w.heap.size ≤ qq + 2; omega) _)
    have HL7 := Lib.hid l7
    have HK7 := Lib.hid k7
    have HKW := Lib.hid (KpP.of_below (fun _ => False) (fun k => k = qq + 2) HB4.out)
    have HS6 := Lib.hid (show w6.cell? ⟨qq + 2, 0, none⟩ = some (.slice xa1 R.length xc1) ∧ w6.cell? ⟨qq, 0, none⟩ = some (.pointer (some ⟨q, 0, none⟩)) ∧ w6.cell? ⟨qq + 1, 0, none⟩ = some (.int .i64 team) from by
      obtain ⟨_, s2, s3⟩ := HS.out _ HB4.out
      have hlt4 : qq + 2 < w4.heap.size := HL4.out.head.lt
      refine ⟨c6, ?_, ?_⟩
      · rw [World.cell?_of_block (w := w4) (a := ⟨qq, 0, none⟩) (hgrow.block qq (by omega) (fun e => by have := (HL4.out.row _ e.symm).1; omega))]; exact s2
      · rw [World.cell?_of_block (w := w4) (a := ⟨qq + 1, 0, none⟩) (hgrow.block (qq + 1) (by omega) (fun e => by have := (HL4.out.row _ e.symm).1; omega))]; exact s3)
    clear hown hgrow hat hlt hsep l7 k7 h6
    refine hK _ _ ?_
    clear hK K
    refine anyC_one (i := 6) (by kernel_rfl) rfl (fun _ => HS6.out) (fun K hK => ?_)
    go_simp
    refine hK _ _ ?_
    clear hK K
    refine anyC_done (by kernel_rfl) (fun h => absurd ((show Array.getD _ 6 true = true by kernel_rfl).symm.trans h) (by decide)) ?_ _
    gi_wp2
    have HK8 := HKW.out.trans HK7.out
    exact ⟨HK8.from (fun k e => e.elim), HKB.out.trans (HK8.mono (fun k e => e.elim)), _, by rw [HSN.out]; exact HL7.out, HK1.out.trans HK8, HB7.out, by rw [List.length_append]; exact HTL.out⟩
  case done =>
    rintro D ys W hD hS ⟨v1, l0, k0, b0, hl1⟩ hK
    rw [show ys = attackL B team from hS] at l0
    have hlen : (planR B team (attackL B team)).length ≤ 1000000 := by have h1 := HPN.out (attackL B team); have h2 := HAT.out; omega
    have HDL := Lib.hid (delH_any l0.own hlen)
    have hPE : (planR B team (attackL B team)).filter nzB = planL B team := rfl
    obtain ⟨R, hR⟩ : ∃ R, planR B team (attackL B team) = R := ⟨_, rfl⟩
    rw [hR] at l0 HDL hPE
    have cl := l0.head.cell
    have HL1 := Lib.hid l0
    have HB1 := Lib.hid b0
    have HPE := Lib.hid hPE
    have HD := Lib.hid (show qq + 3 ≤ D from by have := HSR.out; have h2 : wr.heap.size ≤ D := hD; omega)
    obtain ⟨xa1, xc1, rfl⟩ := hits_form l0.own
    clear l0 k0 b0 hS hl1 hD hlen hPE hR
    unfold zeroFn at HDL
    gi_wp2_with fail
    refine ⟨trivial, (callsIn_wide.2 HDL.out).mono ?_⟩
    rintro e w5 ⟨u, rfl, hu, hgr, hob⟩
    have HOB := Lib.hid (show ∀ k, u.ownBlock = some k → w.heap.size ≤ k from fun k hk => by rw [hob] at hk; have h1 := (HL1.out.row k hk).1; have h2 := HQQ.out; omega)
    have hK5 : w5.heap[D]? = some (.deferred (some [])) := (hgr.block D (Array.getElem?_eq_some_iff.1 hK).1 (fun e => by
      obtain ⟨o, ho, hc⟩ := own_cellsN HL1.out.own D e.symm
      rw [hK] at ho
      injection ho with ho
      rw [← ho] at hc
      simp [Obj.isCells] at hc)).trans hK
    have HU := Lib.hid hu
    have HK5 := Lib.hid hK5
    have HB5 := Lib.hid (grown_of HB1.out hgr (fun k e => by have := (HL1.out.row k e).1; have := HQQ.out; omega))
    clear hK5 hgr cl hK hu hob
    dsimp only
    gi_wp2
    refine ⟨by simp, .inl ⟨_, _, rfl, run_takeDeferred HK5.out, ?_⟩⟩
    refine ⟨u, results_tmp (t := 4) rfl _ _ _, u, rfl, HPE.out ▸ HU.out.put _ HK5.out rfl, HOB.out, ?_⟩
    exact HB5.out.trans (belowK_b (w := w) (Nat.le_refl _) w5 D _ _ (by have := HD.out; have := HQQ.out; omega) HK5.out rfl rfl)
theorem plan_any {w : World} {lo : Nat} {g : GhostB} {B : BoardL} (h : BoardAt w lo g B) (team : Int) (hat : (attackL B team).length ≤ 100) :
    Calls Tryz.prog 16 #[.pointer (some ⟨g.q, 0, none⟩), .int .i64 team] w (RetPlan w (planL B team)) := (callsIn_wide (n := 9)).1 (plan_in h team hat)
end Go.Proofs.YtjgjhfeopmakaaaGreat

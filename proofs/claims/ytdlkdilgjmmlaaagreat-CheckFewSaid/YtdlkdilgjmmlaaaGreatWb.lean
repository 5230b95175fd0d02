/- Who is to die, one by one, as a range over a function (layer 14); what a list is that it gives. -/
import Derived.Test.YtdlkdilgjmmlaaaGreatFx
import Derived.Test.YtdlkdilgjmmlaaaGreatSn
namespace Go.Proofs.YtdlkdilgjmmlaaaGreat
open Go.RowKit Go.Maps
attribute [local go_sem] Oper.semAt_some

def diesO (S : StoreL) (pre : List ObjL) : List Int := (pre.filter (fun o => deadS S o.id)).map (·.id)
def diesL (S : StoreL) : List Int := diesO S (fieldL S [])
theorem diesO_snoc (S : StoreL) (pre : List ObjL) (x : ObjL) : diesO S (pre ++ [x]) = if deadS S x.id then diesO S pre ++ [x.id] else diesO S pre := by
  unfold diesO
  rw [List.filter_append, List.map_append]
  by_cases h : deadS S x.id = true
  · rw [if_pos h]
    simp [h]
  · rw [if_neg h]
    simp [h]
theorem diesO_pre {S : StoreL} {L pre : List ObjL} (h : pre <+: L) : diesO S pre <+: diesO S L := by
  obtain ⟨r, rfl⟩ := h
  refine ⟨diesO S r, ?_⟩
  unfold diesO
  rw [List.filter_append, List.map_append]
theorem none_ints (w : World) : IntsAt w (.slice none 0 0) [] := .inl ⟨none, 0, rfl, rfl⟩
set_option maxRecDepth 100000 in
set_option maxHeartbeats 16000000 in
theorem dying1_in (n : Nat) (hn : 4 ≤ n) (l c1 lo : Nat) (g : GhostB) (B : BoardL) (E H : Nat → Prop) (W : World) (hE : ∀ k, E k → k < W.heap.size) (hEG : ∀ k, E k → ¬g.own k) (hcE : ¬E c1) (hH : Heads H W) (hoff : ∀ k, g.own k ∨ k = c1 → Off H W k)
    (h1 : HdAt W c1 (.pointer (some ⟨g.q, 0, none⟩))) (h : BoardAt W lo g B)
    (J Jx : List Int → World → Prop) (hJ : OwnFrom W.heap.size J) (hJx : OwnFrom W.heap.size Jx)
    (hY : ∀ pre (x : Int) W1, J pre W1 → pre ++ [x] <+: diesL B.S → YieldAt Fence.wide (n - 1) Tryz.prog l (encF x) W1 fun e W' =>
      (e = .returned (.bool true) ∧ J (pre ++ [x]) W' ∧ KpP E H W1 W') ∨ (e = .returned (.bool false) ∧ Jx (pre ++ [x]) W' ∧ KpP E H W1 W'))
    (h0 : J [] W) :
    CallsIn Fence.wide n Tryz.prog 88 #[.func (.yield l) #[] #[], .pointer (some ⟨c1, 0, none⟩)] W fun e W' => (∃ v, e = .returned v) ∧
      (J (diesL B.S) W' ∨ (∃ pre, pre <+: diesL B.S ∧ Jx pre W')) := by
  have HJ := Lib.hid hJ
  have HJX := Lib.hid hJx
  have HY := Lib.hid hY
  have HE := Lib.hid hE
  have HEG := Lib.hid hEG
  have HCE := Lib.hid hcE
  have HLT := Lib.hid (fun k hk => h.ownLt (k := k) hk)
  have b0 := below_new W (.cells #[.func (.yield l) #[] #[]] 48)
  have HS0 := Lib.hid (h.later b0)
  have HC0 := Lib.hid (h1.later b0)
  have HY0 := Lib.hid (HdAt.new W (.func (.yield l) #[] #[]) 48)
  have HJ0 := Lib.hid (OwnFrom.later hJ h0 b0)
  have HO0 := Lib.hid (show ∀ k, g.own k ∨ k = c1 ∨ k = W.heap.size → Off H (W.alloc (.cells #[.func (.yield l) #[] #[]] 48)) k from fun k hk => by
    rcases hk with hk | rfl | rfl
    · exact (hoff k (.inl hk)).later b0
    · exact (hoff k (.inr rfl)).later b0
    · exact hH.off (Nat.le_refl _) b0)
  have HH := Lib.hid (hH.later b0)
  have c1c := (h1.later b0).cell
  have c2c := (h.later b0).cells.1
  obtain ⟨q, hq⟩ : ∃ q, g.q = q := ⟨_, rfl⟩
  obtain ⟨b, hb⟩ : ∃ b, g.b = b := ⟨_, rfl⟩
  have HQ := Lib.hid (And.intro hq hb)
  rw [hq] at c1c c2c HC0
  rw [hb] at c2c
  have HB0 := Lib.hid b0
  have HSZ := Lib.hid (show (W.alloc (.cells #[.func (.yield l) #[] #[]] 48)).heap.size = W.heap.size + 1 from World.size_alloc _ _)
  have HFA := Lib.hid (field_any (some ⟨b, 0, none⟩) (none_ints (W.alloc (.cells #[.func (.yield l) #[] #[]] 48))) (by simp))
  clear hJ hJx hY hE hEG hcE hH hoff h1 h h0 b0 hq hb
  refine callsIn_of_wp_marks Tryz.func88 rfl trivial ?_ rfl
  simp only [Tryz.ntmps88, List.size_toArray, List.length_cons, List.length_nil, Nat.reduceAdd, Nat.reduceSub, Array.replicate_succ, Array.replicate_zero, List.push_toArray, List.append_toArray, List.nil_append, List.cons_append]
  gi_wp2_with fail
  obtain ⟨W1, hW1⟩ : ∃ W1, W.alloc (.cells #[.func (.yield l) #[] #[]] 48) = W1 := ⟨_, rfl⟩
  obtain ⟨qy, hqy⟩ : ∃ qy, W.heap.size = qy := ⟨_, rfl⟩
  rw [hW1] at HS0 HC0 HY0 HJ0 HSZ HO0 HH HB0 HFA ⊢
  rw [hqy] at HY0 HSZ HO0 ⊢
  have HQY := Lib.hid hqy
  clear c1c c2c hW1 hqy
  refine ⟨trivial, fun _ => by omega, (callsIn_wide.2 HFA.out).mono ?_⟩
  rintro e w1 ⟨rfl, k1, ⟨u, k2, ku⟩, hb1⟩
  have hsz1 := hb1.size
  obtain ⟨qf, hqf⟩ : ∃ qf, W1.heap.size = qf := ⟨_, rfl⟩
  have HQF := Lib.hid hqf
  rw [hqf] at k1 k2
  have HSEQ := Lib.hid (field_seq (n - 1) (by omega) (w := w1) E H (fun k hk => by have := HE.out k hk; have := HSZ.out; have := HQY.out; omega) k1 k2 (by rw [← HQ.out.2]; exact (HS0.out.later hb1).st) HS0.out.wf (by have := HS0.out.len; omega) ku (by simp) (HH.out.later hb1))
  have HSB1 := Lib.hid (HS0.out.later hb1)
  have HC1a := Lib.hid (HC0.out.later hb1)
  have HY1 := Lib.hid (HY0.out.later hb1)
  have HJ1 := Lib.hid (OwnFrom.later HJ.out HJ0.out hb1)
  have HO1 := Lib.hid (fun k hk => (HO0.out k hk).later hb1)
  have HSZ1 := Lib.hid (show W.heap.size < w1.heap.size by have := HSZ.out; have := HQY.out; omega)
  clear hb1 hsz1 k1 k2 ku
  dsimp only
  rw [hqf]
  clear hqf
  gi_wp2_with fail
  refine range_world3 rfl (by omega) (I := fun pre W' => J (diesO B.S pre) W' ∧ BoardAt W' lo g B ∧ HdAt W' c1 (.pointer (some ⟨q, 0, none⟩)) ∧ HdAt W' qy (.func (.yield l) #[] #[]) ∧ ∀ k, g.own k ∨ k = c1 ∨ k = qy → Off H W' k) (Ix := fun c pre W' => c = .ret ∧ Jx (diesO B.S pre) W') (gf := 65) (lb := _) rfl trivial (fun _ _ => by kernel_rfl) HSEQ.out KpP.trans (fun W' o o' ho hc _ => KpP.put o' (.inr rfl) ho hc) (fun W W' hb => KpP.of_below _ _ hb) (Below.refl _ _) (fun _ => rfl)
    (fun s A B' row hs hg hr => ⟨HJ.out _ A B' row hs.1 hg (fun r e => ⟨by have := (hr r e).1; have := HSZ1.out; omega, (hr r e).2⟩),
      hs.2.1.kept hg.size (fun k hk => hg.block k (hs.2.1.ownLt hk) (fun e => by have := (hr k e.symm).1; have := HLT.out k hk; have := HSZ1.out; omega)),
      hs.2.2.1.grown hg (fun r e => (hr r e).2), hs.2.2.2.1.grown hg (fun r e => (hr r e).2), fun k hk => (hs.2.2.2.2 k hk).grown hg (fun r e => (hr r e).2)⟩)
    (fun c s A B' row hs hg hr => ⟨hs.1, HJX.out _ A B' row hs.2 hg (fun r e => ⟨by have := (hr r e).1; have := HSZ1.out; omega, (hr r e).2⟩)⟩)
    (fun s A B' row hs hg hr => hs) (fun s A B' row hs hg hr => hs) ⟨HJ1.out, HSB1.out, HC1a.out, HY1.out, HO1.out⟩ ?round ?done ?stop
  case round =>
    rintro pre x Wr K hI hT hsz hK
    have HSN := Lib.hid (diesO_snoc B.S pre x)
    have HTP := Lib.hid (diesO_pre (S := B.S) hT)
    obtain ⟨x0, x1, x2, x3, x4, x5, x6, x7, x8, x9, x10⟩ := x
    dsimp only at HSN
    have HK := Lib.hid hK
    clear hK hT hI
    simp only [encO, ocs]
    simp
    gi_wp2
    refine HK.out _ _ (below_new Wr _) ?_
    clear HK
    intro Wb hsz2 hrest hkw ⟨hj, hs, hc, hy, ho⟩
    have hqz := (hrest Wr.heap.size (by omega)).trans (heap_alloc_new Wr (.cells #[.int .i64 x0, .int .i64 x1, .int .i64 x2, .int .i64 x3, .bool x4, .bool x5, .int .i64 x6, .int .i64 x7, .int .i64 x8, .int .i64 x9, .bool x10] 39))
    have HKW := Lib.hid hkw
    have HJB := Lib.hid hj
    have HSB := Lib.hid hs
    have HC1 := Lib.hid hc
    have HYB := Lib.hid hy
    have HOB := Lib.hid ho
    obtain ⟨qz, hqz0⟩ : ∃ qz, Wr.heap.size = qz := ⟨_, rfl⟩
    rw [hqz0] at hqz ⊢
    have hqc : Wb.cell? ⟨qz, 0, none⟩ = some (.int .i64 x0) := (obj_of_row (x := ⟨x0, x1, x2, x3, x4, x5, x6, x7, x8, x9, x10⟩) hqz).1
    have HSF := Lib.hid (fun (w' : World) (hb : Below Wb.heap.size Wb w') => show w'.cell? ⟨c1, 0, none⟩ = some (.pointer (some ⟨q, 0, none⟩)) ∧ w'.cell? ⟨q, 0, none⟩ = some (.pointer (some ⟨b, 0, none⟩)) ∧ w'.cell? ⟨qz, 0, none⟩ = some (.int .i64 x0) ∧ w'.cell? ⟨qy, 0, none⟩ = some (.func (.yield l) #[] #[]) from ⟨cell_stays hb hc.cell, cell_stays hb (by rw [← HQ.out.1, ← HQ.out.2]; exact hs.cells.1), cell_stays hb hqc, cell_stays hb hy.cell⟩)
    have HDD := Lib.hid (fun (w' : World) (hb : Below Wb.heap.size Wb w') => dead_any (hs.st.later hb) hs.wf (by have := hs.len; omega) x0)
    rw [HQ.out.2] at HDD
    clear hsz2 hrest hkw hj hs hc hy ho hqz0 hqz hqc
    gi_wp2
    cases hz : deadS B.S x0 with
    | true =>
      rw [hz, if_pos rfl] at HSN
      rw [hz] at HDD
      have hYY := HY.out (diesO B.S pre) x0
      simp only [encF] at hYY
      have HYY := Lib.hid hYY
      clear hYY hz
      refine wpIn_region_any (by kernel_rfl) ?_
      change wpAnyIn _ _ _ _ _ _ _ _ _ (World.drew _)
      refine anyC.any (c := 11) (S := fun w' => w'.cell? ⟨c1, 0, none⟩ = some (.pointer (some ⟨q, 0, none⟩)) ∧ w'.cell? ⟨q, 0, none⟩ = some (.pointer (some ⟨b, 0, none⟩)) ∧ w'.cell? ⟨qz, 0, none⟩ = some (.int .i64 x0) ∧ w'.cell? ⟨qy, 0, none⟩ = some (.func (.yield l) #[] #[])) ?_
      refine anyC_take [1, 2, 3, 6, 7, 8, 9, 10, 11] (i := 0) (v := ?_) (by decide) (by decide) (by kernel_rfl) (by kernel_rfl) (by kernel_rfl) (by kernel_rfl) rfl (by kernel_rfl) (by kernel_rfl) (by kernel_rfl) (fun _ _ _ h => h) (by kernel_rfl) (fun _ => rfl) ?_ ?_
      rotate_left
      · intro w' hS
        obtain ⟨s1, s2, s3, s4⟩ := hS
        go_simp
        try with_reducible rfl
      refine anyC_take [2, 3, 6, 7, 8, 9, 10, 11] (i := 1) (v := ?_) (by decide) (by decide) (by kernel_rfl) (by kernel_rfl) (by kernel_rfl) (by kernel_rfl) rfl (by kernel_rfl) (by kernel_rfl) (by kernel_rfl) (fun _ _ _ h => h) (by kernel_rfl) (fun _ => rfl) ?_ ?_
      rotate_left
      · intro w' hS
        obtain ⟨s1, s2, s3, s4⟩ := hS
        go_simp
        try with_reducible rfl
      refine anyC_take [3, 6, 7, 8, 9, 10, 11] (i := 2) (v := ?_) (by decide) (by decide) (by kernel_rfl) (by kernel_rfl) (by kernel_rfl) (by kernel_rfl) rfl (by kernel_rfl) (by kernel_rfl) (by kernel_rfl) (fun _ _ _ h => h) (by kernel_rfl) (fun _ => rfl) ?_ ?_
      rotate_left
      · intro w' hS
        obtain ⟨s1, s2, s3, s4⟩ := hS
        go_simp
        try with_reducible rfl
      refine anyC_take [6, 7, 8, 9, 10, 11] (i := 3) (v := ?_) (by decide) (by decide) (by kernel_rfl) (by kernel_rfl) (by kernel_rfl) (by kernel_rfl) rfl (by kernel_rfl) (by kernel_rfl) (by kernel_rfl) (fun _ _ _ h => h) (by kernel_rfl) (fun _ => rfl) ?_ ?_
      rotate_left
      · intro w' hS
        obtain ⟨s1, s2, s3, s4⟩ := hS
        go_simp
        try with_reducible rfl
      refine anyC_take [5, 6, 7, 8, 9, 10, 11] (i := 4) (v := ?_) (by decide) (by decide) (by kernel_rfl) (by kernel_rfl) (by kernel_rfl) (by kernel_rfl) rfl (by kernel_rfl) (by kernel_rfl) (by kernel_rfl) (fun _ _ _ h => h) (by kernel_rfl) (fun _ => rfl) ?_ ?_
      rotate_left
      · intro w' hS
        obtain ⟨s1, s2, s3, s4⟩ := hS
        go_simp
        try with_reducible rfl
      refine anyC_take [6, 7, 8, 9, 10, 11] (i := 5) (v := ?_) (by decide) (by decide) (by kernel_rfl) (by kernel_rfl) (by kernel_rfl) (by kernel_rfl) rfl (by kernel_rfl) (by kernel_rfl) (by kernel_rfl) (fun _ _ _ h => h) (by kernel_rfl) (fun _ => rfl) ?_ ?_
      rotate_left
      · intro w' hS
        obtain ⟨s1, s2, s3, s4⟩ := hS
        go_simp
        try with_reducible rfl
      refine anyC_one (i := 6) (by kernel_rfl) rfl (fun _ => HSF.out _ (Below.refl _ _).drew) (fun K hK => ?_)
      go_simp
      gi_wp2_with ((refine ⟨trivial, fun _ => by omega, ?_⟩; gi_at_call 32; refine CallsIn.mono (F := Fence.wide) (callsIn_wide.2 (HDD.out _ (Below.refl _ _).drew)) ?_; rintro e w4 ⟨rfl, hb4⟩; have HB4 := Lib.hid (stepB (Below.refl Wb.heap.size Wb).drew hb4); clear hb4))
      have HJ4 := Lib.hid (OwnFrom.later HJ.out HJB.out HB4.out)
      refine anyC_take [8, 9, 10, 11] (i := 7) (v := ?_) (by decide) (by decide) (by kernel_rfl) (by kernel_rfl) (by kernel_rfl) (by kernel_rfl) rfl (by kernel_rfl) (by kernel_rfl) (by kernel_rfl) (fun _ _ _ h => h) (by kernel_rfl) (fun _ => rfl) ?_ ?_
      rotate_left
      · intro w' hS
        obtain ⟨s1, s2, s3, s4⟩ := hS
        go_simp
        try with_reducible rfl
      refine anyC_take [11] (i := 8) (v := ?_) (by decide) (by decide) (by kernel_rfl) (by kernel_rfl) (by kernel_rfl) (by kernel_rfl) rfl (by kernel_rfl) (by kernel_rfl) (by kernel_rfl) (fun _ _ _ h => h) (by kernel_rfl) (fun _ => rfl) ?_ ?_
      rotate_left
      · intro w' hS
        obtain ⟨s1, s2, s3, s4⟩ := hS
        go_simp
        try with_reducible rfl
      refine anyC_take [10, 11] (i := 9) (v := ?_) (by decide) (by decide) (by kernel_rfl) (by kernel_rfl) (by kernel_rfl) (by kernel_rfl) rfl (by kernel_rfl) (by kernel_rfl) (by kernel_rfl) (fun _ _ _ h => h) (by kernel_rfl) (fun _ => rfl) ?_ ?_
      rotate_left
      · intro w' hS
        obtain ⟨s1, s2, s3, s4⟩ := hS
        go_simp
        try with_reducible rfl
      refine anyC_take [11] (i := 10) (v := ?_) (by decide) (by decide) (by kernel_rfl) (by kernel_rfl) (by kernel_rfl) (by kernel_rfl) rfl (by kernel_rfl) (by kernel_rfl) (by kernel_rfl) (fun _ _ _ h => h) (by kernel_rfl) (fun _ => rfl) ?_ ?_
      rotate_left
      · intro w' hS
        obtain ⟨s1, s2, s3, s4⟩ := hS
        go_simp
        try with_reducible rfl
      obtain ⟨fn, tmps, assign, body', hyy, hR⟩ := HYY.out w4 HJ4.out (by rw [← HSN.out]; exact HTP.out)
      have HRR := Lib.hid hR
      clear hR
      refine anyC_one (i := 11) (by kernel_rfl) rfl (fun _ => HSF.out _ HB4.out) (fun K hK => ?_)
      go_simp
      gi_wp2_with ((refine ⟨fun _ => by omega, ?_⟩; refine RoundIn.mono (F := Fence.wide) (roundIn_wide HRR.out) ?_; rintro e w6 hcase; obtain ⟨bb, rfl, HH6⟩ := yield_cases hcase; clear hcase))
      have HKP6 : Hid (KpP E H Wb w6) := Lib.hid (by
        have hk6 : KpP E H w4 w6 := by
          cases bb
          · exact (HH6.out.2 rfl).2
          · exact (HH6.out.1 rfl).2
        exact (KpP.of_below E H HB4.out).trans hk6)
      refine anyC_one (i := 12) (by kernel_rfl) rfl (fun h => absurd ((show Array.getD _ 11 true = true by kernel_rfl).symm.trans h) (by decide)) (fun K hK => ?_)
      go_simp
      refine hK _ _ ?_
      clear hK K
      refine anyC_one (i := 13) (by kernel_rfl) rfl (fun h => absurd ((show Array.getD _ 11 true = true by kernel_rfl).symm.trans h) (by decide)) (fun K hK => ?_)
      go_simp
      refine hK _ _ ?_
      clear hK K
      refine anyC_done (by kernel_rfl) (fun h => absurd ((show Array.getD _ 11 true = true by kernel_rfl).symm.trans h) (by decide)) ?_ _
      have HST6 := Lib.hid (show BoardAt w6 lo g B from HSB.out.kept HKP6.out.size (fun k hk => by
        have hlt := HSB.out.ownLt hk
        have ho : Wb.heap[k]? = some Wb.heap[k] := Array.getElem?_eq_getElem hlt
        exact (HKP6.out.rest k _ ho (fun e => HEG.out k e hk) (fun _ => HOB.out k (.inl hk))).trans ho.symm))
      have HC6 := Lib.hid (box_kept HC1.out HKP6.out HCE.out (HOB.out _ (.inr (.inl rfl))))
      have HY6 := Lib.hid (box_kept HYB.out HKP6.out (fun e => by have := HE.out _ e; have := HQY.out; omega) (HOB.out _ (.inr (.inr rfl))))
      have HO6 := Lib.hid (show ∀ k, g.own k ∨ k = c1 ∨ k = qy → Off H w6 k from fun k hk => HKP6.out.off (HOB.out k hk) (by
        rcases hk with hk | rfl | rfl
        · exact HSB.out.ownLt hk
        · exact HC1.out.lt
        · exact HYB.out.lt))
      have HFR := Lib.hid (show KeepsFrom w1.heap.size Wb w6 from HKP6.out.from (fun k e => by have := HE.out k e; have := HSZ1.out; omega))
      have HK9 := Lib.hid (HKW.out.trans (HKP6.out.mono (fun k h => .inl h)))
      cases bb
      · have h6 := (HH6.out.2 rfl).1
        rw [← HSN.out] at h6
        have HJ6 := Lib.hid h6
        clear h6
        gi_wp2
        exact ⟨HFR.out, HK9.out, rfl, HJ6.out⟩
      · have h6 := (HH6.out.1 rfl).1
        rw [← HSN.out] at h6
        have HJ6 := Lib.hid h6
        clear h6
        gi_wp2
        exact ⟨HFR.out, HK9.out, HJ6.out, HST6.out, HC6.out, HY6.out, HO6.out⟩
    | false =>
      rw [hz, if_neg (by decide)] at HSN
      rw [hz] at HDD
      clear hz
      refine wpIn_region_any (by kernel_rfl) ?_
      change wpAnyIn _ _ _ _ _ _ _ _ _ (World.drew _)
      refine anyS.any (S := fun w' => w'.cell? ⟨c1, 0, none⟩ = some (.pointer (some ⟨q, 0, none⟩)) ∧ w'.cell? ⟨q, 0, none⟩ = some (.pointer (some ⟨b, 0, none⟩)) ∧ w'.cell? ⟨qz, 0, none⟩ = some (.int .i64 x0) ∧ w'.cell? ⟨qy, 0, none⟩ = some (.func (.yield l) #[] #[])) ?_
      refine anyS_take (i := 0) (v := ?_) (by kernel_rfl) rfl (by kernel_rfl) (by kernel_rfl) (by kernel_rfl) (fun _ _ _ h => h) (by kernel_rfl) (fun _ => rfl) ?_ ?_
      rotate_left
      · intro w' hS
        obtain ⟨s1, s2, s3, s4⟩ := hS
        go_simp
        try with_reducible rfl
      refine anyS_take (i := 1) (v := ?_) (by kernel_rfl) rfl (by kernel_rfl) (by kernel_rfl) (by kernel_rfl) (fun _ _ _ h => h) (by kernel_rfl) (fun _ => rfl) ?_ ?_
      rotate_left
      · intro w' hS
        obtain ⟨s1, s2, s3, s4⟩ := hS
        go_simp
        try with_reducible rfl
      refine anyS_take (i := 2) (v := ?_) (by kernel_rfl) rfl (by kernel_rfl) (by kernel_rfl) (by kernel_rfl) (fun _ _ _ h => h) (by kernel_rfl) (fun _ => rfl) ?_ ?_
      rotate_left
      · intro w' hS
        obtain ⟨s1, s2, s3, s4⟩ := hS
        go_simp
        try with_reducible rfl
      refine anyS_take (i := 3) (v := ?_) (by kernel_rfl) rfl (by kernel_rfl) (by kernel_rfl) (by kernel_rfl) (fun _ _ _ h => h) (by kernel_rfl) (fun _ => rfl) ?_ ?_
      rotate_left
      · intro w' hS
        obtain ⟨s1, s2, s3, s4⟩ := hS
        go_simp
        try with_reducible rfl
      refine anyS_take (i := 4) (v := ?_) (by kernel_rfl) rfl (by kernel_rfl) (by kernel_rfl) (by kernel_rfl) (fun _ _ _ h => h) (by kernel_rfl) (fun _ => rfl) ?_ ?_
      rotate_left
      · intro w' hS
        obtain ⟨s1, s2, s3, s4⟩ := hS
        go_simp
        try with_reducible rfl
      refine anyS_take (i := 5) (v := ?_) (by kernel_rfl) rfl (by kernel_rfl) (by kernel_rfl) (by kernel_rfl) (fun _ _ _ h => h) (by kernel_rfl) (fun _ => rfl) ?_ ?_
      rotate_left
      · intro w' hS
        obtain ⟨s1, s2, s3, s4⟩ := hS
        go_simp
        try with_reducible rfl
      refine anyS_one (i := 6) (by kernel_rfl) rfl (HSF.out _ (Below.refl _ _).drew) (fun K hK => ?_)
      go_simp
      gi_wp2_with ((refine ⟨trivial, fun _ => by omega, ?_⟩; gi_at_call 32; refine CallsIn.mono (F := Fence.wide) (callsIn_wide.2 (HDD.out _ (Below.refl _ _).drew)) ?_; rintro e w4 ⟨rfl, hb4⟩; have HB4 := Lib.hid (stepB (Below.refl Wb.heap.size Wb).drew hb4); clear hb4))
      refine anyS_take (i := 7) (v := ?_) (by kernel_rfl) rfl (by kernel_rfl) (by kernel_rfl) (by kernel_rfl) (fun _ _ _ h => h) (by kernel_rfl) (fun _ => rfl) ?_ ?_
      rotate_left
      · intro w' hS
        obtain ⟨s1, s2, s3, s4⟩ := hS
        go_simp
        try with_reducible rfl
      refine anyS_skip (i := 8) (by kernel_rfl) rfl (by kernel_rfl) (by kernel_rfl) (by kernel_rfl) (fun _ _ _ h => h) (by kernel_rfl) (fun _ => by rfl) ?_
      refine anyS_skip (i := 9) (by kernel_rfl) rfl (by kernel_rfl) (by kernel_rfl) (by kernel_rfl) (fun _ _ _ h => h) (by kernel_rfl) (fun _ => by rfl) ?_
      refine anyS_skip (i := 10) (by kernel_rfl) rfl (by kernel_rfl) (by kernel_rfl) (by kernel_rfl) (fun _ _ _ h => h) (by kernel_rfl) (fun _ => by rfl) ?_
      refine anyS_one (i := 11) (by kernel_rfl) rfl (HSF.out _ HB4.out) (fun K hK => ?_)
      go_simp
      refine ⟨fun _ _ => trivial, hK _ _ ?_⟩
      clear hK K
      refine anyS_skip (i := 12) (by kernel_rfl) rfl (by kernel_rfl) (by kernel_rfl) (by kernel_rfl) (fun _ _ _ h => h) (by kernel_rfl) (fun _ => by rfl) ?_
      refine anyS_take (i := 13) (v := ?_) (by kernel_rfl) rfl (by kernel_rfl) (by kernel_rfl) (by kernel_rfl) (fun _ _ _ h => h) (by kernel_rfl) (fun _ => rfl) ?_ ?_
      rotate_left
      · intro w' hS
        obtain ⟨s1, s2, s3, s4⟩ := hS
        go_simp
        try with_reducible rfl
      refine anyS_done (by kernel_rfl) (HSF.out _ HB4.out) ?_ _
      have HJ6 := Lib.hid (show J (diesO B.S (pre ++ [⟨x0, x1, x2, x3, x4, x5, x6, x7, x8, x9, x10⟩])) w4 by rw [HSN.out]; exact OwnFrom.later HJ.out HJB.out HB4.out)
      have kw := KpP.of_below E H HB4.out
      have HFR := Lib.hid (show KeepsFrom w1.heap.size Wb w4 from kw.from (fun k e => by have := HE.out k e; have := HSZ1.out; omega))
      have HK9 := Lib.hid (HKW.out.trans (kw.mono (fun k h => .inl h)))
      clear kw
      gi_wp2
      exact ⟨HFR.out, HK9.out, HJ6.out, HSB.out.later HB4.out, HC1.out.later HB4.out, HYB.out.later HB4.out, fun k hk => (HOB.out k hk).later HB4.out⟩
  case done =>
    rintro D xs W' hD hS ⟨hj, _⟩ hK
    rw [hS] at hj
    have HJ' := Lib.hid hj
    have HK := Lib.hid hK
    have HD := Lib.hid (show w1.heap.size ≤ D from hD)
    clear hS hj hD hK
    gi_wp2
    refine ⟨by simp, .inl ⟨_, _, rfl, run_takeDeferred HK.out, ?_⟩⟩
    exact ⟨_, results_none rfl _ _ _, ⟨_, rfl⟩, .inl (HJ.out.putObj _ HJ'.out (by have := HD.out; have := HSZ1.out; omega) HK.out rfl)⟩
  case stop =>
    rintro D c pre W' hD hS ⟨rfl, hj⟩ hK
    have HP := Lib.hid (diesO_pre (S := B.S) hS)
    have HJ' := Lib.hid hj
    have HK := Lib.hid hK
    have HD := Lib.hid (show w1.heap.size ≤ D from hD)
    clear hS hj hD hK
    gi_wp2
    refine ⟨by simp, .inl ⟨_, _, rfl, run_takeDeferred HK.out, ?_⟩⟩
    exact ⟨_, results_none rfl _ _ _, ⟨_, rfl⟩, .inr ⟨_, HP.out, HJX.out.putObj _ HJ'.out (by have := HD.out; have := HSZ1.out; omega) HK.out rfl⟩⟩
/-- The function value that dying returns keeps the contract of the law on ranges. -/
theorem dying_seq (n : Nat) (hn : 4 ≤ n) {w : World} {c1 lo : Nat} {g : GhostB} {B : BoardL} (E H : Nat → Prop) (hE : ∀ k, E k → k < w.heap.size) (hEG : ∀ k, E k → ¬g.own k) (hcE : ¬E c1) (hH : Heads H w) (hoff : ∀ k, g.own k ∨ k = c1 → Off H w k)
    (h1 : HdAt w c1 (.pointer (some ⟨g.q, 0, none⟩))) (h : BoardAt w lo g B) :
    SeqW Fence.wide n Tryz.prog 88 #[.pointer (some ⟨c1, 0, none⟩)] encF (fun l => KpP (fun k => E k ∨ k = l) H) (fun pre x => pre ++ [x] <+: diesL B.S) (fun xs _ => xs = diesL B.S) (fun pre _ => pre <+: diesL B.S) w := by
  intro l J Jx W hW hl1 hl2 hJ hJx hY h0
  have hlt := h1.lt
  refine (dying1_in n hn l c1 lo g B (fun k => E k ∨ k = l) H W (fun k hk => by rcases hk with hk | rfl; exact Nat.lt_of_lt_of_le (hE k hk) hW.size; exact hl2) (fun k hk => by rcases hk with hk | rfl; exact hEG k hk; exact fun e => by have := h.ownLt e; omega) (fun e => by rcases e with e | e; exact hcE e; omega) (hH.later hW) (fun k hk => (hoff k hk).later hW)
    (h1.later hW) (h.later hW) J Jx hJ hJx (fun pre x W1 hj ht => hY pre x W1 hj ht) h0).mono ?_
  rintro e W' ⟨h1, h2 | ⟨pre, h2, h3⟩⟩
  · exact ⟨h1, .inl ⟨_, rfl, h2⟩⟩
  · exact ⟨h1, .inr ⟨_, h2, h3⟩⟩
def RetDying (w : World) (p : Option Addr) (e : Ending) (w' : World) : Prop := e = .returned (.func (.func 88) #[] #[.pointer (some ⟨w.heap.size, 0, none⟩)]) ∧ HdAt w' w.heap.size (.pointer p) ∧ Below w.heap.size w w'
theorem dying_any (p : Option Addr) (w : World) : Calls Tryz.prog 49 #[.pointer p] w (RetDying w p) := by
  have hmf := @mk_func
  go_enter Tryz.func49, Tryz.ntmps49
  go_wp2
  go_ret
  exact ⟨rfl, HdAt.new w _ _, below_new w _⟩
end Go.Proofs.YtdlkdilgjmmlaaaGreat

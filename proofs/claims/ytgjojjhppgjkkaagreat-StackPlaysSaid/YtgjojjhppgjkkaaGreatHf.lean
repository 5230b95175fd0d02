/- Add (layer 6): an object more. -/
import Derived.Test.YtgjojjhppgjkkaaGreatHe
namespace Go.Proofs.YtgjojjhppgjkkaaGreat
open Go.RowKit Go.Maps

theorem info_obj : (Tryz.prog.info? 35).map (fun i => (i.zero, i.size, i.bytes)) = some (some (.agg #[.int .i64 0, .int .i64 0, .int .i64 0, .int .i64 0, .bool false, .bool false, .int .i64 0, .int .i64 0, .int .i64 0, .int .i64 0, .bool false]), 11, 80) := by kernel_rfl
theorem ocells_one (x : ObjL) : ∀ u ∈ ocells x, u.oneCell' = true := by
  intro u hu
  simp only [ocells, List.mem_cons, List.not_mem_nil, or_false] at hu
  rcases hu with rfl | rfl | rfl | rfl | rfl | rfl | rfl | rfl | rfl | rfl | rfl <;> rfl
theorem step_append_obj {ops : Array Oper} {o : Oper} {a : Act} {w : World} {K : Act → World → Prop} {Q : Exit → Act → World → Prop} {E : Prop} (hgd : o.guard = none) (s x : Operand)
    (hop : o.op = .call { callee := .builtin .append, args := #[s, x], argTypes := #[98, 98] }) (base : Nat) (v : Value) (l : List ObjL) (y : ObjL) (hs : a.eval s = v) (r : Nat)
    (hown : w.ownsRow base 35 11 v l.length (objsV l)) (hx : a.eval x = .slice (some ⟨r, 0, none⟩) 1 1) (hr : w.heap[r]? = some (.cells (ocs y) 35 (0, 0))) (h1 : l.length ≤ 1000) (hbase : base ≤ w.heap.size)
    (hK : ∀ g cap w', w'.ownsRow base 35 11 (.slice (some ⟨g, 0, none⟩) (l.length + 1) cap) (l.length + 1) (objsV (l ++ [y])) → w.grownBy w' v.ownBlock → (v.ownBlock = some g ∨ g = w.heap.size) → g < w'.heap.size → K (a.put o.dst (.slice (some ⟨g, 0, none⟩) (l.length + 1) cap)) w') :
    if Region.wanted o (yielded ops a.tmps) = true then Oper.wp Tryz.prog o a w K Q else E := by
  obtain ⟨i0, hi0, hz0, hz1, hz2⟩ := info_parts info_obj
  refine step_append_lies w hgd s x 98 hop base 35 i0 _ 11 80 Tryz.underlying98 hi0 hz0 hz1 hz2 rfl (by decide) v l.length (objsV l) hs hown ⟨r, 0, none⟩ 1 1 (ocells y) hx rfl (World.news_of_block hr) (ocells_one y) (by decide) (by unfold maxLen; omega) (by omega) hbase w.heap.size rfl ?_
  intro g cap w' h2 h3 h4 h5
  refine hK g cap w' ?_ h3 h4 h5
  rw [objsV_append]
  simpa [objsV] using h2
theorem StoreAt.headFar {w : World} {lo b : Nat} {G : Ghost} {S : StoreL} (h : StoreAt w lo b G S) : some b ≠ G.ov.ownBlock := fun e => by
  have h1 := h.tr b e.symm
  rw [h.tb] at h1; cases h1
theorem StoreAt.grownHead {w w' : World} {lo b : Nat} {G : Ghost} {S : StoreL} (h : StoreAt w lo b G S) (hg : w.grownBy w' G.ov.ownBlock) :
    w'.heap[b]? = some (.cells #[G.tv, .int .i64 S.seats, G.ov, .map (some G.mb)] 101 (0, 0)) := (hg.block b h.lt h.headFar).trans h.hd
theorem StoreAt.addObj {w w' : World} {lo b g cap : Nat} {G : Ghost} {S : StoreL} (h : StoreAt w lo b G S) (y : ObjL)
    (hown : w'.ownsRow lo 35 11 (.slice (some ⟨g, 0, none⟩) (S.objs.length + 1) cap) (S.objs.length + 1) (objsV (S.objs ++ [y]))) (hgrow : w.grownBy w' G.ov.ownBlock) (hat : G.ov.ownBlock = some g ∨ g = w.heap.size) :
    ∃ G1, StoreAt (w'.setCell ⟨b, 2, none⟩ (.slice (some ⟨g, 0, none⟩) (S.objs.length + 1) cap)) lo b G1 { S with objs := S.objs ++ [y] } ∧ Turned w (w'.setCell ⟨b, 2, none⟩ (.slice (some ⟨g, 0, none⟩) (S.objs.length + 1) cap)) G G1 ∧ G1.pb = G.pb := by
  have hhd := h.grownHead hgrow
  have hgb : g ≠ b := fun e => by
    rcases hat with e2 | e2
    · exact h.headFar (by rw [e2, e])
    · have := h.lt; omega
  obtain ⟨G1, h1, h2, h3, _⟩ := h.objsTo (v' := .slice (some ⟨g, 0, none⟩) (S.objs.length + 1) cap) (l' := S.objs ++ [y]) (w' := w'.setCell ⟨b, 2, none⟩ (.slice (some ⟨g, 0, none⟩) (S.objs.length + 1) cap))
    (by
      have e : (S.objs ++ [y]).length = S.objs.length + 1 := by simp
      rw [e]
      exact own11_later hown fun k hk => heap_setCell_other w' ⟨b, 2, none⟩ k _ (by
        have hk : some g = some k := hk
        injection hk with hk
        show k ≠ b
        omega))
    (by rw [heap_setCell_same w' b 2 _ _ _ hhd]; rfl) hgrow.os hgrow.tape hgrow.output (by simpa using hgrow.size)
    (fun k hk h1 h2 => (heap_setCell_other w' ⟨b, 2, none⟩ k _ h1).trans (hgrow.block k hk (fun e => h2 e.symm)))
    (fun k hk => by
      have hk : some g = some k := hk
      injection hk with hk
      subst hk
      rcases hat with e | e
      · exact .inl e
      · exact .inr (Nat.le_of_eq e.symm))
  exact ⟨G1, h1, h2, h3⟩
def canN (s z : Nat) : Nat := if z = 3 ∨ z = 4 then 0 else s
theorem canN_cast (s z : Nat) : canS (s : Int) (z : Int) = (canN s z : Int) := by
  unfold canS canN
  by_cases h : z = 3 ∨ z = 4
  · rw [if_pos h, if_pos (by omega)]; rfl
  · rw [if_neg h, if_neg (by omega)]
theorem canN_ok {n s z : Nat} (hs : s < n) (h1 : 1 ≤ z) (h7 : z ≤ 7) : okK n (canN s z) z := by
  unfold canN
  split
  · exact ⟨by omega, h1, h7, fun _ => rfl⟩
  · rename_i h; exact ⟨hs, h1, h7, fun e => absurd e h⟩
def addL (S : StoreL) (n owner zone : Nat) : StoreL :=
  { S with objs := S.objs ++ [freshO S.T (S.objs.length + 1) n owner zone], pl := upd S.pl (canN owner zone) zone (layL (S.pl (canN owner zone) zone) (S.pl (canN owner zone) zone).length (S.objs.length + 1)) }
theorem table_short {T : List Crd.CardL} (h : Crd.tableE T = 0) : T.length ≤ 60 := by
  unfold Crd.tableE at h
  split at h
  · cases h
  · omega
theorem wf_nat {x : Nat} (h : x ≤ 1000) : Wf (x : Int) := ⟨by omega, by omega⟩
set_option maxRecDepth 100000 in
set_option maxHeartbeats 4000000 in
theorem add_ok {w : World} {lo b : Nat} {G : Ghost} {S : StoreL} (h : StoreAt w lo b G S) (hlo : lo ≤ w.heap.size) (hS : ShortS S) (n owner zone : Nat) (hn : n < S.T.length) (ho : owner < S.seats) (h1 : 1 ≤ zone) (h7 : zone ≤ 7) :
    Calls Tryz.prog 40 #[.pointer (some ⟨b, 0, none⟩), .int .i64 n, .int .i64 owner, .int .i64 zone] w
      (RetS w lo b G (addL S n owner zone) (.tuple #[.int .i64 ((S.objs.length : Int) + 1), .int .i64 0])) := by
  have ok := canN_ok ho h1 h7
  have hT := table_short h.ok
  have hn4 := h.n4
  have HP := pileAt_any h (wf_nat (x := owner) (by omega)) (wf_nat (x := zone) (by omega))
  rw [canN_cast, show ptrOf S.seats G.pb (canN owner zone : Int) (zone : Int) = .pointer (some ⟨G.pb (canN owner zone) zone, 0, none⟩) from if_pos (okI_nat.2 ok)] at HP
  have HPA := Lib.hid HP
  obtain ⟨pb, hpb⟩ : ∃ pb, G.pb (canN owner zone) zone = pb := ⟨_, rfl⟩
  rw [hpb] at HPA
  obtain ⟨ta, tc, htv⟩ := h.tab.is.form
  obtain ⟨xa, xc, hov⟩ := own_form h.ob
  have hl := hS.1
  have hd0 : decide ((n : Int) < 0) = false := decide_eq_false (by omega)
  have hd1 : decide ((S.T.length : Int) ≤ (n : Int)) = false := decide_eq_false (by omega)
  have hd2 : decide ((owner : Int) < 0) = false := decide_eq_false (by omega)
  have hd3 : decide ((S.seats : Int) ≤ (owner : Int)) = false := decide_eq_false (by omega)
  have hd4 : decide (S.T.length ≤ n) = false := decide_eq_false (by omega)
  have hd5 : decide (S.seats ≤ owner) = false := decide_eq_false (by omega)
  have HH := Lib.hid h
  have HN := Lib.hid (And.intro hn ok)
  have HPB := Lib.hid hpb
  have HOV := Lib.hid hov
  have HTV := Lib.hid htv
  have HSS := Lib.hid hS
  have HLO := Lib.hid hlo
  clear HP h hn ho ok hpb h1 h7 hS hov htv hlo
  go_enter Tryz.func40, Tryz.ntmps40
  go_wp2_with fail
  refine HPA.out.mono ?_
  rintro e w1 ⟨rfl, hb1⟩
  have HB1 := Lib.hid hb1
  have hh := HH.out.later hb1
  have c0 : w1.cell? ⟨b, 0, none⟩ = some (.slice ta S.T.length tc) := by rw [cell_of_row w1 b 0 _ _ _ hh.hd, ← HTV.out]; rfl
  have c1 : w1.cell? ⟨b, 1, none⟩ = some (.int .i64 S.seats) := by rw [cell_of_row w1 b 1 _ _ _ hh.hd]; rfl
  have c2 : w1.cell? ⟨b, 2, none⟩ = some (.slice xa S.objs.length xc) := by rw [cell_of_row w1 b 2 _ _ _ hh.hd, ← HOV.out]; rfl
  have H1 := Lib.hid hh
  clear hh hb1
  go_wp2
  obtain ⟨y, hy⟩ : ∃ y, freshO S.T ((S.objs.length : Int) + 1) n owner zone = y := ⟨_, rfl⟩
  have HF : Hid (∀ w' : World, Below w1.heap.size w1 w' → Calls Tryz.prog 63 #[.pointer (some ⟨b, 0, none⟩), .int .i64 ((S.objs.length : Int) + 1), .int .i64 n, .int .i64 owner, .int .i64 zone] w' fun e w'' => e = .returned (.agg (ocs y)) ∧ Below w'.heap.size w' w'') := Lib.hid fun w' hb => by
    have hf := fresh_any (H1.out.later hb) ((S.objs.length : Int) + 1) owner zone n HN.out.1
    rw [hy] at hf
    exact hf
  unfold ocs at HF
  have HY := Lib.hid hy
  clear hy c0 c1
  go_region_law ((first
    | (go_simp; go_at_call 63; refine (HF.out _ (below_drewN (Below.refl _ _) _)).mono ?_; rintro e w2 ⟨rfl, hb2⟩; have hb2' := stepB (below_drewN (Below.refl w1.heap.size w1) _) hb2; have c2' := cell_stays hb2' c2; have c2s := cell_stays (below_new w2 (.cells #[.int .i64 y.id, .int .i64 y.card, .int .i64 y.owner, .int .i64 y.zone, .bool y.tapped, .bool y.sick, .int .i64 y.hurt, .int .i64 y.count, .int .i64 y.boost, .int .i64 y.block, .bool y.attacks] 35)) c2'; dsimp only)
    | (refine step_append_obj rfl _ _ rfl lo (.slice xa S.objs.length xc) S.objs y rfl w2.heap.size (by rw [← HOV.out]; exact (H1.out.later (below_alloc2 hb2' _)).ob) rfl (heap_alloc_new w2 _) hl (by have := HLO.out; have := HB1.out.size; have := hb2'.size; simp; omega) ?_; intro g cap w3 hown hgrow hat hlt3;
        have H2 := Lib.hid (H1.out.later (below_alloc2 hb2' (.cells (ocs y) 35)));
        have hhd := H2.out.grownHead (by rw [HOV.out]; exact hgrow);
        have c3 : w3.cell? ⟨b, 2, none⟩ = some (.slice xa S.objs.length xc) := (by rw [cell_of_row w3 b 2 _ _ _ hhd, ← HOV.out]; rfl);
        have f3 : w3.frozen? ⟨b, 2, none⟩ = false := frozen_of_row w3 b 2 _ _ hhd)
    | (trace_state; fail "arm")))
  all_goals
    obtain ⟨G1, H4, T4, hpb1⟩ := H2.out.addObj y hown (by rw [HOV.out]; exact hgrow) (by rw [HOV.out]; exact hat)
    obtain ⟨W4, hW4⟩ : ∃ W4, w3.setCell ⟨b, 2, none⟩ (.slice (some ⟨g, 0, none⟩) (S.objs.length + 1) cap) = W4 := ⟨_, rfl⟩
    rw [hW4] at H4 T4 ⊢
    have T5 := Lib.hid (((Turned.of_below HB1.out).trans (Turned.of_below (below_alloc2 hb2' _))).trans T4)
    have HPI := H4.pi _ _ HN.out.2
    rw [hpb1, HPB.out] at HPI
    have HUN := Lib.hid (under_any ((S.objs.length : Int) + 1) HPI (HSS.out.2 _ _ HN.out.2))
    have H5 := Lib.hid H4
    have HPB1 := Lib.hid (hpb1.trans rfl : G1.pb = G.pb)
    clear hown hgrow hat hlt3 hhd c3 f3 H4 T4 hpb1 HPI hb2 hb2' c2' c2s H2 c2 hW4
    go_wp2_with fail
    refine HUN.out.mono ?_
    rintro e w5 ⟨g', rfl, hp5, hc5, hn5⟩
    have hq : PileAt w5 lo (G1.pb (canN owner zone) zone) g' (layL (S.pl (canN owner zone) zone) (S.pl (canN owner zone) zone).length ((S.objs.length : Int) + 1)) := by rw [HPB1.out, HPB.out]; exact hp5
    have hcq : Chg W4 w5 (G1.pb (canN owner zone) zone) (G1.pg (canN owner zone) zone) := by rw [HPB1.out, HPB.out]; exact hc5
    obtain ⟨G2, H6, T6, _⟩ := H5.out.pile HN.out.2 hq hcq hn5
    have HE := Lib.hid H6
    have HTT := Lib.hid (T5.out.trans T6)
    clear hp5 hc5 hn5 hq hcq H6 T6
    dsimp only
    go_wp2
    go_ret2
    refine ⟨rfl, G2, ?_, HTT.out⟩
    have := HE.out
    rw [← HY.out] at this
    exact this
end Go.Proofs.YtgjojjhppgjkkaaGreat

/- The law ObjectCopies (layer 6), walked: for every table, all calls and every one more it returns true, and only new memory is made. -/
import Derived.Test.YtkhgdfalbmkgcaaGreatMd
import Derived.Test.YtkhgdfalbmkgcaaGreatMb
import Derived.Test.YtkhgdfalbmkgcaaGreatLf
import Derived.Deep.Cut
import Derived.Deep.CutBlock
import Derived.Deep.DeepCutAuto
namespace Go.Proofs.YtkhgdfalbmkgcaaGreat
open Go.RowKit Go.Maps

theorem apart_low {w : World} {lo b : Nat} {G G' : Ghost} {S : StoreL} (h : StoreAt w lo b G S) (hl : ∀ k, G'.tag k ≠ .no → w.heap.size ≤ k) : Apart G G' := fun k => by
  by_cases hk : k < w.heap.size
  · exact .inr (Classical.byContradiction fun hn => by have := hl k hn; omega)
  · exact .inl (h.high k (by omega))
theorem set_differs {L : List ObjL} {j : Nat} (hj : j < L.length) {X : ObjL} (h : X ≠ L[j]) : L ≠ L.set j X := fun e => h (by
  have : ∀ (M : List ObjL) (hM : M = L.set j X) (hh : j < M.length), M[j]'hh = X := by
    rintro M rfl hh
    exact List.getElem_set_self _
  exact (this L e hj).symm)
/-- The three stores of the law, behind what is done to the copy. -/
structure Three (wx : World) (lo b lo2 b2 lt tc : Nat) (G G2 H : Ghost) (S S' : StoreL) : Prop where
  a : StoreAt wx lo b G S
  b : StoreAt wx lo2 b2 G2 S
  c : StoreAt wx lt tc H S'
  ga : Apart H G
  gb : Apart H G2
theorem Three.later {w w' : World} {lo b lo2 b2 lt tc : Nat} {G G2 H : Ghost} {S S' : StoreL} (h : Three w lo b lo2 b2 lt tc G G2 H S S') (hb : Below w.heap.size w w') : Three w' lo b lo2 b2 lt tc G G2 H S S' := ⟨h.a.later hb, h.b.later hb, h.c.later hb, h.ga, h.gb⟩
theorem Three.turn {w w' : World} {lo b lo2 b2 lt tc : Nat} {G G2 H H' : Ghost} {S S' S2 : StoreL} (h : Three w lo b lo2 b2 lt tc G G2 H S S') (ht : Turned w w' H H') (hc : StoreAt w' lt tc H' S2) : Three w' lo b lo2 b2 lt tc G G2 H' S S2 :=
  ⟨(h.a.far h.ga ht).1, (h.b.far h.gb ht).1, hc, (h.a.far h.ga ht).2, (h.b.far h.gb ht).2⟩
theorem wrap_ne (x : Int) : IntKind.i64.wrap (x + 1) ≠ x := by
  intro h
  simp only [IntKind.wrap, IntKind.signed, IntKind.bits] at h
  omega
theorem objs_add {S : StoreL} {n o z : Nat} : S.objs ≠ (addL S n o z).objs := fun e => by
  have h := congrArg List.length e
  simp [addL] at h
/-- What the law knows of the copy, behind what is done to it. -/
def ChgO (S S' : StoreL) (ch : Bool) : Prop := S.seats = S'.seats ∧ (ch = true → S.objs ≠ S'.objs) ∧ (ch = true ∨ ch = false)
set_option maxRecDepth 100000 in
set_option maxHeartbeats 32000000 in
theorem objectCopies_walk {v u : Value} {T : List Crd.CardL} {l : List OpL} {o : OpL} {w : World} (hv : Crd.CardsAt w v T) (hT : T.length ≤ 9223372036854775807) (hu : OpsAt w u l) (hw : ∀ x ∈ l, WfO x) (hlen : l.length ≤ 9223372036854775807) (ho : WfO o) :
    Calls Tryz.prog 3 #[v, u, .agg #[.int .i64 o.k, .int .i64 o.a, .int .i64 o.b, .int .i64 o.c, .bool o.under]] w (RetV w (.bool true)) := by
  have HMD := Lib.hid (fun (w' : World) (hb : Below w.heap.size w w') => madeL_any (hv.later hb) hT (hu.later hb) hw hlen 3 (by decide) (by decide))
  obtain ⟨va, vc, rfl⟩ := hv.form
  obtain ⟨ua, uc, rfl⟩ := hu.form
  obtain ⟨ok, oa, ob, oc, un⟩ := o
  obtain ⟨fa, fb, fc⟩ := ho
  dsimp only at fa fb fc ⊢
  clear hv hu hw
  refine (callsIn_wide (n := 9)).1 ?_
  have hbx := below_new w (.cells #[.int .i64 ok, .int .i64 oa, .int .i64 ob, .int .i64 oc, .bool un] 25)
  have hby := stepB hbx (below_new (w.alloc (.cells #[.int .i64 ok, .int .i64 oa, .int .i64 ob, .int .i64 oc, .bool un] 25)) (.cells #[.bool false] 4))
  have hop := ((below_new (w.alloc (.cells #[.int .i64 ok, .int .i64 oa, .int .i64 ob, .int .i64 oc, .bool un] 25)) (.cells #[.bool false] 4)).block w.heap.size (by simp)).trans (heap_alloc_new w (.cells #[.int .i64 ok, .int .i64 oa, .int .i64 ob, .int .i64 oc, .bool un] 25))
  have hrb := heap_alloc_new (w.alloc (.cells #[.int .i64 ok, .int .i64 oa, .int .i64 ob, .int .i64 oc, .bool un] 25)) (.cells #[.bool false] 4)
  rw [World.size_alloc] at hrb
  obtain ⟨q, hq⟩ : ∃ q, w.heap.size = q := ⟨_, rfl⟩
  have HQ := Lib.hid hq
  refine callsIn_of_wp_marks Tryz.func3 rfl trivial ?_ rfl
  simp only [Tryz.ntmps3, List.size_toArray, List.length_cons, List.length_nil, Nat.reduceAdd, Nat.reduceSub, Array.replicate_succ, Array.replicate_zero, List.push_toArray, List.append_toArray, List.nil_append, List.cons_append]
  refine wpIn_wide.2 ?_
  go_wp2_with fail
  refine (awake6_any _).mono ?_
  rintro e w1 ⟨rfl, hb1⟩
  have HB1 := Lib.hid (stepB hby hb1)
  have HOP1 := Lib.hid ((hb1.block _ (by simp; omega)).trans hop)
  have HRB1 := Lib.hid ((hb1.block _ (by simp)).trans hrb)
  rw [hq] at HOP1 HRB1
  clear hbx hby hop hrb hb1 hq
  dsimp only
  go_wp2_with fail
  refine (HMD.out _ HB1.out).mono ?_
  rintro e w2 (⟨hnp, rfl, hb2⟩ | ⟨hpl, b, lo, G, rfl, hs, hf, hlo, hle, hb2⟩)
  · have HB2 := Lib.hid (stepB HB1.out hb2)
    have HR2 := Lib.hid ((hb2.block _ (Array.getElem?_eq_some_iff.1 HRB1.out).1).trans HRB1.out)
    have HNP := Lib.hid hnp
    clear hb2 hnp
    dsimp only
    go_wp2_with fail
    refine (HMD.out _ HB2.out).mono ?_
    rintro e w3 (⟨_, rfl, hb3⟩ | ⟨hpl, _⟩)
    case inr => exact absurd hpl HNP.out
    have hr3 : HdAt w3 (q + 1) (.bool false) := ⟨_, (hb3.block _ (Array.getElem?_eq_some_iff.1 HR2.out).1).trans HR2.out⟩
    have HR3 := Lib.hid hr3
    have c1 := hr3.cell
    have f1 := hr3.frozen
    have HRR := Lib.hid (HR3.out.set (.bool true))
    have HBR := Lib.hid ((stepB HB2.out hb3).setCell (p := ⟨q + 1, 0, none⟩) (by show w.heap.size ≤ q + 1; have := HQ.out; omega) (.bool true))
    clear hb3 hr3
    dsimp only
    go_wp2
    exact ⟨_, results_b6 rfl rfl HRR.out, rfl, HBR.out⟩
  have HB2 := Lib.hid (stepB HB1.out hb2)
  have HPL := Lib.hid hpl
  obtain ⟨S, hS⟩ : ∃ S, madeL T 3 l = S := ⟨_, rfl⟩
  rw [hS] at hs hf
  have HS2 := Lib.hid hs
  have HF := Lib.hid hf
  have HOP2 := Lib.hid ((hb2.block _ (Array.getElem?_eq_some_iff.1 HOP1.out).1).trans HOP1.out)
  have HR2 := Lib.hid ((hb2.block _ (Array.getElem?_eq_some_iff.1 HRB1.out).1).trans HRB1.out)
  clear hs hf hlo hle hb2 hpl
  dsimp only
  go_wp2_with fail
  refine (HMD.out _ HB2.out).mono ?_
  rintro e w3 (⟨hnp, rfl, hb3⟩ | ⟨_, b2, lo2, G2, rfl, hs, _, hlo, hle, hb3⟩)
  case inl => exact absurd HPL.out hnp
  rw [hS] at hs
  have HB3 := Lib.hid (stepB HB2.out hb3)
  have HA3 := Lib.hid (HS2.out.later hb3)
  have HX3 := Lib.hid hs
  have HOP3 := Lib.hid ((hb3.block _ (Array.getElem?_eq_some_iff.1 HOP2.out).1).trans HOP2.out)
  have HR3 := Lib.hid ((hb3.block _ (Array.getElem?_eq_some_iff.1 HR2.out).1).trans HR2.out)
  have HSH := Lib.hid (HF.out.wf.short (by have := HF.out.len; omega))
  have HCP := Lib.hid (copyS_any HA3.out HSH.out)
  clear hs hlo hle hb3 hS HS2 HOP1 HOP2 HRB1 HR2
  dsimp only
  go_wp2_with fail
  refine HCP.out.mono ?_
  rintro e w4 ⟨tc, H, rfl, hc4, hb4⟩
  have H3 : Hid (Three w4 lo b lo2 b2 w3.heap.size tc G G2 H S S) := Lib.hid ⟨HA3.out.later hb4, HX3.out.later hb4, hc4, (apart_low HA3.out hc4.low).flip, (apart_low HX3.out hc4.low).flip⟩
  have HK4 : Hid (Kept w4 H [(q, .cells #[.int .i64 ok, .int .i64 oa, .int .i64 ob, .int .i64 oc, .bool un] 25 (0, 0)), (q + 1, .cells #[.bool false] 4 (0, 0))]) := Lib.hid (by
    have k1 := (Array.getElem?_eq_some_iff.1 HOP3.out).1
    have k2 := (Array.getElem?_eq_some_iff.1 HR3.out).1
    have htag : ∀ k, k < w3.heap.size → H.tag k = .no := fun k hk => Classical.byContradiction fun hn => by have := hc4.low k hn; omega
    intro p hp
    rcases List.mem_cons.1 hp with rfl | hp
    · exact ⟨(hb4.block _ k1).trans HOP3.out, htag _ k1⟩
    · obtain rfl := List.mem_singleton.1 hp
      exact ⟨(hb4.block _ k2).trans HR3.out, htag _ k2⟩)
  have HFAR := Lib.hid (show ∀ k, H.tag k ≠ .no → w.heap.size ≤ k from fun k hk => Nat.le_trans HB3.out.size (hc4.low k hk))
  have HB4 := Lib.hid (stepB HB3.out hb4)
  obtain ⟨lt, hlt⟩ : ∃ lt, w3.heap.size = lt := ⟨_, rfl⟩
  rw [hlt] at H3
  clear hc4 hb4 hlt HCP HA3 HX3 HOP3 HR3 HB3
  have HS1 := Lib.hid (same_true H3.out.a H3.out.b HSH.out)
  dsimp only
  go_wp2_with fail
  refine HS1.out.mono ?_
  rintro e w5 ⟨rfl, hb5⟩
  have H5 := Lib.hid (H3.out.later hb5)
  have HB5 := Lib.hid hb5
  have HS5 := Lib.hid (same_true H5.out.a H5.out.c HSH.out)
  clear hb5 HS1
  dsimp only
  go_wp2_with fail
  refine HS5.out.mono ?_
  rintro e w6 ⟨rfl, hb6⟩
  have H6 := Lib.hid (H5.out.later hb6)
  have HB6 := Lib.hid (stepB HB5.out hb6)
  have HS6 := Lib.hid (same_true H6.out.c H6.out.a HSH.out)
  clear hb6 HS5 H5 HB5
  dsimp only
  go_wp2_with fail
  refine HS6.out.mono ?_
  rintro e w7 ⟨rfl, hb7⟩
  have H7 := Lib.hid (H6.out.later hb7)
  have HB47 := Lib.hid (stepB HB6.out hb7)
  have HK7 := Lib.hid (HK4.out.later HB47.out)
  have HB7 := Lib.hid (stepB HB4.out HB47.out)
  have k0 : w7.cell? ⟨q, 0, none⟩ = some (.int .i64 ok) := HK7.out.c0 0
  have k1 : w7.cell? ⟨q, 1, none⟩ = some (.int .i64 oa) := HK7.out.c0 1
  have k2 : w7.cell? ⟨q, 2, none⟩ = some (.int .i64 ob) := HK7.out.c0 2
  have k3 : w7.cell? ⟨q, 3, none⟩ = some (.int .i64 oc) := HK7.out.c0 3
  have k4 : w7.cell? ⟨q, 4, none⟩ = some (.bool un) := HK7.out.c0 4
  clear hb7 HS6 H6 HB6 H3 HK4 HB4
  dsimp only
  go_upto_block 0 with fail
  go_cut [10] from 11 (fun s10 wx => ∃ (ch : Bool) (H' : Ghost) (S' : StoreL), s10 = .bool ch ∧ Hid (Three wx lo b lo2 b2 lt tc G G2 H' S S') ∧ Hid (HdAt wx (q + 1) (.bool false)) ∧ Hid (Below w.heap.size w wx) ∧ Hid (ChgO S S' ch))
  case first =>
    have HSL := Lib.hid (show S.objs.length ≤ 80 from HF.out.len)
    by_cases hk0 : ok = 0
    · subst hk0
      by_cases hadd : addB S oa ob oc
      · have hadd2 := hadd
        obtain ⟨a1, a2, a3, a4, a5, a6⟩ := hadd
        obtain ⟨cn, rfl⟩ : ∃ m : Nat, oa = m := ⟨oa.toNat, by omega⟩
        obtain ⟨ow, rfl⟩ : ∃ m : Nat, ob = m := ⟨ob.toNat, by omega⟩
        obtain ⟨z, rfl⟩ : ∃ m : Nat, oc = m := ⟨oc.toNat, by omega⟩
        have HAD := Lib.hid (add_ok H7.out.c (Nat.le_trans (H7.out.c.low tc (by rw [H7.out.c.tb]; simp)) (Nat.le_of_lt H7.out.c.lt)) HSH.out cn ow z (by omega) (by omega) (by omega) (by omega))
        clear fa fb fc a1 a2 a3 a4 a5 a6 hadd2
        go_wp2_with fail
        refine HAD.out.mono ?_
        rintro e w8 ⟨rfl, H8, hs8, ht8⟩
        have H38 := Lib.hid (H7.out.turn ht8 hs8)
        have HR8 := Lib.hid (HK7.out.turn ht8).h1
        have HB8 := Lib.hid (ht8.below HB7.out HFAR.out)
        clear hs8 ht8 k0 k1 k2 k3 k4
        dsimp only
        go_wp2
        go_meet
        case rel => exact ⟨true, H8, addL S cn ow z, rfl, Lib.hid (H38.out), Lib.hid (HR8.out), Lib.hid (HB8.out), Lib.hid ⟨rfl, (fun _ => objs_add), (by first | exact .inl rfl | exact .inr rfl)⟩⟩
      · have HAD := Lib.hid (add_bad H7.out.c oa ob oc fb fc hadd)
        clear fa fb fc hadd
        go_wp2_with fail
        refine HAD.out.mono ?_
        rintro e w8 ⟨rfl, hb8⟩
        have H38 := Lib.hid (H7.out.later hb8)
        have HR8 := Lib.hid (HK7.out.later hb8).h1
        have HB8 := Lib.hid (stepB HB7.out hb8)
        clear hb8 k0 k1 k2 k3 k4
        dsimp only
        go_wp2
        go_meet
        case rel => exact ⟨false, H, S, rfl, Lib.hid (H38.out), Lib.hid (HR8.out), Lib.hid (HB8.out), Lib.hid ⟨rfl, ((fun h => by cases h)), (by first | exact .inl rfl | exact .inr rfl)⟩⟩
    have n0 : (ok == 0) = false := beq_eq_false_iff_ne.2 hk0
    by_cases hk12 : ok = 1 ∨ ok = 2
    case neg =>
      have n1 : (ok == 1) = false := beq_eq_false_iff_ne.2 (fun h => hk12 (.inl h))
      have n2 : (ok == 2) = false := beq_eq_false_iff_ne.2 (fun h => hk12 (.inr h))
      have HR8 := Lib.hid HK7.out.h1
      clear hk12 hk0 fa fb fc
      go_wp2
      go_meet
      case rel => exact ⟨false, H, S, rfl, Lib.hid (H7.out), Lib.hid (HR8.out), Lib.hid (HB7.out), Lib.hid ⟨rfl, ((fun h => by cases h)), (by first | exact .inl rfl | exact .inr rfl)⟩⟩
    by_cases hin : 1 ≤ oa ∧ oa ≤ (S.objs.length : Int)
    case neg =>
      have HGE := Lib.hid (get_out H7.out.c (by have := HSL.out; omega) oa (by omega))
      have HMV := Lib.hid (fun (w' : World) (hb : Below w7.heap.size w7 w') => move_out (zone := oc) un (by decide) (get_out (H7.out.c.later hb) (by have := HSL.out; omega) oa (by omega)))
      unfold RetGet oagg zeroO at HGE
      dsimp only at HGE
      clear hin
      rcases hk12 with rfl | rfl
      · clear hk0 fa fb fc
        go_wp2_with fail
        refine HGE.out.mono ?_
        rintro e w8 ⟨rfl, hb8⟩
        have HB8 := Lib.hid (below_alloc2 hb8 (.cells #[.int .i64 0, .int .i64 0, .int .i64 0, .int .i64 0, .bool false, .bool false, .int .i64 0, .int .i64 0, .int .i64 0, .int .i64 0, .bool false] 35))
        have j1 := cell_stays HB8.out k1
        have j3 := cell_stays HB8.out k3
        have j4 := cell_stays HB8.out k4
        clear hb8 k0 k1 k2 k3 k4
        dsimp only
        go_wp2_with fail
        refine (HMV.out _ HB8.out).mono ?_
        rintro e w9 ⟨rfl, hb9⟩
        have HB79 := Lib.hid (stepB HB8.out hb9)
        have H39 := Lib.hid (H7.out.later HB79.out)
        have HR9 := Lib.hid (HK7.out.later HB79.out).h1
        have HB9 := Lib.hid (stepB HB7.out HB79.out)
        clear hb9 j1 j3 j4
        dsimp only
        go_wp2
        go_meet
        case rel => exact ⟨false, H, S, rfl, Lib.hid (H39.out), Lib.hid (HR9.out), Lib.hid (HB9.out), Lib.hid ⟨rfl, ((fun h => by cases h)), (by first | exact .inl rfl | exact .inr rfl)⟩⟩
      · clear hk0 fa fb fc
        go_wp2_with fail
        refine HGE.out.mono ?_
        rintro e w8 ⟨rfl, hb8⟩
        have HB8 := Lib.hid (below_alloc2 hb8 (.cells #[.int .i64 0, .int .i64 0, .int .i64 0, .int .i64 0, .bool false, .bool false, .int .i64 0, .int .i64 0, .int .i64 0, .int .i64 0, .bool false] 35))
        have H39 := Lib.hid (H7.out.later HB8.out)
        have HR9 := Lib.hid (HK7.out.later HB8.out).h1
        have HB9 := Lib.hid (stepB HB7.out HB8.out)
        clear hb8 k0 k1 k2 k3 k4
        dsimp only
        go_wp2
        go_meet
        case rel => exact ⟨false, H, S, rfl, Lib.hid (H39.out), Lib.hid (HR9.out), Lib.hid (HB9.out), Lib.hid ⟨rfl, ((fun h => by cases h)), (by first | exact .inl rfl | exact .inr rfl)⟩⟩
    obtain ⟨j, rfl⟩ : ∃ j : Nat, oa = (j : Int) + 1 := ⟨(oa - 1).toNat, by omega⟩
    have hj : j < S.objs.length := by omega
    obtain ⟨i0, i1, i1', i2, i2', i3, i3'⟩ := HF.out.wf.ids j hj
    have hge := get_in H7.out.c (by have := HSL.out; omega) j hj
    have HMV := Lib.hid (fun (w' : World) (hb : Below w7.heap.size w7 w') (z : Nat) (h1 : 1 ≤ z) (h7 : z ≤ 7) => move_ok (H7.out.c.later hb) HF.out.wf (by have := HSL.out; omega) j z hj h1 h7 un)
    have HMB := Lib.hid (fun (w' : World) (hb : Below w7.heap.size w7 w') (h : ¬(1 ≤ oc ∧ oc ≤ 7)) => move_bad (H7.out.c.later hb) HF.out.wf (by have := HSL.out; omega) j hj oc fc h un)
    have HST := Lib.hid (fun (w' : World) (hb : Below w7.heap.size w7 w') (y : ObjL) (h0 : y.id = (j : Int) + 1) (h1 : y.card = S.objs[j].card) (h2 : y.owner = S.objs[j].owner) (h3 : y.zone = S.objs[j].zone) => set_any (H7.out.c.later hb) (by have := HSL.out; omega) j hj y h0 h1 h2 h3)
    have HSD := Lib.hid (fun (Y : ObjL) (h : Y ≠ S.objs[j]) => set_differs hj h)
    obtain ⟨X, hX⟩ : ∃ X, S.objs[j] = X := ⟨_, rfl⟩
    rw [hX] at i0 i1 i1' i2 i2' i3 i3' hge HMV HST HSD
    have HX := Lib.hid hX
    obtain ⟨x0, x1, x2, x3, x4, x5, x6, x7, x8, x9, x10⟩ := X
    dsimp only at i0 i1 i1' i2 i2' i3 i3'
    subst i0
    obtain ⟨ow, rfl⟩ : ∃ n : Nat, x2 = n := ⟨x2.toNat, by omega⟩
    obtain ⟨zo, rfl⟩ : ∃ n : Nat, x3 = n := ⟨x3.toNat, by omega⟩
    have HGE := Lib.hid hge
    unfold RetGet oagg at HGE
    dsimp only at HGE
    clear hge hX i1 i1' i2 i2' i3 i3' hin
    rcases hk12 with rfl | rfl
    · clear hk0
      go_wp2_with fail
      refine HGE.out.mono ?_
      rintro e w8 ⟨rfl, hb8⟩
      have HB8 := Lib.hid (below_alloc2 hb8 (.cells #[.int .i64 ((j : Int) + 1), .int .i64 x1, .int .i64 ow, .int .i64 zo, .bool x4, .bool x5, .int .i64 x6, .int .i64 x7, .int .i64 x8, .int .i64 x9, .bool x10] 35))
      have HK8 := Lib.hid ((HK7.out.later HB8.out).cons (heap_alloc_new w8 (.cells #[.int .i64 ((j : Int) + 1), .int .i64 x1, .int .i64 ow, .int .i64 zo, .bool x4, .bool x5, .int .i64 x6, .int .i64 x7, .int .i64 x8, .int .i64 x9, .bool x10] 35)) (H7.out.c.high _ hb8.size))
      have j1 := cell_stays HB8.out k1
      have j3 := cell_stays HB8.out k3
      have j4 := cell_stays HB8.out k4
      clear hb8 k0 k1 k2 k3 k4
      dsimp only
      by_cases hz : 1 ≤ oc ∧ oc ≤ 7
      · obtain ⟨z, rfl⟩ : ∃ m : Nat, oc = m := ⟨oc.toNat, by omega⟩
        have HM := Lib.hid (HMV.out _ HB8.out z (by omega) (by omega))
        have hz7 : z ≤ 7 := by omega
        clear hz fa fb fc
        go_wp2_with fail
        refine HM.out.mono ?_
        rintro e w9 ⟨rfl, H9, hs9, ht9⟩
        have H39 := Lib.hid ((H7.out.later HB8.out).turn ht9 hs9)
        have HK9 := Lib.hid (HK8.out.turn ht9)
        have HB9 := Lib.hid (ht9.below (stepB HB7.out HB8.out) HFAR.out)
        have HR9 := Lib.hid HK9.out.h2
        have m3 : w9.cell? ⟨w8.heap.size, 3, none⟩ = some (.int .i64 zo) := HK9.out.c0 3
        have l3 : w9.cell? ⟨q, 3, none⟩ = some (.int .i64 z) := HK9.out.c1 3
        clear hs9 ht9 j1 j3 j4
        dsimp only
        by_cases hzz : zo = z
        · have ez : ((zo : Int) != (z : Int)) = false := by rw [hzz]; exact bne_self_eq_false _
          clear hzz
          go_wp2
          go_meet
          case rel => exact ⟨false, H9, _, rfl, Lib.hid (H39.out), Lib.hid (HR9.out), Lib.hid (HB9.out), Lib.hid ⟨rfl, ((fun h => by cases h)), (by first | exact .inl rfl | exact .inr rfl)⟩⟩
        · have ez : ((zo : Int) != (z : Int)) = true := bne_iff_ne.2 (by omega)
          have HNE := Lib.hid (HSD.out (freshO S.T ((j : Int) + 1) x1 ow z) (fun e => by have h := congrArg ObjL.zone e; simp only [freshO] at h; omega))
          clear hzz
          go_wp2
          go_meet
          case rel => exact ⟨true, H9, _, rfl, Lib.hid (H39.out), Lib.hid (HR9.out), Lib.hid (HB9.out), Lib.hid ⟨rfl, (fun _ => HNE.out), (by first | exact .inl rfl | exact .inr rfl)⟩⟩
      · have HM := Lib.hid (HMB.out _ HB8.out hz)
        clear hz fa fb fc
        go_wp2_with fail
        refine HM.out.mono ?_
        rintro e w9 ⟨rfl, hb9⟩
        have HB79 := Lib.hid (stepB HB8.out hb9)
        have H39 := Lib.hid (H7.out.later HB79.out)
        have HR9 := Lib.hid (HK7.out.later HB79.out).h1
        have HB9 := Lib.hid (stepB HB7.out HB79.out)
        clear hb9 j1 j3 j4
        dsimp only
        go_wp2
        go_meet
        case rel => exact ⟨false, H, S, rfl, Lib.hid (H39.out), Lib.hid (HR9.out), Lib.hid (HB9.out), Lib.hid ⟨rfl, ((fun h => by cases h)), (by first | exact .inl rfl | exact .inr rfl)⟩⟩
    · clear hk0 fa fb fc
      go_wp2_with fail
      refine HGE.out.mono ?_
      rintro e w8 ⟨rfl, hb8⟩
      obtain ⟨h6, hh6⟩ : ∃ h6, IntKind.i64.wrap (x6 + 1) = h6 := ⟨_, rfl⟩
      have HB8 := Lib.hid (below_alloc2 hb8 (.cells #[.int .i64 ((j : Int) + 1), .int .i64 x1, .int .i64 ow, .int .i64 zo, .bool x4, .bool x5, .int .i64 h6, .int .i64 x7, .int .i64 x8, .int .i64 x9, .bool x10] 35))
      have HS8 := Lib.hid (HST.out _ HB8.out ⟨(j : Int) + 1, x1, ow, zo, x4, x5, h6, x7, x8, x9, x10⟩ rfl rfl rfl rfl)
      unfold oagg at HS8
      dsimp only at HS8
      have HNE := Lib.hid (HSD.out ⟨(j : Int) + 1, x1, ow, zo, x4, x5, h6, x7, x8, x9, x10⟩ (fun e => by have h := congrArg ObjL.hurt e; simp only at h; exact absurd (hh6.trans h) (wrap_ne x6)))
      clear hb8 k0 k1 k2 k3 k4
      dsimp only
      go_wp2_with fail
      refine HS8.out.mono ?_
      rintro e w9 ⟨rfl, H9, hs9, ht9⟩
      have H39 := Lib.hid ((H7.out.later HB8.out).turn ht9 hs9)
      have HR9 := Lib.hid ((HK7.out.later HB8.out).turn ht9).h1
      have HB9 := Lib.hid (ht9.below (stepB HB7.out HB8.out) HFAR.out)
      clear hs9 ht9 hh6
      dsimp only
      go_wp2
      go_meet
      case rel => exact ⟨true, H9, _, rfl, Lib.hid (H39.out), Lib.hid (HR9.out), Lib.hid (HB9.out), Lib.hid ⟨rfl, (fun _ => HNE.out), (by first | exact .inl rfl | exact .inr rfl)⟩⟩
  case rest =>
    obtain ⟨ch, H', S', rfl, H3c, HR, HB, HC⟩ := hcut
    have HS1 := Lib.hid (same_true H3c.out.a H3c.out.b HSH.out)
    clear k0 k1 k2 k3 k4 fa fb fc
    cases ch
    case true =>
      go_wp2_with fail
      refine HS1.out.mono ?_
      rintro e w8 ⟨rfl, hb8⟩
      have HSF := Lib.hid (same_false (H3c.out.later hb8).a (H3c.out.later hb8).c HC.out.1 (by have := HF.out.len; omega) (HC.out.2.1 rfl))
      have HB8 := Lib.hid hb8
      clear hb8 HS1
      dsimp only
      go_wp2_with fail
      refine HSF.out.mono ?_
      rintro e wS ⟨rfl, hb10⟩
      have HRS := Lib.hid (HR.out.later (stepB HB8.out hb10))
      have HBS := Lib.hid (stepB HB.out (stepB HB8.out hb10))
      clear hb10 HSF HB8
      dsimp only
      have HG := Lib.hid (fun (w' : World) => get_nil 1 w')
      unfold RetGet oagg zeroO at HG
      dsimp only at HG
      go_wp2_with fail
      refine (HG.out _).mono ?_
      rintro e w11 ⟨rfl, hb11⟩
      have HB11 := Lib.hid (below_alloc2 hb11 (.cells #[.int .i64 0, .int .i64 0, .int .i64 0, .int .i64 0, .bool false, .bool false, .int .i64 0, .int .i64 0, .int .i64 0, .int .i64 0, .bool false] 35))
      clear hb11
      dsimp only
      go_wp2_with fail
      refine (add_nil 0 0 1 _).mono ?_
      rintro e w12 ⟨rfl, hb12⟩
      have HB12 := Lib.hid (stepB HB11.out hb12)
      clear hb12 HB11
      dsimp only
      go_wp2_with fail
      refine (card_nil 1 _).mono ?_
      rintro e w13 ⟨rfl, hb13⟩
      have HB13 := Lib.hid (below_alloc2 (stepB HB12.out hb13) (.cells #[.int .i64 0, .int .i64 0, .int .i64 0, .int .i64 0, .int .i64 0, .int .i64 0, .slice none 0 0] 42))
      clear hb13 HB12
      dsimp only
      go_wp2_with fail
      refine (top_nil 0 1 _).mono ?_
      rintro e w14 ⟨rfl, hb14⟩
      have HB14 := Lib.hid (stepB HB13.out hb14)
      clear hb14 HB13
      dsimp only
      go_wp2_with fail
      refine (objAll_any none _).mono ?_
      rintro e w15 ⟨rfl, hx15, hb15⟩
      have HB15 := Lib.hid (stepB HB14.out hb15)
      have HX15 := Lib.hid hx15
      obtain ⟨qa, hqa⟩ : ∃ qa, w14.heap.size = qa := ⟨_, rfl⟩
      rw [hqa] at HX15
      clear hx15 hb15
      dsimp only
      go_wp2_with fail
      refine (wpIn_wide (n := 9)).1 ?_
      rw [hqa]
      clear hqa HB14
      have HQ1 := Lib.hid (objsNil_seq 8 (by omega) (w := w15) (fun l => KpP (fun k => False ∨ k = l) (fun _ => False)) HX15.out)
      refine range_world3 rfl (by omega) (I := fun (_ : List ObjL) W => Below w15.heap.size w15 W) (Ix := fun _ _ _ => False) (gf := 37) (lb := _) rfl trivial (fun _ _ => by kernel_rfl) HQ1.out KpP.trans (fun W' o o' ho hc _ => KpP.put o' (.inr rfl) ho hc) (fun W W' hb => KpP.of_below _ _ hb) (Below.refl _ _) (fun _ => rfl)
        (fun s A B row hs hg hr => ownFrom_below (β := Unit) (Nat.le_refl _) (Nat.le_refl _) () A B row hs hg hr) (fun c s A B row hs hg hr => hs) (fun s A B row hs hg hr => hs) (fun s A B row hs hg hr => hs) (Below.refl _ _) ?_ ?_ ?_
      · rintro pre x W K hI hT hsz hK
        exact hT.elim
      · rintro D1 ys W1 hD1 hS1 hI1 hK1
        have HB16 := Lib.hid (stepB HB15.out hI1)
        have HD1 := Lib.hid hK1
        have HDL1 := Lib.hid (show w15.heap.size ≤ D1 from hD1)
        clear hI1 hK1 hD1
        have HFA := Lib.hid (field_any none (.inl ⟨none, 0, rfl, rfl⟩ : IntsAt W1 (.slice none 0 0) []) (by simp))
        go_wp2_with fail
        refine HFA.out.mono ?_
        rintro e w17 ⟨rfl, hf1, ⟨u3, hf2, hu3⟩, hb17⟩
        have HB17 := Lib.hid (stepB HB16.out hb17)
        have HD17 := Lib.hid ((hb17.block D1 (Array.getElem?_eq_some_iff.1 HD1.out).1).trans HD1.out)
        obtain ⟨qb, hqb⟩ : ∃ qb, W1.heap.size = qb := ⟨_, rfl⟩
        rw [hqb] at hf1 hf2
        have HQ2 := Lib.hid (fieldNil_seq 8 (by omega) (w := w17) (fun _ => False) (fun _ => False) (fun _ e => e.elim) hf1 hf2 hu3 (fun c hc => hc.elim))
        clear hf1 hf2 hu3 hb17 HFA
        dsimp only
        go_wp2_with fail
        refine (wpIn_wide (n := 9)).1 ?_
        rw [hqb]
        clear hqb
        refine range_world3 rfl (by omega) (I := fun (_ : List ObjL) W => Below w17.heap.size w17 W) (Ix := fun _ _ _ => False) (gf := 40) (lb := _) rfl trivial (fun _ _ => by kernel_rfl) HQ2.out KpP.trans (fun W' o o' ho hc _ => KpP.put o' (.inr rfl) ho hc) (fun W W' hb => KpP.of_below _ _ hb) (Below.refl _ _) (fun _ => rfl)
          (fun s A B row hs hg hr => ownFrom_below (β := Unit) (Nat.le_refl _) (Nat.le_refl _) () A B row hs hg hr) (fun c s A B row hs hg hr => hs) (fun s A B row hs hg hr => hs) (fun s A B row hs hg hr => hs) (Below.refl _ _) ?_ ?_ ?_
        · rintro pre x W K hI hT hsz hK
          exact hT.elim
        · rintro D2 ys W2 hD2 hS2 hI2 hK2
          have HB18 := Lib.hid (stepB HB17.out hI2)
          have HM := Lib.hid (show MarksO W2 [D2, D1] from fun D' hD' => by
            simp only [List.mem_cons, List.not_mem_nil, or_false] at hD'
            rcases hD' with rfl | rfl
            · exact hK2
            · exact (hI2.block _ (Array.getElem?_eq_some_iff.1 HD17.out).1).trans HD17.out)
          have HDL2 := Lib.hid (show w17.heap.size ≤ D2 from hD2)
          clear hI2 hK2 hD2
          have HZ := Lib.hid (fun (w' : World) => set_nil zeroO w')
          unfold oagg zeroO at HZ
          dsimp only at HZ
          go_wp2_with fail
          refine (HZ.out _).mono ?_
          rintro e v1 ⟨rfl, hv1⟩
          have HV1 := Lib.hid (stepB HB18.out hv1)
          have HV0 := Lib.hid hv1
          clear hv1 HZ
          dsimp only
          go_wp2_with fail
          refine (move_out (zone := 1) false (by decide) (get_nil 1 _)).mono ?_
          rintro e v2 ⟨rfl, hv2⟩
          have HV2 := Lib.hid (stepB HV0.out hv2)
          clear hv2 HV0 HV1
          dsimp only
          go_wp2_with fail
          refine (lay_nil 0 1 _ _).mono ?_
          rintro e v3 ⟨rfl, hv3⟩
          have HV3 := Lib.hid (stepB HV2.out hv3)
          clear hv3 HV2
          dsimp only
          go_wp2_with fail
          refine (len_none _).mono ?_
          rintro e v4 ⟨rfl, hv4⟩
          have HV4 := Lib.hid (stepB HV3.out hv4)
          clear hv4 HV3
          dsimp only
          go_wp2_with fail
          refine (seats_none _).mono ?_
          rintro e v5 ⟨rfl, hv5⟩
          have HV5 := Lib.hid (stepB HV4.out hv5)
          clear hv5 HV4
          dsimp only
          go_wp2_with fail
          refine (in_none 0 1 _).mono ?_
          rintro e v6 ⟨rfl, rfl⟩
          dsimp only
          go_wp2_with fail
          refine (copy_none _).mono ?_
          rintro e v7 ⟨rfl, hv7⟩
          have HV7 := Lib.hid (stepB HV5.out hv7)
          clear hv7 HV5
          dsimp only
          go_wp2_with fail
          refine (same_none _).mono ?_
          rintro e v8 ⟨rfl, hv8⟩
          have HV8 := Lib.hid (stepB HV7.out hv8)
          clear hv8 HV7
          dsimp only
          go_wp2_with fail
          refine (same_noneOne b _).mono ?_
          rintro e v9 ⟨rfl, hv9⟩
          have HV9 := Lib.hid (stepB HV8.out hv9)
          have HSV := Lib.hid (stepB HB18.out HV9.out)
          have HRV := Lib.hid (HRS.out.later HSV.out)
          have cr := HRV.out.cell
          have fr := HRV.out.frozen
          have HRR := Lib.hid (HRV.out.set (.bool true))
          have HBF := Lib.hid ((stepB HBS.out HSV.out).setCell (p := ⟨q + 1, 0, none⟩) (by show w.heap.size ≤ q + 1; have := HQ.out; omega) (.bool true))
          have HMF := Lib.hid ((HM.out.others (others_belowO HV9.out)).others (KeepsOthers.setCell v9 ⟨q + 1, 0, none⟩ (.bool true)))
          have j1 := (Array.getElem?_eq_some_iff.1 HD17.out).1
          have j2 := HDL1.out
          have j3 := HDL2.out
          have j4 := HB15.out.size
          have j5 := HBS.out.size
          clear hv9 HV8
          dsimp only
          go_wp2
          refine leaves_marksO (B := w.heap.size) [D2, D1] _ (by simp; omega) (fun D' hD' => by simp at hD'; omega) HMF.out (fun W' hb hc => ?_)
          obtain ⟨tr, hr⟩ := HRR.out
          exact ⟨_, results_b6 rfl rfl ⟨tr, hc _ _ hr rfl⟩, rfl, HBF.out.trans hb⟩
        · rintro D2 c pre W2 hD2 hS2 hI2 hK2
          exact hI2.elim
      · rintro D1 c pre W1 hD1 hS1 hI1 hK1
        exact hI1.elim
    case false =>
      go_wp2_with fail
      refine HS1.out.mono ?_
      rintro e wS ⟨rfl, hb10⟩
      have HRS := Lib.hid (HR.out.later hb10)
      have HBS := Lib.hid (stepB HB.out hb10)
      clear hb10 HS1
      dsimp only
      have HG := Lib.hid (fun (w' : World) => get_nil 1 w')
      unfold RetGet oagg zeroO at HG
      dsimp only at HG
      go_wp2_with fail
      refine (HG.out _).mono ?_
      rintro e w11 ⟨rfl, hb11⟩
      have HB11 := Lib.hid (below_alloc2 hb11 (.cells #[.int .i64 0, .int .i64 0, .int .i64 0, .int .i64 0, .bool false, .bool false, .int .i64 0, .int .i64 0, .int .i64 0, .int .i64 0, .bool false] 35))
      clear hb11
      dsimp only
      go_wp2_with fail
      refine (add_nil 0 0 1 _).mono ?_
      rintro e w12 ⟨rfl, hb12⟩
      have HB12 := Lib.hid (stepB HB11.out hb12)
      clear hb12 HB11
      dsimp only
      go_wp2_with fail
      refine (card_nil 1 _).mono ?_
      rintro e w13 ⟨rfl, hb13⟩
      have HB13 := Lib.hid (below_alloc2 (stepB HB12.out hb13) (.cells #[.int .i64 0, .int .i64 0, .int .i64 0, .int .i64 0, .int .i64 0, .int .i64 0, .slice none 0 0] 42))
      clear hb13 HB12
      dsimp only
      go_wp2_with fail
      refine (top_nil 0 1 _).mono ?_
      rintro e w14 ⟨rfl, hb14⟩
      have HB14 := Lib.hid (stepB HB13.out hb14)
      clear hb14 HB13
      dsimp only
      go_wp2_with fail
      refine (objAll_any none _).mono ?_
      rintro e w15 ⟨rfl, hx15, hb15⟩
      have HB15 := Lib.hid (stepB HB14.out hb15)
      have HX15 := Lib.hid hx15
      obtain ⟨qa, hqa⟩ : ∃ qa, w14.heap.size = qa := ⟨_, rfl⟩
      rw [hqa] at HX15
      clear hx15 hb15
      dsimp only
      go_wp2_with fail
      refine (wpIn_wide (n := 9)).1 ?_
      rw [hqa]
      clear hqa HB14
      have HQ1 := Lib.hid (objsNil_seq 8 (by omega) (w := w15) (fun l => KpP (fun k => False ∨ k = l) (fun _ => False)) HX15.out)
      refine range_world3 rfl (by omega) (I := fun (_ : List ObjL) W => Below w15.heap.size w15 W) (Ix := fun _ _ _ => False) (gf := 37) (lb := _) rfl trivial (fun _ _ => by kernel_rfl) HQ1.out KpP.trans (fun W' o o' ho hc _ => KpP.put o' (.inr rfl) ho hc) (fun W W' hb => KpP.of_below _ _ hb) (Below.refl _ _) (fun _ => rfl)
        (fun s A B row hs hg hr => ownFrom_below (β := Unit) (Nat.le_refl _) (Nat.le_refl _) () A B row hs hg hr) (fun c s A B row hs hg hr => hs) (fun s A B row hs hg hr => hs) (fun s A B row hs hg hr => hs) (Below.refl _ _) ?_ ?_ ?_
      · rintro pre x W K hI hT hsz hK
        exact hT.elim
      · rintro D1 ys W1 hD1 hS1 hI1 hK1
        have HB16 := Lib.hid (stepB HB15.out hI1)
        have HD1 := Lib.hid hK1
        have HDL1 := Lib.hid (show w15.heap.size ≤ D1 from hD1)
        clear hI1 hK1 hD1
        have HFA := Lib.hid (field_any none (.inl ⟨none, 0, rfl, rfl⟩ : IntsAt W1 (.slice none 0 0) []) (by simp))
        go_wp2_with fail
        refine HFA.out.mono ?_
        rintro e w17 ⟨rfl, hf1, ⟨u3, hf2, hu3⟩, hb17⟩
        have HB17 := Lib.hid (stepB HB16.out hb17)
        have HD17 := Lib.hid ((hb17.block D1 (Array.getElem?_eq_some_iff.1 HD1.out).1).trans HD1.out)
        obtain ⟨qb, hqb⟩ : ∃ qb, W1.heap.size = qb := ⟨_, rfl⟩
        rw [hqb] at hf1 hf2
        have HQ2 := Lib.hid (fieldNil_seq 8 (by omega) (w := w17) (fun _ => False) (fun _ => False) (fun _ e => e.elim) hf1 hf2 hu3 (fun c hc => hc.elim))
        clear hf1 hf2 hu3 hb17 HFA
        dsimp only
        go_wp2_with fail
        refine (wpIn_wide (n := 9)).1 ?_
        rw [hqb]
        clear hqb
        refine range_world3 rfl (by omega) (I := fun (_ : List ObjL) W => Below w17.heap.size w17 W) (Ix := fun _ _ _ => False) (gf := 40) (lb := _) rfl trivial (fun _ _ => by kernel_rfl) HQ2.out KpP.trans (fun W' o o' ho hc _ => KpP.put o' (.inr rfl) ho hc) (fun W W' hb => KpP.of_below _ _ hb) (Below.refl _ _) (fun _ => rfl)
          (fun s A B row hs hg hr => ownFrom_below (β := Unit) (Nat.le_refl _) (Nat.le_refl _) () A B row hs hg hr) (fun c s A B row hs hg hr => hs) (fun s A B row hs hg hr => hs) (fun s A B row hs hg hr => hs) (Below.refl _ _) ?_ ?_ ?_
        · rintro pre x W K hI hT hsz hK
          exact hT.elim
        · rintro D2 ys W2 hD2 hS2 hI2 hK2
          have HB18 := Lib.hid (stepB HB17.out hI2)
          have HM := Lib.hid (show MarksO W2 [D2, D1] from fun D' hD' => by
            simp only [List.mem_cons, List.not_mem_nil, or_false] at hD'
            rcases hD' with rfl | rfl
            · exact hK2
            · exact (hI2.block _ (Array.getElem?_eq_some_iff.1 HD17.out).1).trans HD17.out)
          have HDL2 := Lib.hid (show w17.heap.size ≤ D2 from hD2)
          clear hI2 hK2 hD2
          have HZ := Lib.hid (fun (w' : World) => set_nil zeroO w')
          unfold oagg zeroO at HZ
          dsimp only at HZ
          go_wp2_with fail
          refine (HZ.out _).mono ?_
          rintro e v1 ⟨rfl, hv1⟩
          have HV1 := Lib.hid (stepB HB18.out hv1)
          have HV0 := Lib.hid hv1
          clear hv1 HZ
          dsimp only
          go_wp2_with fail
          refine (move_out (zone := 1) false (by decide) (get_nil 1 _)).mono ?_
          rintro e v2 ⟨rfl, hv2⟩
          have HV2 := Lib.hid (stepB HV0.out hv2)
          clear hv2 HV0 HV1
          dsimp only
          go_wp2_with fail
          refine (lay_nil 0 1 _ _).mono ?_
          rintro e v3 ⟨rfl, hv3⟩
          have HV3 := Lib.hid (stepB HV2.out hv3)
          clear hv3 HV2
          dsimp only
          go_wp2_with fail
          refine (len_none _).mono ?_
          rintro e v4 ⟨rfl, hv4⟩
          have HV4 := Lib.hid (stepB HV3.out hv4)
          clear hv4 HV3
          dsimp only
          go_wp2_with fail
          refine (seats_none _).mono ?_
          rintro e v5 ⟨rfl, hv5⟩
          have HV5 := Lib.hid (stepB HV4.out hv5)
          clear hv5 HV4
          dsimp only
          go_wp2_with fail
          refine (in_none 0 1 _).mono ?_
          rintro e v6 ⟨rfl, rfl⟩
          dsimp only
          go_wp2_with fail
          refine (copy_none _).mono ?_
          rintro e v7 ⟨rfl, hv7⟩
          have HV7 := Lib.hid (stepB HV5.out hv7)
          clear hv7 HV5
          dsimp only
          go_wp2_with fail
          refine (same_none _).mono ?_
          rintro e v8 ⟨rfl, hv8⟩
          have HV8 := Lib.hid (stepB HV7.out hv8)
          clear hv8 HV7
          dsimp only
          go_wp2_with fail
          refine (same_noneOne b _).mono ?_
          rintro e v9 ⟨rfl, hv9⟩
          have HV9 := Lib.hid (stepB HV8.out hv9)
          have HSV := Lib.hid (stepB HB18.out HV9.out)
          have HRV := Lib.hid (HRS.out.later HSV.out)
          have cr := HRV.out.cell
          have fr := HRV.out.frozen
          have HRR := Lib.hid (HRV.out.set (.bool true))
          have HBF := Lib.hid ((stepB HBS.out HSV.out).setCell (p := ⟨q + 1, 0, none⟩) (by show w.heap.size ≤ q + 1; have := HQ.out; omega) (.bool true))
          have HMF := Lib.hid ((HM.out.others (others_belowO HV9.out)).others (KeepsOthers.setCell v9 ⟨q + 1, 0, none⟩ (.bool true)))
          have j1 := (Array.getElem?_eq_some_iff.1 HD17.out).1
          have j2 := HDL1.out
          have j3 := HDL2.out
          have j4 := HB15.out.size
          have j5 := HBS.out.size
          clear hv9 HV8
          dsimp only
          go_wp2
          refine leaves_marksO (B := w.heap.size) [D2, D1] _ (by simp; omega) (fun D' hD' => by simp at hD'; omega) HMF.out (fun W' hb hc => ?_)
          obtain ⟨tr, hr⟩ := HRR.out
          exact ⟨_, results_b6 rfl rfl ⟨tr, hc _ _ hr rfl⟩, rfl, HBF.out.trans hb⟩
        · rintro D2 c pre W2 hD2 hS2 hI2 hK2
          exact hI2.elim
      · rintro D1 c pre W1 hD1 hS1 hI1 hK1
        exact hI1.elim
end Go.Proofs.YtkhgdfalbmkgcaaGreat

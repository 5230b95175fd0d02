/- The law StatTells (layer 8), walked: for every list of things, every list of sets and every number it returns true, and only new memory is made. -/
import Derived.Test.YtbbbkpadadeolaaSn
import Derived.Test.YtbbbkpadadeolaaSl
import Derived.Test.YtbbbkpadadeolaaOt
import Derived.Test.YtbbbkpadadeolaaTw
import Derived.Test.YtbbbkpadadeolaaSe
import Derived.Deep.Cut
import Derived.Deep.CutBlock
import Derived.Deep.RegionHeld3
namespace Go.Proofs.Ytbbbkpadadeolaa
open Go.RowKit Go.Maps
attribute [local go_sem] Oper.semAt_some

theorem cre_not {S : StoreL} {i : Int} (h : creE S i ≠ 0) : (creE S i == 0) = false ∧ powS S i = 0 ∧ touS S i = 0 ∧ (creC S i).keys = 0 ∧ (creO S i).hurt = 0 := by
  unfold powS touS creO creC
  rw [if_neg h, if_neg h]
  exact ⟨beq_eq_false_iff_ne.2 h, by decide, by decide, rfl, rfl⟩
theorem T7_in (n : Nat) (h : n < T7.length) : 0 ≤ T7[n].power ∧ T7[n].power ≤ 999 ∧ 0 ≤ T7[n].tough ∧ T7[n].tough ≤ 999 := by
  have key : ∀ n, (h : n < 4) → 0 ≤ (T7[n]'h).power ∧ (T7[n]'h).power ≤ 999 ∧ 0 ≤ (T7[n]'h).tough ∧ (T7[n]'h).tough ≤ 999 := by decide
  exact key n h
theorem inL_field {S : StoreL} (hn : 1 ≤ S.seats) (s : Int) : inL S s 3 = S.pl 0 3 := by
  have hc : canS s 3 = 0 := if_pos (.inl rfl)
  have hk : okI S.seats 0 3 := ⟨by decide, by decide, by show okK _ 0 3; exact ⟨by omega, by decide, by decide, fun _ => rfl⟩⟩
  unfold inL
  rw [hc, if_pos hk]
  rfl
/-- What is told of the first k of the Field. -/
def strK (S : StoreL) (id : Int) (PL : List Int) : List (Int × Int) := strL S (selO S [id, 1] PL)
theorem strK_snoc (S : StoreL) (id x : Int) (PL : List Int) : strK S id (PL ++ [x]) = if ownB [id, 1] (objOf S x) && kindB S (objOf S x) then strK S id PL ++ [itemO S (objOf S x)] else strK S id PL := by
  unfold strK
  rw [selO_snoc]
  by_cases h : ownB [id, 1] (objOf S x) = true
  · rw [if_pos h, h, Bool.true_and, strL_snoc]
  · rw [if_neg h, Bool.not_eq_true] at *
    rw [h, Bool.false_and, if_neg (by decide)]
theorem stepIn_append_ints {F : Fence} {m : Nat} {ops : Array Oper} {o : Oper} {a : Act} {w : World} {K : Act → World → Prop} {Q : Exit → Act → World → Prop} {E : Prop} (hgd : o.guard = none) (s x : Operand)
    (hop : o.op = .call { callee := .builtin .append, args := #[s, x], argTypes := #[29, 29] }) (hty : o.type = 29) (base : Nat) (v : Value) (n : Nat) (xs : List Value) (hs : a.eval s = v)
    (hown : w.ownsRow base 3 1 v n xs) (xa : Option Addr) (xn xc : Nat) (l : List Int) (hx : a.eval x = .slice xa xn xc) (hn : xn = l.length) (ht : IntsAt w (.slice xa xn xc) l) (h1 : n + l.length ≤ 1000) (hbase : base ≤ w.heap.size)
    (hK : ∀ v' w', w'.ownsRow base 3 1 v' (n + l.length) (xs ++ intsV l) → w.grownBy w' v.ownBlock → (v'.ownBlock = v.ownBlock ∨ v'.ownBlock = some w.heap.size) → K (a.put o.dst v') w') :
    if Region.wanted o (yielded ops a.tmps) = true then Oper.wpIn F m Try.prog o a w K Q else E := by
  have hw : Region.wanted o (yielded ops a.tmps) = true := by simp [Region.wanted, hgd]
  rw [if_pos hw]
  subst hn
  obtain ⟨v', w', hrun, h2, h3, h4⟩ := append_ints w base v n xs hown xa xc l ht h1 hbase
  unfold Oper.wpIn
  refine ⟨?_, ?_⟩
  · simp [Oper.about, hop, resolve, Target.leads, Sem.run_pure]
  · rw [Oper.semAt_plain F _ _ (by rw [hop]; intro c hc'; cases hc')]
    simp [execOp, hop, resolve, invoke, builtin, hs, hx, hty, hrun, Result.andThen]
    exact hK v' w' h2 h3 h4
theorem strK_len (S : StoreL) (id : Int) (PL : List Int) : (strK S id PL).length ≤ PL.length := by
  unfold strK strL
  rw [List.length_map]
  exact Nat.le_trans (List.length_filter_le _ _) (selO_len S [id, 1] PL)
set_option maxRecDepth 100000 in
set_option maxHeartbeats 4000000 in
theorem fadeNil_in (w : World) : CallsIn Fence.wide 9 Try.prog 19 #[.pointer none] w (RetV w (.int .i64 0)) := by
  have hb1 := below_new w (.cells #[.pointer none] 25)
  have hb2 := below_new (w.alloc (.cells #[.pointer none] 25)) (.cells #[.int .i64 0] 3)
  have hs0 := (HdAt.new w (.pointer none) 25).later hb2
  have hc0 := HdAt.new (w.alloc (.cells #[.pointer none] 25)) (.int .i64 0) 3
  have hbb := stepB hb1 hb2
  simp only [World.size_alloc] at hc0
  have HFA := Lib.hid (field_any none ((nil_ints w).later hbb) (by decide))
  have HC0 := Lib.hid hc0
  have HBB := Lib.hid hbb
  clear hb1 hb2 hc0 hbb hs0
  refine callsIn_of_wp_marks Try.func19 rfl trivial ?_ rfl
  simp only [Try.ntmps19, List.size_toArray, List.length_cons, List.length_nil, Nat.reduceAdd, Nat.reduceSub, Array.replicate_succ, Array.replicate_zero, List.push_toArray, List.append_toArray, List.nil_append, List.cons_append]
  gi_wp2_with fail
  refine ⟨trivial, (callsIn_wide.2 HFA.out).mono ?_⟩
  rintro e wr ⟨rfl, hf1, ⟨u, hf2, hu⟩, hbr⟩
  have HBR := Lib.hid (stepB HBB.out hbr)
  have HCB := Lib.hid (HC0.out.later hbr)
  obtain ⟨q, hq⟩ : ∃ q, w.heap.size = q := ⟨_, rfl⟩
  have HQQ := Lib.hid hq
  simp only [World.size_alloc, hq] at hf1 hf2
  simp only [hq] at HCB
  have HSR := Lib.hid (show q + 4 ≤ wr.heap.size by have := hf2.lt; omega)
  have HSEQ := Lib.hid (fieldNil_seq 8 (by omega) (w := wr) (fun _ => False) (fun _ => False) (fun _ e => e.elim) hf1 hf2 hu (fun c hc => hc.elim))
  clear hf1 hf2 hu hbr HC0 HFA HBB
  simp only [World.size_alloc, hq]
  gi_wp2_with fail
  refine range_world3 rfl (by omega) (I := fun (_ : List ObjL) W => Below w.heap.size w W ∧ HdAt W (q + 1) (.int .i64 0)) (Ix := fun _ _ _ => False) (gf := 53) (lb := _) rfl trivial (fun _ _ => by kernel_rfl) HSEQ.out KpP.trans (fun W' o o' ho hc _ => KpP.put o' (.inr rfl) ho hc) (fun W W' hb => KpP.of_below _ _ hb) (Below.refl _ _) (fun _ => rfl)
    (fun s A B row hs hg hr => ⟨ownFrom_below (β := Unit) (Nat.le_refl _) (HBR.out.size) () A B row hs.1 hg hr, hs.2.grown hg (fun r e => (hr r e).2)⟩) (fun c s A B row hs hg hr => hs) (fun s A B row hs hg hr => hs) (fun s A B row hs hg hr => hs) ⟨HBR.out, HCB.out⟩ ?round ?done ?stop
  case stop =>
    rintro D c pre W hD hS hI hK
    exact hI.elim
  case round =>
    rintro pre x W K hI hT hsz hK
    exact hT.elim
  case done =>
    rintro D ys W hD hS ⟨b0, l0⟩ hK
    have cl := l0.cell
    have HB1 := Lib.hid b0
    clear l0 b0
    gi_wp2
    refine ⟨by simp, .inl ⟨_, _, rfl, run_takeDeferred hK, ?_⟩⟩
    refine ⟨_, results_tmp rfl _ _ _, rfl, ?_⟩
    exact HB1.out.trans (belowK_b (w := w) (Nat.le_refl _) W D _ _ (by have := HSR.out; have := HQQ.out; omega) hK rfl rfl)
theorem fade_nil (w : World) : Calls Try.prog 19 #[.pointer none] w (RetV w (.int .i64 0)) := (callsIn_wide (n := 9)).1 (fadeNil_in w)
set_option maxRecDepth 100000 in
set_option maxHeartbeats 32000000 in
theorem statTells_walk {v u : Value} {l : List ThingL} {s : List SetL} {w : World} (id : Int) (hv : ThingsAt w v l) (hw : ∀ x ∈ l, Wf x.owner ∧ Wf x.zone) (hlen : l.length ≤ 9223372036854775807) (hu : SetsAt w u s) (hls : s.length ≤ 9223372036854775807) :
    Calls Try.prog 3 #[v, u, .int .i64 id] w (RetV w (.bool true)) := by
  have HMD := Lib.hid (fun (w' : World) (hb : Below w.heap.size w w') => made8_any (hv.later hb) hw hlen (hu.later hb) hls)
  have HV := Lib.hid hv
  obtain ⟨va, vc, rfl⟩ := hv.form
  clear hv hu hw
  refine (callsIn_wide (n := 9)).1 ?_
  have hbx := below_new w (.cells #[.bool false] 4)
  have hrb := heap_alloc_new w (.cells #[.bool false] 4)
  obtain ⟨q, hq⟩ : ∃ q, w.heap.size = q := ⟨_, rfl⟩
  have HQ := Lib.hid hq
  refine callsIn_of_wp_marks Try.func3 rfl trivial ?_ rfl
  simp only [Try.ntmps3, List.size_toArray, List.length_cons, List.length_nil, Nat.reduceAdd, Nat.reduceSub, Array.replicate_succ, Array.replicate_zero, List.push_toArray, List.append_toArray, List.nil_append, List.cons_append]
  refine wpIn_wide.2 ?_
  go_wp2_with fail
  refine (awake8_any _).mono ?_
  rintro e w1 ⟨rfl, hb1⟩
  have HB1 := Lib.hid (stepB hbx hb1)
  have HRB1 := Lib.hid ((hb1.block _ (by simp)).trans hrb)
  rw [hq] at HRB1
  clear hbx hrb hb1 hq
  dsimp only
  go_wp2_with fail
  refine (HMD.out _ HB1.out).mono ?_
  rintro e w2 (⟨hp, b, lo, G, S, rfl, hs, hf, _, hlo, hle, hb2⟩ | ⟨_, rfl, hb2⟩)
  case inr =>
    have HB2 := Lib.hid (stepB HB1.out hb2)
    have hr : HdAt w2 q (.bool false) := ⟨_, (hb2.block _ (Array.getElem?_eq_some_iff.1 HRB1.out).1).trans HRB1.out⟩
    have c1 := hr.cell
    have f1 := hr.frozen
    have HRR := Lib.hid (hr.set (.bool true))
    have HBR := Lib.hid (HB2.out.setCell (p := ⟨q, 0, none⟩) (by show w.heap.size ≤ q; have := HQ.out; omega) (.bool true))
    clear hb2 hr
    dsimp only
    go_wp2
    exact ⟨_, results_b6 rfl rfl HRR.out, rfl, HBR.out⟩
  have HSH := Lib.hid (hf.wf.short (by rw [hf.len]; have := hp.1.1; omega))
  have HLN := Lib.hid (show S.objs.length ≤ 40 ∧ l.length ≤ 40 from ⟨by rw [hf.len]; exact hp.1.1, hp.1.1⟩)
  have HF := Lib.hid hf
  have HS2 := Lib.hid hs
  have HB2 := Lib.hid (stepB HB1.out hb2)
  have HRB2 := Lib.hid ((hb2.block _ (Array.getElem?_eq_some_iff.1 HRB1.out).1).trans HRB1.out)
  clear hs hf hlo hle hb2 HMD hp HRB1
  dsimp only
  go_wp2_with fail
  refine (table_law _).mono ?_
  rintro e w3 ⟨tv, rfl, htv, hb3⟩
  have HTV := Lib.hid htv
  obtain ⟨ta, tc, rfl⟩ := htv.form
  have HB3 := Lib.hid (stepB HB2.out hb3)
  have HS3 := Lib.hid (HS2.out.later hb3)
  have HRB3 := Lib.hid ((hb3.block _ (Array.getElem?_eq_some_iff.1 HRB2.out).1).trans HRB2.out)
  clear htv hb3 HB2 HS2 HRB2
  dsimp only
  go_upto_region 8 with fail
  have hb4 := below_new w3 (.cells #[.slice none 0 0] 29)
  have hb5 := stepB hb4 (below_new (w3.alloc (.cells #[.slice none 0 0] 29)) (.cells #[.slice none 0 0] 29))
  have hn9 := (World.alloc_heap_new w3 (.cells #[.slice none 0 0] 29))
  have hn10 := (World.alloc_heap_new (w3.alloc (.cells #[.slice none 0 0] 29)) (.cells #[.slice none 0 0] 29))
  obtain ⟨w5, hw5⟩ : ∃ w5, (w3.alloc (.cells #[.slice none 0 0] 29)).alloc (.cells #[.slice none 0 0] 29) = w5 := ⟨_, rfl⟩
  obtain ⟨q9, hq9⟩ : ∃ q9, w3.heap.size = q9 := ⟨_, rfl⟩
  have HN9 := Lib.hid ((below_new (w3.alloc (.cells #[.slice none 0 0] 29)) (.cells #[.slice none 0 0] 29)).block w3.heap.size (by simp) |>.trans hn9)
  have HN10 := Lib.hid hn10
  have HB5 := Lib.hid hb5
  simp only [World.size_alloc] at HN10 ⊢
  rw [hw5] at HN9 HN10 HB5 ⊢
  rw [hq9] at HN9 HN10 ⊢
  have HQ9 := Lib.hid hq9
  have HS5 := Lib.hid (HS3.out.later HB5.out)
  have HTV5 := Lib.hid (HTV.out.later HB5.out)
  have HV5 := Lib.hid (HV.out.later (stepB HB3.out HB5.out))
  clear hb4 hb5 hn9 hn10 hw5 hq9
  go_wp2
  go_loopw [11] (fun i wr => ∃ k : Nat, k ≤ l.length + 1 ∧ i = .int .i64 (k : Int) ∧ Hid (Below w5.heap.size w5 wr)) (fun i _ => l.length + 1 - (intOf i).toNat)
  case atStart => exact ⟨0, Nat.zero_le _, rfl, Lib.hid (Below.refl _ _)⟩
  case round =>
    obtain ⟨k, hk, rfl, HBR⟩ := hrel
    by_cases hlt : k ≤ l.length
    · have d1 : decide ((k : Int) ≤ (l.length : Int)) = true := decide_eq_true (by omega)
      have hkb : (k : Int) ≤ 40 := by have := HLN.out.2; omega
      go_upto_region 12 with fail
      go_cut [64] from 41 to 64 (fun s64 wx => s64 = .bool (creE S (k : Int) == 0) ∧ Hid (Below w5.heap.size w5 wx))
      case first =>
        by_cases h0 : k = 0
        · subst h0
          have hE : creE S ((0 : Nat) : Int) ≠ 0 := by unfold creE; rw [if_neg (show ¬hasS S ((0 : Nat) : Int) from fun h => by have := h.1; simp at this)]; decide
          obtain ⟨r1, r2, r3, r4, r5⟩ := cre_not hE
          go_wp2_with fail
          go_meet
          case rel => exact ⟨by rw [r1], HBR⟩
        · obtain ⟨kk, rfl⟩ : ∃ kk, k = kk + 1 := ⟨k - 1, by omega⟩
          have ek : ((kk + 1 : Nat) : Int) = (kk : Int) + 1 := by omega
          rw [ek]
          rw [ek] at d1 hkb
          have hkl : kk < l.length := by omega
          have hko : kk < S.objs.length := by rw [HF.out.len]; exact hkl
          obtain ⟨tb, off, hva, t0, t1, t2, t3, t4⟩ := (HV5.out.later HBR.out).at kk hkl
          obtain ⟨ec, eo, ez⟩ := HF.out.objs kk hko hkl
          obtain ⟨i0, i1, i2, _⟩ := HF.out.wf.ids kk hko
          rw [HF.out.T] at i2
          rw [ec] at i1 i2
          have ho := objOf_at hko
          obtain ⟨y, hy⟩ : ∃ y, l[kk] = y := ⟨_, rfl⟩
          rw [hy] at t0 t1 t2 t3 t4 ec eo ez i1 i2
          obtain ⟨yc, yo, yz, yt, ys⟩ := y
          dsimp only at t0 t1 t2 t3 t4 ec eo ez i1 i2
          obtain ⟨n0, rfl⟩ : ∃ n0 : Nat, yc = n0 := ⟨yc.toNat, by omega⟩
          have hn0 : n0 < T7.length := by omega
          have hn4 : (n0 : Int) < 4 := by have : T7.length = 4 := rfl; omega
          have hcs := cardS_at (S := S) ec (by rw [HF.out.T]; exact hn0)
          have hct : S.T[n0]'(by rw [HF.out.T]; exact hn0) = T7[n0] := by
            have e : ∀ (L : List Crd.CardL) (hL : L = T7) (hh : n0 < L.length), L[n0] = T7[n0] := fun L hL hh => by subst hL; rfl
            exact e _ HF.out.T _
          rw [hct] at hcs
          have hin7 := T7_in n0 hn0
          obtain ⟨cb, coff, hta, hcc⟩ := (HTV5.out.later HBR.out).at n0 hn0
          obtain ⟨C, hC⟩ : ∃ C, T7[n0] = C := ⟨_, rfl⟩
          rw [hC] at hcs hin7 hcc
          obtain ⟨d0, e1, e2, e3, e4, e5, dt⟩ := C
          obtain ⟨xa, xc, r0, r1, r2, r3, r4, r5, r6, _⟩ := hcc
          dsimp only at hin7 r0 r1 r2 r3 r4 r5 r6
          have hge := fun (W' : World) (hb : Below w5.heap.size w5 W') => get_in (HS5.out.later hb) (by have := HLN.out.1; omega) kk hko
          obtain ⟨X, hX⟩ : ∃ X, S.objs[kk] = X := ⟨_, rfl⟩
          rw [hX] at ec eo ez i0 ho hge hcs
          have hcre : creE S ((kk : Int) + 1) = if liveO S X then 0 else 10 := by unfold creE; rw [if_pos (show hasS S ((kk : Int) + 1) from ⟨by omega, by omega⟩), ho]
          have hlo : liveO S X = (X.zone == 3 && d0 == 2) := by unfold liveO; rw [hcs]
          subst hva hta
          have hk0 : (0 : Int) ≤ (kk : Int) := by omega
          have hkx : (kk : Int) < (l.length : Int) := by omega
          have hpos : decide ((0 : Int) < (kk : Int) + 1) = true := decide_eq_true (by omega)
          have e11 : (kk : Int) + 1 - 1 = (kk : Int) := by omega
          have hn00 : (0 : Int) ≤ (n0 : Int) := by omega
          by_cases hz : yz = 3
          case neg =>
            have hz3 : (yz == 3) = false := beq_eq_false_iff_ne.2 hz
            have hE : creE S ((kk : Int) + 1) ≠ 0 := by rw [hcre, hlo, ez, hz3]; simp
            obtain ⟨q1, q2, q3, q4, q5⟩ := cre_not hE
            clear hcre hlo hge hcs hct
            go_wp2_with fail
            go_meet
            case rel => exact ⟨by rw [ek, q1], HBR⟩
          subst hz
          by_cases hd : d0 = 2
          case neg =>
            have hd3 : (d0 == 2) = false := beq_eq_false_iff_ne.2 hd
            have hE : creE S ((kk : Int) + 1) ≠ 0 := by rw [hcre, hlo, ez, hd3]; simp
            obtain ⟨q1, q2, q3, q4, q5⟩ := cre_not hE
            clear hcre hlo hge hcs hct
            go_wp2_with fail
            go_meet
            case rel => exact ⟨by rw [ek, q1], HBR⟩
          subst hd
          have hE : creE S ((kk : Int) + 1) = 0 := by rw [hcre, hlo, ez]; rfl
          clear hcre hlo hge hcs hct
          go_wp2_with fail
          go_meet
          case rel => exact ⟨by rw [ek, hE]; rfl, HBR⟩
      case rest =>
        obtain ⟨rfl, HBW⟩ := hcut
        obtain ⟨wr2, hwr2⟩ : ∃ wr2, wc = wr2 := ⟨_, rfl⟩
        rw [hwr2] at HBW ⊢
        clear hwr2 wc HBR
        have HBR := HBW
        obtain ⟨lv, hlv⟩ : ∃ lv, (creE S (k : Int) == 0) = lv := ⟨_, rfl⟩
        rw [hlv]
        go_upto_if 64 with fail
        go_cut [12, 13, 14, 15, 16, 17, 18, 19] from 65 to 97 (fun s12 s13 s14 s15 s16 _ _ _ wx => s12 = .bool (creE S (k : Int) == 0) ∧ s13 = .int .i64 (powS S (k : Int)) ∧ s14 = .int .i64 (touS S (k : Int)) ∧ s15 = .int .i64 (creC S (k : Int)).keys ∧ s16 = .int .i64 (creO S (k : Int)).hurt ∧ Hid (Below w5.heap.size w5 wx))
        case first =>
          by_cases hE0 : creE S (k : Int) = 0
          case neg =>
            obtain ⟨q1, q2, q3, q4, q5⟩ := cre_not hE0
            rw [q1] at hlv
            subst hlv
            go_wp2_with fail
            go_meet
            case rel => exact ⟨by rw [q1], by rw [q2], by rw [q3], by rw [q4], by rw [q5], HBR⟩
          rw [hE0] at hlv
          subst hlv
          have hk1 : k ≠ 0 := fun e => by subst e; revert hE0; unfold creE; rw [if_neg (show ¬hasS S ((0 : Nat) : Int) from fun h => by have := h.1; simp at this)]; decide
          obtain ⟨kk, rfl⟩ : ∃ kk, k = kk + 1 := ⟨k - 1, by omega⟩
          have ek : ((kk + 1 : Nat) : Int) = (kk : Int) + 1 := by omega
          rw [ek]
          rw [ek] at d1 hkb
          have hkl : kk < l.length := by omega
          have hko : kk < S.objs.length := by rw [HF.out.len]; exact hkl
          obtain ⟨tb, off, hva, t0, t1, t2, t3, t4⟩ := (HV5.out.later HBR.out).at kk hkl
          obtain ⟨ec, eo, ez⟩ := HF.out.objs kk hko hkl
          obtain ⟨i0, i1, i2, _⟩ := HF.out.wf.ids kk hko
          rw [HF.out.T] at i2
          rw [ec] at i1 i2
          have ho := objOf_at hko
          obtain ⟨y, hy⟩ : ∃ y, l[kk] = y := ⟨_, rfl⟩
          rw [hy] at t0 t1 t2 t3 t4 ec eo ez i1 i2
          obtain ⟨yc, yo, yz, yt, ys⟩ := y
          dsimp only at t0 t1 t2 t3 t4 ec eo ez i1 i2
          obtain ⟨n0, rfl⟩ : ∃ n0 : Nat, yc = n0 := ⟨yc.toNat, by omega⟩
          have hn0 : n0 < T7.length := by omega
          have hn4 : (n0 : Int) < 4 := by have : T7.length = 4 := rfl; omega
          have hcs := cardS_at (S := S) ec (by rw [HF.out.T]; exact hn0)
          have hct : S.T[n0]'(by rw [HF.out.T]; exact hn0) = T7[n0] := by
            have e : ∀ (L : List Crd.CardL) (hL : L = T7) (hh : n0 < L.length), L[n0] = T7[n0] := fun L hL hh => by subst hL; rfl
            exact e _ HF.out.T _
          rw [hct] at hcs
          have hin7 := T7_in n0 hn0
          obtain ⟨cb, coff, hta, hcc⟩ := (HTV5.out.later HBR.out).at n0 hn0
          obtain ⟨C, hC⟩ : ∃ C, T7[n0] = C := ⟨_, rfl⟩
          rw [hC] at hcs hin7 hcc
          obtain ⟨d0, e1, e2, e3, e4, e5, dt⟩ := C
          obtain ⟨xa, xc, r0, r1, r2, r3, r4, r5, r6, _⟩ := hcc
          dsimp only at hin7 r0 r1 r2 r3 r4 r5 r6
          have hge := fun (W' : World) (hb : Below w5.heap.size w5 W') => get_in (HS5.out.later hb) (by have := HLN.out.1; omega) kk hko
          obtain ⟨X, hX⟩ : ∃ X, S.objs[kk] = X := ⟨_, rfl⟩
          rw [hX] at ec eo ez i0 ho hge hcs
          have hcre : creE S ((kk : Int) + 1) = if liveO S X then 0 else 10 := by unfold creE; rw [if_pos (show hasS S ((kk : Int) + 1) from ⟨by omega, by omega⟩), ho]
          have hlo : liveO S X = (X.zone == 3 && d0 == 2) := by unfold liveO; rw [hcs]
          subst hva hta
          have hk0 : (0 : Int) ≤ (kk : Int) := by omega
          have hkx : (kk : Int) < (l.length : Int) := by omega
          have hpos : decide ((0 : Int) < (kk : Int) + 1) = true := decide_eq_true (by omega)
          have e11 : (kk : Int) + 1 - 1 = (kk : Int) := by omega
          have hn00 : (0 : Int) ≤ (n0 : Int) := by omega
          rw [ek] at hE0
          have hzd : (X.zone == 3 && d0 == 2) = true := by
            rw [← hlo]
            by_cases hl : liveO S X = true
            · exact hl
            · rw [hcre, if_neg hl] at hE0
              exact absurd hE0 (by decide)
          rw [Bool.and_eq_true] at hzd
          have hz : yz = 3 := by rw [← ez]; simpa using hzd.1
          have hd : d0 = 2 := by simpa using hzd.2
          subst hz
          clear hzd hE0
          subst hd
          have hE : creE S ((kk : Int) + 1) = 0 := by rw [hcre, hlo, ez]; rfl
          have g1 : powS S ((kk : Int) + 1) = layZ e2 X.count X.boost := by unfold powS creO creC; rw [if_pos hE, if_pos hE, ho, hcs]
          have g2 : touS S ((kk : Int) + 1) = layZ e3 X.count X.boost := by unfold touS creO creC; rw [if_pos hE, if_pos hE, ho, hcs]
          have g3 : (creC S ((kk : Int) + 1)).keys = e4 := by unfold creC; rw [if_pos hE, ho, hcs]
          have g4 : (creO S ((kk : Int) + 1)).hurt = X.hurt := by unfold creO; rw [if_pos hE, ho]
          obtain ⟨x0, x1, x2, x3, x4, x5, x6, x7, x8, x9, x10⟩ := X
          dsimp only at ec eo ez i0 g1 g2 g3 g4
          subst ec ez i0 eo
          have HGE := Lib.hid hge
          unfold RetGet oagg at HGE
          dsimp only at HGE
          have HP := Lib.hid (refLay_eq x7 x8 ⟨hin7.1, hin7.2.1⟩)
          have HT := Lib.hid (refLay_eq x7 x8 ⟨hin7.2.2.1, hin7.2.2.2⟩)
          clear hcre hlo hge hcs hct hX hin7 hC hy ho
          go_wp2_with fail
          refine (HGE.out _ (below_alloc2 HBR.out _)).mono ?_
          rintro e w7 ⟨rfl, hb7⟩
          have v2 := cell_stays (stepB hb7 (below_new w7 (.cells #[.int .i64 ((kk : Int) + 1), .int .i64 n0, .int .i64 x2, .int .i64 3, .bool x4, .bool x5, .int .i64 x6, .int .i64 x7, .int .i64 x8, .int .i64 x9, .bool x10] 36))) (show (wr2.alloc (.cells #[.int .i64 2, .int .i64 e1, .int .i64 e2, .int .i64 e3, .int .i64 e4, .int .i64 e5, .slice xa dt.length xc] 34)).cell? ⟨wr2.heap.size, 2, none⟩ = some (.int .i64 e2) by simp [go_sem])
          have v3 := cell_stays (stepB hb7 (below_new w7 (.cells #[.int .i64 ((kk : Int) + 1), .int .i64 n0, .int .i64 x2, .int .i64 3, .bool x4, .bool x5, .int .i64 x6, .int .i64 x7, .int .i64 x8, .int .i64 x9, .bool x10] 36))) (show (wr2.alloc (.cells #[.int .i64 2, .int .i64 e1, .int .i64 e2, .int .i64 e3, .int .i64 e4, .int .i64 e5, .slice xa dt.length xc] 34)).cell? ⟨wr2.heap.size, 3, none⟩ = some (.int .i64 e3) by simp [go_sem])
          have v4 := cell_stays (stepB hb7 (below_new w7 (.cells #[.int .i64 ((kk : Int) + 1), .int .i64 n0, .int .i64 x2, .int .i64 3, .bool x4, .bool x5, .int .i64 x6, .int .i64 x7, .int .i64 x8, .int .i64 x9, .bool x10] 36))) (show (wr2.alloc (.cells #[.int .i64 2, .int .i64 e1, .int .i64 e2, .int .i64 e3, .int .i64 e4, .int .i64 e5, .slice xa dt.length xc] 34)).cell? ⟨wr2.heap.size, 4, none⟩ = some (.int .i64 e4) by simp [go_sem])
          have HB8 := Lib.hid (stepB (stepB (below_alloc2 HBR.out (.cells #[.int .i64 2, .int .i64 e1, .int .i64 e2, .int .i64 e3, .int .i64 e4, .int .i64 e5, .slice xa dt.length xc] 34)) hb7) (below_new w7 (.cells #[.int .i64 ((kk : Int) + 1), .int .i64 n0, .int .i64 x2, .int .i64 3, .bool x4, .bool x5, .int .i64 x6, .int .i64 x7, .int .i64 x8, .int .i64 x9, .bool x10] 36)))
          have u6 : (w7.alloc (.cells #[.int .i64 ((kk : Int) + 1), .int .i64 n0, .int .i64 x2, .int .i64 3, .bool x4, .bool x5, .int .i64 x6, .int .i64 x7, .int .i64 x8, .int .i64 x9, .bool x10] 36)).cell? ⟨w7.heap.size, 6, none⟩ = some (.int .i64 x6) := by simp [go_sem]
          have u7 : (w7.alloc (.cells #[.int .i64 ((kk : Int) + 1), .int .i64 n0, .int .i64 x2, .int .i64 3, .bool x4, .bool x5, .int .i64 x6, .int .i64 x7, .int .i64 x8, .int .i64 x9, .bool x10] 36)).cell? ⟨w7.heap.size, 7, none⟩ = some (.int .i64 x7) := by simp [go_sem]
          have u8 : (w7.alloc (.cells #[.int .i64 ((kk : Int) + 1), .int .i64 n0, .int .i64 x2, .int .i64 3, .bool x4, .bool x5, .int .i64 x6, .int .i64 x7, .int .i64 x8, .int .i64 x9, .bool x10] 36)).cell? ⟨w7.heap.size, 8, none⟩ = some (.int .i64 x8) := by simp [go_sem]
          clear hb7 HGE t0 t1 t2 t3 t4 r0 r1 r2 r3 r4 r5 r6
          dsimp only
          go_upto_region 15 with fail
          obtain ⟨W8, hW8⟩ : ∃ W8, w7.alloc (.cells #[.int .i64 ((kk : Int) + 1), .int .i64 n0, .int .i64 x2, .int .i64 3, .bool x4, .bool x5, .int .i64 x6, .int .i64 x7, .int .i64 x8, .int .i64 x9, .bool x10] 36) = W8 := ⟨_, rfl⟩
          rw [hW8] at v2 v3 v4 HB8 u6 u7 u8 ⊢
          obtain ⟨qc, hqc⟩ : ∃ qc, wr2.heap.size = qc := ⟨_, rfl⟩
          obtain ⟨qo, hqo⟩ : ∃ qo, w7.heap.size = qo := ⟨_, rfl⟩
          rw [hqc] at v2 v3 v4 ⊢
          rw [hqo] at u6 u7 u8 ⊢
          clear hW8 hqc hqo
          go_region
          go_upto_region 16 with fail
          obtain ⟨W9, hW9⟩ : ∃ W9, W8.drew = W9 := ⟨_, rfl⟩
          have hb9 : Below W8.heap.size W8 W9 := hW9 ▸ (Below.refl _ _).drew
          have v29 := cell_stays hb9 v2
          have v39 := cell_stays hb9 v3
          have u79 := cell_stays hb9 u7
          have u89 := cell_stays hb9 u8
          rw [hW9]
          have HB9 := Lib.hid (stepB HB8.out hb9)
          have HL1 := Lib.hid (fun k => (Calls.quiet_of_same ((refLay_any e2 x7 x8 (W9.drewN k)).mono fun _ _ h => h) : Calls Try.prog 11 #[.int .i64 e2, .int .i64 x7, .int .i64 x8] (W9.drewN k) fun e w'' => e = .returned (.int .i64 (refLayZ e2 x7 x8)) ∧ ∃ m, w'' = W9.drewN m))
          have HL2 := Lib.hid (fun k => (Calls.quiet_of_same ((refLay_any e3 x7 x8 (W9.drewN k)).mono fun _ _ h => h) : Calls Try.prog 11 #[.int .i64 e3, .int .i64 x7, .int .i64 x8] (W9.drewN k) fun e w'' => e = .returned (.int .i64 (refLayZ e3 x7 x8)) ∧ ∃ m, w'' = W9.drewN m))
          clear hW9 hb9 v2 v3 v4 u6 u7 u8
          go_quiet ((first | (with_reducible exact HL1.out _) | (with_reducible exact HL2.out _)))
          have HB10 := Lib.hid (stepB HB9.out (below_drewN (Below.refl W9.heap.size W9) nq))
          go_wp2_with fail
          go_meet
          case rel => exact ⟨by rw [ek, hE]; rfl, by rw [ek, g1, HP.out], by rw [ek, g2, HT.out], by rw [ek, g3], by rw [ek, g4], HB10⟩
        case rest =>
          obtain ⟨rfl, rfl, rfl, rfl, rfl, HB6⟩ := hcut
          obtain ⟨w6, hw6⟩ : ∃ w6, wc = w6 := ⟨_, rfl⟩
          rw [hw6] at HB6 ⊢
          clear hw6 wc
          have HLL := Lib.hid (show S.objs.length ≤ 1000 by have := HLN.out.1; omega)
          have HC1 := Lib.hid (fun (W' : World) (hb : Below w5.heap.size w5 W') => live_any (HS5.out.later hb) HF.out.wf HLL.out (k : Int))
          have HC2 := Lib.hid (fun (W' : World) (hb : Below w5.heap.size w5 W') => power_any (HS5.out.later hb) HF.out.wf HLL.out (k : Int))
          have HC3 := Lib.hid (fun (W' : World) (hb : Below w5.heap.size w5 W') => tough_any (HS5.out.later hb) HF.out.wf HLL.out (k : Int))
          have HC4 := Lib.hid (fun (W' : World) (hb : Below w5.heap.size w5 W') => keys_any (HS5.out.later hb) HF.out.wf HLL.out (k : Int))
          have HC5 := Lib.hid (fun (W' : World) (hb : Below w5.heap.size w5 W') => dead_any (HS5.out.later hb) HF.out.wf HLL.out (k : Int))
          have hdd : deadS S (k : Int) = ((creE S (k : Int) == 0) && (touS S (k : Int) == 0 || decide (touS S (k : Int) ≤ (creO S (k : Int)).hurt))) := rfl
          rw [hdd] at HC5
          rw [hlv] at HC1 HC5 ⊢
          obtain ⟨pw, hpw⟩ : ∃ pw, powS S (k : Int) = pw := ⟨_, rfl⟩
          obtain ⟨tw, htw⟩ : ∃ tw, touS S (k : Int) = tw := ⟨_, rfl⟩
          obtain ⟨kw, hkw⟩ : ∃ kw, (creC S (k : Int)).keys = kw := ⟨_, rfl⟩
          obtain ⟨hw, hhw⟩ : ∃ hw, (creO S (k : Int)).hurt = hw := ⟨_, rfl⟩
          rw [hpw] at HC2 ⊢
          rw [htw] at HC3 HC5 ⊢
          rw [hkw] at HC4 ⊢
          rw [hhw] at HC5 ⊢
          have ne1 : (pw != pw) = false := bne_self_eq_false _
          have ne2 : (tw != tw) = false := bne_self_eq_false _
          have ne3 : (kw != kw) = false := bne_self_eq_false _
          clear hdd hlv hpw htw hkw hhw
          cases lv
          · rw [show (false && (tw == 0 || decide (tw ≤ hw))) = false from rfl] at HC5
            go_wp2_with fail
            refine (HC1.out _ HB6.out).mono ?_
            rintro e w11 ⟨rfl, hb⟩
            have HB11 := Lib.hid (stepB HB6.out hb)
            clear hb
            dsimp only
            go_wp2_with fail
            refine (HC2.out _ HB11.out).mono ?_
            rintro e w12 ⟨rfl, hb⟩
            have HB12 := Lib.hid (stepB HB11.out hb)
            clear hb
            dsimp only
            go_wp2_with fail
            refine (HC3.out _ HB12.out).mono ?_
            rintro e w13 ⟨rfl, hb⟩
            have HB13 := Lib.hid (stepB HB12.out hb)
            clear hb
            dsimp only
            go_wp2_with fail
            refine (HC4.out _ HB13.out).mono ?_
            rintro e w14 ⟨rfl, hb⟩
            have HB14 := Lib.hid (stepB HB13.out hb)
            clear hb
            dsimp only
            go_wp2_with fail
            refine (HC5.out _ HB14.out).mono ?_
            rintro e w15 ⟨rfl, hb⟩
            have HB15 := Lib.hid (stepB HB14.out hb)
            clear hb
            dsimp only
            go_wp2
            go_roundw
            case rel => exact ⟨k + 1, by omega, by go_num, HB15⟩
            case measure => simp [intOf]; omega
          · rw [show (true && (tw == 0 || decide (tw ≤ hw))) = (tw == 0 || decide (tw ≤ hw)) from rfl] at HC5
            by_cases ht : tw = 0
            · subst ht
              rw [show ((0 : Int) == 0 || decide ((0 : Int) ≤ hw)) = true from rfl] at HC5
              go_wp2_with fail
              refine (HC1.out _ HB6.out).mono ?_
              rintro e w11 ⟨rfl, hb⟩
              have HB11 := Lib.hid (stepB HB6.out hb)
              clear hb
              dsimp only
              go_wp2_with fail
              refine (HC2.out _ HB11.out).mono ?_
              rintro e w12 ⟨rfl, hb⟩
              have HB12 := Lib.hid (stepB HB11.out hb)
              clear hb
              dsimp only
              go_wp2_with fail
              refine (HC3.out _ HB12.out).mono ?_
              rintro e w13 ⟨rfl, hb⟩
              have HB13 := Lib.hid (stepB HB12.out hb)
              clear hb
              dsimp only
              go_wp2_with fail
              refine (HC4.out _ HB13.out).mono ?_
              rintro e w14 ⟨rfl, hb⟩
              have HB14 := Lib.hid (stepB HB13.out hb)
              clear hb
              dsimp only
              go_wp2_with fail
              refine (HC5.out _ HB14.out).mono ?_
              rintro e w15 ⟨rfl, hb⟩
              have HB15 := Lib.hid (stepB HB14.out hb)
              clear hb
              dsimp only
              go_wp2
              go_roundw
              case rel => exact ⟨k + 1, by omega, by go_num, HB15⟩
              case measure => simp [intOf]; omega
            · have ht0 : (tw == 0) = false := beq_eq_false_iff_ne.2 ht
              rw [ht0, Bool.false_or] at HC5
              obtain ⟨db, hdb⟩ : ∃ db, decide (tw ≤ hw) = db := ⟨_, rfl⟩
              rw [hdb] at HC5
              clear ht
              cases db
              · go_wp2_with fail
                refine (HC1.out _ HB6.out).mono ?_
                rintro e w11 ⟨rfl, hb⟩
                have HB11 := Lib.hid (stepB HB6.out hb)
                clear hb
                dsimp only
                go_wp2_with fail
                refine (HC2.out _ HB11.out).mono ?_
                rintro e w12 ⟨rfl, hb⟩
                have HB12 := Lib.hid (stepB HB11.out hb)
                clear hb
                dsimp only
                go_wp2_with fail
                refine (HC3.out _ HB12.out).mono ?_
                rintro e w13 ⟨rfl, hb⟩
                have HB13 := Lib.hid (stepB HB12.out hb)
                clear hb
                dsimp only
                go_wp2_with fail
                refine (HC4.out _ HB13.out).mono ?_
                rintro e w14 ⟨rfl, hb⟩
                have HB14 := Lib.hid (stepB HB13.out hb)
                clear hb
                dsimp only
                go_wp2_with fail
                refine (HC5.out _ HB14.out).mono ?_
                rintro e w15 ⟨rfl, hb⟩
                have HB15 := Lib.hid (stepB HB14.out hb)
                clear hb
                dsimp only
                go_wp2
                go_roundw
                case rel => exact ⟨k + 1, by omega, by go_num, HB15⟩
                case measure => simp [intOf]; omega
              · go_wp2_with fail
                refine (HC1.out _ HB6.out).mono ?_
                rintro e w11 ⟨rfl, hb⟩
                have HB11 := Lib.hid (stepB HB6.out hb)
                clear hb
                dsimp only
                go_wp2_with fail
                refine (HC2.out _ HB11.out).mono ?_
                rintro e w12 ⟨rfl, hb⟩
                have HB12 := Lib.hid (stepB HB11.out hb)
                clear hb
                dsimp only
                go_wp2_with fail
                refine (HC3.out _ HB12.out).mono ?_
                rintro e w13 ⟨rfl, hb⟩
                have HB13 := Lib.hid (stepB HB12.out hb)
                clear hb
                dsimp only
                go_wp2_with fail
                refine (HC4.out _ HB13.out).mono ?_
                rintro e w14 ⟨rfl, hb⟩
                have HB14 := Lib.hid (stepB HB13.out hb)
                clear hb
                dsimp only
                go_wp2_with fail
                refine (HC5.out _ HB14.out).mono ?_
                rintro e w15 ⟨rfl, hb⟩
                have HB15 := Lib.hid (stepB HB14.out hb)
                clear hb
                dsimp only
                go_wp2
                go_roundw
                case rel => exact ⟨k + 1, by omega, by go_num, HB15⟩
                case measure => simp [intOf]; omega
    · obtain rfl : k = l.length + 1 := by omega
      have d1 : decide (((l.length + 1 : Nat) : Int) ≤ (l.length : Int)) = false := decide_eq_false (by omega)
      obtain ⟨wA, rfl⟩ : ∃ wA, wA = wr := ⟨_, rfl⟩
      have HIN := Lib.hid (in_any (HS5.out.later HBR.out) HSH.out (s := 0) (z := 3) ⟨by decide, by decide⟩ ⟨by decide, by decide⟩)
      rw [inL_field (S := S) (by rw [HF.out.seats]; decide) 0] at HIN
      clear hlt hk
      go_wp2_with fail
      refine HIN.out.mono ?_
      rintro e w7 ⟨v7, rfl, ho7, hb7⟩
      have hpl : (S.pl 0 3).length ≤ 1000 := HSH.out.2 0 3 ⟨by rw [HF.out.seats]; decide, by decide, by decide, fun _ => rfl⟩
      have HMEM := Lib.hid (fun x (hx : x ∈ S.pl 0 3) => HF.out.wf.onField (by rw [HF.out.seats]; decide) hx)
      have HSTR := Lib.hid (show strK S id (S.pl 0 3) = strL S (fieldL S [id, 1]) from rfl)
      obtain ⟨PL, hPL⟩ : ∃ PL, S.pl 0 3 = PL := ⟨_, rfl⟩
      rw [hPL] at ho7 hpl HMEM HSTR
      have HI7 := Lib.hid (own_ints ho7)
      have HV7 := Lib.hid (show ∀ k, v7.ownBlock = some k → q9 + 1 < k ∧ k < w7.heap.size from fun k hk => by
        have h1 := World.ownsRow.lt ho7 k hk
        have h2 := HBR.out.size
        have h3 := (Array.getElem?_eq_some_iff.1 HN10.out).1
        omega)
      have HB7 := Lib.hid (stepB HBR.out hb7)
      obtain ⟨ya, yc, rfl⟩ := own_form ho7
      have HTW := Lib.hid (TwoL.start ((HB7.out.block _ (Array.getElem?_eq_some_iff.1 HN9.out).1).trans HN9.out) ((HB7.out.block _ (Array.getElem?_eq_some_iff.1 HN10.out).1).trans HN10.out))
      have HS7 := Lib.hid (HS5.out.later HB7.out)
      have HTG := Lib.hid (show G.tag q9 = .no ∧ G.tag (q9 + 1) = .no from ⟨HS3.out.high _ (Nat.le_of_eq HQ9.out), HS3.out.high _ (by have := HQ9.out; omega)⟩)
      clear ho7 hb7 HIN hPL
      dsimp only
      go_wp2
      go_loopw [143] (fun i wr => ∃ (k : Nat) (v9 v10 : Value), k ≤ PL.length ∧ i = .int .i64 (k : Int) ∧ Hid (TwoL w7 wr q9 v9 v10 ((strK S id (PL.take k)).map (·.1)) ((strK S id (PL.take k)).map (·.2)))) (fun i _ => PL.length - (intOf i).toNat)
      case atStart => exact ⟨0, _, _, Nat.zero_le _, rfl, HTW⟩
      case round =>
        clear HBR
        obtain ⟨k, v9, v10, hk, rfl, HTL⟩ := hrel
        have HSR := Lib.hid (show StoreAt wr lo b G S from HS7.out.kept HTL.out.size (fun k hk => HTL.out.keep k (HS7.out.tagLt hk) (fun e => hk (by rw [e]; exact HTG.out.1)) (fun e => hk (by rw [e]; exact HTG.out.2))))
        by_cases hlt : k < PL.length
        · obtain ⟨j, hj, hxj, hoj, hzj⟩ := HMEM.out PL[k] (List.getElem_mem hlt)
          obtain ⟨yb, yoff, hya, hyc⟩ : ∃ yb yoff, ya = some ⟨yb, yoff, none⟩ ∧ wr.cell? ⟨yb, yoff + k, none⟩ = some (.int .i64 PL[k]) := by
            obtain ⟨g, off, e, hg, hc⟩ := HI7.out.at k hlt
            subst e
            obtain ⟨h1, h2⟩ := HV7.out g rfl
            exact ⟨g, off, rfl, by rw [World.cell?_of_block (w := w7) (a := ⟨g, off + k, none⟩) (HTL.out.keep g h2 (by omega) (by omega))]; exact hc⟩
          have htk := strK_snoc S id PL[k] (PL.take k)
          rw [← take_last PL k hlt] at htk
          rw [hoj] at htk
          have hlive : creE S ((j : Int) + 1) = if kindB S S.objs[j] then 0 else 10 := by
            unfold creE
            rw [if_pos (show hasS S ((j : Int) + 1) from ⟨by omega, by omega⟩), objOf_at hj]
            unfold liveO kindB
            rw [hzj]
            rfl
          have hge := get_in HSR.out (by have := HLN.out.1; omega) j hj
          have hlv := fun (W' : World) (hb : Below wr.heap.size wr W') => live_any (HSR.out.later hb) HF.out.wf (by have := HLN.out.1; omega) ((j : Int) + 1)
          have hpw := fun (W' : World) (hb : Below wr.heap.size wr W') => power_any (HSR.out.later hb) HF.out.wf (by have := HLN.out.1; omega) ((j : Int) + 1)
          have hid0 := (HF.out.wf.ids j hj).1
          rw [hxj] at hyc
          obtain ⟨X, hX⟩ : ∃ X, S.objs[j] = X := ⟨_, rfl⟩
          have HXO := Lib.hid ((objOf_at hj).trans hX)
          rw [hX] at htk hlive hge hid0
          obtain ⟨x0, x1, x2, x3, x4, x5, x6, x7, x8, x9, x10⟩ := X
          dsimp only at hid0
          subst hid0
          have HGE := Lib.hid hge
          unfold RetGet oagg at HGE
          dsimp only at HGE
          have HLVV := Lib.hid hlv
          have HPWW := Lib.hid hpw
          have hkx : (k : Int) < (PL.length : Int) := by omega
          have hk0 : (0 : Int) ≤ (k : Int) := by omega
          subst hya
          obtain ⟨kb, hkb⟩ : ∃ kb, kindB S ⟨(j : Int) + 1, x1, x2, x3, x4, x5, x6, x7, x8, x9, x10⟩ = kb := ⟨_, rfl⟩
          rw [hkb] at hlive htk
          have hown : ownB [id, 1] ⟨(j : Int) + 1, x1, x2, x3, x4, x5, x6, x7, x8, x9, x10⟩ = (x2 == id || x2 == 1) := by unfold ownB; simp [List.contains, List.elem]; cases h1 : (x2 == id) <;> cases h2 : (x2 == 1) <;> simp_all
          rw [hown] at htk
          have hlen := strK_len S id (PL.take k)
          have HLE := Lib.hid (show (strK S id (PL.take k)).length + 1 ≤ 1000 from by rw [List.length_take] at hlen; omega)
          obtain ⟨K0, hK0⟩ : ∃ K0, strK S id (PL.take k) = K0 := ⟨_, rfl⟩
          rw [hK0] at htk HTL HLE
          clear hge hlv hpw hX hoj hzj hown hlen hK0
          go_wp2_with fail
          refine HGE.out.mono ?_
          rintro e w8 ⟨rfl, hb8⟩
          have HB8 := Lib.hid (below_alloc2 hb8 (.cells #[.int .i64 ((j : Int) + 1), .int .i64 x1, .int .i64 x2, .int .i64 x3, .bool x4, .bool x5, .int .i64 x6, .int .i64 x7, .int .i64 x8, .int .i64 x9, .bool x10] 36))
          have ho2 : (w8.alloc (.cells #[.int .i64 ((j : Int) + 1), .int .i64 x1, .int .i64 x2, .int .i64 x3, .bool x4, .bool x5, .int .i64 x6, .int .i64 x7, .int .i64 x8, .int .i64 x9, .bool x10] 36)).cell? ⟨w8.heap.size, 2, none⟩ = some (.int .i64 x2) := by simp [go_sem]
          clear hb8 hyc
          dsimp only
          go_upto_region 23 with fail
          obtain ⟨w88, hw88⟩ : ∃ w88, w8.alloc (.cells #[.int .i64 ((j : Int) + 1), .int .i64 x1, .int .i64 x2, .int .i64 x3, .bool x4, .bool x5, .int .i64 x6, .int .i64 x7, .int .i64 x8, .int .i64 x9, .bool x10] 36) = w88 := ⟨_, rfl⟩
          obtain ⟨qo, hqo⟩ : ∃ qo, w8.heap.size = qo := ⟨_, rfl⟩
          rw [hw88] at HB8 ho2 ⊢
          rw [hqo] at ho2 ⊢
          clear hw88 hqo
          go_wp2_with fail
          refine (HLVV.out _ HB8.out).mono ?_
          rintro e w9 ⟨rfl, hb9⟩
          have HB9 := Lib.hid (stepB HB8.out hb9)
          have ho29 := cell_stays hb9 ho2
          have HLIV := Lib.hid hlive
          rw [hlive]
          clear hb9 ho2 hlive
          dsimp only
          cases kb
          · have HTK := Lib.hid (show strK S id (PL.take (k + 1)) = K0 by rw [htk, Bool.and_false, if_neg (by decide)])
            clear htk
            have HTT := Lib.hid (show TwoL w7 w9 q9 v9 v10 ((strK S id (PL.take (k + 1))).map (·.1)) ((strK S id (PL.take (k + 1))).map (·.2)) by rw [HTK.out]; exact HTL.out.later HB9.out)
            go_wp2
            go_roundw
            case rel =>
              (repeat apply Exists.intro)
              refine And.symm (And.intro ?_ ?_)
              · (repeat' apply And.intro) <;> rfl
              · first | exact ⟨k + 1, by omega, by go_num, v9, v10, HTT⟩ | exact ⟨k + 1, v9, v10, by omega, by go_num, HTT⟩
            case measure => simp [intOf]; omega
          have HPE := Lib.hid (show powS S ((j : Int) + 1) = (itemO S ⟨(j : Int) + 1, x1, x2, x3, x4, x5, x6, x7, x8, x9, x10⟩).2 by
            have hE : creE S ((j : Int) + 1) = 0 := HLIV.out
            unfold powS creO creC itemO
            rw [if_pos hE, if_pos hE, HXO.out])
          by_cases h1 : x2 = 1
          case neg =>
            have h1b : (x2 == 1) = false := beq_eq_false_iff_ne.2 h1
            by_cases h2 : x2 = id
            case neg =>
              have h2b : (x2 == id) = false := beq_eq_false_iff_ne.2 h2
              have HTK := Lib.hid (show strK S id (PL.take (k + 1)) = K0 by rw [htk, h1b, h2b]; rfl)
              clear htk h1 h2
              have HTT := Lib.hid (show TwoL w7 w9 q9 v9 v10 ((strK S id (PL.take (k + 1))).map (·.1)) ((strK S id (PL.take (k + 1))).map (·.2)) by rw [HTK.out]; exact HTL.out.later HB9.out)
              go_wp2
              go_roundw
              case rel =>
                (repeat apply Exists.intro)
                refine And.symm (And.intro ?_ ?_)
                · (repeat' apply And.intro) <;> rfl
                · first | exact ⟨k + 1, by omega, by go_num, v9, v10, HTT⟩ | exact ⟨k + 1, v9, v10, by omega, by go_num, HTT⟩
              case measure => simp [intOf]; omega
            have h2b : (x2 == id) = true := beq_iff_eq.2 h2
            have HTK := Lib.hid (show strK S id (PL.take (k + 1)) = K0 ++ [itemO S ⟨(j : Int) + 1, x1, x2, x3, x4, x5, x6, x7, x8, x9, x10⟩] by rw [htk, h1b, h2b]; rfl)
            clear htk h1 h2
            go_upto_region 24 with fail
            refine wp_region_noPanic ?_
            refine (wpIn_wide (n := 9)).1 ?_
            have HT9 := Lib.hid (HTL.out.later (stepB HB9.out (Below.refl _ _).drew))
            obtain ⟨wd, hwd⟩ : ∃ wd, w9.drew = wd := ⟨_, rfl⟩
            have HPD := Lib.hid (stepB HB9.out (Below.refl w9.heap.size w9).drew)
            refine wpIn_region_any (by kernel_rfl) ?_
            change wpAnyIn _ _ _ _ _ _ _ _ _ (World.drew _)
            rw [hwd] at HT9 HPD ⊢
            clear hwd
            refine anyC.any (c := 9) (S := fun w' => w'.heap[q9]? = some (.cells #[v9] 29 (0, 0)) ∧ w'.heap[q9 + 1]? = some (.cells #[v10] 29 (0, 0))) ?_
            refine anyC_take [3, 7, 9] (i := 0) (v := ?_) (by decide) (by decide) (by kernel_rfl) (by kernel_rfl) (by kernel_rfl) (by kernel_rfl) rfl (by kernel_rfl) (by kernel_rfl) (by kernel_rfl) (fun _ _ _ h => h) (by rfl) (fun _ => rfl) ?_ ?_
            rotate_left
            · intro w1 hS
              have r0 := cell_of_row w1 q9 0 _ _ (0, 0) hS.1
              go_simp
              try with_reducible rfl
            refine anyC_take [9] (i := 4) (v := ?_) (by decide) (by decide) (by kernel_rfl) (by kernel_rfl) (by kernel_rfl) (by kernel_rfl) rfl (by kernel_rfl) (by kernel_rfl) (by kernel_rfl) (fun _ _ _ h => h) (by rfl) (fun _ => rfl) ?_ ?_
            rotate_left
            · intro w1 hS
              have r0 := cell_of_row w1 (q9 + 1) 0 _ _ (0, 0) hS.2
              go_simp
              try with_reducible rfl
            refine anyC_take [2, 3, 7, 9] (i := 1) (v := ?_) (by decide) (by decide) (by kernel_rfl) (by kernel_rfl) (by kernel_rfl) (by kernel_rfl) rfl (by kernel_rfl) (by kernel_rfl) (by kernel_rfl) (fun _ _ _ h => h) (by rfl) (fun _ => rfl) ?_ ?_
            rotate_left
            · intro w1 hS
              go_simp
              try with_reducible rfl
            refine anyC_take [7, 9] (i := 5) (v := ?_) (by decide) (by decide) (by kernel_rfl) (by kernel_rfl) (by kernel_rfl) (by kernel_rfl) rfl (by kernel_rfl) (by kernel_rfl) (by kernel_rfl) (fun _ _ _ h => h) (by rfl) (fun _ => rfl) ?_ ?_
            rotate_left
            · intro w1 hS
              go_simp
              try with_reducible rfl
            refine anyC_take [7, 9] (i := 6) (v := ?_) (by decide) (by decide) (by kernel_rfl) (by kernel_rfl) (by kernel_rfl) (by kernel_rfl) rfl (by kernel_rfl) (by kernel_rfl) (by kernel_rfl) (fun _ _ _ h => h) (by rfl) (fun _ => rfl) ?_ ?_
            rotate_left
            · intro w1 hS
              go_simp
              try with_reducible rfl
            refine anyC_one (i := 2) (by kernel_rfl) rfl (fun _ => ⟨HT9.out.b9, HT9.out.b10⟩) (fun K hK => ?_)
            go_simp
            refine hK _ _ ?_
            clear hK K
            have hx1 := below_new wd (.cells #[.int .i64 ((j : Int) + 1)] 3)
            have HT10 := Lib.hid (HT9.out.later hx1)
            have HX1 := Lib.hid (stepB HPD.out hx1)
            have HV10 := Lib.hid ((RowAt.new wd 3 (intsV [(j : Int) + 1])).vals 1)
            clear hx1
            refine anyC_one (i := 3) (by kernel_rfl) rfl (fun _ => ⟨HT10.out.b9, HT10.out.b10⟩) (fun K hK => ?_)
            refine stepIn_append_ints rfl _ _ rfl rfl w7.heap.size _ _ _ rfl HT10.out.o9 _ 1 1 [(j : Int) + 1] rfl rfl HV10.out (by have := HLE.out; simp; omega) HT10.out.size ?_
            intro v9' w10 hown9 hgrow9 hnew9
            refine hK _ _ ?_
            clear hK K
            have HH10 := Lib.hid (HT10.out.half (A' := K0.map (·.1) ++ [(j : Int) + 1]) (by rw [List.length_append]; unfold intsV at hown9 ⊢; rw [List.map_append]; exact hown9) hgrow9 hnew9)
            have HG10 := Lib.hid hgrow9
            obtain ⟨xa9, xc9, hv9⟩ := own_form HH10.out.o9
            rw [show (K0.map (·.1) ++ [(j : Int) + 1]).length = K0.length + 1 by simp] at hv9
            subst hv9
            clear hown9 hgrow9 hnew9
            have hsr := HS7.out.kept HH10.out.size (fun k hk => HH10.out.keep k (HS7.out.tagLt hk) (fun e => hk (by rw [e]; exact HTG.out.1)) (fun e => hk (by rw [e]; exact HTG.out.2)))
            have HPW := Lib.hid (power_any hsr HF.out.wf (by have := HLN.out.1; omega) ((j : Int) + 1))
            clear hsr
            refine anyC_one (i := 7) (by kernel_rfl) rfl (fun _ => ⟨HH10.out.b9, HH10.out.b10⟩) (fun K hK => ?_)
            go_simp
            gi_wp2_with ((refine ⟨trivial, ?_⟩; gi_at_call 13; refine CallsIn.mono (F := Fence.wide) (callsIn_wide.2 HPW.out) ?_; rintro e w11 ⟨rfl, hb11⟩; have HH11 := Lib.hid (HH10.out.later hb11); clear hb11))
            have HNO : ∀ (P : Prop), False → P := fun _ h => h.elim
            have hx2 := below_new w11 (.cells #[.int .i64 (powS S ((j : Int) + 1))] 3)
            have HH12 := Lib.hid (HH11.out.later hx2)
            have HV12 := Lib.hid ((RowAt.new w11 3 (intsV [powS S ((j : Int) + 1)])).vals 1)
            clear hx2
            refine anyC_one (i := 8) (by kernel_rfl) rfl (fun _ => ⟨HH11.out.b9, HH11.out.b10⟩) (fun K hK => ?_)
            go_simp
            refine hK _ _ ?_
            clear hK K
            refine anyC_one (i := 9) (by kernel_rfl) rfl (fun _ => ⟨HH12.out.b9, HH12.out.b10⟩) (fun K hK => ?_)
            refine stepIn_append_ints rfl _ _ rfl rfl w7.heap.size _ _ _ rfl HH12.out.o10 _ 1 1 [powS S ((j : Int) + 1)] rfl rfl HV12.out (by have := HLE.out; simp; omega) HH12.out.size ?_
            intro v10' w13 hown10 hgrow10 hnew10
            refine hK _ _ ?_
            clear hK K
            obtain ⟨hd9, hd10, htl⟩ := HH12.out.done (B' := K0.map (·.2) ++ [powS S ((j : Int) + 1)]) (by rw [List.length_append]; unfold intsV at hown10 ⊢; rw [List.map_append]; exact hown10) hgrow10 hnew10
            have HTF := Lib.hid htl
            have q9c := hd9.cell
            have q9f := hd9.frozen
            have q10c := hd10.cell
            have q10f := hd10.frozen
            obtain ⟨xa10, xc10, hv10⟩ := own_form htl.o10
            rw [show (K0.map (·.2) ++ [powS S ((j : Int) + 1)]).length = K0.length + 1 by simp] at hv10
            subst hv10
            clear hown10 hgrow10 hnew10 hd9 hd10 htl
            refine anyC_one (i := 10) (by kernel_rfl) rfl (fun h => absurd ((show Array.getD _ 9 true = true by kernel_rfl).symm.trans h) (by decide)) (fun K hK => ?_)
            go_simp
            refine hK _ _ ?_
            clear hK K
            refine anyC_one (i := 11) (by kernel_rfl) rfl (fun h => absurd ((show Array.getD _ 9 true = true by kernel_rfl).symm.trans h) (by decide)) (fun K hK => ?_)
            go_simp
            refine hK _ _ ?_
            clear hK K
            refine anyC_done (by kernel_rfl) (fun h => absurd ((show Array.getD _ 9 true = true by kernel_rfl).symm.trans h) (by decide)) ?_ _
            refine NoPanic.normal ?_
            have HTT := HTF
            go_wp2
            go_roundw
            case rel =>
              (repeat apply Exists.intro)
              refine And.symm (And.intro ?_ ?_)
              · (repeat' apply And.intro) <;> rfl
              · have h := HTT.out
                rw [HPE.out] at h
                have h2 : strK S id (PL.take (k + 1)) = _ := HTK.out
                first | exact ⟨k + 1, by omega, by go_num, _, _, by rw [h2, List.map_append, List.map_append]; exact Lib.hid h⟩ | exact ⟨k + 1, _, _, by omega, by go_num, by rw [h2, List.map_append, List.map_append]; exact Lib.hid h⟩
            case measure => simp [intOf]; omega
          subst h1
          have h1b : ((1 : Int) == 1) = true := rfl
          have HTK := Lib.hid (show strK S id (PL.take (k + 1)) = K0 ++ [itemO S ⟨(j : Int) + 1, x1, 1, x3, x4, x5, x6, x7, x8, x9, x10⟩] by rw [htk]; simp)
          clear htk
          go_upto_region 24 with fail
          refine wp_region_noPanic ?_
          refine (wpIn_wide (n := 9)).1 ?_
          have HT9 := Lib.hid (HTL.out.later (stepB HB9.out (Below.refl _ _).drew))
          obtain ⟨wd, hwd⟩ : ∃ wd, w9.drew = wd := ⟨_, rfl⟩
          have HPD := Lib.hid (stepB HB9.out (Below.refl w9.heap.size w9).drew)
          refine wpIn_region_any (by kernel_rfl) ?_
          change wpAnyIn _ _ _ _ _ _ _ _ _ (World.drew _)
          rw [hwd] at HT9 HPD ⊢
          clear hwd
          refine anyC.any (c := 9) (S := fun w' => w'.heap[q9]? = some (.cells #[v9] 29 (0, 0)) ∧ w'.heap[q9 + 1]? = some (.cells #[v10] 29 (0, 0))) ?_
          refine anyC_take [3, 7, 9] (i := 0) (v := ?_) (by decide) (by decide) (by kernel_rfl) (by kernel_rfl) (by kernel_rfl) (by kernel_rfl) rfl (by kernel_rfl) (by kernel_rfl) (by kernel_rfl) (fun _ _ _ h => h) (by rfl) (fun _ => rfl) ?_ ?_
          rotate_left
          · intro w1 hS
            have r0 := cell_of_row w1 q9 0 _ _ (0, 0) hS.1
            go_simp
            try with_reducible rfl
          refine anyC_take [9] (i := 4) (v := ?_) (by decide) (by decide) (by kernel_rfl) (by kernel_rfl) (by kernel_rfl) (by kernel_rfl) rfl (by kernel_rfl) (by kernel_rfl) (by kernel_rfl) (fun _ _ _ h => h) (by rfl) (fun _ => rfl) ?_ ?_
          rotate_left
          · intro w1 hS
            have r0 := cell_of_row w1 (q9 + 1) 0 _ _ (0, 0) hS.2
            go_simp
            try with_reducible rfl
          refine anyC_take [2, 3, 7, 9] (i := 1) (v := ?_) (by decide) (by decide) (by kernel_rfl) (by kernel_rfl) (by kernel_rfl) (by kernel_rfl) rfl (by kernel_rfl) (by kernel_rfl) (by kernel_rfl) (fun _ _ _ h => h) (by rfl) (fun _ => rfl) ?_ ?_
          rotate_left
          · intro w1 hS
            go_simp
            try with_reducible rfl
          refine anyC_take [7, 9] (i := 5) (v := ?_) (by decide) (by decide) (by kernel_rfl) (by kernel_rfl) (by kernel_rfl) (by kernel_rfl) rfl (by kernel_rfl) (by kernel_rfl) (by kernel_rfl) (fun _ _ _ h => h) (by rfl) (fun _ => rfl) ?_ ?_
          rotate_left
          · intro w1 hS
            go_simp
            try with_reducible rfl
          refine anyC_take [7, 9] (i := 6) (v := ?_) (by decide) (by decide) (by kernel_rfl) (by kernel_rfl) (by kernel_rfl) (by kernel_rfl) rfl (by kernel_rfl) (by kernel_rfl) (by kernel_rfl) (fun _ _ _ h => h) (by rfl) (fun _ => rfl) ?_ ?_
          rotate_left
          · intro w1 hS
            go_simp
            try with_reducible rfl
          refine anyC_one (i := 2) (by kernel_rfl) rfl (fun _ => ⟨HT9.out.b9, HT9.out.b10⟩) (fun K hK => ?_)
          go_simp
          refine hK _ _ ?_
          clear hK K
          have hx1 := below_new wd (.cells #[.int .i64 ((j : Int) + 1)] 3)
          have HT10 := Lib.hid (HT9.out.later hx1)
          have HX1 := Lib.hid (stepB HPD.out hx1)
          have HV10 := Lib.hid ((RowAt.new wd 3 (intsV [(j : Int) + 1])).vals 1)
          clear hx1
          refine anyC_one (i := 3) (by kernel_rfl) rfl (fun _ => ⟨HT10.out.b9, HT10.out.b10⟩) (fun K hK => ?_)
          refine stepIn_append_ints rfl _ _ rfl rfl w7.heap.size _ _ _ rfl HT10.out.o9 _ 1 1 [(j : Int) + 1] rfl rfl HV10.out (by have := HLE.out; simp; omega) HT10.out.size ?_
          intro v9' w10 hown9 hgrow9 hnew9
          refine hK _ _ ?_
          clear hK K
          have HH10 := Lib.hid (HT10.out.half (A' := K0.map (·.1) ++ [(j : Int) + 1]) (by rw [List.length_append]; unfold intsV at hown9 ⊢; rw [List.map_append]; exact hown9) hgrow9 hnew9)
          have HG10 := Lib.hid hgrow9
          obtain ⟨xa9, xc9, hv9⟩ := own_form HH10.out.o9
          rw [show (K0.map (·.1) ++ [(j : Int) + 1]).length = K0.length + 1 by simp] at hv9
          subst hv9
          clear hown9 hgrow9 hnew9
          have hsr := HS7.out.kept HH10.out.size (fun k hk => HH10.out.keep k (HS7.out.tagLt hk) (fun e => hk (by rw [e]; exact HTG.out.1)) (fun e => hk (by rw [e]; exact HTG.out.2)))
          have HPW := Lib.hid (power_any hsr HF.out.wf (by have := HLN.out.1; omega) ((j : Int) + 1))
          clear hsr
          refine anyC_one (i := 7) (by kernel_rfl) rfl (fun _ => ⟨HH10.out.b9, HH10.out.b10⟩) (fun K hK => ?_)
          go_simp
          gi_wp2_with ((refine ⟨trivial, ?_⟩; gi_at_call 13; refine CallsIn.mono (F := Fence.wide) (callsIn_wide.2 HPW.out) ?_; rintro e w11 ⟨rfl, hb11⟩; have HH11 := Lib.hid (HH10.out.later hb11); clear hb11))
          have HNO : ∀ (P : Prop), False → P := fun _ h => h.elim
          have hx2 := below_new w11 (.cells #[.int .i64 (powS S ((j : Int) + 1))] 3)
          have HH12 := Lib.hid (HH11.out.later hx2)
          have HV12 := Lib.hid ((RowAt.new w11 3 (intsV [powS S ((j : Int) + 1)])).vals 1)
          clear hx2
          refine anyC_one (i := 8) (by kernel_rfl) rfl (fun _ => ⟨HH11.out.b9, HH11.out.b10⟩) (fun K hK => ?_)
          go_simp
          refine hK _ _ ?_
          clear hK K
          refine anyC_one (i := 9) (by kernel_rfl) rfl (fun _ => ⟨HH12.out.b9, HH12.out.b10⟩) (fun K hK => ?_)
          refine stepIn_append_ints rfl _ _ rfl rfl w7.heap.size _ _ _ rfl HH12.out.o10 _ 1 1 [powS S ((j : Int) + 1)] rfl rfl HV12.out (by have := HLE.out; simp; omega) HH12.out.size ?_
          intro v10' w13 hown10 hgrow10 hnew10
          refine hK _ _ ?_
          clear hK K
          obtain ⟨hd9, hd10, htl⟩ := HH12.out.done (B' := K0.map (·.2) ++ [powS S ((j : Int) + 1)]) (by rw [List.length_append]; unfold intsV at hown10 ⊢; rw [List.map_append]; exact hown10) hgrow10 hnew10
          have HTF := Lib.hid htl
          have q9c := hd9.cell
          have q9f := hd9.frozen
          have q10c := hd10.cell
          have q10f := hd10.frozen
          obtain ⟨xa10, xc10, hv10⟩ := own_form htl.o10
          rw [show (K0.map (·.2) ++ [powS S ((j : Int) + 1)]).length = K0.length + 1 by simp] at hv10
          subst hv10
          clear hown10 hgrow10 hnew10 hd9 hd10 htl
          refine anyC_one (i := 10) (by kernel_rfl) rfl (fun h => absurd ((show Array.getD _ 9 true = true by kernel_rfl).symm.trans h) (by decide)) (fun K hK => ?_)
          go_simp
          refine hK _ _ ?_
          clear hK K
          refine anyC_one (i := 11) (by kernel_rfl) rfl (fun h => absurd ((show Array.getD _ 9 true = true by kernel_rfl).symm.trans h) (by decide)) (fun K hK => ?_)
          go_simp
          refine hK _ _ ?_
          clear hK K
          refine anyC_done (by kernel_rfl) (fun h => absurd ((show Array.getD _ 9 true = true by kernel_rfl).symm.trans h) (by decide)) ?_ _
          refine NoPanic.normal ?_
          have HTT := HTF
          go_wp2
          go_roundw
          case rel =>
            (repeat apply Exists.intro)
            refine And.symm (And.intro ?_ ?_)
            · (repeat' apply And.intro) <;> rfl
            · have h := HTT.out
              rw [HPE.out] at h
              have h2 : strK S id (PL.take (k + 1)) = _ := HTK.out
              first | exact ⟨k + 1, by omega, by go_num, _, _, by rw [h2, List.map_append, List.map_append]; exact Lib.hid h⟩ | exact ⟨k + 1, _, _, by omega, by go_num, by rw [h2, List.map_append, List.map_append]; exact Lib.hid h⟩
          case measure => simp [intOf]; omega
        · obtain rfl : k = PL.length := by omega
          obtain ⟨wB, rfl⟩ : ∃ wB, wB = wr := ⟨_, rfl⟩
          have htl := HTL.out
          rw [List.take_length, HSTR.out] at htl
          have hil : (strL S (fieldL S [id, 1])).length ≤ 1000 := by rw [← HSTR.out]; exact Nat.le_trans (strK_len S id PL) hpl
          obtain ⟨IT, hIT⟩ : ∃ IT, strL S (fieldL S [id, 1]) = IT := ⟨_, rfl⟩
          rw [hIT] at htl hil
          have HIT := Lib.hid hIT
          have HTB := Lib.hid htl
          have HIL := Lib.hid hil
          have HSB := Lib.hid HSR.out
          clear htl hil HTL hIT hlt hk HSR
          go_upto_region 27 with fail
          have hb14 := below_new wB (.cells #[.int .i64 0] 3)
          have hn0 := HdAt.new wB (.int .i64 0) 3
          obtain ⟨w14, hw14⟩ : ∃ w14, wB.alloc (.cells #[.int .i64 0] 3) = w14 := ⟨_, rfl⟩
          obtain ⟨q24, hq24⟩ : ∃ q24, wB.heap.size = q24 := ⟨_, rfl⟩
          rw [hw14] at hb14 hn0 ⊢
          rw [hq24] at hn0 ⊢
          have HB14 := Lib.hid hb14
          have HN14 := Lib.hid hn0
          have HQ24 := Lib.hid hq24
          clear hb14 hn0 hw14 hq24
          have hb15 := below_new w14 (.cells #[.int .i64 id, .int .i64 1] 3)
          have HST := Lib.hid (strong_any (some ⟨b, 0, none⟩) ((RowAt.new w14 3 (intsV [id, 1])).vals 2) (by simp))
          have HB15 := Lib.hid (stepB HB14.out hb15)
          have HN15 := Lib.hid (HN14.out.later hb15)
          clear hb15
          go_wp2_with fail
          refine HST.out.mono ?_
          rintro e w16 ⟨qf, c1, c2, uu, rfl, hs16, hqf, hc1, hc2, hf16, h116, h216, hu16, hb16⟩
          have HB16 := Lib.hid (stepB HB15.out hb16)
          have HN16 := Lib.hid (HN15.out.later hb16)
          have hq24' : q24 < w14.heap.size := HN14.out.lt
          have hs15 : (w14.alloc (.cells (intsV [id, 1]).toArray 3)).heap.size = w14.heap.size + 1 := World.size_alloc _ _
          obtain ⟨qs, hqs⟩ : ∃ qs, (w14.alloc (.cells (intsV [id, 1]).toArray 3)).heap.size = qs := ⟨_, rfl⟩
          rw [hqs] at hs16 hqf hc1 hc2 hs15 ⊢
          have HSEQ := Lib.hid (strong_seq 8 (by omega) (w := w16) (fun k => k = q24) (fun k e => by subst e; exact HN16.out.lt) (fun k e => by subst e; exact HSB.out.high _ (Nat.le_of_eq HQ24.out)) hf16 hs16 (fun e => by omega) h116 h216 (HSB.out.later HB16.out) HF.out.wf (by have := HLN.out.1; omega) hu16 (by simp))
          clear hs16 hqf hc1 hc2 hf16 h116 h216 hu16 hb16 hqs hs15 HST
          dsimp only
          go_wp2_with fail
          refine (wpIn_wide (n := 9)).1 ?_
          refine range_world3 rfl (by omega) (I := fun (pre : List (Int × Int)) W' => HdAt W' q24 (.int .i64 (pre.length : Int)) ∧ KpP (fun k => k = q24) (fun _ => False) w16 W' ∧ Below wB.heap.size wB W' ∧ pre.length ≤ 1000) (Ix := fun _ _ _ => False) (gf := 36) (lb := _) rfl trivial (fun _ _ => by kernel_rfl) HSEQ.out KpP.trans (fun W' o o' ho hc _ => KpP.put o' (.inr rfl) ho hc) (fun W W' hb => KpP.of_below _ _ hb) (Below.refl _ _) (fun _ => rfl)
            (fun s X Y row h hg hr => ⟨h.1.grown hg (fun r e => (hr r e).2), kpP_own (β := Unit) (Nat.le_refl _) () X Y row h.2.1 hg hr, ownFrom_below (β := Unit) (Nat.le_refl _) HB16.out.size () X Y row h.2.2.1 hg hr, h.2.2.2⟩) (fun c s A B row hs hg hr => hs) (fun s A B row hs hg hr => hs) (fun s A B row hs hg hr => hs) ⟨HN16.out, KpP.refl _ _ _, HB16.out, Nat.zero_le _⟩ ?round ?done ?stop
          case stop =>
            rintro D c pre W' hD hS hI hK
            exact hI.elim
          case round =>
            rintro pre x W' K hI hT hsz hK
            rw [HIT.out] at hT
            have hk1 : pre.length < IT.length := by have := hT.length_le; simp at this; omega
            have hxk : IT[pre.length] = x := by
              obtain ⟨r, hr⟩ := hT
              have h : ∀ (L : List (Int × Int)) (hL : pre ++ [x] ++ r = L) (hh : pre.length < L.length), L[pre.length] = x := by
                rintro L rfl hh
                simp
              exact h _ hr hk1
            obtain ⟨p1, p2⟩ := x
            have HK := Lib.hid hK
            clear hK hT hI
            simp only [encP]
            simp
            gi_wp2
            refine HK.out _ _ (Below.refl _ _) ?_
            clear HK
            intro Wb hsz2 hrest hkw ⟨hn, hkp, hbw, hlm⟩
            have HKW := Lib.hid hkw
            have HKP := Lib.hid hkp
            have HNB := Lib.hid hn
            have HBW := Lib.hid hbw
            have htw := HTB.out.later hbw
            have HPL := Lib.hid hlm
            obtain ⟨M, hM⟩ : ∃ M, pre.length = M := ⟨_, rfl⟩
            have HMM := Lib.hid hM
            have hk2 : M < IT.length := by rw [← hM]; exact hk1
            have hxk2 : IT[M] = (p1, p2) := by subst hM; exact hxk
            rw [hM] at hn
            have c24 := hn.cell
            have f24 := hn.frozen
            obtain ⟨ra, rc, hra⟩ := own_form htw.o9
            obtain ⟨sa, sc, hsa⟩ := own_form htw.o10
            subst hra hsa
            obtain ⟨g9, off9, e9, _, r9⟩ := (own_ints htw.o9).at M (by simpa using hk2)
            obtain ⟨g10, off10, e10, _, r10⟩ := (own_ints htw.o10).at M (by simpa using hk2)
            rw [List.getElem_map, hxk2] at r9 r10
            subst e9 e10
            have c9 := (show HdAt Wb q9 _ from ⟨_, htw.b9⟩).cell
            have c10 := (show HdAt Wb (q9 + 1) _ from ⟨_, htw.b10⟩).cell
            simp only [List.length_map] at c9 c10
            have hle : decide ((IT.length : Int) ≤ (M : Int)) = false := decide_eq_false (by omega)
            have hm0 : (0 : Int) ≤ (M : Int) := by omega
            have hm1 : (M : Int) < (IT.length : Int) := by omega
            have ne1 : (p1 != p1) = false := bne_self_eq_false _
            have ne2 : (p2 != p2) = false := bne_self_eq_false _
            have hmb : (M : Int) ≤ 1000 := by have := HIL.out; omega
            clear hsz2 hrest hkw hkp hbw hlm hn htw hk1 hxk hM
            gi_wp2
            have HNC := HNB.out.set (.int .i64 ((M : Int) + 1))
            have kw : KpP (fun k => k = q24) (fun _ => False) Wb _ := kpP_setE (.int .i64 ((M : Int) + 1))
            exact ⟨kw.from (fun k e => by subst e; exact HN16.out.lt), HKW.out.trans (kw.mono (fun k e => .inl e)), by rw [List.length_append, HMM.out]; exact HNC, HKP.out.trans kw, HBW.out.setCell (p := ⟨q24, 0, none⟩) (show wB.heap.size ≤ q24 by rw [HQ24.out]; exact Nat.le_refl _) _, by rw [List.length_append, HMM.out]; have := HIL.out; simp; omega⟩
          case done =>
            rintro D ys W' hD hS ⟨hn, hkp, hbw, hlm⟩ hK
            rw [hS, HIT.out] at hn
            have htw := HTB.out.later hbw
            obtain ⟨ra, rc, hra⟩ := own_form htw.o9
            subst hra
            have c24 := hn.cell
            have c9 := (show HdAt W' q9 _ from ⟨_, htw.b9⟩).cell
            simp only [List.length_map] at c9
            have HBWD := Lib.hid hbw
            have HDK := Lib.hid hK
            have HDL := Lib.hid (show w16.heap.size ≤ D from hD)
            have hem : creE S (-1) = 7 := by unfold creE; rw [if_neg (show ¬hasS S (-1) from fun h => by have := h.1; omega)]
            have hlv := live_any (HSB.out.later hbw) HF.out.wf (by have := HLN.out.1; omega) (-1)
            rw [hem] at hlv
            have HLV := Lib.hid hlv
            have HN1 := Lib.hid (fun W => live_nil 1 W)
            have HN2 := Lib.hid (fun W => power_nil 1 W)
            have HN3 := Lib.hid (fun W => tough_nil 1 W)
            have HN4 := Lib.hid (fun W => keys_nil 1 W)
            have HN5 := Lib.hid (fun W => fade_nil W)
            have eqL : ((IT.length : Int) == (IT.length : Int)) = true := beq_self_eq_true _
            have hil : (IT.length : Int) ≤ 1000 := by have := HIL.out; omega
            clear hn hbw hkp hlm hS hD hK htw hlv hem
            go_wp2_with fail
            refine (HLV.out).mono ?_
            rintro e w41 ⟨rfl, hb41⟩
            have HBB41 := Lib.hid hb41
            clear hb41
            dsimp only
            go_wp2_with fail
            refine (HN1.out _).mono ?_
            rintro e w42 ⟨rfl, hb42⟩
            have HBB42 := Lib.hid (stepB HBB41.out hb42)
            clear hb42
            dsimp only
            go_wp2_with fail
            refine (HN2.out _).mono ?_
            rintro e w43 ⟨rfl, hb43⟩
            have HBB43 := Lib.hid (stepB HBB42.out hb43)
            clear hb43
            dsimp only
            go_wp2_with fail
            refine (HN3.out _).mono ?_
            rintro e w44 ⟨rfl, hb44⟩
            have HBB44 := Lib.hid (stepB HBB43.out hb44)
            clear hb44
            dsimp only
            go_wp2_with fail
            refine (HN4.out _).mono ?_
            rintro e w45 ⟨rfl, hb45⟩
            have HBB45 := Lib.hid (stepB HBB44.out hb45)
            clear hb45
            dsimp only
            go_wp2_with fail
            refine (HN5.out _).mono ?_
            rintro e w46 ⟨rfl, hb46⟩
            have HBB46 := Lib.hid (stepB HBB45.out hb46)
            clear hb46
            dsimp only
            have hq9 := HQ9.out
            have r3 := HRB3.out
            have hq3 : q < w3.heap.size := (Array.getElem?_eq_some_iff.1 r3).1
            have hb37 := stepB HB5.out HB7.out
            have r7 := (hb37.block q hq3).trans r3
            have rB := (HTB.out.keep q (Array.getElem?_eq_some_iff.1 r7).1 (by omega) (by omega)).trans r7
            have rW := (HBWD.out.block q (Array.getElem?_eq_some_iff.1 rB).1).trans rB
            have r46 := (HBB46.out.block q (Array.getElem?_eq_some_iff.1 rW).1).trans rW
            have hbW7 := stepB HB3.out hb37
            have hbWB : Below w.heap.size w wB := ⟨HTB.out.os.trans hbW7.os, HTB.out.tape.trans hbW7.tape, HTB.out.output.trans hbW7.output, Nat.le_trans hbW7.size HTB.out.size, fun j hj => (HTB.out.keep j (Nat.lt_of_lt_of_le hj hbW7.size) (by have := HB3.out.size; omega) (by have := HB3.out.size; omega)).trans (hbW7.block j hj)⟩
            have HBF := Lib.hid ((stepB (stepB hbWB HBWD.out) HBB46.out).setCell (p := ⟨q, 0, none⟩) (by show w.heap.size ≤ q; have := HQ.out; omega) (.bool true))
            have HR := Lib.hid (show HdAt w46 q (.bool false) from ⟨_, r46⟩)
            have cr := HR.out.cell
            have fr := HR.out.frozen
            have HRR := Lib.hid (HR.out.set (.bool true))
            have hdm := (HBB46.out.block D (Array.getElem?_eq_some_iff.1 HDK.out).1).trans HDK.out
            have HMF := Lib.hid (show MarksO (w46.setCell ⟨q, 0, none⟩ (.bool true)) [D] from MarksO.others (W := w46) (fun D' hD' => by
              obtain rfl := List.mem_singleton.1 hD'
              exact hdm) (KeepsOthers.setCell w46 ⟨q, 0, none⟩ (.bool true)))
            have HDD := Lib.hid (show w.heap.size ≤ D by have h1 := HDL.out; have h2 := HB16.out.size; have h3 := hbWB.size; omega)
            clear HR hdm r3 r7 rB rW r46 hb37 hbW7 hbWB
            go_wp2
            refine leaves_marksO (B := w.heap.size) [D] _ (by simp) (fun D' hD' => by obtain rfl := List.mem_singleton.1 hD'; exact HDD.out) HMF.out (fun W2 hb hc => ?_)
            obtain ⟨tr, hr⟩ := HRR.out
            exact ⟨_, results_b6 rfl rfl ⟨tr, hc _ _ hr rfl⟩, rfl, HBF.out.trans hb⟩
end Go.Proofs.Ytbbbkpadadeolaa

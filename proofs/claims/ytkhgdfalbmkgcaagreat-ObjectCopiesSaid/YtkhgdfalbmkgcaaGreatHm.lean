/- The library's Values, AppendSeq, Collect and Sort at numbers. -/
import Derived.Test.YtkhgdfalbmkgcaaGreatHl
import Derived.Test.YtkhgdfalbmkgcaaGreatSo
import Derived.Sort.OwnSortedInts
import Derived.RangeFuncFrom
import Derived.Maps.AppendAt
namespace Go.Proofs.YtkhgdfalbmkgcaaGreat
open Go.RowKit
set_option maxRecDepth 100000 in
set_option maxHeartbeats 2000000 in
theorem values_in (F : Fence) (n : Nat) (h7 : F.fn 70) (hro : F.round = none) (hn : 1 ≤ n) (l q n₀ : Nat) (xa : Option Addr) (xc : Nat) (zs : List Int) (hz : zs.length ≤ 1000) (J Jx : List Int → World → Prop)
    (hY : ∀ pre x W, J pre W → pre.length < zs.length → YieldAt F (n - 1) Tryz.prog l #[.int .i64 x] W fun e W' =>
      (e = .returned (.bool true) ∧ J (pre ++ [x]) W' ∧ Below n₀ W W') ∨ (e = .returned (.bool false) ∧ Jx (pre ++ [x]) W'))
    (W : World) (hq : W.cell? ⟨q, 0, none⟩ = some (.slice xa zs.length xc)) (hI : IntsAt W (.slice xa zs.length xc) zs) (hb : ∀ b, (∃ o, xa = some ⟨b, o, none⟩) → 0 < zs.length → b < n₀) (h0 : J [] W) :
    CallsIn F n Tryz.prog 70 #[.func (.yield l) #[] #[], .pointer (some ⟨q, 0, none⟩)] W fun e W' => (∃ v, e = .returned v) ∧
      ((∃ ys, ys = zs ∧ J ys W') ∨ (∃ pre, pre <+: zs ∧ Jx pre W')) := by
  have HI := Lib.hid hI
  have HB := Lib.hid hb
  have HY := Lib.hid hY
  clear hI hb hY
  refine callsIn_of_wp Tryz.func70 rfl h7 ?_ hro
  simp only [Tryz.ntmps70, List.size_toArray, List.length_cons, List.length_nil, Nat.reduceAdd, Nat.reduceSub, Array.replicate_succ, Array.replicate_zero, List.push_toArray, List.append_toArray, List.nil_append, List.cons_append]
  gi_wp2
  gi_loopw [7] (fun i wr => ∃ k : Nat, k ≤ zs.length ∧ i = .int .i64 k ∧ Hid (J (zs.take k) wr ∧ Below n₀ W wr)) (fun i _ => zs.length - (intOf i).toNat)
  case atStart => exact ⟨0, Nat.zero_le _, rfl, Lib.hid ⟨h0, Below.refl _ _⟩⟩
  case round =>
    obtain ⟨k, hk, rfl, HJ⟩ := hrel
    by_cases hlt : k < zs.length
    · obtain ⟨b, off, rfl, _, c0⟩ := HI.out.at k hlt
      have hbn := HB.out b ⟨off, rfl⟩ (by omega)
      have c1 : wr.cell? ⟨b, off + k, none⟩ = some (.int .i64 zs[k]) := (HJ.out.2.cell (p := ⟨b, off + k, none⟩) hbn).trans c0
      have htk := take_last zs k hlt
      obtain ⟨x, hx⟩ : ∃ x, zs[k] = x := ⟨_, rfl⟩
      rw [hx] at c1 htk
      have HTK := Lib.hid htk
      have HLT := Lib.hid hlt
      clear hx c0 htk
      obtain ⟨fn, tmps, assign, body, hy, hR⟩ := HY.out _ x wr HJ.out.1 (by rw [List.length_take]; omega)
      have d0 : (0 : Int) ≤ k := by omega
      have d1 : (k : Int) < zs.length := by omega
      gi_wp2
      refine hR.mono ?_
      rintro e W3 (⟨rfl, hJ3, hk3⟩ | ⟨rfl, hJx3⟩)
      · have HJ3 := Lib.hid (And.intro hJ3 hk3)
        clear hJ3 hk3
        gi_wp2
        go_roundw
        case rel => exact ⟨k + 1, by have := HLT.out; omega, by go_num, Lib.hid ⟨by rw [HTK.out]; exact HJ3.out.1, HJ.out.2.trans HJ3.out.2⟩⟩
        case measure => have := HLT.out; simp [intOf]; omega
      · have HJ3 := Lib.hid hJx3
        clear hJx3
        gi_wp2
        refine bodyPost_ret (results_none rfl _ _ _) rfl ?_
        exact ⟨⟨_, rfl⟩, .inr ⟨_, List.take_prefix (k + 1) zs, by rw [HTK.out]; exact HJ3.out⟩⟩
    · obtain rfl : k = zs.length := by omega
      have HJ4 := Lib.hid HJ.out.1
      rw [List.take_length] at HJ4
      gi_wp2
      go_end0
      exact ⟨⟨_, rfl⟩, .inl ⟨_, rfl, HJ4.out⟩⟩
theorem values_stops (F : Fence) (n : Nat) (h7 : F.fn 70) (hro : F.round = none) (hn : 1 ≤ n) (q : Nat) (v : Value) (xs : List Int) (hz : xs.length ≤ 1000) (w : World) (hc : w.cell? ⟨q, 0, none⟩ = some v) (hi : IntsAt w v xs) :
    SeqStopsK F n Tryz.prog 70 #[.pointer (some ⟨q, 0, none⟩)] (fun x : Int => #[Value.int .i64 x]) (Below w.heap.size) (fun ys => ys = xs) (fun pre => pre <+: xs) xs.length w := fun l J Jx W hW _ _ hY h0 => by
  obtain ⟨xa, xc, rfl⟩ := hi.form
  refine values_in F n h7 hro hn l q w.heap.size xa xc xs hz J Jx hY W (cell_stays hW hc) (hi.later hW) ?_ h0
  rintro b ⟨o, rfl⟩ hpos
  obtain ⟨b', o', e, hlt, _⟩ := hi.at 0 hpos
  injection e with e
  injection e with e _ _
  subst e
  exact hlt
attribute [local go_sem] Oper.semAt_some
def Took (n₀ : Nat) (S : List Int → Prop) (w : World) (e : Ending) (w' : World) : Prop := ∃ (v : Value) (xs : List Int), e = .returned v ∧ S xs ∧ w'.ownsRow n₀ 3 1 v xs.length (intsV xs) ∧ Below n₀ w w'
set_option maxRecDepth 100000 in
set_option maxHeartbeats 2000000 in
theorem appendSeq_k (F : Fence) (n : Nat) (h11 : F.fn 76) (hro : F.round = none) (hn : 2 ≤ n) (g : Nat) (lb : Array Value) (hFg : F.fn g) (eg : ∀ args w, (callFunc g args).run Tryz.prog w = .ok (.enter g args) w)
    (S Sp : List Int → Prop) (N : Nat) (hN : N ≤ 1000) (w : World) (hseq : SeqStopsK F (n - 1) Tryz.prog g lb (fun x : Int => #[Value.int .i64 x]) (Below w.heap.size) S Sp N w) :
    CallsIn F n Tryz.prog 76 #[.slice none 0 0, .func (.func g) #[] lb] w (Took w.heap.size S w) := by
  have h1 : 1 ≤ n := by omega
  obtain ⟨i0, hi0, hz0, hz1, hz2⟩ := info_parts info_int
  refine callsIn_of_wp_marks Tryz.func76 rfl h11 ?_ hro
  simp only [Tryz.ntmps76, List.size_toArray, List.length_cons, List.length_nil, Nat.reduceAdd, Nat.reduceSub, Array.replicate_succ, Array.replicate_zero, List.push_toArray, List.append_toArray, List.nil_append, List.cons_append]
  gi_wp2
  refine wpIn_rangeFunc_ownF hro h1 (gf := g) (lb := lb) rfl hFg eg hseq (fun h k => h.trans k) (belowK_b (by simp)) ((Below.refl _ _).alloc (Nat.le_refl _) _) (fun _ => rfl)
    (fun pre W => (∃ v, Boxed W w.heap.size 53 v ∧ W.ownsRow w.heap.size 3 1 v pre.length (intsV pre) ∧ True) ∧ Below w.heap.size w W)
    (fun _ _ _ => False)
    (OwnFrom.and (Own.from (holdsRow_own w.heap.size w.heap.size 53 3 1 (fun pre : List Int => pre.length) intsV (fun _ _ => True)) _) (ownFrom_below (Nat.le_refl _) (by simp)))
    (fun _ _ _ _ _ hs _ _ => hs)
    ⟨⟨_, Boxed.new w _ _, World.ownsRow_nil _ _ _ _, trivial⟩, (Below.refl _ _).alloc (Nat.le_refl _) _⟩ ?a1 ?assign ?body ?done ?stop
  case assign =>
    intro l x W K hK
    gi_wp2
    exact hK
  case body =>
    rintro l pre x W ⟨⟨v, hv, hrow, _⟩, hB⟩ hlen
    have hc := hv.cell
    have hf := hv.frozen
    have hle := hB.size
    gi_wp2_with (gi_at_builtin; refine wpListIn_append_own _ rfl _ _ 53 rfl w.heap.size 3 i0 (.int .i64 0) 1 8 Tryz.underlying53 hi0 hz0 hz1 hz2 rfl (by decide) _ _ _ rfl (hrow.alloc _) ⟨W.heap.size, 0, none⟩ 1 1 [.int .i64 x] rfl rfl (cell_one_new _ _ _) (by simp [Value.oneCell']) (by unfold maxLen; omega) (by omega) (by simp; omega) ?_; intro v' w1 hown' hgrow _; obtain ⟨g', cap', rfl⟩ := ownsRow_succ hown'; obtain ⟨hv1, hv2, hr2, hk2, hb2⟩ := hv.appended (by decide) hrow hB.size (Nat.le_refl _) hown' hgrow; have hc1 := hv1.cell; have hf1 := hv1.frozen)
    refine ⟨hk2, hb2, ⟨_, hv2, ?_, trivial⟩, hB.trans hb2⟩
    simpa [intsV] using hr2
  case done =>
    rintro D ys W hD hS ⟨⟨v, hv, hrow, _⟩, hB⟩ hK
    have hc := hv.cell
    gi_wp2
    refine ⟨by simp, .inl ⟨_, _, rfl, run_takeDeferred hK, ?_⟩⟩
    exact ⟨_, results_tmp rfl _ _ _, v, ys, rfl, hS, ownsRow_putObj hrow _ hK rfl, hB.trans (belowK_b (w := w) (Nat.le_refl _) W D _ _ (by simp at hD; omega) hK rfl rfl)⟩
  case stop =>
    rintro D c pre W _ _ h _
    exact h.elim

set_option maxRecDepth 100000 in
set_option maxHeartbeats 1000000 in
theorem collect_k (F : Fence) (n : Nat) (h8 : F.fn 68) (h11 : F.fn 76) (hro : F.round = none) (hn : 3 ≤ n) (g : Nat) (lb : Array Value) (hFg : F.fn g) (eg : ∀ args w, (callFunc g args).run Tryz.prog w = .ok (.enter g args) w)
    (S Sp : List Int → Prop) (N : Nat) (hN : N ≤ 1000) (w : World) (hseq : SeqStopsK F (n - 1 - 1) Tryz.prog g lb (fun x : Int => #[Value.int .i64 x]) (Below w.heap.size) S Sp N w) :
    CallsIn F n Tryz.prog 68 #[.func (.func g) #[] lb] w (Took w.heap.size S w) := by
  refine callsIn_of_wp Tryz.func68 rfl h8 ?_ hro
  simp only [Tryz.ntmps68, List.size_toArray, List.length_cons, List.length_nil, Nat.reduceAdd, Nat.reduceSub, Array.replicate_succ, Array.replicate_zero, List.push_toArray, List.append_toArray, List.nil_append, List.cons_append]
  gi_wp2_with fail
  refine ⟨fun _ => (by omega), (appendSeq_k F (n - 1) h11 hro (by omega) g lb hFg eg S Sp N hN _ hseq).mono ?_⟩
  rintro e w' ⟨v, xs, rfl, hS, hrow, hb⟩
  gi_wp2
  go_ret
  exact ⟨_, xs, rfl, hS, hrow, hb⟩

def Gave (w : World) (xs : List Int) (e : Ending) (w' : World) : Prop := ∃ v, e = .returned v ∧ w'.ownsRow w.heap.size 3 1 v xs.length (intsV xs) ∧ Below w.heap.size w w'
theorem collect_values {q : Nat} {v : Value} {xs : List Int} {w : World} (hc : w.cell? ⟨q, 0, none⟩ = some v) (hi : IntsAt w v xs) (hz : xs.length ≤ 1000) :
    Calls Tryz.prog 68 #[.func (.func 70) #[] #[.pointer (some ⟨q, 0, none⟩)]] w (Gave w xs) := by
  refine (callsIn_wide (n := 5)).1 ?_
  refine (collect_k Fence.wide 5 trivial trivial rfl (by decide) _ _ trivial (fun _ _ => by kernel_rfl) _ _ xs.length hz w (values_stops Fence.wide (5 - 1 - 1) trivial rfl (by decide) q v xs hz w hc hi)).mono ?_
  rintro e w' ⟨v, ys, rfl, hS, hrow, hb⟩
  subst hS
  exact ⟨v, rfl, hrow, hb⟩
theorem intsV_eq (l : List Int) : intsV l = l.map (Value.int .i64) := rfl
def sortI (l : List Int) : List Int := l.mergeSort fun x y => decide (x ≤ y)
theorem sortI_len (l : List Int) : (sortI l).length = l.length := List.length_mergeSort _
/-- slices.Sort of a row of the call's own. -/
theorem sort_own {w : World} {base : Nat} {v : Value} {l : List Int} (h : w.ownsRow base 3 1 v l.length (intsV l)) (hl : l.length ≤ 1000) :
    Calls Tryz.prog 69 #[v] w fun e w' => e = .returned (.tuple #[]) ∧ w'.ownsRow base 3 1 v l.length (intsV (sortI l)) ∧ w.grownBy w' v.ownBlock := by
  have hlen : (intsV (sortI l)).length = l.length * 1 := by rw [intsV_len, sortI_len]; omega
  rcases h.2 with ⟨rfl, h0⟩ | ⟨g, cap, cur, rfl, hb, hg, hn, hm, hs, ht⟩
  · have e0 : l = [] := List.eq_nil_of_length_eq_zero h0
    subst e0
    refine (Tryz.slices_Sort_int_none none 0 w).mono ?_
    rintro e w' ⟨rfl, rfl⟩
    have e : sortI [] = [] := List.eq_nil_of_length_eq_zero (by rw [sortI_len]; rfl)
    rw [e]
    exact ⟨rfl, World.ownsRow_nil _ _ _ _, World.grownBy.refl _ _⟩
  · have ht' : cur.toList.take l.length = l.map (Value.int .i64) := by simpa [intsV] using ht
    refine (Tryz.slices_Sort_int g 0 cap l w (holds_of_blockI hg ht') (by exact (Array.getElem?_eq_some_iff.1 hg).1) (by omega)).mono ?_
    rintro e w' ⟨rfl, n, os, rfl⟩
    refine ⟨rfl, ⟨hlen, .inr ⟨g, cap, _, rfl, hb, heap_sortedI _ hg, hn, hm, ?_, ?_⟩⟩, grownBy_sortedI _⟩
    · rw [← hs]; simp [Go.Sort.putCells]
    · have h1 := take_putCellsI cur (sortI l) (by rw [sortI_len, hs]; omega)
      rw [sortI_len] at h1
      rw [Nat.mul_one]
      exact h1
theorem grown_of {A w w' : World} {r : Option Nat} (h : Below A.heap.size A w) (hg : w.grownBy w' r) (hr : ∀ k, r = some k → A.heap.size ≤ k) : Below A.heap.size A w' := h.grown hg h.size hr
set_option maxRecDepth 100000 in
theorem values_any (xa : Option Addr) (n xc : Nat) (w : World) : Calls Tryz.prog 60 #[.slice xa n xc] w fun e w' => e = .returned (.func (.func 70) #[] #[.pointer (some ⟨w.heap.size, 0, none⟩)]) ∧ w' = w.alloc (.cells #[.slice xa n xc] 53) := by
  have hmf := @mk_func
  go_enter Tryz.func60, Tryz.ntmps60
  go_wp2
  go_ret
  exact ⟨rfl, rfl⟩
set_option maxRecDepth 100000 in
set_option maxHeartbeats 1000000 in
theorem sorted_values {q : Nat} {v : Value} {xs : List Int} {w : World} (hc : w.cell? ⟨q, 0, none⟩ = some v) (hi : IntsAt w v xs) (hz : xs.length ≤ 1000) :
    Calls Tryz.prog 59 #[.func (.func 70) #[] #[.pointer (some ⟨q, 0, none⟩)]] w (Gave w (sortI xs)) := by
  have HC := Lib.hid (collect_values hc hi hz)
  clear hc hi
  go_enter Tryz.func59, Tryz.ntmps59
  go_wp2_with fail
  refine HC.out.mono ?_
  rintro e w1 ⟨u, rfl, hrow, hb1⟩
  have HB1 := Lib.hid hb1
  have HS := Lib.hid (sort_own hrow hz)
  have HR := Lib.hid hrow
  clear hrow hb1
  dsimp only
  go_wp2_with fail
  refine HS.out.mono ?_
  rintro e w2 ⟨rfl, hrow2, hg2⟩
  have HR2 := Lib.hid hrow2
  have HB2 := Lib.hid (grown_of HB1.out hg2 (fun k hk => (World.ownsRow.lt HR.out k hk).1))
  clear hrow2 hg2
  dsimp only
  go_wp2
  go_ret
  refine ⟨_, rfl, ?_, HB2.out⟩
  rw [sortI_len]
  exact HR2.out
set_option maxRecDepth 100000 in
set_option maxHeartbeats 1000000 in
/-- What risen tells: the numbers, the least one first. -/
theorem risen_any {w : World} {v : Value} {l : List Int} (hi : IntsAt w v l) (hl : l.length ≤ 1000) : Calls Tryz.prog 43 #[v] w (Gave w (sortI l)) := by
  have HI := Lib.hid hi
  obtain ⟨xa, xc, rfl⟩ := hi.form
  have HS := Lib.hid (sorted_values (q := w.heap.size) (w := w.alloc (.cells #[.slice xa l.length xc] 53)) (v := .slice xa l.length xc) (xs := l) (cell_of_row _ _ 0 _ _ _ (heap_alloc_new w _)) (HI.out.later (below_new w _)) hl)
  clear hi
  go_enter Tryz.func43, Tryz.ntmps43
  go_wp2_with fail
  refine (values_any _ _ _ _).mono ?_
  rintro e w1 ⟨rfl, rfl⟩
  dsimp only
  go_wp2_with fail
  refine HS.out.mono ?_
  rintro e w2 ⟨u, rfl, hrow, hb2⟩
  have HR := Lib.hid hrow
  have HB := Lib.hid (stepB (below_new w _) hb2)
  clear hrow hb2
  dsimp only
  go_wp2
  go_ret
  refine ⟨_, rfl, ⟨HR.out.1, ?_⟩, HB.out⟩
  rcases HR.out.2 with h0 | ⟨g, cap, cur, e, hb, r⟩
  · exact .inl h0
  · exact .inr ⟨g, cap, cur, e, Nat.le_trans (below_new w _).size hb, r⟩
set_option maxRecDepth 100000 in
set_option maxHeartbeats 4000000 in
theorem equal_ints {v u : Value} {l r : List Int} {w : World} (hl : IntsAt w v l) (hr : IntsAt w u r) (hn : l.length ≤ 1000) (_hn2 : r.length ≤ 1000) :
    Calls Tryz.prog 42 #[v, u] w fun e w' => e = .returned (.bool (decide (l = r))) ∧ ∃ n, w' = w.drewN n := by
  obtain ⟨xa, xc, rfl⟩ := hl.form
  obtain ⟨ya, yc, rfl⟩ := hr.form
  have HL := Lib.hid hl
  have HR := Lib.hid hr
  clear hl hr
  by_cases hne : l.length ≠ r.length
  · have d : ((l.length : Int) != r.length) = true := bne_iff_ne.2 (by omega)
    have HS := Lib.hid (show decide (l = r) = false from decide_eq_false (fun e => hne (by rw [e])))
    clear hne
    go_enter Tryz.func42, Tryz.ntmps42
    go_wp2
    go_ret
    exact ⟨ret_bool HS.out.symm, 0, rfl⟩
  have heq : l.length = r.length := Classical.not_not.1 hne
  have d : ((l.length : Int) != r.length) = false := by rw [heq]; exact bne_self_eq_false _
  have HQ := Lib.hid heq
  clear hne heq
  go_enter Tryz.func42, Tryz.ntmps42
  go_wp2
  go_loopw [13] (fun i wr => ∃ k n : Nat, k ≤ l.length ∧ i = .int .i64 k ∧ wr = w.drewN n ∧ Hid (l.take k = r.take k)) (fun i _ => l.length - (intOf i).toNat)
  case atStart => exact ⟨0, 0, Nat.zero_le _, rfl, rfl, Lib.hid rfl⟩
  case round =>
    obtain ⟨k, n, hk, rfl, rfl, HK⟩ := hrel
    by_cases hlt : k < l.length
    · have hlt2 : k < r.length := by have := HQ.out; omega
      obtain ⟨p, o, rfl, hp, x0⟩ := HL.out.at k hlt
      obtain ⟨p', o', rfl, hp', y0⟩ := HR.out.at k hlt2
      obtain ⟨a, ha⟩ : ∃ a, l[k] = a := ⟨_, rfl⟩
      obtain ⟨b, hb⟩ : ∃ b, r[k] = b := ⟨_, rfl⟩
      have HT1 := Lib.hid (take_last l k hlt)
      have HT2 := Lib.hid (take_last r k hlt2)
      rw [ha] at x0 HT1
      rw [hb] at y0 HT2
      have HA := Lib.hid ha
      have HBB := Lib.hid hb
      have d0 : (0 : Int) ≤ k := by omega
      have d1 : (k : Int) < l.length := by omega
      have d2 : (k : Int) < r.length := by omega
      clear ha hb
      by_cases hab : a = b
      · subst hab
        have hbb : (a != a) = false := bne_self_eq_false _
        go_wp2
        go_region
        all_goals
          go_wp2
          go_roundw
        case rel => exact ⟨k + 1, n + 1, by omega, by go_num, rfl, Lib.hid (by rw [HT1.out, HT2.out, HK.out])⟩
        case measure => simp [intOf]; omega
      · have hbb : (a != b) = true := bne_iff_ne.2 hab
        have HS := Lib.hid (show decide (l = r) = false from decide_eq_false (fun e => hab (by rw [← HA.out, ← HBB.out]; simp [e])))
        go_wp2
        go_region
        all_goals
          go_wp2
          go_ret
          exact ⟨ret_bool HS.out.symm, n + 1, rfl⟩
    · obtain rfl : k = l.length := by omega
      have HE := Lib.hid (show decide (l = r) = true from decide_eq_true (by have h := HK.out; rw [List.take_length] at h; rw [h, HQ.out, List.take_length]))
      go_wp2
      go_ret
      exact ⟨ret_bool HE.out.symm, n, rfl⟩
end Go.Proofs.YtkhgdfalbmkgcaaGreat

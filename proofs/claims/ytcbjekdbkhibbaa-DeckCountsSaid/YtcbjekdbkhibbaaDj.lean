/- The contract of deck.Of (layer 3): a function over the numbers that were picked when it was called. The function value of deck.Of as an iterator (layer 3): for every loop's body that keeps what lay there, it gives the list's numbers, in their order. slices.AppendSeq and slices.Collect over an iterator that reads memory (layer 3 uses Collect): just what it gave, in its order. -/
import Derived.Test.YtcbjekdbkhibbaaDc
import Derived.Deep.AppendLies
import Derived.Test.YtcbjekdbkhibbaaRf
import Derived.RangeFuncFrom
import Derived.Maps.AppendAt
namespace Go.Proofs.Ytcbjekdbkhibbaa
open Go.RowKit

theorem info_int : (Try.prog.info? 3).map (fun i => (i.zero, i.size, i.bytes)) = some (some (.int .i64 0), 1, 8) := by kernel_rfl
def intsV (l : List Int) : List Value := l.map fun x => .int .i64 x
def kindAt (t : List CardL) (n : Int) : Int := (t[n.toNat]?.map fun c => c.kind).getD 0
theorem kindAt_of {t : List CardL} {m : Nat} (h : m < t.length) : kindAt t (m : Int) = t[m].kind := by simp [kindAt, h]
def ofB (t : List CardL) (ks : List Int) (n : Int) : Bool := inT t.length n && ks.contains (kindAt t n)
def ofL (t : List CardL) (ks l : List Int) : List Int := l.filter (ofB t ks)
theorem NumsAt.later {w w' : World} {v : Value} {l : List Int} (h : NumsAt w v l) (hb : Below w.heap.size w w') : NumsAt w' v l := by
  rcases h with h | ⟨b, off, cap, e, hlt, hc⟩
  · exact .inl h
  · exact .inr ⟨b, off, cap, e, Nat.lt_of_lt_of_le hlt hb.size, fun i hi => cell_stays hb (hc i hi)⟩
theorem own_far {w : World} {base : Nat} {e : TypeId} {size : Nat} {v : Value} {n : Nat} {xs : List Value} (h : w.ownsRow base e size v n xs) {p : Addr} (hp : p.block < base) (u : Value) : (w.setCell p u).ownsRow base e size v n xs := by
  refine ⟨h.1, ?_⟩
  rcases h.2 with hn | ⟨g, cap, cur, rfl, hb, hg, rest⟩
  · exact .inl hn
  · exact .inr ⟨g, cap, cur, rfl, hb, (Below.heap_setCell w p u g (by omega)).trans hg, rest⟩
theorem own_later {w w' : World} {base : Nat} {e : TypeId} {size : Nat} {v : Value} {n : Nat} {xs : List Value} (h : w.ownsRow base e size v n xs) (hb : Below w.heap.size w w') : w'.ownsRow base e size v n xs := by
  refine ⟨h.1, ?_⟩
  rcases h.2 with hn | ⟨g, cap, cur, rfl, hbb, hg, rest⟩
  · exact .inl hn
  · exact .inr ⟨g, cap, cur, rfl, hbb, (hb.block g (Array.getElem?_eq_some_iff.1 hg).1).trans hg, rest⟩
/-- A variable of a list of the call's own, and what the list holds. -/
def VarI (w : World) (q : Nat) (xs : List Int) : Prop := q < w.heap.size ∧ (∀ j, w.frozen? ⟨q, j, none⟩ = false) ∧ ∃ v, w.cell? ⟨q, 0, none⟩ = some v ∧ w.ownsRow (q + 1) 3 1 v xs.length (intsV xs)
theorem VarI.later {w w' : World} {q : Nat} {xs : List Int} (h : VarI w q xs) (hb : Below w.heap.size w w') : VarI w' q xs := by
  obtain ⟨hq, hf, v, hv, ho⟩ := h
  exact ⟨Nat.lt_of_lt_of_le hq hb.size, fun j => by rw [hb.frozen (p := ⟨q, j, none⟩) hq]; exact hf j, v, cell_stays hb hv, own_later ho hb⟩
theorem VarI.ints {w : World} {q : Nat} {xs : List Int} (h : VarI w q xs) : ∃ v, w.cell? ⟨q, 0, none⟩ = some v ∧ IntsAt w v xs := by
  obtain ⟨hq, hf, v, hv, ho⟩ := h
  refine ⟨v, hv, ?_⟩
  rcases ho.2 with ⟨h1, h2⟩ | ⟨g, cap, cur, rfl, hb, hg, h1, h2, h3, h4⟩
  · exact .inl ⟨none, 0, h1, List.eq_nil_of_length_eq_zero h2⟩
  · refine .inr ⟨g, 0, cap, rfl, (Array.getElem?_eq_some_iff.1 hg).1, fun i hi => ?_⟩
    have e : (intsV xs)[i]? = some (.int .i64 xs[i]) := by simp [intsV, hi]
    rw [← h4, List.getElem?_take, if_pos (by omega)] at e
    simp only [Nat.zero_add]
    simpa [World.cell?, hg] using e
theorem ofL_next {t : List CardL} {ks l : List Int} {k : Nat} (hk : k < l.length) : ofL t ks (l.take (k + 1)) = ofL t ks (l.take k) ++ if ofB t ks l[k] then [l[k]] else [] := by
  unfold ofL
  rw [take_last l k hk, List.filter_append]
  congr 1
  cases h : ofB t ks l[k] <;> simp [h]

theorem cell_one_at (w : World) (v : Value) (T : TypeId) : ∀ (j : Nat) (u : Value), [v][j]? = some u → (w.alloc (.cells #[v] T)).cell? ((⟨w.heap.size, 0, none⟩ : Addr).add j) = some u := by
  intro j u hu
  cases j with
  | zero => simp at hu; subst hu; simp [Addr.add, go_sem]
  | succ j => simp at hu
def OfFn (w : World) (xs : List Int) (e : Ending) (w' : World) : Prop := ∃ q, e = .returned (.func (.func 128) #[] #[.pointer (some ⟨q, 0, none⟩)]) ∧ VarI w' q xs ∧ w.heap.size ≤ q ∧ Below w.heap.size w w'
set_option maxRecDepth 100000 in
set_option maxHeartbeats 4000000 in
theorem of_any {v u z : Value} {t : List CardL} {l ks : List Int} {w : World} (h : CardsAt w v t) (hu : IntsAt w u l) (hz : NumsAt w z ks) (hl : l.length ≤ 1000) (hk : ks.length ≤ 9223372036854775807) :
    Calls Try.prog 69 #[v, u, z] w (OfFn w (ofL t ks l)) := by
  obtain ⟨xa, xc, rfl⟩ := h.form
  obtain ⟨ya, yc, rfl⟩ := hu.form
  have HL := Lib.hid h
  have HU := Lib.hid hu
  have HZ := Lib.hid hz
  have HKS := Lib.hid hk
  have hmf := @mk_func
  obtain ⟨i0, hi0, hz0, hz1, hz2⟩ := info_parts info_int
  clear h hu hz hk
  go_enter Try.func69, Try.ntmps69
  go_wp2
  go_loopw [12] (fun i wr => ∃ k : Nat, k ≤ l.length ∧ i = .int .i64 k ∧ Hid (VarI wr w.heap.size (ofL t ks (l.take k)) ∧ Below w.heap.size w wr)) (fun i _ => l.length - (intOf i).toNat)
  case atStart =>
    refine ⟨0, Nat.zero_le _, rfl, Lib.hid ⟨⟨by simp, fun j => by simp [go_sem], .slice none 0 0, by simp [go_sem], ?_⟩, (Below.refl _ _).alloc (Nat.le_refl _) _⟩⟩
    exact ⟨by simp [intsV, ofL], .inl ⟨rfl, by simp [ofL]⟩⟩
  case round =>
    obtain ⟨k, hk, rfl, HV⟩ := hrel
    by_cases hlt : k < l.length
    · obtain ⟨b, off, rfl, c0⟩ := (HU.out.later HV.out.2).at k hlt
      have hnx := ofL_next (t := t) (ks := ks) hlt
      obtain ⟨x, hx⟩ : ∃ x, l[k] = x := ⟨_, rfl⟩
      rw [hx] at c0 hnx
      have HNX := Lib.hid hnx
      have d0 : (0 : Int) ≤ k := by omega
      have d1 : (k : Int) < l.length := by omega
      have HLT := Lib.hid hlt
      clear hx hnx
      by_cases hin : inT t.length x = true
      · obtain ⟨m, rfl⟩ : ∃ m : Nat, x = (m : Int) := ⟨x.toNat, by simp [inT] at hin; omega⟩
        have hmt : m < t.length := by simp [inT] at hin; omega
        obtain ⟨b2, off2, rfl, hcell⟩ := (HL.out.later HV.out.2).at m hmt
        have hka := kindAt_of hmt
        obtain ⟨c, hcc⟩ : ∃ c, t[m] = c := ⟨_, rfl⟩
        rw [hcc] at hcell hka
        obtain ⟨za, zc, k0, k1, k2, k3, k4, k5, k6, ht⟩ := hcell
        have HIN := Lib.hid hin
        have m0 : (0 : Int) ≤ m := by omega
        have m1 : (m : Int) < t.length := by omega
        obtain ⟨kk, hkk⟩ : ∃ kk, ks.contains c.kind = kk := ⟨_, rfl⟩
        have HKK := Lib.hid hkk
        have HOF := Lib.hid (show ofB t ks (m : Int) = kk by unfold ofB; rw [hin, hka, hkk]; rfl)
        clear ht hin hcc hka hkk
        go_wp2_with fail
        refine (within_any _ _ _ _ _).mono ?_
        rw [HIN.out]
        rintro e w3 ⟨rfl, rfl⟩
        go_wp2_with fail
        refine (is_any c za _ zc _ ks _ HKS.out (HZ.out.later HV.out.2)).mono ?_
        rw [HKK.out]
        rintro e w4 ⟨rfl, hb4⟩
        have HV4 := Lib.hid (And.intro (HV.out.1.later hb4) (stepB HV.out.2 hb4))
        clear hb4 k0 k1 k2 k3 k4 k5 k6 c0
        cases kk
        · go_wp2
          go_roundw
          case rel => exact ⟨k + 1, by omega, by go_num, Lib.hid ⟨by rw [HNX.out, HOF.out]; simpa using HV4.out.1, HV4.out.2⟩⟩
          case measure => simp [intOf]; omega
        · have hxl : (ofL t ks (l.take k)).length ≤ k := Nat.le_trans (List.length_filter_le _ _) (List.length_take_le _ _)
          obtain ⟨xs, hxs⟩ : ∃ xs, ofL t ks (l.take k) = xs := ⟨_, rfl⟩
          rw [hxs] at HV4 HNX hxl
          obtain ⟨hq, hf, v, hv, ho⟩ := HV4.out.1
          have f0 := hf 0
          have HO := Lib.hid ho
          have HQ := Lib.hid hq
          have hb40 := HV4.out.2.size
          clear hf hxs ho
          go_wp2_with (at_builtin; refine wpList_append_lies _ rfl _ _ 51 rfl (w.heap.size + 1) 3 i0 _ 1 8 Try.underlying51 hi0 hz0 hz1 hz2 rfl (by decide) v xs.length (intsV xs) rfl (HO.out.alloc _) ⟨w4.heap.size, 0, none⟩ 1 1 [.int .i64 m] rfl rfl ?c1 ?c2 (by decide) ?c3 ?c4 ?c5 _ rfl ?f)
          case c1 => exact cell_one_at _ _ _
          case c2 => simp [Value.oneCell']
          case c3 => unfold maxLen; omega
          case c4 => omega
          case c5 => have := HQ.out; simp; omega
          case f =>
            intro g cap w5 hown hgrow hat hlt5
            have hb5 : Below (w.heap.size + 1) (w4.alloc (.cells #[.int .i64 (m : Int)] 3)) w5 := (Below.refl _ _).grown hgrow (by have := HQ.out; simp; omega) (fun j hj => (HO.out.lt j hj).1)
            have hv5 : w5.cell? ⟨w.heap.size, 0, none⟩ = some v := by rw [hb5.cell (p := ⟨w.heap.size, 0, none⟩) (by simp)]; exact cell_stays (below_alloc1 _ _) hv
            have f5 : w5.frozen? ⟨w.heap.size, 0, none⟩ = false := by rw [hb5.frozen (p := ⟨w.heap.size, 0, none⟩) (by simp), (below_alloc1 w4 _).frozen (p := ⟨w.heap.size, 0, none⟩) HQ.out]; exact f0
            have HFR : Hid (∀ j, w5.frozen? ⟨w.heap.size, j, none⟩ = false) := Lib.hid (fun j => by
              rw [hb5.frozen (p := ⟨w.heap.size, j, none⟩) (by simp), (below_alloc1 w4 _).frozen (p := ⟨w.heap.size, j, none⟩) HQ.out]; exact HV4.out.1.2.1 j)
            have HOW := Lib.hid hown
            have HBB := Lib.hid (show Below w.heap.size w w5 from (HV4.out.2.trans ((below_alloc1 w4 _).mono hb40)).trans (hb5.mono (by omega)))
            have hs5 := hb5.size
            clear hown hgrow hat hb5 hv hq
            go_wp2
            go_roundw
            case rel =>
              refine ⟨k + 1, by omega, by go_num, Lib.hid ⟨?_, HBB.out.setCell (by simp) _⟩⟩
              rw [HNX.out, HOF.out]
              refine ⟨by have := HQ.out; simp [World.setCell] at hs5 ⊢; omega, fun j => by simpa using HFR.out j, _, World.cell?_setCell_same _ _ _ hv5, own_far ?_ (by simp) _⟩
              simpa [intsV] using HOW.out
            case measure => simp [intOf]; omega
      · obtain ⟨mm, hmm⟩ : ∃ mm, inT t.length x = mm := ⟨_, rfl⟩
        have HIN := Lib.hid (show inT t.length x = false by simpa using hin)
        have HOF := Lib.hid (show ofB t ks x = false by unfold ofB; rw [HIN.out]; rfl)
        clear hin hmm
        go_wp2_with fail
        refine (within_any _ _ _ _ _).mono ?_
        rw [HIN.out]
        rintro e w3 ⟨rfl, rfl⟩
        go_wp2
        go_roundw
        case rel => exact ⟨k + 1, by omega, by go_num, Lib.hid ⟨by rw [HNX.out, HOF.out]; simpa using HV.out.1, HV.out.2⟩⟩
        case measure => simp [intOf]; omega
    · obtain rfl : k = l.length := by omega
      have HFI := Lib.hid HV.out
      rw [List.take_length] at HFI
      go_wp2
      go_ret
      exact ⟨_, rfl, HFI.out.1, Nat.le_refl _, HFI.out.2⟩
end Go.Proofs.Ytcbjekdbkhibbaa
namespace Go.Proofs.Ytcbjekdbkhibbaa
open Go.RowKit

set_option maxRecDepth 100000 in
set_option maxHeartbeats 2000000 in
theorem of1_in (F : Fence) (n : Nat) (h7 : F.fn 128) (hro : F.round = none) (hn : 1 ≤ n) (l q n₀ : Nat) (xa : Option Addr) (xc : Nat) (zs : List Int) (hz : zs.length ≤ 1000) (J Jx : List Int → World → Prop)
    (hY : ∀ pre x W, J pre W → pre.length < zs.length → YieldAt F (n - 1) Try.prog l #[.int .i64 x] W fun e W' =>
      (e = .returned (.bool true) ∧ J (pre ++ [x]) W' ∧ Below n₀ W W') ∨ (e = .returned (.bool false) ∧ Jx (pre ++ [x]) W'))
    (W : World) (hq : W.cell? ⟨q, 0, none⟩ = some (.slice xa zs.length xc)) (hI : IntsAt W (.slice xa zs.length xc) zs) (hb : ∀ b, (∃ o, xa = some ⟨b, o, none⟩) → 0 < zs.length → b < n₀) (h0 : J [] W) :
    CallsIn F n Try.prog 128 #[.func (.yield l) #[] #[], .pointer (some ⟨q, 0, none⟩)] W fun e W' => (∃ v, e = .returned v) ∧
      ((∃ ys, ys = zs ∧ J ys W') ∨ (∃ pre, pre <+: zs ∧ Jx pre W')) := by
  have HI := Lib.hid hI
  have HB := Lib.hid hb
  have HY := Lib.hid hY
  clear hI hb hY
  refine callsIn_of_wp Try.func128 rfl h7 ?_ hro
  simp only [Try.ntmps128, List.size_toArray, List.length_cons, List.length_nil, Nat.reduceAdd, Nat.reduceSub, Array.replicate_succ, Array.replicate_zero, List.push_toArray, List.append_toArray, List.nil_append, List.cons_append]
  gi_wp2
  gi_loopw [7] (fun i wr => ∃ k : Nat, k ≤ zs.length ∧ i = .int .i64 k ∧ Hid (J (zs.take k) wr ∧ Below n₀ W wr)) (fun i _ => zs.length - (intOf i).toNat)
  case atStart => exact ⟨0, Nat.zero_le _, rfl, Lib.hid ⟨h0, Below.refl _ _⟩⟩
  case round =>
    obtain ⟨k, hk, rfl, HJ⟩ := hrel
    by_cases hlt : k < zs.length
    · obtain ⟨b, off, rfl, c0⟩ := HI.out.at k hlt
      have hbn := HB.out b ⟨off, rfl⟩ (by omega)
      have c1 : wr.cell? ⟨b, off + k, none⟩ = some (.int .i64 zs[k]) := (HJ.out.2.cell (p := ⟨b, off + k, none⟩) hbn).trans c0
      have htk := take_last zs k hlt
      obtain ⟨x, hx⟩ : ∃ x, zs[k] = x := ⟨_, rfl⟩
      rw [hx] at c1 htk
      have HTK := Lib.hid htk
      have HLT := Lib.hid hlt
      clear hx c0 htk
      obtain ⟨fn, tmps, assign, body, hy, hR⟩ := HY.out _ x wr HJ.out.1 (by rw [List.length_take]; omega)
      have d0 : (0 : Int) ≤ k := by omega
      have d1 : (k : Int) < zs.length := by omega
      gi_wp2
      refine hR.mono ?_
      rintro e W3 (⟨rfl, hJ3, hk3⟩ | ⟨rfl, hJx3⟩)
      · have HJ3 := Lib.hid (And.intro hJ3 hk3)
        clear hJ3 hk3
        gi_wp2
        go_roundw
        case rel => exact ⟨k + 1, by have := HLT.out; omega, by go_num, Lib.hid ⟨by rw [HTK.out]; exact HJ3.out.1, HJ.out.2.trans HJ3.out.2⟩⟩
        case measure => have := HLT.out; simp [intOf]; omega
      · have HJ3 := Lib.hid hJx3
        clear hJx3
        gi_wp2
        refine bodyPost_ret (results_none rfl _ _ _) rfl ?_
        exact ⟨⟨_, rfl⟩, .inr ⟨_, List.take_prefix (k + 1) zs, by rw [HTK.out]; exact HJ3.out⟩⟩
    · obtain rfl : k = zs.length := by omega
      have HJ4 := Lib.hid HJ.out.1
      rw [List.take_length] at HJ4
      gi_wp2
      go_end0
      exact ⟨⟨_, rfl⟩, .inl ⟨_, rfl, HJ4.out⟩⟩
end Go.Proofs.Ytcbjekdbkhibbaa
namespace Go.Proofs.Ytcbjekdbkhibbaa
open Go.RowKit
attribute [local go_sem] Oper.semAt_some

theorem of_stops (F : Fence) (n : Nat) (h7 : F.fn 128) (hro : F.round = none) (hn : 1 ≤ n) (q : Nat) (xs : List Int) (hz : xs.length ≤ 1000) (w : World) (hv : VarI w q xs) :
    SeqStopsK F n Try.prog 128 #[.pointer (some ⟨q, 0, none⟩)] (fun x : Int => #[Value.int .i64 x]) (Below w.heap.size) (fun ys => ys = xs) (fun pre => pre <+: xs) xs.length w := fun l J Jx W hW _ _ hY h0 => by
  obtain ⟨v, hc, hi⟩ := hv.ints
  obtain ⟨xa, xc, rfl⟩ := hi.form
  refine of1_in F n h7 hro hn l q w.heap.size xa xc xs hz J Jx hY W (cell_stays hW hc) (hi.later hW) ?_ h0
  rintro b ⟨o, rfl⟩ hpos
  obtain ⟨b', o', e, hcell⟩ := hi.at 0 hpos
  injection e with e
  injection e with e _ _
  subst e
  exact World.block_lt_of_cell? _ _ hcell

def Took (n₀ : Nat) (S : List Int → Prop) (w : World) (e : Ending) (w' : World) : Prop := ∃ (v : Value) (xs : List Int), e = .returned v ∧ S xs ∧ w'.ownsRow n₀ 3 1 v xs.length (intsV xs) ∧ Below n₀ w w'
set_option maxRecDepth 100000 in
set_option maxHeartbeats 2000000 in
theorem appendSeq_k (F : Fence) (n : Nat) (h11 : F.fn 150) (hro : F.round = none) (hn : 2 ≤ n) (g : Nat) (lb : Array Value) (hFg : F.fn g) (eg : ∀ args w, (callFunc g args).run Try.prog w = .ok (.enter g args) w)
    (S Sp : List Int → Prop) (N : Nat) (hN : N ≤ 1000) (w : World) (hseq : SeqStopsK F (n - 1) Try.prog g lb (fun x : Int => #[Value.int .i64 x]) (Below w.heap.size) S Sp N w) :
    CallsIn F n Try.prog 150 #[.slice none 0 0, .func (.func g) #[] lb] w (Took w.heap.size S w) := by
  have h1 : 1 ≤ n := by omega
  obtain ⟨i0, hi0, hz0, hz1, hz2⟩ := info_parts info_int
  refine callsIn_of_wp_marks Try.func150 rfl h11 ?_ hro
  simp only [Try.ntmps150, List.size_toArray, List.length_cons, List.length_nil, Nat.reduceAdd, Nat.reduceSub, Array.replicate_succ, Array.replicate_zero, List.push_toArray, List.append_toArray, List.nil_append, List.cons_append]
  gi_wp2
  refine wpIn_rangeFunc_ownF hro h1 (gf := g) (lb := lb) rfl hFg eg hseq (fun h k => h.trans k) (belowK_b (by simp)) ((Below.refl _ _).alloc (Nat.le_refl _) _) (fun _ => rfl)
    (fun pre W => (∃ v, Boxed W w.heap.size 51 v ∧ W.ownsRow w.heap.size 3 1 v pre.length (intsV pre) ∧ True) ∧ Below w.heap.size w W)
    (fun _ _ _ => False)
    (OwnFrom.and (Own.from (holdsRow_own w.heap.size w.heap.size 51 3 1 (fun pre : List Int => pre.length) intsV (fun _ _ => True)) _) (ownFrom_below (Nat.le_refl _) (by simp)))
    (fun _ _ _ _ _ hs _ _ => hs)
    ⟨⟨_, Boxed.new w _ _, World.ownsRow_nil _ _ _ _, trivial⟩, (Below.refl _ _).alloc (Nat.le_refl _) _⟩ ?a1 ?assign ?body ?done ?stop
  case assign =>
    intro l x W K hK
    gi_wp2
    exact hK
  case body =>
    rintro l pre x W ⟨⟨v, hv, hrow, _⟩, hB⟩ hlen
    have hc := hv.cell
    have hf := hv.frozen
    have hle := hB.size
    gi_wp2_with (gi_at_builtin; refine wpListIn_append_own _ rfl _ _ 51 rfl w.heap.size 3 i0 (.int .i64 0) 1 8 Try.underlying51 hi0 hz0 hz1 hz2 rfl (by decide) _ _ _ rfl (hrow.alloc _) ⟨W.heap.size, 0, none⟩ 1 1 [.int .i64 x] rfl rfl (cell_one_new _ _ _) (by simp [Value.oneCell']) (by unfold maxLen; omega) (by omega) (by simp; omega) ?_; intro v' w1 hown' hgrow _; obtain ⟨g', cap', rfl⟩ := ownsRow_succ hown'; obtain ⟨hv1, hv2, hr2, hk2, hb2⟩ := hv.appended (by decide) hrow hB.size (Nat.le_refl _) hown' hgrow; have hc1 := hv1.cell; have hf1 := hv1.frozen)
    refine ⟨hk2, hb2, ⟨_, hv2, ?_, trivial⟩, hB.trans hb2⟩
    simpa [intsV] using hr2
  case done =>
    rintro D ys W hD hS ⟨⟨v, hv, hrow, _⟩, hB⟩ hK
    have hc := hv.cell
    gi_wp2
    refine ⟨by simp, .inl ⟨_, _, rfl, run_takeDeferred hK, ?_⟩⟩
    exact ⟨_, results_tmp rfl _ _ _, v, ys, rfl, hS, ownsRow_putObj hrow _ hK rfl, hB.trans (belowK_b (w := w) (Nat.le_refl _) W D _ _ (by simp at hD; omega) hK rfl rfl)⟩
  case stop =>
    rintro D c pre W _ _ h _
    exact h.elim

set_option maxRecDepth 100000 in
set_option maxHeartbeats 1000000 in
theorem collect_k (F : Fence) (n : Nat) (h8 : F.fn 123) (h11 : F.fn 150) (hro : F.round = none) (hn : 3 ≤ n) (g : Nat) (lb : Array Value) (hFg : F.fn g) (eg : ∀ args w, (callFunc g args).run Try.prog w = .ok (.enter g args) w)
    (S Sp : List Int → Prop) (N : Nat) (hN : N ≤ 1000) (w : World) (hseq : SeqStopsK F (n - 1 - 1) Try.prog g lb (fun x : Int => #[Value.int .i64 x]) (Below w.heap.size) S Sp N w) :
    CallsIn F n Try.prog 123 #[.func (.func g) #[] lb] w (Took w.heap.size S w) := by
  refine callsIn_of_wp Try.func123 rfl h8 ?_ hro
  simp only [Try.ntmps123, List.size_toArray, List.length_cons, List.length_nil, Nat.reduceAdd, Nat.reduceSub, Array.replicate_succ, Array.replicate_zero, List.push_toArray, List.append_toArray, List.nil_append, List.cons_append]
  gi_wp2_with fail
  refine ⟨fun _ => (by omega), (appendSeq_k F (n - 1) h11 hro (by omega) g lb hFg eg S Sp N hN _ hseq).mono ?_⟩
  rintro e w' ⟨v, xs, rfl, hS, hrow, hb⟩
  gi_wp2
  go_ret
  exact ⟨_, xs, rfl, hS, hrow, hb⟩

/-- slices.Collect of deck.Of's function value: the list. -/
def Gave (w : World) (xs : List Int) (e : Ending) (w' : World) : Prop := ∃ v, e = .returned v ∧ w'.ownsRow w.heap.size 3 1 v xs.length (intsV xs) ∧ Below w.heap.size w w'
theorem collect_of {q : Nat} {xs : List Int} {w : World} (hv : VarI w q xs) (hz : xs.length ≤ 1000) :
    Calls Try.prog 123 #[.func (.func 128) #[] #[.pointer (some ⟨q, 0, none⟩)]] w (Gave w xs) := by
  refine (callsIn_wide (n := 5)).1 ?_
  refine (collect_k Fence.wide 5 trivial trivial rfl (by decide) _ _ trivial (fun _ _ => by kernel_rfl) _ _ xs.length hz w (of_stops Fence.wide (5 - 1 - 1) trivial rfl (by decide) q xs hz w hv)).mono ?_
  rintro e w' ⟨v, ys, rfl, hS, hrow, hb⟩
  subst hS
  exact ⟨v, rfl, hrow, hb⟩
theorem own_ints {w : World} {base : Nat} {v : Value} {xs : List Int} (ho : w.ownsRow base 3 1 v xs.length (intsV xs)) : IntsAt w v xs := by
  rcases ho.2 with ⟨h1, h2⟩ | ⟨g, cap, cur, rfl, hb, hg, h1, h2, h3, h4⟩
  · exact .inl ⟨none, 0, h1, List.eq_nil_of_length_eq_zero h2⟩
  · refine .inr ⟨g, 0, cap, rfl, (Array.getElem?_eq_some_iff.1 hg).1, fun i hi => ?_⟩
    have e : (intsV xs)[i]? = some (.int .i64 xs[i]) := by simp [intsV, hi]
    rw [← h4, List.getElem?_take, if_pos (by omega)] at e
    simp only [Nat.zero_add]
    simpa [World.cell?, hg] using e

set_option maxRecDepth 100000 in
set_option maxHeartbeats 2000000 in
/-- deck.only: are all numbers those of cards of some kinds? -/
theorem only_any {v u z : Value} {t : List CardL} {l ks : List Int} {w : World} (h : CardsAt w v t) (hu : IntsAt w u l) (hz : NumsAt w z ks) (hl : l.length ≤ 1000) (hk : ks.length ≤ 9223372036854775807) :
    Calls Try.prog 122 #[v, u, z] w (RetB w (decide ((ofL t ks l).length = l.length))) := by
  obtain ⟨ya, yc, rfl⟩ := hu.form
  have hol : (ofL t ks l).length ≤ l.length := List.length_filter_le _ _
  have HL := Lib.hid h
  have HU := Lib.hid hu
  have HZ := Lib.hid hz
  have HK := Lib.hid hk
  have HLL := Lib.hid hl
  obtain ⟨xs, hxs⟩ : ∃ xs, ofL t ks l = xs := ⟨_, rfl⟩
  rw [hxs] at hol
  rw [hxs]
  have HXS := Lib.hid hxs
  have HOL := Lib.hid (show xs.length ≤ 1000 by omega)
  clear h hu hz hk hxs
  go_enter Try.func122, Try.ntmps122
  go_wp2_with fail
  refine (of_any HL.out HU.out HZ.out HLL.out HK.out).mono ?_
  rw [HXS.out]
  rintro e w2 ⟨q, rfl, hv, hq, hb2⟩
  have HV := Lib.hid hv
  have HB2 := Lib.hid hb2
  clear hv hb2 hq
  go_wp2_with fail
  refine (collect_of HV.out HOL.out).mono ?_
  rintro e w3 ⟨v3, rfl, hrow, hb3⟩
  have HB3 := Lib.hid (stepB HB2.out hb3)
  obtain ⟨xa, xc, rfl⟩ := (own_ints hrow).form
  clear hrow hb3
  go_wp2
  go_ret
  exact ⟨ret_bool (by rw [Bool.eq_iff_iff]; simp; omega), HB3.out⟩
end Go.Proofs.Ytcbjekdbkhibbaa

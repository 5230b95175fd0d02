/- The contract of the document's Shuffle (layer 4). -/
import Derived.Test.YtokjghfpdolojaaEk
namespace Go.Proofs.Ytokjghfpdolojaa
open Go.RowKit

theorem own_vals {w : World} {base : Nat} {t : TypeId} {v : Value} {n : Nat} {xs : List Value} (ho : w.ownsRow base t 1 v n xs) (hn : xs.length = n) : ValsAt w v xs := by
  rcases ho.2 with ⟨h1, h2⟩ | ⟨g, cap, cur, rfl, hb, hg, h1, h2, h3, h4⟩
  · exact .inl ⟨none, 0, h1, List.eq_nil_of_length_eq_zero (by omega)⟩
  · refine .inr ⟨g, 0, cap, by rw [hn], (Array.getElem?_eq_some_iff.1 hg).1, fun i hi => ?_⟩
    have e : xs[i]? = some xs[i] := by simp [hi]
    have e3 : (cur.toList.take (n * 1))[i]? = xs[i]? := by rw [h4]
    rw [List.getElem?_take, if_pos (by omega), e] at e3
    rw [Nat.zero_add, ← e3]
    simp [World.cell?, hg]
def RefRow (w : World) (b : Nat) (l : List Int) (e : Ending) (w' : World) : Prop := ∃ v, e = .returned v ∧ IntsAt w' v l ∧ w.grownBy w' (some b)
def RShufIs (w : World) (b g cap : Nat) (v : Value) (xs m : List Int) (k n i : Nat) (X : List Int) (wr : World) : Prop :=
  RefAt wr b v (k + (n - i)) ∧ wr.ownsRow w.heap.size 3 1 (.slice (some ⟨g, 0, none⟩) (n + 1) cap) (n + 1) (intsV X) ∧ X.length = n + 1 ∧ shufL i X (m.drop (n - i)) = shufL n xs m ∧ w.grownBy wr (some b)
theorem own_grown {w w' : World} {base b g : Nat} {t : TypeId} {n cap : Nat} {xs : List Value} (h : w.ownsRow base t 1 (.slice (some ⟨g, 0, none⟩) n cap) n xs) (hg : w.grownBy w' (some b)) (hne : g ≠ b) : w'.ownsRow base t 1 (.slice (some ⟨g, 0, none⟩) n cap) n xs :=
  h.kept hg (.inr (by simpa [Value.ownBlock] using hne))
theorem rshuf_step {w wr w1 : World} {b g cap k n i j : Nat} {v : Value} {xs X m : List Int} {p q : Int} (h : RShufIs w b g cap v xs m k n (i + 1) X wr) (hi : i + 1 ≤ n) (hgb : b < g) (hgw : w.heap.size ≤ g) (hj : drawN ((m.drop (n - (i + 1))).headD 0) ((i : Int) + 1 + 1) = (j : Int))
    (hd : RefAt w1 b v (k + (n - (i + 1)) + 1)) (hg : wr.grownBy w1 (some b)) (hu : X.getD j default = p) (hv : X.getD (i + 1) default = q) :
    RShufIs w b g cap v xs m k n i (swapL X (i + 1) j) ((w1.setCell ⟨g, i + 1, none⟩ (.int .i64 p)).setCell ⟨g, j, none⟩ (.int .i64 q)) := by
  obtain ⟨h1, h2, h3, h4, h5⟩ := h
  have e1 : n - (i + 1) + 1 = n - i := by omega
  have e2 : k + (n - (i + 1)) + 1 = k + (n - i) := by omega
  rw [e2] at hd
  refine ⟨(RowAt.other (RowAt.other hd (by omega) _) (by omega) _), ?_, by rw [swapL_len]; exact h3, ?_, grown_new (grown_new (grown_trans h5 hg) hgw _) hgw _⟩
  · have := ((own_grown h2 hg (by omega)).stored (i + 1) (.int .i64 p)).1.stored j (.int .i64 q)
    unfold swapL
    rw [hu, hv]
    unfold intsV at this ⊢
    rw [List.map_set, List.map_set]
    exact this.1
  · rw [← h4]
    show shufL i _ _ = shufL i (swapL X (i + 1) (drawN ((m.drop (n - (i + 1))).headD 0) ((i : Int) + 1 + 1)).toNat) (m.drop (n - (i + 1))).tail
    rw [hj, Int.toNat_natCast, drop_tail, e1]

set_option maxRecDepth 100000 in
set_option maxHeartbeats 8000000 in
theorem refShuffle_any {v u : Value} {dl xs : List Int} {w : World} {b k : Nat} (hr : RefAt w b v k) (hv : IntsAt w v dl) (hu : IntsAt w u xs) (hvb : Apart b v dl) (hl : xs.length ≤ 900) (hk : k ≤ 1000) :
    Calls Try.prog 16 #[.pointer (some ⟨b, 0, none⟩), u] w (RefRow w b (shufL (xs.length - 1) xs (dl.drop k))) := by
  have HR := Lib.hid hr
  have HV := Lib.hid hv
  have HU := Lib.hid hu
  have HVB := Lib.hid hvb
  obtain ⟨xa, xc, rfl⟩ := hu.form
  have hbw := RowAt.lt hr
  clear hr hv hu hvb
  cases xs with
  | nil =>
    go_enter Try.func16, Try.ntmps16
    go_wp2_with (at_builtin; refine wpList_append_ints rfl _ _ rfl rfl w.heap.size (.slice (some ⟨w.heap.size, 0, none⟩) 0 0) 0 [] rfl (own_empty1 rfl (Nat.le_refl _)) xa _ xc [] rfl rfl (HU.out.later (below_new _ _)) (by simp) (by simp) ?f)
    case f =>
      intro v' w1 hown hgrow hob
      have HO := Lib.hid (own_vals hown rfl)
      have HG := Lib.hid hgrow
      rcases hown.2 with ⟨rfl, _⟩ | ⟨g, cap, cur, rfl, hcap⟩
      · simp [Value.ownBlock] at hob
      · clear hcap hown hgrow hob
        go_wp2
        refine wp_loop_rounds 1 ?_
        rw [rounds_succ]
        go_wp2
        go_ret
        refine ⟨_, rfl, HO.out, ?_⟩
        exact ⟨HG.out.os, HG.out.tape, HG.out.output, by have := HG.out.size; simp at this; omega, fun j hj hne => (HG.out.block j (by simp; omega) (by simp [Value.ownBlock]; omega)).trans ((below_new w _).block j hj)⟩
  | cons x0 xr =>
    obtain ⟨n, hn⟩ : ∃ n, xr.length = n := ⟨_, rfl⟩
    have hn1 : (x0 :: xr).length = n + 1 := by rw [List.length_cons, hn]
    have HN := Lib.hid hn1
    rw [hn1] at hl HU ⊢
    go_enter Try.func16, Try.ntmps16
    go_wp2_with (at_builtin; refine wpList_append_ints rfl _ _ rfl rfl w.heap.size (.slice (some ⟨w.heap.size, 0, none⟩) 0 0) 0 [] rfl (own_empty1 rfl (Nat.le_refl _)) xa _ xc (x0 :: xr) rfl HN.out.symm (HU.out.later (below_new _ _)) (by rw [HN.out]; omega) (by simp) ?f)
    case f =>
      intro v' w1 hown hgrow hob
      have hg0 : w.grownBy w1 (some b) := ⟨hgrow.os, hgrow.tape, hgrow.output, by have := hgrow.size; simp at this; omega, fun j hj hne => (hgrow.block j (by simp; omega) (by simp [Value.ownBlock]; omega)).trans ((below_new w _).block j hj)⟩
      have hr1 : RefAt w1 b v k := by
        have h1 := (hgrow.block b (by simp; omega) (by simp [Value.ownBlock]; omega)).trans ((below_new w _).block b hbw)
        exact h1.trans HR.out
      rcases hown.2 with ⟨rfl, _⟩ | ⟨g, cap, cur, rfl, hgw, _, hnc, _⟩
      · simp [Value.ownBlock] at hob
      · have HS1 := Lib.hid (show RShufIs w b g cap v (x0 :: xr) (dl.drop k) k n n (x0 :: xr) w1 from ⟨by rw [Nat.sub_self]; exact hr1, hown, HN.out, by rw [Nat.sub_self]; rfl, hg0⟩)
        clear hown hgrow hob hg0 hr1 hn hn1
        go_wp2
        go_loopw [6] (fun i wr => ∃ (c : Nat) (X : List Int), c ≤ n ∧ i = .int .i64 c ∧ Hid (RShufIs w b g cap v (x0 :: xr) (dl.drop k) k n c X wr)) (fun i _ => (intOf i).toNat)
        case atStart => exact ⟨n, _, Nat.le_refl _, by go_num, HS1⟩
        case round =>
          obtain ⟨c, X, hc, rfl, HS⟩ := hrel
          cases c with
          | zero =>
            go_wp2
            go_ret
            obtain ⟨h1, h2, h3, h4, h5⟩ := HS.out
            refine ⟨_, rfl, ?_, h5⟩
            rw [Nat.add_sub_cancel, ← h4]
            exact own_vals h2 (by rw [intsV_len]; exact h3)
          | succ i =>
            have hlo := drawN_in (((dl.drop k).drop (n - (i + 1))).headD 0) ((i : Int) + 1 + 1) (by omega)
            obtain ⟨j, hj⟩ : ∃ j : Nat, drawN (((dl.drop k).drop (n - (i + 1))).headD 0) ((i : Int) + 1 + 1) = (j : Int) := ⟨(drawN (((dl.drop k).drop (n - (i + 1))).headD 0) ((i : Int) + 1 + 1)).toNat, by omega⟩
            rw [hj] at hlo
            have HJ := Lib.hid hj
            clear hj
            have d1 : (i : Int) + 1 ≤ n := by omega
            have d0 : (0 : Int) ≤ i := by omega
            have j1 : (j : Int) ≤ i + 1 := by omega
            have ei : (((i + 1 : Nat) : Int)) = (i : Int) + 1 := by omega
            rw [ei]
            clear ei
            go_wp2_with fail
            refine (refBelow_any _ HS.out.1 (ints_grown HV.out HS.out.2.2.2.2 HVB.out) (by omega) (by omega)).mono ?_
            rw [← List.drop_drop, HJ.out]
            rintro e w1 ⟨rfl, hd1, hg1, _⟩
            obtain ⟨p, hp⟩ : ∃ p, X.getD j default = p := ⟨_, rfl⟩
            obtain ⟨q, hq⟩ : ∃ q, X.getD (i + 1) default = q := ⟨_, rfl⟩
            have HST := Lib.hid (rshuf_step HS.out hc (by omega) hgw HJ.out hd1 hg1 hp hq)
            have hrow := own_grown HS.out.2.1 hg1 (by omega)
            have hXL := HS.out.2.2.1
            have ci := hrow.cellAt (i + 1) (by omega)
            have cj := hrow.cellAt j (by omega)
            rw [show (intsV X)[i + 1]? = some (.int .i64 q) by rw [← hq]; simp [intsV, List.getD, show i + 1 < X.length by omega]] at ci
            rw [show (intsV X)[j]? = some (.int .i64 p) by rw [← hp]; simp [intsV, List.getD, show j < X.length by omega]] at cj
            have fi := hrow.frozenAt (i + 1)
            have fj := hrow.frozenAt j
            have huv : j = i + 1 → p = q := fun e => by rw [← hp, ← hq, e]
            clear hrow hd1 hg1 hp hq hXL HS
            have j2 : (j : Int) < (n : Int) + 1 := by omega
            have d2 : (i : Int) + 1 < (n : Int) + 1 := by omega
            have j0 : (0 : Int) ≤ j := by omega
            have HC := Lib.hid hc
            by_cases hij : j = i + 1
            · have := huv hij
              subst this
              subst hij
              clear huv cj fj
              have ej : (((i + 1 : Nat) : Int)) = (i : Int) + 1 := by omega
              rw [ej]
              go_wp2
              go_roundw
              case rel => exact ⟨i, _, by have := HC.out; omega, by go_num, HST⟩
              case measure => simp [intOf]
            · clear huv
              have hij2 : ¬ i + 1 = j := fun e => hij e.symm
              go_wp2
              go_roundw
              case rel => exact ⟨i, _, by have := HC.out; omega, by go_num, HST⟩
              case measure => simp [intOf]
end Go.Proofs.Ytokjghfpdolojaa

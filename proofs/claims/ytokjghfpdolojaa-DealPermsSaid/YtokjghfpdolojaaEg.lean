/- The contracts of Shuffle, at numbers and texts (layer 4): the document's shuffle, of any draws. -/
import Derived.Test.YtokjghfpdolojaaEf
namespace Go.Proofs.Ytokjghfpdolojaa
open Go.RowKit

/-- Two places of a list are changed. -/
def swapL {α : Type} [Inhabited α] (x : List α) (i j : Nat) : List α := (x.set i (x.getD j default)).set j (x.getD i default)
/-- The shuffle, from place i down, by draws. -/
def shufL {α : Type} [Inhabited α] : Nat → List α → List Int → List α
  | 0, x, _ => x
  | i + 1, x, m => shufL i (swapL x (i + 1) (drawN (m.headD 0) ((i : Int) + 1 + 1)).toNat) m.tail
theorem swapL_len {α : Type} [Inhabited α] (x : List α) (i j : Nat) : (swapL x i j).length = x.length := by simp [swapL]
theorem shufL_len {α : Type} [Inhabited α] : ∀ (i : Nat) (x : List α) (m : List Int), (shufL i x m).length = x.length
  | 0, _, _ => rfl
  | i + 1, _, _ => (shufL_len i _ _).trans (swapL_len _ _ _)
theorem grown_new {w wr : World} {b g j : Nat} (h : w.grownBy wr (some b)) (hg : w.heap.size ≤ g) (u : Value) : w.grownBy (wr.setCell ⟨g, j, none⟩ u) (some b) :=
  ⟨h.os, h.tape, h.output, by simpa using h.size, fun k hk hne => (heap_setCell_other wr ⟨g, j, none⟩ k u (by show k ≠ g; omega)).trans (h.block k hk hne)⟩
def RetShuf {α : Type} [Inhabited α] (enc : α → Value) (w : World) (t : TypeId) (lo b : Nat) (xs : List α) (m : List Int) (k : Nat) (e : Ending) (w' : World) : Prop :=
  e = .returned (.slice (some ⟨w.heap.size, 0, none⟩) xs.length xs.length) ∧ RowAt w' w.heap.size t ((shufL (xs.length - 1) xs m).map enc) ∧ DrawsAt w' lo b (m.drop (xs.length - 1)) (k + (xs.length - 1)) ∧ w.grownBy w' (some b)
/-- What a round of the shuffle keeps. -/
def ShufIs {α : Type} [Inhabited α] (enc : α → Value) (w : World) (t : TypeId) (lo b : Nat) (xs : List α) (m : List Int) (k n i : Nat) (X : List α) (wr : World) : Prop :=
  DrawsAt wr lo b (m.drop (n - i)) (k + (n - i)) ∧ RowAt wr w.heap.size t (X.map enc) ∧ X.length = n + 1 ∧ shufL i X (m.drop (n - i)) = shufL n xs m ∧ w.grownBy wr (some b)
theorem drop_tail {α : Type} (l : List α) (k : Nat) : (l.drop k).tail = l.drop (k + 1) := by simp [List.tail_drop]
theorem shuf_step {α : Type} [Inhabited α] {enc : α → Value} {w wr w1 : World} {t : TypeId} {lo b k n i j nd : Nat} {xs X : List α} {m : List Int} {u v : α} (h : ShufIs enc w t lo b xs m k n (i + 1) X wr) (hi : i + 1 ≤ n) (hbw : b < w.heap.size) (hj : drawN ((m.drop (n - (i + 1))).headD 0) ((i : Int) + 1 + 1) = (j : Int))
    (hd : DrawsAt w1 lo b (m.drop (n - (i + 1))).tail (k + (n - (i + 1)) + 1)) (hg : wr.grownBy w1 (some b)) (hu : X.getD j default = u) (hv : X.getD (i + 1) default = v) :
    ShufIs enc w t lo b xs m k n i (swapL X (i + 1) j) (((w1.drewN nd).setCell ⟨w.heap.size, i + 1, none⟩ (enc u)).setCell ⟨w.heap.size, j, none⟩ (enc v)) := by
  obtain ⟨h1, h2, h3, h4, h5⟩ := h
  have e1 : n - (i + 1) + 1 = n - i := by omega
  have e2 : k + (n - (i + 1)) + 1 = k + (n - i) := by omega
  rw [drop_tail, e1, e2] at hd
  have hg' := grown_trans hg (grown_drewN w1 nd (some b))
  have hlo := hd.1
  refine ⟨((hd.grown (grown_drewN w1 nd (some w.heap.size)) (.inr hbw)).grown (grown_set (w1.drewN nd) w.heap.size (i + 1) (enc u)) (.inr hbw)).grown (grown_set _ w.heap.size j (enc v)) (.inr hbw), ?_, by rw [swapL_len]; exact h3, ?_, grown_new (grown_new (grown_trans h5 hg') (Nat.le_refl _) (enc u)) (Nat.le_refl _) (enc v)⟩
  · have := ((h2.grown hg' (by omega)).set (i + 1) (enc u)).set j (enc v)
    unfold swapL
    rw [hu, hv, List.map_set, List.map_set]
    exact this
  · rw [← h4]
    show shufL i _ _ = shufL i (swapL X (i + 1) (drawN ((m.drop (n - (i + 1))).headD 0) ((i : Int) + 1 + 1)).toNat) (m.drop (n - (i + 1))).tail
    rw [hj, Int.toNat_natCast, drop_tail, e1]
def strsV (l : List ByteArray) : List Value := l.map fun x => .string x
theorem strsV_one (l : List ByteArray) : ∀ u ∈ strsV l, u.oneCell' = true := by
  intro u hu
  obtain ⟨x, _, rfl⟩ := List.mem_map.1 hu
  rfl

set_option maxRecDepth 100000 in
set_option maxHeartbeats 8000000 in
theorem shuffle_int {v : Value} {xs : List Int} {w : World} {lo b k : Nat} {m : List Int} (h : ValsAt w v (intsV xs)) (hl : xs.length ≤ 1000) (hd : DrawsAt w lo b m k) (hk : k ≤ 1000) (hm : m.length ≤ 1000) :
    Calls Try.prog 14 #[.pointer (some ⟨b, 0, none⟩), v] w (RetShuf (fun x : Int => Value.int .i64 x) w 3 lo b xs m k) := by
  have HD := Lib.hid hd
  have HV := Lib.hid h
  obtain ⟨xa, xc, rfl⟩ := h.form
  have hbw := hd.lt
  have hvl : (intsV xs).length = xs.length := by simp [intsV]
  clear h hd
  cases xs with
  | nil =>
    go_enter Try.func14, Try.ntmps14
    go_wp2_with fail
    refine (own_int HV.out (intsV_one _) (by simp [intsV])).mono ?_
    rintro e w1 ⟨rfl, hr1, hb1⟩
    have HR1 := Lib.hid hr1
    have HB1 := Lib.hid hb1
    clear hr1 hb1
    go_wp2
    refine wp_loop_rounds 1 ?_
    rw [rounds_succ]
    go_wp2
    go_ret
    exact ⟨rfl, HR1.out, HD.out.later HB1.out, grown_below HB1.out⟩
  | cons x0 xr =>
    obtain ⟨n, hn⟩ : ∃ n, xr.length = n := ⟨_, rfl⟩
    have hn1 : (x0 :: xr).length = n + 1 := by rw [List.length_cons, hn]
    have HN := Lib.hid hn1
    rw [hn1] at hl hvl
    rw [hvl] at HV ⊢
    have HVL := Lib.hid hvl
    clear hvl
    go_enter Try.func14, Try.ntmps14
    go_wp2_with fail
    refine (own_int HV.out (intsV_one _) (by rw [HVL.out]; exact hl)).mono ?_
    rintro e w1 ⟨rfl, hr1, hb1⟩
    rw [HVL.out]
    have HS1 := Lib.hid (show ShufIs (fun x : Int => Value.int .i64 x) w 3 lo b (x0 :: xr) m k n n (x0 :: xr) w1 from ⟨by rw [Nat.sub_self]; exact HD.out.later hb1, hr1, hn1, by rw [Nat.sub_self]; rfl, grown_below hb1⟩)
    clear hr1 hb1 hn hn1
    go_wp2
    go_loopw [6] (fun i wr => ∃ (c : Nat) (X : List Int), c ≤ n ∧ i = .int .i64 c ∧ Hid (ShufIs (fun x : Int => Value.int .i64 x) w 3 lo b (x0 :: xr) m k n c X wr)) (fun i _ => (intOf i).toNat)
    case atStart => exact ⟨n, _, Nat.le_refl _, by go_num, HS1⟩
    case round =>
      obtain ⟨c, X, hc, rfl, HS⟩ := hrel
      cases c with
      | zero =>
        go_wp2
        go_ret
        obtain ⟨h1, h2, h3, h4, h5⟩ := HS.out
        refine ⟨by rw [HN.out]; rfl, ?_, ?_, h5⟩
        · rw [HN.out, Nat.add_sub_cancel, ← h4]; exact h2
        · rw [HN.out, Nat.add_sub_cancel]; exact h1
      | succ i =>
        have hlo := drawN_in ((m.drop (n - (i + 1))).headD 0) ((i : Int) + 1 + 1) (by omega)
        obtain ⟨j, hj⟩ : ∃ j : Nat, drawN ((m.drop (n - (i + 1))).headD 0) ((i : Int) + 1 + 1) = (j : Int) := ⟨(drawN ((m.drop (n - (i + 1))).headD 0) ((i : Int) + 1 + 1)).toNat, by omega⟩
        rw [hj] at hlo
        have HJ := Lib.hid hj
        clear hj
        have d1 : (i : Int) + 1 ≤ n := by omega
        have d0 : (0 : Int) ≤ i := by omega
        have j1 : (j : Int) ≤ i + 1 := by omega
        have ei : (((i + 1 : Nat) : Int)) = (i : Int) + 1 := by omega
        rw [ei]
        clear ei
        go_wp2_with fail
        refine (below_any _ (by omega) HS.out.1 (by omega) (by rw [List.length_drop]; omega)).mono ?_
        rw [HJ.out]
        rintro e w1 ⟨rfl, hd1, hg1, _⟩
        obtain ⟨u, hu⟩ : ∃ u, X.getD j default = u := ⟨_, rfl⟩
        obtain ⟨v, hv⟩ : ∃ v, X.getD (i + 1) default = v := ⟨_, rfl⟩
        have HST := Lib.hid (fun nd => shuf_step (nd := nd) HS.out hc hbw HJ.out hd1 hg1 hu hv)
        have hrow := HS.out.2.1.grown hg1 (by omega)
        have hXL := HS.out.2.2.1
        have ci := hrow.cell (i + 1) (by rw [List.length_map]; omega)
        have cj := hrow.cell j (by rw [List.length_map]; omega)
        rw [List.getElem_map, show X[i + 1]'(by omega) = v by rw [← hv]; simp [List.getD, show i + 1 < X.length by omega]] at ci
        rw [List.getElem_map, show X[j]'(by omega) = u by rw [← hu]; simp [List.getD, show j < X.length by omega]] at cj
        have fi := hrow.free (i + 1)
        have fj := hrow.free j
        have huv : j = i + 1 → u = v := fun e => by rw [← hu, ← hv, e]
        clear hrow hd1 hg1 hu hv hXL HS
        have j2 : (j : Int) < (n : Int) + 1 := by omega
        have d2 : (i : Int) + 1 < (n : Int) + 1 := by omega
        have j0 : (0 : Int) ≤ j := by omega
        have HC := Lib.hid hc
        by_cases hij : j = i + 1
        · have := huv hij
          subst this
          subst hij
          clear huv cj fj
          have ej : (((i + 1 : Nat) : Int)) = (i : Int) + 1 := by omega
          rw [ej]
          go_wp2
          go_region
          all_goals
            go_wp2
            go_roundw
            case rel => exact ⟨i, _, by have := HC.out; omega, by go_num, HST.out _⟩
            case measure => simp [intOf]
        · clear huv
          have hij2 : ¬ i + 1 = j := fun e => hij e.symm
          go_wp2
          go_region
          all_goals
            go_wp2
            go_roundw
            case rel => exact ⟨i, _, by have := HC.out; omega, by go_num, HST.out _⟩
            case measure => simp [intOf]

set_option maxRecDepth 100000 in
set_option maxHeartbeats 8000000 in
theorem shuffle_str {v : Value} {xs : List ByteArray} {w : World} {lo b k : Nat} {m : List Int} (h : ValsAt w v (strsV xs)) (hl : xs.length ≤ 1000) (hd : DrawsAt w lo b m k) (hk : k ≤ 1000) (hm : m.length ≤ 1000) :
    Calls Try.prog 21 #[.pointer (some ⟨b, 0, none⟩), v] w (RetShuf (fun x : ByteArray => Value.string x) w 9 lo b xs m k) := by
  have HD := Lib.hid hd
  have HV := Lib.hid h
  obtain ⟨xa, xc, rfl⟩ := h.form
  have hbw := hd.lt
  have hvl : (strsV xs).length = xs.length := by simp [strsV]
  clear h hd
  cases xs with
  | nil =>
    go_enter Try.func21, Try.ntmps21
    go_wp2_with fail
    refine (own_str HV.out (strsV_one _) (by simp [strsV])).mono ?_
    rintro e w1 ⟨rfl, hr1, hb1⟩
    have HR1 := Lib.hid hr1
    have HB1 := Lib.hid hb1
    clear hr1 hb1
    go_wp2
    refine wp_loop_rounds 1 ?_
    rw [rounds_succ]
    go_wp2
    go_ret
    exact ⟨rfl, HR1.out, HD.out.later HB1.out, grown_below HB1.out⟩
  | cons x0 xr =>
    obtain ⟨n, hn⟩ : ∃ n, xr.length = n := ⟨_, rfl⟩
    have hn1 : (x0 :: xr).length = n + 1 := by rw [List.length_cons, hn]
    have HN := Lib.hid hn1
    rw [hn1] at hl hvl
    rw [hvl] at HV ⊢
    have HVL := Lib.hid hvl
    clear hvl
    go_enter Try.func21, Try.ntmps21
    go_wp2_with fail
    refine (own_str HV.out (strsV_one _) (by rw [HVL.out]; exact hl)).mono ?_
    rintro e w1 ⟨rfl, hr1, hb1⟩
    rw [HVL.out]
    have HS1 := Lib.hid (show ShufIs (fun x : ByteArray => Value.string x) w 9 lo b (x0 :: xr) m k n n (x0 :: xr) w1 from ⟨by rw [Nat.sub_self]; exact HD.out.later hb1, hr1, hn1, by rw [Nat.sub_self]; rfl, grown_below hb1⟩)
    clear hr1 hb1 hn hn1
    go_wp2
    go_loopw [6] (fun i wr => ∃ (c : Nat) (X : List ByteArray), c ≤ n ∧ i = .int .i64 c ∧ Hid (ShufIs (fun x : ByteArray => Value.string x) w 9 lo b (x0 :: xr) m k n c X wr)) (fun i _ => (intOf i).toNat)
    case atStart => exact ⟨n, _, Nat.le_refl _, by go_num, HS1⟩
    case round =>
      obtain ⟨c, X, hc, rfl, HS⟩ := hrel
      cases c with
      | zero =>
        go_wp2
        go_ret
        obtain ⟨h1, h2, h3, h4, h5⟩ := HS.out
        refine ⟨by rw [HN.out]; rfl, ?_, ?_, h5⟩
        · rw [HN.out, Nat.add_sub_cancel, ← h4]; exact h2
        · rw [HN.out, Nat.add_sub_cancel]; exact h1
      | succ i =>
        have hlo := drawN_in ((m.drop (n - (i + 1))).headD 0) ((i : Int) + 1 + 1) (by omega)
        obtain ⟨j, hj⟩ : ∃ j : Nat, drawN ((m.drop (n - (i + 1))).headD 0) ((i : Int) + 1 + 1) = (j : Int) := ⟨(drawN ((m.drop (n - (i + 1))).headD 0) ((i : Int) + 1 + 1)).toNat, by omega⟩
        rw [hj] at hlo
        have HJ := Lib.hid hj
        clear hj
        have d1 : (i : Int) + 1 ≤ n := by omega
        have d0 : (0 : Int) ≤ i := by omega
        have j1 : (j : Int) ≤ i + 1 := by omega
        have ei : (((i + 1 : Nat) : Int)) = (i : Int) + 1 := by omega
        rw [ei]
        clear ei
        go_wp2_with fail
        refine (below_any _ (by omega) HS.out.1 (by omega) (by rw [List.length_drop]; omega)).mono ?_
        rw [HJ.out]
        rintro e w1 ⟨rfl, hd1, hg1, _⟩
        obtain ⟨u, hu⟩ : ∃ u, X.getD j default = u := ⟨_, rfl⟩
        obtain ⟨v, hv⟩ : ∃ v, X.getD (i + 1) default = v := ⟨_, rfl⟩
        have HST := Lib.hid (fun nd => shuf_step (nd := nd) HS.out hc hbw HJ.out hd1 hg1 hu hv)
        have hrow := HS.out.2.1.grown hg1 (by omega)
        have hXL := HS.out.2.2.1
        have ci := hrow.cell (i + 1) (by rw [List.length_map]; omega)
        have cj := hrow.cell j (by rw [List.length_map]; omega)
        rw [List.getElem_map, show X[i + 1]'(by omega) = v by rw [← hv]; simp [List.getD, show i + 1 < X.length by omega]] at ci
        rw [List.getElem_map, show X[j]'(by omega) = u by rw [← hu]; simp [List.getD, show j < X.length by omega]] at cj
        have fi := hrow.free (i + 1)
        have fj := hrow.free j
        have huv : j = i + 1 → u = v := fun e => by rw [← hu, ← hv, e]
        clear hrow hd1 hg1 hu hv hXL HS
        have j2 : (j : Int) < (n : Int) + 1 := by omega
        have d2 : (i : Int) + 1 < (n : Int) + 1 := by omega
        have j0 : (0 : Int) ≤ j := by omega
        have HC := Lib.hid hc
        by_cases hij : j = i + 1
        · have := huv hij
          subst this
          subst hij
          clear huv cj fj
          have ej : (((i + 1 : Nat) : Int)) = (i : Int) + 1 := by omega
          rw [ej]
          go_wp2
          go_region
          all_goals
            go_wp2
            go_roundw
            case rel => exact ⟨i, _, by have := HC.out; omega, by go_num, HST.out _⟩
            case measure => simp [intOf]
        · clear huv
          have hij2 : ¬ i + 1 = j := fun e => hij e.symm
          go_wp2
          go_region
          all_goals
            go_wp2
            go_roundw
            case rel => exact ⟨i, _, by have := HC.out; omega, by go_num, HST.out _⟩
            case measure => simp [intOf]
end Go.Proofs.Ytokjghfpdolojaa

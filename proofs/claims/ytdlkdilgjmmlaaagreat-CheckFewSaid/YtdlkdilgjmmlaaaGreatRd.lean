/- slices.Compare of numbers; what Order sorts by; slices.SortFunc of a row of triples (layer 13). -/
import Derived.Test.YtdlkdilgjmmlaaaGreatRc
namespace Go.Proofs.YtdlkdilgjmmlaaaGreat
open Go.RowKit Go.Maps
attribute [local go_sem] Oper.semAt_some

def cmpL : List Int → List Int → Int
  | a :: r, b :: q => if a = b then cmpL r q else Lib.compareInt a b
  | _, _ => 0
theorem cmpL_cons (a b : Int) (r q : List Int) : cmpL (a :: r) (b :: q) = if a = b then cmpL r q else Lib.compareInt a b := rfl
set_option maxRecDepth 100000 in
set_option maxHeartbeats 4000000 in
theorem compareL_any {v u : Value} {l m : List Int} {w : World} (hv : IntsAt w v l) (hu : IntsAt w u m) (hl : l.length = m.length) (h : l.length ≤ 1000) :
    Calls Tryz.prog 97 #[v, u] w (Same w (.int .i64 (cmpL l m))) := by
  obtain ⟨xa, xc, rfl⟩ := hv.form
  obtain ⟨ya, yc, rfl⟩ := hu.form
  have HV := Lib.hid (fun k (hk : k < l.length) => hv.at k hk)
  have HU := Lib.hid (fun k (hk : k < m.length) => hu.at k hk)
  have HC := Lib.hid (fun (x y : Int) (w' : World) => Tryz.cmp_Compare_int x y w')
  obtain ⟨n, hn⟩ : ∃ n, l.length = n := ⟨_, rfl⟩
  have hm : m.length = n := by omega
  have HN := Lib.hid (And.intro hn hm)
  rw [hn, hm]
  have hn1 : n ≤ 1000 := by omega
  clear hv hu hl h hn hm
  have d9 : decide ((n : Int) < (n : Int)) = false := decide_eq_false (by omega)
  have d9' : decide (n < n) = false := decide_eq_false (by omega)
  go_enter Tryz.func97, Tryz.ntmps97
  go_wp2
  go_loop [11] (fun i => ∃ k : Nat, k ≤ n ∧ i = .int .i64 k ∧ Hid (cmpL (l.drop k) (m.drop k) = cmpL l m)) (fun i => n - (intOf i).toNat)
  case atStart => exact ⟨0, Nat.zero_le _, rfl, Lib.hid rfl⟩
  case round =>
    obtain ⟨k, hk, rfl, HX⟩ := hrel
    by_cases hlt : k < n
    · have k1 : k < l.length := by have := HN.out.1; omega
      have k2 : k < m.length := by have := HN.out.2; omega
      obtain ⟨r, off, rfl, _, c0⟩ := HV.out k k1
      obtain ⟨r2, off2, rfl, _, c1⟩ := HU.out k k2
      have hx := HX.out
      rw [List.drop_eq_getElem_cons k1, List.drop_eq_getElem_cons k2] at hx
      obtain ⟨x, hxx⟩ : ∃ x, l[k] = x := ⟨_, rfl⟩
      obtain ⟨y, hyy⟩ : ∃ y, m[k] = y := ⟨_, rfl⟩
      rw [hxx] at c0 hx
      rw [hyy] at c1 hx
      rw [cmpL_cons] at hx
      have d1 : decide ((n : Int) ≤ (k : Int)) = false := decide_eq_false (by omega)
      have d1' : decide (n ≤ k) = false := decide_eq_false (by omega)
      have HC1 := Lib.hid (HC.out x y w)
      by_cases hyx : x = y
      · rw [if_pos hyx] at hx
        have HX2 := Lib.hid hx
        rw [(compareInt_zero x y).2 hyx] at HC1
        clear hx hxx hyy hyx
        go_wp2_with fail
        refine HC1.out.mono ?_
        rintro e w' ⟨rfl, rfl⟩
        dsimp only
        go_wp2
        go_round
        case rel => exact ⟨k + 1, by omega, by go_num, HX2⟩
        case measure => simp [intOf]; omega
      · rw [if_neg hyx] at hx
        have hne : Lib.compareInt x y ≠ 0 := fun e => hyx ((compareInt_zero x y).1 e)
        obtain ⟨c, hc⟩ : ∃ c, Lib.compareInt x y = c := ⟨_, rfl⟩
        rw [hc] at HC1 hx hne
        have e0 : (c != 0) = true := by simpa using hne
        have HX2 := Lib.hid hx
        clear hx hxx hyy hyx hc hne
        go_wp2_with fail
        refine HC1.out.mono ?_
        rintro e w' ⟨rfl, rfl⟩
        dsimp only
        go_wp2
        go_ret
        exact ⟨by rw [← HX2.out]; rfl, rfl⟩
    · obtain rfl : k = n := by omega
      have hx := HX.out
      rw [List.drop_of_length_le (by have := HN.out.1; omega), List.drop_of_length_le (by have := HN.out.2; omega)] at hx
      have HX2 := Lib.hid hx
      clear hx
      go_wp2
      go_ret
      exact ⟨by rw [← HX2.out]; rfl, rfl⟩
theorem cmpL_tri (x y : TriL) : cmpL [x.x, x.y, x.z] [y.x, y.y, y.z] = cf3 x y := by
  simp only [cmpL, cf3]
  by_cases h1 : x.x = y.x
  · by_cases h2 : x.y = y.y
    · rw [if_pos h1, if_pos h2, if_pos h1, if_pos h2]
      by_cases h3 : x.z = y.z
      · rw [if_pos h3, (compareInt_zero _ _).2 h3]
      · rw [if_neg h3]
    · rw [if_pos h1, if_neg h2, if_pos h1, if_neg h2]
  · rw [if_neg h1, if_neg h1]
set_option maxRecDepth 100000 in
set_option maxHeartbeats 4000000 in
theorem order1_any (x y : TriL) (w : World) : Calls Tryz.prog 96 #[.agg #[.int .i64 x.x, .int .i64 x.y, .int .i64 x.z], .agg #[.int .i64 y.x, .int .i64 y.y, .int .i64 y.z]] w
    fun e w' => e = .returned (.int .i64 (cf3 x y)) ∧ ∃ q os', w' = Go.Sort.grow (w.drewN q) os' := by
  obtain ⟨W, hW⟩ : ∃ W, (w.alloc (.cells #[.int .i64 x.x, .int .i64 x.y, .int .i64 x.z] 64)).alloc (.cells #[.int .i64 y.x, .int .i64 y.y, .int .i64 y.z] 64) = W := ⟨_, rfl⟩
  have h0 : IntsAt W (.slice (some ⟨w.heap.size, 0, none⟩) 3 3) [x.x, x.y, x.z] := by
    have hc := fun j => cell_of_row _ w.heap.size j _ _ _ (heap_alloc_new w (.cells #[.int .i64 x.x, .int .i64 x.y, .int .i64 x.z] 64))
    have hb := below_new (w.alloc (.cells #[.int .i64 x.x, .int .i64 x.y, .int .i64 x.z] 64)) (.cells #[.int .i64 y.x, .int .i64 y.y, .int .i64 y.z] 64)
    refine .inr ⟨w.heap.size, 0, 3, rfl, by rw [← hW]; simp; omega, fun i hi => ?_⟩
    rw [← hW]
    rcases (show i = 0 ∨ i = 1 ∨ i = 2 by simp [intsV] at hi; omega) with rfl | rfl | rfl
    · exact cell_stays hb (hc 0)
    · exact cell_stays hb (hc 1)
    · exact cell_stays hb (hc 2)
  have h1 : IntsAt W (.slice (some ⟨w.heap.size + 1, 0, none⟩) 3 3) [y.x, y.y, y.z] := by
    have e1 := heap_alloc_new (w.alloc (.cells #[.int .i64 x.x, .int .i64 x.y, .int .i64 x.z] 64)) (.cells #[.int .i64 y.x, .int .i64 y.y, .int .i64 y.z] 64)
    rw [World.size_alloc] at e1
    have hc := fun j => cell_of_row _ (w.heap.size + 1) j _ _ _ e1
    refine .inr ⟨w.heap.size + 1, 0, 3, rfl, by rw [← hW]; simp, fun i hi => ?_⟩
    rw [← hW]
    rcases (show i = 0 ∨ i = 1 ∨ i = 2 by simp [intsV] at hi; omega) with rfl | rfl | rfl
    · exact hc 0
    · exact hc 1
    · exact hc 2
  have HC := Lib.hid (fun n => compareL_any (w := W.drewN n) (h0.later (below_drewN (Below.refl _ _) n)) (h1.later (below_drewN (Below.refl _ _) n)) rfl (by simp))
  rw [cmpL_tri] at HC
  have HG := Lib.hid (show ∀ q, ∃ q' os', W.drewN q = Go.Sort.grow (w.drewN q') os' from fun q => ⟨q, _, by rw [← hW, Go.Sort.alloc_eq_grow, Go.Sort.alloc_eq_grow, Go.Sort.grow_grow]; rfl⟩)
  obtain ⟨r, hr⟩ : ∃ r, cf3 x y = r := ⟨_, rfl⟩
  rw [hr] at HC ⊢
  clear h0 h1 hr
  go_enter Tryz.func96, Tryz.ntmps96
  go_wp2
  go_region_with ((go_at_call 97; refine (HC.out _).mono ?_; rintro e w' ⟨rfl, rfl⟩; dsimp only))
  all_goals
    go_wp2
    go_ret
    obtain ⟨q', os', e⟩ := HG.out _
    exact ⟨rfl, q', os', e⟩
end Go.Proofs.YtdlkdilgjmmlaaaGreat

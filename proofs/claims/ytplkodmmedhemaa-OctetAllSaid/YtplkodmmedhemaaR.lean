/- The law OctetMaps (layer 1), walked: for every width, number and string it returns true, and only new memory is made. -/
import Derived.Test.YtplkodmmedhemaaQ
namespace Go.Proofs.Ytplkodmmedhemaa
open Go.RowKit

def Has2 (w : World) (b : Nat) (v0 v1 : Value) : Prop := w.cell? ⟨b, 0, none⟩ = some v0 ∧ w.cell? ⟨b, 1, none⟩ = some v1
theorem Has2.later {w w' : World} {b : Nat} {v0 v1 : Value} (h : Has2 w b v0 v1) (hb : Below w.heap.size w w') : Has2 w' b v0 v1 := ⟨cell_keeps hb h.1, cell_keeps hb h.2⟩
theorem Has2.new (w : World) (v0 v1 : Value) (t : TypeId) : Has2 (w.alloc (.cells #[v0, v1] t)) w.heap.size v0 v1 := ⟨by simp [go_sem], by simp [go_sem]⟩
theorem below_alloc (w : World) (o : Obj) : Below w.heap.size w (w.alloc o) := (Below.refl _ _).alloc (Nat.le_refl _) _

theorem below_step {A w w' : World} (h : Below A.heap.size A w) (hb : Below w.heap.size w w') : Below A.heap.size A w' := h.trans (hb.mono h.size)

set_option maxHeartbeats 4000000 in
set_option maxRecDepth 100000 in
theorem octetMaps_walk (width x : Int) (s : ByteArray) (w : World) (hs : s.size ≤ maxLen) :
    Calls Try.prog 6 #[.int .i64 width, .int .i64 x, .string s] w fun e w' => e = .returned (.bool true) ∧ Below w.heap.size w w' := by
  have hs' := hs
  unfold maxLen at hs
  by_cases hlong : 100 < s.size
  · have hd : decide ((100 : Int) < s.size) = true := by simp; omega
    go_enter Try.func6, Try.ntmps6
    go_wp2_with (go_at_call 7; refine (awake_any _).mono ?_; rintro e w1 ⟨rfl, hb1⟩)
    go_ret
    exact ⟨rfl, hb1⟩
  · have hd : decide ((100 : Int) < s.size) = false := by simp; omega
    have hmf := @mk_func
    have HS := Lib.hid hs'
    clear hs'
    go_enter Try.func6, Try.ntmps6
    go_wp2_with (go_at_call 7; refine (awake_any _).mono ?_; rintro e w1 ⟨rfl, hb1⟩)
    have HW1 := Lib.hid hb1
    clear hb1
    refine (num_codec width _).mono ?_
    rintro e w2 ⟨v, rfl, hcod, hb2⟩
    have HW2 := Lib.hid (HW1.out.trans (hb2.mono HW1.out.size))
    have HC := Lib.hid hcod
    obtain ⟨k0, f0, a0, k1, f1, a1, rfl⟩ := hcod.shape
    clear hcod hb2
    go_wp2_with fail
    refine (map_codec HC.out (to23 _) (from24 _) (below_alloc _ _)).mono ?_
    rintro e w3 ⟨v3, rfl, hcod, hb3⟩
    have HA3 := Lib.hid ((Has2.new w2 (.func (.func k0) f0 a0) (.func (.func k1) f1 a1) 28).later hb3)
    have HC3 := Lib.hid hcod
    have HB3 := Lib.hid (below_step (below_alloc w2 (.cells #[.func (.func k0) f0 a0, .func (.func k1) f1 a1] 28)) hb3)
    clear hcod hb3
    go_wp2_with fail
    refine (map_codec HC3.out (to23 _) (from24 _) (Below.refl _ _)).mono ?_
    rintro e w4 ⟨v4, rfl, hcod, hb4⟩
    have HA4 := Lib.hid (HA3.out.later hb4)
    have HB4 := Lib.hid (below_step HB3.out hb4)
    have HD := Lib.hid hcod
    obtain ⟨k2, f2, a2, k3, f3, a3, rfl⟩ := hcod.shape
    clear hcod hb4
    have c0 := HA4.out.1
    have c1 := HA4.out.2
    have hlt := HB4.out.size
    have hlt2 := lt_of_cell c0
    go_wp2_with fail
    refine (make_some _ _ _ _ _ _ _).mono ?_
    rintro e w5 ⟨rfl, hb5⟩
    have HA5 := Lib.hid (HA4.out.later (below_step (below_alloc w4 (.cells #[.func (.func k2) f2 a2, .func (.func k3) f3 a3] 28)) hb5))
    have HE5 := Lib.hid ((Has2.new w4 (.func (.func k2) f2 a2) (.func (.func k3) f3 a3) 28).later hb5)
    have HB5 := Lib.hid (below_step HB4.out (below_step (below_alloc w4 (.cells #[.func (.func k2) f2 a2, .func (.func k3) f3 a3] 28)) hb5))
    have HQ5 := Lib.hid (below_step (below_alloc w4 (.cells #[.func (.func k2) f2 a2, .func (.func k3) f3 a3] 28)) hb5)
    have HM := Lib.hid (made_codec HC.out)
    clear hb5 c0 c1 hlt hlt2
    obtain ⟨sa, na, hA⟩ : ∃ sa na, nrm2 (putN (heldN width) x) = (sa, na) := ⟨_, _, rfl⟩
    have hA2 : nrm2 (mPut (mPut (putN (heldN width)) (fun y => (y, true)) (fun y => y)) (fun y => (y, true)) (fun y => y) x) = (sa, na) := by rw [put_same, put_same, hA]
    have hA3 : nrm2 ((fun x => nrm2 (putN (heldN width) x)) x) = (sa, na) := by show nrm2 (nrm2 _) = _; rw [nrm2_idem, hA]
    obtain ⟨xg, ng, hG⟩ : ∃ xg ng, getOf (nextN (heldN width)) s = (xg, ng) := ⟨_, _, rfl⟩
    have hG2 : getOf (mNext (mNext (nextN (heldN width)) (fun y => (y, true))) (fun y => (y, true))) s = (xg, ng) := by rw [getOf_same, getOf_same, hG]
    have hG3 : getOf (fun s a => nextAt (nextN (heldN width)) s (a : Nat)) s = (xg, ng) := by rw [getOf_made, hG]
    have HPA := Lib.hid hA
    have HPA2 := Lib.hid hA2
    have HPA3 := Lib.hid hA3
    have HGA := Lib.hid hG
    have HGA2 := Lib.hid hG2
    have HGA3 := Lib.hid hG3
    clear hA hA2 hA3 hG hG2 hG3
    -- the world in which all three codecs lie
    have HW6 := Lib.hid (below_step HW2.out (below_step HB5.out (below_alloc w5 (.cells #[.func (.func 10) #[.agg #[.func (.func k0) f0 a0, .func (.func k1) f1 a1]] #[], .func (.func 12) #[.agg #[.func (.func k0) f0 a0, .func (.func k1) f1 a1]] #[]] 28))))
    have HC6 := Lib.hid (HC.out.later (below_step HB5.out (below_alloc w5 (.cells #[.func (.func 10) #[.agg #[.func (.func k0) f0 a0, .func (.func k1) f1 a1]] #[], .func (.func 12) #[.agg #[.func (.func k0) f0 a0, .func (.func k1) f1 a1]] #[]] 28))))
    have HD6 := Lib.hid (HD.out.later (below_step HQ5.out (below_alloc w5 (.cells #[.func (.func 10) #[.agg #[.func (.func k0) f0 a0, .func (.func k1) f1 a1]] #[], .func (.func 12) #[.agg #[.func (.func k0) f0 a0, .func (.func k1) f1 a1]] #[]] 28))))
    have HM6 := Lib.hid (HM.out.later (below_step HB5.out (below_alloc w5 (.cells #[.func (.func 10) #[.agg #[.func (.func k0) f0 a0, .func (.func k1) f1 a1]] #[], .func (.func 12) #[.agg #[.func (.func k0) f0 a0, .func (.func k1) f1 a1]] #[]] 28))))
    have HA6 := Lib.hid (HA5.out.later (below_alloc w5 (.cells #[.func (.func 10) #[.agg #[.func (.func k0) f0 a0, .func (.func k1) f1 a1]] #[], .func (.func 12) #[.agg #[.func (.func k0) f0 a0, .func (.func k1) f1 a1]] #[]] 28)))
    have HE6 := Lib.hid (HE5.out.later (below_alloc w5 (.cells #[.func (.func 10) #[.agg #[.func (.func k0) f0 a0, .func (.func k1) f1 a1]] #[], .func (.func 12) #[.agg #[.func (.func k0) f0 a0, .func (.func k1) f1 a1]] #[]] 28)))
    have HF6 := Lib.hid (Has2.new w5 (.func (.func 10) #[.agg #[.func (.func k0) f0 a0, .func (.func k1) f1 a1]] #[]) (.func (.func 12) #[.agg #[.func (.func k0) f0 a0, .func (.func k1) f1 a1]] #[]) 28)
    have c0 := HA5.out.1
    have c1 := HA5.out.2
    have hlt := lt_of_cell c0
    go_wp2_with fail
    refine (put_codec HC6.out (Below.refl _ _) x).mono ?_
    rw [HPA.out]
    rintro e w7 ⟨rfl, hb7⟩
    have HB7 := Lib.hid (hb7)
    clear hb7  c0 c1 hlt
    have c0 := (HE6.out.later HB7.out).1
    have c1 := (HE6.out.later HB7.out).2
    unfold ret2
    go_wp2_with fail
    refine (put_codec HD6.out HB7.out x).mono ?_
    rw [HPA2.out]
    rintro e w8 ⟨rfl, hb8⟩
    have HB8 := Lib.hid (below_step HB7.out hb8)
    clear hb8  c0 c1
    have c0 := (HF6.out.later HB8.out).1
    have c1 := (HF6.out.later HB8.out).2
    unfold ret2
    go_wp2_with fail
    refine (put_codec HM6.out HB8.out x).mono ?_
    rw [HPA3.out]
    rintro e w9 ⟨rfl, hb9⟩
    have HB9 := Lib.hid (below_step HB8.out hb9)
    clear hb9  c0 c1
    have c0 := (HA6.out.later HB9.out).1
    have c1 := (HA6.out.later HB9.out).2
    unfold ret2
    go_wp2_with fail
    refine (get_codec HC6.out HB9.out s HS.out).mono ?_
    rw [HGA.out]
    rintro e w10 ⟨rfl, hb10⟩
    have HB10 := Lib.hid (below_step HB9.out hb10)
    clear hb10  c0 c1
    have c0 := (HE6.out.later HB10.out).1
    have c1 := (HE6.out.later HB10.out).2
    unfold ret2i
    go_wp2_with fail
    refine (get_codec HD6.out HB10.out s HS.out).mono ?_
    rw [HGA2.out]
    rintro e w11 ⟨rfl, hb11⟩
    have HB11 := Lib.hid (below_step HB10.out hb11)
    clear hb11  c0 c1
    have c0 := (HF6.out.later HB11.out).1
    have c1 := (HF6.out.later HB11.out).2
    unfold ret2i
    go_wp2_with fail
    refine (get_codec HM6.out HB11.out s HS.out).mono ?_
    rw [HGA3.out]
    rintro e w12 ⟨rfl, hb12⟩
    have HB12 := Lib.hid (below_step HB11.out hb12)
    clear hb12  c0 c1
    have c0 := (HF6.out.later HB12.out).1
    have c1 := (HF6.out.later HB12.out).2
    unfold ret2i
    go_wp2_with fail
    refine (make_nil _).mono ?_
    rintro e w13 ⟨rfl, hb13⟩
    have HB13 := Lib.hid (below_step HB12.out hb13)
    clear hb13 c0 c1
    go_wp2_with fail
    refine (put_zero _ x _).mono ?_
    rintro e w14 ⟨rfl, hb14⟩
    have HB14 := Lib.hid (below_step HB13.out (below_step (below_alloc w13 (.cells #[.nilFunc, .nilFunc] 28)) hb14))
    clear hb14
    unfold ret2
    go_wp2
    go_ret
    exact ⟨by simp, below_step HW6.out HB14.out⟩
end Go.Proofs.Ytplkodmmedhemaa

/- The iterator of Field (layer 6): what it tells, whatever its rounds make of the store. -/
import Derived.Test.YtjgjhfeopmakaaaGreatHr
namespace Go.Proofs.YtjgjhfeopmakaaaGreat
open Go.RowKit Go.Maps
attribute [local go_sem] Oper.semAt_some

theorem onField_any {w : World} {lo b : Nat} {G : Ghost} {S : StoreL} {u : Value} {os : List Int} (h : StoreAt w lo b G S) (hS : WfS S) (hl : S.objs.length ≤ 1000) (hu : IntsAt w u os) (hos : os.length ≤ 1000) :
    Calls Tryz.prog 125 #[.pointer (some ⟨b, 0, none⟩), u] w (RetObjs w (fieldL S os)) := (callsIn_wide (n := 8)).1 (onField_in h hS hl hu hos)
def encO (x : ObjL) : Array Value := #[.agg (ocs x)]
theorem row_kept {E H : Nat → Prop} {W W' : World} {lo sz n : Nat} {t : TypeId} {v : Value} {xs : List Value} (h : W.ownsRow lo t sz v n xs) (hk : KpP E H W W') (hv : ∀ k, v.ownBlock = some k → ¬E k ∧ Off H W k) : W'.ownsRow lo t sz v n xs :=
  own11_later h fun k e => by
    obtain ⟨o, ho, _⟩ := own_cellsN h k e
    rw [ho]
    exact hk.rest k o ho (hv k e).1 (fun _ => (hv k e).2)
set_option maxRecDepth 100000 in
set_option maxHeartbeats 4000000 in
theorem tell_in (n : Nat) (l B : Nat) (v : Value) (L : List ObjL) (E H : Nat → Prop) (W : World) (hrow : W.ownsRow B 30 11 v L.length (objsV L)) (hoff : ∀ k, v.ownBlock = some k → ¬E k ∧ Off H W k) (hL : L.length ≤ 1000)
    (J Jx : List ObjL → World → Prop) (hJ : OwnFrom B J)
    (hY : ∀ pre (x : ObjL) W1, J pre W1 → pre ++ [x] <+: L → YieldAt Fence.wide (n - 1) Tryz.prog l (encO x) W1 fun e W' =>
      (e = .returned (.bool true) ∧ J (pre ++ [x]) W' ∧ KpP E H W1 W') ∨ (e = .returned (.bool false) ∧ Jx (pre ++ [x]) W' ∧ KpP E H W1 W'))
    (h0 : J [] W) (hn : 1 ≤ n) :
    CallsIn Fence.wide n Tryz.prog 124 #[v, .func (.yield l) #[] #[]] W fun e W' => (∃ v, e = .returned v) ∧ (J L W' ∨ ∃ pre, pre <+: L ∧ Jx pre W') := by
  obtain ⟨xa, xc, rfl⟩ := own_form hrow
  have HJ := Lib.hid hJ
  have HY := Lib.hid hY
  have HR := Lib.hid hrow
  have HO := Lib.hid hoff
  have H0 := Lib.hid h0
  clear hJ hY hrow hoff h0
  refine callsIn_of_wp Tryz.func124 rfl trivial ?_ rfl
  simp only [Tryz.ntmps124, List.size_toArray, List.length_cons, List.length_nil, Nat.reduceAdd, Nat.reduceSub, Array.replicate_succ, Array.replicate_zero, List.push_toArray, List.append_toArray, List.nil_append, List.cons_append]
  gi_wp2
  gi_loopw [8] (fun i wr => ∃ k, k ≤ L.length ∧ i = .int .i64 (k : Int) ∧ Hid (J (L.take k) wr) ∧ Hid (wr.ownsRow B 30 11 (.slice xa L.length xc) L.length (objsV L)) ∧ Hid (∀ k, (Value.slice xa L.length xc).ownBlock = some k → ¬E k ∧ Off H wr k)) (fun i _ => L.length - (intOf i).toNat)
  case atStart => exact ⟨0, Nat.zero_le _, rfl, by rw [List.take_zero]; exact H0, HR, HO⟩
  case round =>
    obtain ⟨k, hk, rfl, HJR, HRR, HOR⟩ := hrel
    by_cases hlt : k < L.length
    · obtain ⟨g, cap, hgv, ⟨o0, o1, o2, o3, o4, o5, o6, o7, o8, o9, o10⟩, _⟩ := own_obj HRR.out k hlt
      injection hgv with hxa _ hxc
      subst hxa hxc
      have HT := Lib.hid (take_last L k hlt)
      obtain ⟨x, hx⟩ : ∃ x, L[k] = x := ⟨_, rfl⟩
      rw [hx] at o0 o1 o2 o3 o4 o5 o6 o7 o8 o9 o10 HT
      have d0 : (0 : Int) ≤ k := by omega
      have d1 : (k : Int) < L.length := by omega
      clear hx
      have hb := below_new wr (.cells (ocs x) 30)
      obtain ⟨fn, tmps, assign, body, hy, hR⟩ := HY.out (L.take k) x (wr.alloc (.cells (ocs x) 30)) (OwnFrom.later HJ.out HJR.out hb) (by rw [← HT.out]; exact List.take_prefix _ _)
      have HRB := Lib.hid (own11_later HRR.out (fun r hr => hb.block r (World.ownsRow.lt HRR.out r hr).2))
      have HOB := Lib.hid (show ∀ r, (Value.slice (some ⟨g, 0, none⟩) L.length xc).ownBlock = some r → ¬E r ∧ Off H (wr.alloc (.cells (ocs x) 30)) r from fun r hr => ⟨(HOR.out r hr).1, (HOR.out r hr).2.later hb⟩)
      unfold encO ocs at hy
      unfold ocs at hR HRB HOB
      clear hb
      gi_wp2
      refine hR.mono ?_
      rintro e w3 (⟨rfl, hJ3, hk3⟩ | ⟨rfl, hJ3, hk3⟩)
      · have HJ3 := Lib.hid hJ3
        have HR3 := Lib.hid (row_kept HRB.out hk3 HOB.out)
        have HO3 := Lib.hid (show ∀ r, (Value.slice (some ⟨g, 0, none⟩) L.length xc).ownBlock = some r → ¬E r ∧ Off H w3 r from fun r hr => ⟨(HOB.out r hr).1, hk3.off (HOB.out r hr).2 (World.ownsRow.lt HRB.out r hr).2⟩)
        clear hJ3 hk3 hy hR o0 o1 o2 o3 o4 o5 o6 o7 o8 o9 o10
        gi_wp2
        go_roundw
        case rel => exact ⟨k + 1, by omega, by go_num, Lib.hid (by rw [HT.out]; exact HJ3.out), HR3, HO3⟩
        case measure => simp [intOf]; omega
      · have HJ3 := Lib.hid hJ3
        clear hJ3 hk3 hy hR o0 o1 o2 o3 o4 o5 o6 o7 o8 o9 o10
        gi_wp2
        refine bodyPost_ret (results_none rfl _ _ _) rfl ?_
        exact ⟨⟨_, rfl⟩, .inr ⟨_, by rw [← HT.out]; exact List.take_prefix _ _, HJ3.out⟩⟩
    · obtain rfl : k = L.length := by omega
      have HJF := Lib.hid HJR.out
      rw [List.take_length] at HJF
      gi_wp2
      go_end0
      exact ⟨⟨_, rfl⟩, .inl HJF.out⟩
set_option maxRecDepth 100000 in
set_option maxHeartbeats 2000000 in
theorem field1_in (n l c1 c2 lo b : Nat) (G : Ghost) (S : StoreL) (u : Value) (os : List Int) (E H : Nat → Prop) (W : World) (hE : ∀ k, E k → k < W.heap.size) (h1 : HdAt W c1 (.pointer (some ⟨b, 0, none⟩))) (h2 : HdAt W c2 u) (h : StoreAt W lo b G S) (hS : WfS S) (hl : S.objs.length ≤ 1000) (hu : IntsAt W u os) (hos : os.length ≤ 1000) (hH : Heads H W)
    (J Jx : List ObjL → World → Prop) (hJ : OwnFrom W.heap.size J)
    (hY : ∀ pre (x : ObjL) W1, J pre W1 → pre ++ [x] <+: fieldL S os → YieldAt Fence.wide (n - 1 - 1) Tryz.prog l (encO x) W1 fun e W' =>
      (e = .returned (.bool true) ∧ J (pre ++ [x]) W' ∧ KpP E H W1 W') ∨ (e = .returned (.bool false) ∧ Jx (pre ++ [x]) W' ∧ KpP E H W1 W'))
    (h0 : J [] W) (hn : 2 ≤ n) :
    CallsIn Fence.wide n Tryz.prog 123 #[.func (.yield l) #[] #[], .pointer (some ⟨c1, 0, none⟩), .pointer (some ⟨c2, 0, none⟩)] W fun e W' => (∃ v, e = .returned v) ∧ (J (fieldL S os) W' ∨ ∃ pre, pre <+: fieldL S os ∧ Jx pre W') := by
  have HJ := Lib.hid hJ
  have HY := Lib.hid hY
  have HE := Lib.hid hE
  have HH := Lib.hid hH
  have H0 := Lib.hid h0
  have HON := Lib.hid (onField_any h hS hl hu hos)
  have k1 := h1.cell
  have k2 := h2.cell
  have hlen : (fieldL S os).length ≤ 1000 := Nat.le_trans (selO_len _ _ _) ((hS.short hl).2 0 3 ⟨by have := h.n1; omega, by decide, by decide, fun _ => rfl⟩)
  obtain ⟨ua, uc, rfl⟩ := hu.form
  clear hJ hY hE hH h0 h1 h2 h hS hu
  have hn1 : 1 ≤ n := by omega
  refine callsIn_of_wp Tryz.func123 rfl trivial ?_ rfl
  simp only [Tryz.ntmps123, List.size_toArray, List.length_cons, List.length_nil, Nat.reduceAdd, Nat.reduceSub, Array.replicate_succ, Array.replicate_zero, List.push_toArray, List.append_toArray, List.nil_append, List.cons_append]
  gi_wp2_with fail
  refine ⟨trivial, (callsIn_wide.2 HON.out).mono ?_⟩
  rintro e w1 ⟨v, rfl, ho, hb1⟩
  have HT := Lib.hid (tell_in (n - 1) l W.heap.size v (fieldL S os) E H w1 ho (fun k hk => ⟨fun e => by have := HE.out k e; have := (World.ownsRow.lt ho k hk).1; omega, HH.out.off (World.ownsRow.lt ho k hk).1 hb1⟩) hlen J Jx HJ.out HY.out (OwnFrom.later HJ.out H0.out hb1) (by omega))
  obtain ⟨xa, xc, rfl⟩ := own_form ho
  clear ho hb1
  gi_wp2_with fail
  refine ⟨trivial, HT.out.mono ?_⟩
  rintro e w2 ⟨⟨z, rfl⟩, hor⟩
  have HOR := Lib.hid hor
  clear hor
  gi_wp2
  go_end0
  exact ⟨⟨_, rfl⟩, HOR.out⟩
/-- The function value that Field returns keeps the contract of the law on ranges. -/
theorem field_seq (n : Nat) (hn : 2 ≤ n) {w : World} {c1 c2 lo b : Nat} {G : Ghost} {S : StoreL} {u : Value} {os : List Int} (E H : Nat → Prop) (hE : ∀ k, E k → k < w.heap.size) (h1 : HdAt w c1 (.pointer (some ⟨b, 0, none⟩))) (h2 : HdAt w c2 u) (h : StoreAt w lo b G S) (hS : WfS S) (hl : S.objs.length ≤ 1000) (hu : IntsAt w u os) (hos : os.length ≤ 1000) (hH : Heads H w) :
    SeqW Fence.wide n Tryz.prog 123 #[.pointer (some ⟨c1, 0, none⟩), .pointer (some ⟨c2, 0, none⟩)] encO (fun l => KpP (fun k => E k ∨ k = l) H) (fun pre x => pre ++ [x] <+: fieldL S os) (fun xs _ => xs = fieldL S os) (fun pre _ => pre <+: fieldL S os) w := by
  intro l J Jx W hW hl1 hl2 hJ _ hY h0
  refine (field1_in n l c1 c2 lo b G S u os (fun k => E k ∨ k = l) H W (fun k hk => by rcases hk with hk | rfl; exact Nat.lt_of_lt_of_le (hE k hk) hW.size; exact hl2) (h1.later hW) (h2.later hW) (h.later hW) hS hl (hu.later hW) hos (hH.later hW) J Jx hJ ?_ h0 hn).mono ?_
  · intro pre x W1 hj ht
    obtain ⟨fn, tmps, assign, body, hy, hR⟩ := hY pre x W1 hj ht
    exact ⟨fn, tmps, assign, body, hy, roundIn_wide hR⟩
  · rintro e W' ⟨h1, h2 | h2⟩
    · exact ⟨h1, .inl ⟨_, rfl, h2⟩⟩
    · exact ⟨h1, .inr h2⟩
end Go.Proofs.YtjgjhfeopmakaaaGreat

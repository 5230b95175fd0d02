/- All (layer 6): what it tells, whatever its rounds make of the store. -/
import Derived.Test.YtbbbkpadadeolaaJu
import Derived.Test.YtbbbkpadadeolaaRg
namespace Go.Proofs.Ytbbbkpadadeolaa
open Go.RowKit Go.Maps
attribute [local go_sem] Oper.semAt_some

theorem objAll_any (p : Option Addr) (w : World) : Calls Try.prog 28 #[.pointer p] w (RetFn w 56 (.pointer p)) := by
  have hmf := @mk_func
  go_enter Try.func28, Try.ntmps28
  go_wp2
  go_ret
  exact ⟨rfl, HdAt.new w _ _, below_new w _⟩
set_option maxRecDepth 100000 in
set_option maxHeartbeats 2000000 in
theorem objs1_in (n l c1 lo b : Nat) (G : Ghost) (S : StoreL) (E H : Nat → Prop) (W : World) (hE : ∀ k, E k → k < W.heap.size) (h1 : HdAt W c1 (.pointer (some ⟨b, 0, none⟩))) (h : StoreAt W lo b G S) (hl : S.objs.length ≤ 1000) (hH : Heads H W)
    (J Jx : List ObjL → World → Prop) (hJ : OwnFrom W.heap.size J)
    (hY : ∀ pre (x : ObjL) W1, J pre W1 → pre ++ [x] <+: S.objs → YieldAt Fence.wide (n - 1 - 1) Try.prog l (encO x) W1 fun e W' =>
      (e = .returned (.bool true) ∧ J (pre ++ [x]) W' ∧ KpP E H W1 W') ∨ (e = .returned (.bool false) ∧ Jx (pre ++ [x]) W' ∧ KpP E H W1 W'))
    (h0 : J [] W) (hn : 2 ≤ n) :
    CallsIn Fence.wide n Try.prog 56 #[.func (.yield l) #[] #[], .pointer (some ⟨c1, 0, none⟩)] W fun e W' => (∃ v, e = .returned v) ∧ (J (S.objs) W' ∨ ∃ pre, pre <+: S.objs ∧ Jx pre W') := by
  have HJ := Lib.hid hJ
  have HY := Lib.hid hY
  have HE := Lib.hid hE
  have HH := Lib.hid hH
  have H0 := Lib.hid h0
  have hob := h.ob
  obtain ⟨xo, xd, hov⟩ := own_form hob
  have k1 := h1.cell
  have k2 : W.cell? ⟨b, 2, none⟩ = some (.slice xo S.objs.length xd) := by rw [cell_of_row W b 2 _ _ _ h.hd, ← hov]; rfl
  rw [hov] at hob
  have HON := Lib.hid (clone_objs hob hl)
  clear hJ hY hE hH h0 h1 h hob hov
  have hn1 : 1 ≤ n := by omega
  refine callsIn_of_wp Try.func56 rfl trivial ?_ rfl
  simp only [Try.ntmps56, List.size_toArray, List.length_cons, List.length_nil, Nat.reduceAdd, Nat.reduceSub, Array.replicate_succ, Array.replicate_zero, List.push_toArray, List.append_toArray, List.nil_append, List.cons_append]
  gi_wp2_with fail
  refine ⟨trivial, (callsIn_wide.2 HON.out).mono ?_⟩
  rintro e w1 ⟨v, rfl, ho, hb1⟩
  have HT := Lib.hid (tell_in (n - 1) l W.heap.size v (S.objs) E H w1 ho (fun k hk => ⟨fun e => by have := HE.out k e; have := (World.ownsRow.lt ho k hk).1; omega, HH.out.off (World.ownsRow.lt ho k hk).1 hb1⟩) hl J Jx HJ.out HY.out (OwnFrom.later HJ.out H0.out hb1) (by omega))
  obtain ⟨xa, xc, rfl⟩ := own_form ho
  clear ho hb1
  gi_wp2_with fail
  refine ⟨trivial, HT.out.mono ?_⟩
  rintro e w2 ⟨⟨z, rfl⟩, hor⟩
  have HOR := Lib.hid hor
  clear hor
  gi_wp2
  go_end0
  exact ⟨⟨_, rfl⟩, HOR.out⟩
/-- The function value that All returns keeps the contract of the law on ranges. -/
theorem objs_seq (n : Nat) (hn : 2 ≤ n) {w : World} {c1 lo b : Nat} {G : Ghost} {S : StoreL} (E H : Nat → Prop) (hE : ∀ k, E k → k < w.heap.size) (h1 : HdAt w c1 (.pointer (some ⟨b, 0, none⟩))) (h : StoreAt w lo b G S) (hl : S.objs.length ≤ 1000) (hH : Heads H w) :
    SeqW Fence.wide n Try.prog 56 #[.pointer (some ⟨c1, 0, none⟩)] encO (fun l => KpP (fun k => E k ∨ k = l) H) (fun pre x => pre ++ [x] <+: S.objs) (fun xs _ => xs = S.objs) (fun pre _ => pre <+: S.objs) w := by
  intro l J Jx W hW hl1 hl2 hJ _ hY h0
  refine (objs1_in n l c1 lo b G S (fun k => E k ∨ k = l) H W (fun k hk => by rcases hk with hk | rfl; exact Nat.lt_of_lt_of_le (hE k hk) hW.size; exact hl2) (h1.later hW) (h.later hW) hl (hH.later hW) J Jx hJ ?_ h0 hn).mono ?_
  · intro pre x W1 hj ht
    obtain ⟨fn, tmps, assign, body, hy, hR⟩ := hY pre x W1 hj ht
    exact ⟨fn, tmps, assign, body, hy, roundIn_wide hR⟩
  · rintro e W' ⟨h1, h2 | h2⟩
    · exact ⟨h1, .inl ⟨_, rfl, h2⟩⟩
    · exact ⟨h1, .inr h2⟩
end Go.Proofs.Ytbbbkpadadeolaa

/- Ranges over a pile's things: what seat q's program did not hold. -/
import Derived.Test.YtjgjhfeopmakaaaGreatFs
import Derived.RangeFuncNested
import Derived.RangeFuncBound
import Derived.RangeFuncCalls
import Derived.RangeFuncLeaves
import Derived.RangeFuncBox
import Derived.RangeFuncWrites
import Derived.Shelf.Abstract
import Derived.WalkKit
import Derived.OwnWalkIn
import Derived.TacticsInMore
import Derived.LoopNIn
import Derived.LoopIn
namespace Go.Proofs.YtjgjhfeopmakaaaGreat
open Go.RowKit
variable {F : Fence} {n : Nat} {P : Program}
end Go.Proofs.YtjgjhfeopmakaaaGreat
namespace Go.Proofs.YtjgjhfeopmakaaaGreat
open Go.RowKit
variable {F : Fence} {n : Nat} {P : Program}
end Go.Proofs.YtjgjhfeopmakaaaGreat
namespace Go.Proofs.YtjgjhfeopmakaaaGreat
open Go.RowKit
set_option maxRecDepth 100000 in
set_option maxHeartbeats 2000000 in
theorem all1_in (n : Nat) (l c bp lo : Nat) (gp : Option Nat) (L : List Int) (E H : Nat → Prop) (W : World) (hE : ∀ k, E k → k < W.heap.size) (hc : HdAt W c (.pointer (some ⟨bp, 0, none⟩))) (hp : PileAt W lo bp gp L) (hL : L.length ≤ 1000) (hH : Heads H W)
    (J Jx : List AItem → World → Prop) (hJ : OwnFrom W.heap.size J)
    (hY : ∀ pre (x : AItem) W1, J pre W1 → pre ++ [x] <+: L.zipIdx → YieldAt Fence.wide (n - 1) Tryz.prog l (encA x) W1 fun e W' =>
      (e = .returned (.bool true) ∧ J (pre ++ [x]) W' ∧ KpP E H W1 W') ∨ (e = .returned (.bool false) ∧ Jx (pre ++ [x]) W' ∧ KpP E H W1 W'))
    (h0 : J [] W) (hn : 1 ≤ n) :
    CallsIn Fence.wide n Tryz.prog 131 #[.func (.yield l) #[] #[], .pointer (some ⟨c, 0, none⟩)] W fun e W' => (∃ v, e = .returned v) ∧
      ((∃ xs, xs = L.zipIdx ∧ J xs W') ∨ (∃ pre, pre <+: L.zipIdx ∧ Jx pre W')) := by
  have HJ := Lib.hid hJ
  have HY := Lib.hid hY
  have HE := Lib.hid hE
  have HH := Lib.hid hH
  have HP := Lib.hid (list_any hp hL)
  have HL := Lib.hid hL
  have c0 := hc.cell
  clear hJ hY hE hH hp hL hc
  refine callsIn_of_wp Tryz.func131 rfl trivial ?_ rfl
  simp only [Tryz.ntmps131, List.size_toArray, List.length_cons, List.length_nil, Nat.reduceAdd, Nat.reduceSub, Array.replicate_succ, Array.replicate_zero, List.push_toArray, List.append_toArray, List.nil_append, List.cons_append]
  gi_wp2_with fail
  refine ⟨trivial, (callsIn_wide.2 HP.out).mono ?_⟩
  rintro e w1 ⟨v, rfl, ho, hb1⟩
  have hi := own_ints ho
  have hr : ∀ k, v.ownBlock = some k → W.heap.size ≤ k ∧ Off H w1 k := fun k hk => ⟨(World.ownsRow.lt ho k hk).1, HH.out.off (World.ownsRow.lt ho k hk).1 hb1⟩
  obtain ⟨xa, xc, rfl⟩ := hi.form
  have HI := Lib.hid hi
  have HR := Lib.hid hr
  have HJ1 := Lib.hid (OwnFrom.later HJ.out h0 hb1)
  have HS1 := Lib.hid hb1.size
  clear ho hb1 hi hr h0 c0
  gi_wp2
  gi_loopw [8] (fun i wr => ∃ k, k ≤ L.length ∧ i = .int .i64 (k : Int) ∧ Hid (J (L.zipIdx.take k) wr) ∧ Hid (IntsAt wr (.slice xa L.length xc) L) ∧ Hid (∀ k, (Value.slice xa L.length xc).ownBlock = some k → W.heap.size ≤ k ∧ Off H wr k)) (fun i _ => L.length - (intOf i).toNat)
  case atStart => exact ⟨0, Nat.zero_le _, rfl, HJ1, HI, HR⟩
  case round =>
    obtain ⟨k, hk, rfl, HJR, HIR, HRR⟩ := hrel
    by_cases hlt : k < L.length
    · obtain ⟨r, off, hxa, hr, c1⟩ := HIR.out.at k hlt
      have hz := zip_at L k hlt
      obtain ⟨x, hx⟩ : ∃ x, L[k] = x := ⟨_, rfl⟩
      rw [hx] at c1 hz
      have HZ := Lib.hid hz
      subst hxa
      clear hx hz
      obtain ⟨fn, tmps, assign, body, hy, hR⟩ := HY.out (L.zipIdx.take k) (x, k) wr HJR.out (by rw [← HZ.out]; exact List.take_prefix _ _)
      simp only [encA] at hy
      gi_wp2
      refine hR.mono ?_
      rintro e w3 (⟨rfl, hJ3, hk3⟩ | ⟨rfl, hJ3, hk3⟩)
      · have HJ3 := Lib.hid hJ3
        have HI3 := Lib.hid (vals_kp HIR.out hk3 (fun k hk => ⟨fun e => by have := HE.out k e; have := (HRR.out k hk).1; omega, (HRR.out k hk).2⟩))
        have HR3 := Lib.hid (show ∀ k, (Value.slice (some ⟨r, off, none⟩) L.length xc).ownBlock = some k → W.heap.size ≤ k ∧ Off H w3 k from fun k hk => ⟨(HRR.out k hk).1, hk3.off (HRR.out k hk).2 (by rw [← Option.some.inj (show some r = some k from hk)]; exact hr)⟩)
        have hL1 := HL.out
        clear hJ3 hk3 hy hR c1
        gi_wp2
        go_roundw
        case rel => exact ⟨k + 1, by omega, by go_num, Lib.hid (by rw [HZ.out]; exact HJ3.out), HI3, HR3⟩
        case measure => simp [intOf]; omega
      · have HJ3 := Lib.hid hJ3
        clear hJ3 hk3 hy hR c1
        gi_wp2
        refine bodyPost_ret (results_none rfl _ _ _) rfl ?_
        exact ⟨⟨_, rfl⟩, .inr ⟨_, by rw [← HZ.out]; exact List.take_prefix _ _, HJ3.out⟩⟩
    · have hkl : L.zipIdx.take k = L.zipIdx := List.take_of_length_le (by simp; omega)
      rw [hkl] at HJR
      gi_wp2
      go_end0
      exact ⟨⟨_, rfl⟩, .inl ⟨_, rfl, HJR.out⟩⟩
/-- The function value that All returns keeps the contract of the law on ranges. -/
theorem all_seq (n : Nat) (hn : 1 ≤ n) {w : World} {c bp lo : Nat} {gp : Option Nat} {L : List Int} (E H : Nat → Prop) (hE : ∀ k, E k → k < w.heap.size) (hc : HdAt w c (.pointer (some ⟨bp, 0, none⟩))) (hp : PileAt w lo bp gp L) (hL : L.length ≤ 1000) (hH : Heads H w) :
    SeqW Fence.wide n Tryz.prog 131 #[.pointer (some ⟨c, 0, none⟩)] encA (fun l => KpP (fun k => E k ∨ k = l) H) (fun pre x => pre ++ [x] <+: L.zipIdx) (fun xs _ => xs = L.zipIdx) (fun pre _ => pre <+: L.zipIdx) w := by
  intro l J Jx W hW hl1 hl2 hJ _ hY h0
  exact all1_in n l c bp lo gp L (fun k => E k ∨ k = l) H W (fun k hk => by rcases hk with hk | rfl; exact Nat.lt_of_lt_of_le (hE k hk) hW.size; exact hl2) (hc.later hW) (hp.later hW) hL (hH.later hW) J Jx hJ hY h0 hn
end Go.Proofs.YtjgjhfeopmakaaaGreat
namespace Go.Proofs.YtjgjhfeopmakaaaGreat
open Go.RowKit
attribute [local go_sem] Oper.semAt_some
theorem all_any (p : Option Addr) (w : World) : Calls Tryz.prog 129 #[.pointer p] w (RetFn w 131 (.pointer p)) := by
  have hmf := @mk_func
  go_enter Tryz.func129, Tryz.ntmps129
  go_wp2
  go_ret
  exact ⟨rfl, HdAt.new w _ _, below_new w _⟩
end Go.Proofs.YtjgjhfeopmakaaaGreat
namespace Go.Proofs.YtjgjhfeopmakaaaGreat
open Go.RowKit
attribute [local go_sem] Oper.semAt_some
theorem nil_seq (n : Nat) (hn : 1 ≤ n) {w : World} {c : Nat} (Kp : Nat → World → World → Prop) (hc : HdAt w c (.pointer none)) :
    SeqW Fence.wide n Tryz.prog 131 #[.pointer (some ⟨c, 0, none⟩)] encA Kp (fun _ _ => False) (fun xs _ => xs = []) (fun _ _ => False) w := by
  intro l J Jx W hW hl1 hl2 hJ hJx _ h0
  have c1c := (hc.later hW).cell
  have HJ := Lib.hid hJ
  have H0 := Lib.hid h0
  clear hJ hJx h0 hW hc
  refine callsIn_of_wp Tryz.func131 rfl trivial ?_ rfl
  simp only [Tryz.ntmps131, List.size_toArray, List.length_cons, List.length_nil, Nat.reduceAdd, Nat.reduceSub, Array.replicate_succ, Array.replicate_zero, List.push_toArray, List.append_toArray, List.nil_append, List.cons_append]
  gi_wp2_with fail
  refine ⟨trivial, (callsIn_wide.2 (list_nil W)).mono ?_⟩
  rintro e w1 ⟨rfl, hb1⟩
  have HJ1 := Lib.hid (OwnFrom.later HJ.out H0.out hb1)
  clear hb1
  gi_wp2
  gi_loopw [8] (fun i wr => i = .int .i64 0 ∧ wr = w1) (fun _ _ => 0)
  case atStart => exact ⟨rfl, rfl⟩
  case round =>
    obtain ⟨rfl, rfl⟩ := hrel
    gi_wp2
    go_end0
    exact ⟨⟨_, rfl⟩, .inl ⟨_, rfl, HJ1.out⟩⟩
end Go.Proofs.YtjgjhfeopmakaaaGreat

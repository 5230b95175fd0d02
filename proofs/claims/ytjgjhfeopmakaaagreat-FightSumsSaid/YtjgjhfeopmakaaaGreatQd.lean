/- Who attacks, who blocks: attacking, Blockers, Attackers and what it tells one by one (layer 17). -/
import Derived.Test.YtjgjhfeopmakaaaGreatQc
import Derived.RangeFuncNested
import Derived.RangeFuncBound
import Derived.RangeFuncCalls
import Derived.RangeFuncBox
import Derived.RangeFuncWrites
import Derived.WalkKit
import Derived.OwnWalkIn
import Derived.TacticsInMore
import Derived.LoopNIn
import Derived.LoopIn
namespace Go.Proofs.YtjgjhfeopmakaaaGreat
open Go.RowKit Go.Maps
attribute [local go_sem] Oper.semAt_some

def attackL (B : BoardL) (team : Int) : List Int := selP B.S (atkB B.T team) (crsL B.S)
def blockL (B : BoardL) (i : Int) : List Int := if i < 1 then [] else selP B.S (fun o => decide (o.block = i)) (crsL B.S)
theorem attackL_len {w : World} {lo : Nat} {g : GhostB} {B : BoardL} (h : BoardAt w lo g B) (team : Int) : (attackL B team).length ≤ 1000 := by
  have h1 := selP_len B.S (atkB B.T team) (crsL B.S)
  have h2 := crsL_len h.wf h.len h.st.n1
  unfold attackL
  unfold crsL at h1 ⊢
  rw [List.length_map] at h1
  omega
theorem blockL_len {w : World} {lo : Nat} {g : GhostB} {B : BoardL} (h : BoardAt w lo g B) (i : Int) : (blockL B i).length ≤ 1000 := by
  have h1 := selP_len B.S (fun o => decide (o.block = i)) (crsL B.S)
  have h2 := crsL_len h.wf h.len h.st.n1
  unfold blockL
  split
  · simp
  · unfold crsL at h1 ⊢
    rw [List.length_map] at h1
    omega
set_option maxRecDepth 100000 in
set_option maxHeartbeats 4000000 in
theorem attacking_any {w : World} {lo : Nat} {g : GhostB} {B : BoardL} (h : BoardAt w lo g B) (team : Int) : Calls Tryz.prog 42 #[.pointer (some ⟨g.q, 0, none⟩), .int .i64 team] w (RetList w (attackL B team)) := by
  have hmf := @mk_func
  have hb1 := below_new w (.cells #[.pointer (some ⟨g.q, 0, none⟩)] 26)
  have hb2 := below_new (w.alloc (.cells #[.pointer (some ⟨g.q, 0, none⟩)] 26)) (.cells #[.int .i64 team] 3)
  have h1 := (HdAt.new w (.pointer (some ⟨g.q, 0, none⟩)) 26).later hb2
  have h2 := HdAt.new (w.alloc (.cells #[.pointer (some ⟨g.q, 0, none⟩)] 26)) (.int .i64 team) 3
  rw [World.size_alloc] at h2
  have hb := stepB hb1 hb2
  have HC := Lib.hid (creat2_any (h.later hb) w.heap.size (w.heap.size + 1) (atkB B.T team) (fun o W hW => atk1_any ((h.later hb).later hW) team o (h1.later hW) (h2.later hW)))
  have HB := Lib.hid hb
  unfold attackL
  clear h h1 h2 hb hb1 hb2
  go_enter Tryz.func42, Tryz.ntmps42
  go_wp2_with fail
  refine HC.out.mono ?_
  rintro e w1 ⟨v, rfl, ho, hb1⟩
  have HR := Lib.hid (And.intro (own_mono ho HB.out.size) (stepB HB.out hb1))
  clear ho hb1
  dsimp only
  go_wp2
  go_ret
  exact ⟨v, rfl, HR.out⟩
set_option maxRecDepth 100000 in
set_option maxHeartbeats 4000000 in
theorem blockers_any {w : World} {lo : Nat} {g : GhostB} {B : BoardL} (h : BoardAt w lo g B) (i : Int) : Calls Tryz.prog 51 #[.pointer (some ⟨g.q, 0, none⟩), .int .i64 i] w (RetList w (blockL B i)) := by
  have hmf := @mk_func
  have hb := below_new w (.cells #[.int .i64 i] 3)
  have h1 := HdAt.new w (.int .i64 i) 3
  have HC := Lib.hid (creat1_any (h.later hb) w.heap.size (fun o => decide (o.block = i)) (fun o W hW => blk1_any i o (h1.later hW)))
  have HB := Lib.hid hb
  unfold blockL
  clear h h1 hb
  by_cases hi : i < 1
  · have d0 : decide (i < 1) = true := decide_eq_true hi
    rw [if_pos hi]
    clear HC
    go_enter Tryz.func51, Tryz.ntmps51
    go_wp2
    go_ret
    exact ⟨_, rfl, World.ownsRow_nil _ _ _ _, HB.out⟩
  · have d0 : decide (i < 1) = false := decide_eq_false hi
    rw [if_neg hi]
    go_enter Tryz.func51, Tryz.ntmps51
    go_wp2_with fail
    refine HC.out.mono ?_
    rintro e w1 ⟨v, rfl, ho, hb1⟩
    have HR := Lib.hid (And.intro (own_mono ho HB.out.size) (stepB HB.out hb1))
    clear ho hb1
    dsimp only
    go_wp2
    go_ret
    exact ⟨v, rfl, HR.out⟩
/-- What Attackers returns. -/
def RetAtk (w : World) (q : Nat) (team : Int) (e : Ending) (w' : World) : Prop := e = .returned (.func (.func 41) #[] #[.pointer (some ⟨w.heap.size, 0, none⟩), .pointer (some ⟨w.heap.size + 1, 0, none⟩)]) ∧ HdAt w' w.heap.size (.pointer (some ⟨q, 0, none⟩)) ∧ HdAt w' (w.heap.size + 1) (.int .i64 team) ∧ Below w.heap.size w w'
set_option maxRecDepth 100000 in
theorem attackers_any (q : Nat) (team : Int) (w : World) : Calls Tryz.prog 18 #[.pointer (some ⟨q, 0, none⟩), .int .i64 team] w (RetAtk w q team) := by
  have hmf := @mk_func
  have hb1 := below_new w (.cells #[.pointer (some ⟨q, 0, none⟩)] 26)
  have hb2 := below_new (w.alloc (.cells #[.pointer (some ⟨q, 0, none⟩)] 26)) (.cells #[.int .i64 team] 3)
  have h1 := (HdAt.new w (.pointer (some ⟨q, 0, none⟩)) 26).later hb2
  have h2 := HdAt.new (w.alloc (.cells #[.pointer (some ⟨q, 0, none⟩)] 26)) (.int .i64 team) 3
  rw [World.size_alloc] at h2
  have HR := Lib.hid (And.intro h1 (And.intro h2 (stepB hb1 hb2)))
  clear hb1 hb2 h1 h2
  go_enter Tryz.func18, Tryz.ntmps18
  go_wp2
  go_ret
  exact ⟨rfl, HR.out⟩
set_option maxRecDepth 100000 in
set_option maxHeartbeats 4000000 in
theorem attk1_in (n : Nat) (l c d lo : Nat) (g : GhostB) (B : BoardL) (team : Int) (E H : Nat → Prop) (W : World) (hE : ∀ k, E k → k < W.heap.size) (hc : HdAt W c (.pointer (some ⟨g.q, 0, none⟩))) (hd : HdAt W d (.int .i64 team)) (hp : BoardAt W lo g B) (hH : Heads H W)
    (J Jx : List Int → World → Prop) (hJ : OwnFrom W.heap.size J)
    (hY : ∀ pre (x : Int) W1, J pre W1 → pre ++ [x] <+: (attackL B team) → YieldAt Fence.wide (n - 1) Tryz.prog l (encF x) W1 fun e W' =>
      (e = .returned (.bool true) ∧ J (pre ++ [x]) W' ∧ KpP E H W1 W') ∨ (e = .returned (.bool false) ∧ Jx (pre ++ [x]) W' ∧ KpP E H W1 W'))
    (h0 : J [] W) (hn : 1 ≤ n) :
    CallsIn Fence.wide n Tryz.prog 41 #[.func (.yield l) #[] #[], .pointer (some ⟨c, 0, none⟩), .pointer (some ⟨d, 0, none⟩)] W fun e W' => (∃ v, e = .returned v) ∧
      ((∃ xs, xs = (attackL B team) ∧ J xs W') ∨ (∃ pre, pre <+: (attackL B team) ∧ Jx pre W')) := by
  have HJ := Lib.hid hJ
  have HY := Lib.hid hY
  have HE := Lib.hid hE
  have HH := Lib.hid hH
  have HP := Lib.hid (attacking_any hp team)
  have HL := Lib.hid (attackL_len hp team)
  have c0 := hc.cell
  have c1 := hd.cell
  obtain ⟨L, hLL⟩ : ∃ L, attackL B team = L := ⟨_, rfl⟩
  rw [hLL] at HP HL HY ⊢
  clear hJ hY hE hH hp hc hd hLL
  refine callsIn_of_wp Tryz.func41 rfl trivial ?_ rfl
  simp only [Tryz.ntmps41, List.size_toArray, List.length_cons, List.length_nil, Nat.reduceAdd, Nat.reduceSub, Array.replicate_succ, Array.replicate_zero, List.push_toArray, List.append_toArray, List.nil_append, List.cons_append]
  gi_wp2_with fail
  refine ⟨trivial, (callsIn_wide.2 HP.out).mono ?_⟩
  rintro e w1 ⟨v, rfl, ho, hb1⟩
  have hi := own_ints ho
  have hr : ∀ k, v.ownBlock = some k → W.heap.size ≤ k ∧ Off H w1 k := fun k hk => ⟨(World.ownsRow.lt ho k hk).1, HH.out.off (World.ownsRow.lt ho k hk).1 hb1⟩
  obtain ⟨xa, xc, rfl⟩ := hi.form
  have HI := Lib.hid hi
  have HR := Lib.hid hr
  have HJ1 := Lib.hid (OwnFrom.later HJ.out h0 hb1)
  have HS1 := Lib.hid hb1.size
  clear ho hb1 hi hr h0 c0 c1
  gi_wp2
  gi_loopw [10] (fun i wr => ∃ k, k ≤ L.length ∧ i = .int .i64 (k : Int) ∧ Hid (J (L.take k) wr) ∧ Hid (IntsAt wr (.slice xa L.length xc) L) ∧ Hid (∀ k, (Value.slice xa L.length xc).ownBlock = some k → W.heap.size ≤ k ∧ Off H wr k)) (fun i _ => L.length - (intOf i).toNat)
  case atStart => exact ⟨0, Nat.zero_le _, rfl, HJ1, HI, HR⟩
  case round =>
    obtain ⟨k, hk, rfl, HJR, HIR, HRR⟩ := hrel
    by_cases hlt : k < L.length
    · obtain ⟨r, off, hxa, hr, c1⟩ := HIR.out.at k hlt
      have hz := take_last L k hlt
      obtain ⟨x, hx⟩ : ∃ x, L[k] = x := ⟨_, rfl⟩
      rw [hx] at c1 hz
      have HZ := Lib.hid hz
      subst hxa
      clear hx hz
      obtain ⟨fn, tmps, assign, body, hy, hR⟩ := HY.out (L.take k) x wr HJR.out (by rw [← HZ.out]; exact List.take_prefix _ _)
      simp only [encF] at hy
      gi_wp2
      refine hR.mono ?_
      rintro e w3 (⟨rfl, hJ3, hk3⟩ | ⟨rfl, hJ3, hk3⟩)
      · have HJ3 := Lib.hid hJ3
        have HI3 := Lib.hid (vals_kp HIR.out hk3 (fun k hk => ⟨fun e => by have := HE.out k e; have := (HRR.out k hk).1; omega, (HRR.out k hk).2⟩))
        have HR3 := Lib.hid (show ∀ k, (Value.slice (some ⟨r, off, none⟩) L.length xc).ownBlock = some k → W.heap.size ≤ k ∧ Off H w3 k from fun k hk => ⟨(HRR.out k hk).1, hk3.off (HRR.out k hk).2 (by rw [← Option.some.inj (show some r = some k from hk)]; exact hr)⟩)
        have hL1 := HL.out
        clear hJ3 hk3 hy hR c1
        gi_wp2
        go_roundw
        case rel => exact ⟨k + 1, by omega, by go_num, Lib.hid (by rw [HZ.out]; exact HJ3.out), HI3, HR3⟩
        case measure => simp [intOf]; omega
      · have HJ3 := Lib.hid hJ3
        clear hJ3 hk3 hy hR c1
        gi_wp2
        refine bodyPost_ret (results_none rfl _ _ _) rfl ?_
        exact ⟨⟨_, rfl⟩, .inr ⟨_, by rw [← HZ.out]; exact List.take_prefix _ _, HJ3.out⟩⟩
    · have hkl : L.take k = L := List.take_of_length_le (by omega)
      rw [hkl] at HJR
      gi_wp2
      go_end0
      exact ⟨⟨_, rfl⟩, .inl ⟨_, rfl, HJR.out⟩⟩
/-- The function value that Attackers returns keeps the contract of the law on ranges. -/
theorem attk_seq (n : Nat) (hn : 1 ≤ n) {w : World} {c d lo : Nat} {g : GhostB} {B : BoardL} {team : Int} (E H : Nat → Prop) (hE : ∀ k, E k → k < w.heap.size) (hc : HdAt w c (.pointer (some ⟨g.q, 0, none⟩))) (hd : HdAt w d (.int .i64 team)) (hp : BoardAt w lo g B) (hH : Heads H w) :
    SeqW Fence.wide n Tryz.prog 41 #[.pointer (some ⟨c, 0, none⟩), .pointer (some ⟨d, 0, none⟩)] encF (fun l => KpP (fun k => E k ∨ k = l) H) (fun pre x => pre ++ [x] <+: attackL B team) (fun xs _ => xs = attackL B team) (fun pre _ => pre <+: attackL B team) w := by
  intro l J Jx W hW hl1 hl2 hJ _ hY h0
  exact attk1_in n l c d lo g B team (fun k => E k ∨ k = l) H W (fun k hk => by rcases hk with hk | rfl; exact Nat.lt_of_lt_of_le (hE k hk) hW.size; exact hl2) (hc.later hW) (hd.later hW) (hp.later hW) (hH.later hW) J Jx hJ hY h0 hn
end Go.Proofs.YtjgjhfeopmakaaaGreat

/- What PileGoes (layer 5) wants beside: going back, the calls of a pile that isn't there. -/
import Derived.Test.YtphcdeppilaceaaFo
namespace Go.Proofs.Ytphcdeppilaceaa
open Go.RowKit
attribute [local go_sem] Oper.semAt_some

def kindB (y x : Int) : Bool := bits BinOp.and IntKind.i64 x 3 == bits BinOp.and IntKind.i64 y 3
theorem goes1_any (x y : Int) (ck : Nat) (w : World) (hc : w.cell? ⟨ck, 0, none⟩ = some (.int .i64 y)) : Calls Try.prog 27 #[.int .i64 x, .pointer (some ⟨ck, 0, none⟩)] w (Same w (.bool (kindB y x))) := by
  go_enter Try.func27, Try.ntmps27
  go_wp2
  go_ret
  exact ⟨rfl, rfl⟩
set_option maxRecDepth 100000 in
set_option maxHeartbeats 2000000 in
theorem so_goes (x y : Int) (ck : Nat) (w : World) (hc : w.cell? ⟨ck, 0, none⟩ = some (.int .i64 y)) : Calls Try.prog 46 #[.func (.func 27) #[] #[.pointer (some ⟨ck, 0, none⟩)], .int .i64 x] w (RetB w (kindB y x)) := by
  have hmf := @mk_func
  have hq := goes1_any x y ck _ (cell_stays (below_new w (.cells #[.bool false] 4)) hc)
  have HQ := Lib.hid hq
  clear hq
  go_enter_defers Try.func46, Try.ntmps46
  go_wp2_with fail
  refine HQ.out.mono ?_
  rintro e w1 ⟨rfl, rfl⟩
  go_wp2
  refine leaves_cons (f := 53) (args := #[.pointer (some ⟨w.heap.size, 0, none⟩)]) (by simp) (by simp [go_sem]) ?_
  refine (cd_so _ _).mono ?_
  rintro e u' w'' ⟨rfl, rfl, rfl⟩
  simp [Leaves, settle, results, Try.results46, go_sem]
  exact ⟨rfl, below_new w _⟩
theorem backward_any (v : Option Addr × Nat × Nat) (w : World) : Calls Try.prog 44 #[.slice v.1 v.2.1 v.2.2] w (RetFn w 52 (.slice v.1 v.2.1 v.2.2)) := by
  have hmf := @mk_func
  go_enter Try.func44, Try.ntmps44
  go_wp2
  go_ret
  exact ⟨rfl, HdAt.new w _ _, below_new w _⟩
theorem zip_rev (L : List Int) (k : Nat) (h : k < L.length) : L.zipIdx.reverse.take (k + 1) = L.zipIdx.reverse.take k ++ [(L[L.length - 1 - k], L.length - 1 - k)] := by
  rw [take_last _ _ (by simpa using h)]
  simp
def fstA (pre : List AItem) : List Int := pre.map (·.1)
theorem fstA_snoc (pre : List AItem) (x : AItem) : fstA (pre ++ [x]) = fstA pre ++ [x.1] := by simp [fstA]
theorem fstA_all (L : List Int) : fstA L.zipIdx.reverse = L.reverse := by simp [fstA, List.map_reverse]
set_option maxRecDepth 100000 in
set_option maxHeartbeats 2000000 in
theorem backward1_in (n : Nat) (l c : Nat) (xa : Option Addr) (xc : Nat) (L : List Int) (E H : Nat → Prop) (W : World) (hc : Boxes H [(c, .slice xa L.length xc)] W) (hcE : ¬E c) (hi : IntsAt W (.slice xa L.length xc) L) (hL : L.length ≤ 1000)
    (hr : ∀ k, (Value.slice xa L.length xc).ownBlock = some k → ¬E k ∧ k < W.heap.size ∧ Off H W k)
    (J Jx : List AItem → World → Prop) (hJ : OwnFrom W.heap.size J)
    (hY : ∀ pre (x : AItem) W1, J pre W1 → pre ++ [x] <+: L.zipIdx.reverse → YieldAt Fence.wide (n - 1) Try.prog l (encA x) W1 fun e W' =>
      (e = .returned (.bool true) ∧ J (pre ++ [x]) W' ∧ KpP E H W1 W') ∨ (e = .returned (.bool false) ∧ Jx (pre ++ [x]) W' ∧ KpP E H W1 W'))
    (h0 : J [] W) (hn : 1 ≤ n) :
    CallsIn Fence.wide n Try.prog 52 #[.func (.yield l) #[] #[], .pointer (some ⟨c, 0, none⟩)] W fun e W' => (∃ v, e = .returned v) ∧
      ((∃ xs, xs = L.zipIdx.reverse ∧ J xs W') ∨ (∃ pre, pre <+: L.zipIdx.reverse ∧ Jx pre W')) := by
  have HJ := Lib.hid hJ
  have HY := Lib.hid hY
  have HI := Lib.hid hi
  have HR := Lib.hid hr
  have HC := Lib.hid hc
  have HL := Lib.hid hL
  have HJ1 := Lib.hid h0
  have c0 := (hc _ (List.mem_singleton.2 rfl)).1.cell
  simp only at c0
  clear hJ hY hL hc h0 hi hr
  refine callsIn_of_wp Try.func52 rfl trivial ?_ rfl
  simp only [Try.ntmps52, List.size_toArray, List.length_cons, List.length_nil, Nat.reduceAdd, Nat.reduceSub, Array.replicate_succ, Array.replicate_zero, List.push_toArray, List.append_toArray, List.nil_append, List.cons_append]
  have hL0 := HL.out
  gi_wp2
  gi_loopw [3] (fun i wr => ∃ k, k ≤ L.length ∧ i = .int .i64 ((L.length : Int) - 1 - (k : Int)) ∧ Hid (J (L.zipIdx.reverse.take k) wr) ∧ Hid (IntsAt wr (.slice xa L.length xc) L) ∧ Hid (Boxes H [(c, .slice xa L.length xc)] wr) ∧ Hid (∀ k, (Value.slice xa L.length xc).ownBlock = some k → ¬E k ∧ k < wr.heap.size ∧ Off H wr k)) (fun i _ => (intOf i + 1).toNat)
  case atStart => exact ⟨0, Nat.zero_le _, by simp, HJ1, HI, HC, HR⟩
  case round =>
    obtain ⟨k, hk, rfl, HJR, HIR, HCR, HRR⟩ := hrel
    by_cases hlt : k < L.length
    · obtain ⟨r, off, hxa, hr, c1⟩ := HIR.out.at (L.length - 1 - k) (by omega)
      have hz := zip_rev L k hlt
      obtain ⟨x, hx⟩ : ∃ x, L[L.length - 1 - k] = x := ⟨_, rfl⟩
      obtain ⟨q, hq⟩ : ∃ q, L.length - 1 - k = q := ⟨_, rfl⟩
      have hqi : (L.length : Int) - 1 - (k : Int) = (q : Int) := by omega
      have c2 := (HCR.out _ (List.mem_singleton.2 rfl)).1.cell
      simp only at c2
      rw [hx] at c1 hz
      rw [hq] at c1 hz
      rw [hqi]
      have HZ := Lib.hid hz
      have HQI := Lib.hid hqi
      have hql : q < L.length := by omega
      have d1 : decide (0 ≤ (q : Int)) = true := decide_eq_true (by omega)
      subst hxa
      clear hx hz hq hqi
      obtain ⟨fn, tmps, assign, body, hy, hR⟩ := HY.out (L.zipIdx.reverse.take k) (x, q) wr HJR.out (by rw [← HZ.out]; exact List.take_prefix _ _)
      simp only [encA] at hy
      gi_wp2
      refine hR.mono ?_
      rintro e w3 (⟨rfl, hJ3, hk3⟩ | ⟨rfl, hJ3, hk3⟩)
      · have HJ3 := Lib.hid hJ3
        have HI3 := Lib.hid (vals_kp HIR.out hk3 (fun k hk => ⟨(HRR.out k hk).1, (HRR.out k hk).2.2⟩))
        have HC3 := Lib.hid (HCR.out.kept hk3 (fun q hq => by rw [List.mem_singleton.1 hq]; exact hcE))
        have HR3 := Lib.hid (show ∀ k, (Value.slice (some ⟨r, off, none⟩) L.length xc).ownBlock = some k → ¬E k ∧ k < w3.heap.size ∧ Off H w3 k from fun k hk => ⟨(HRR.out k hk).1, Nat.lt_of_lt_of_le (HRR.out k hk).2.1 hk3.size, hk3.off (HRR.out k hk).2.2 (HRR.out k hk).2.1⟩)
        have hL1 := HL.out
        clear hJ3 hk3 hy hR c1 c2
        have hqi := HQI.out
        gi_wp2
        go_roundw
        case rel => exact ⟨k + 1, by omega, by go_num, Lib.hid (by rw [HZ.out]; exact HJ3.out), HI3, HC3, HR3⟩
        case measure => simp [intOf]
      · have HJ3 := Lib.hid hJ3
        clear hJ3 hk3 hy hR c1
        gi_wp2
        refine bodyPost_ret (results_none rfl _ _ _) rfl ?_
        exact ⟨⟨_, rfl⟩, .inr ⟨_, by rw [← HZ.out]; exact List.take_prefix _ _, HJ3.out⟩⟩
    · have d1 : decide (0 ≤ (L.length : Int) - 1 - (k : Int)) = false := decide_eq_false (by omega)
      have hkl : L.zipIdx.reverse.take k = L.zipIdx.reverse := List.take_of_length_le (by simp; omega)
      rw [hkl] at HJR
      gi_wp2
      go_end0
      exact ⟨⟨_, rfl⟩, .inl ⟨_, rfl, HJR.out⟩⟩
theorem backward_seq (n : Nat) (hn : 1 ≤ n) {w : World} {c : Nat} {xa : Option Addr} {xc : Nat} {L : List Int} (E H : Nat → Prop) (hc : Boxes H [(c, .slice xa L.length xc)] w) (hcE : ¬E c) (hi : IntsAt w (.slice xa L.length xc) L) (hL : L.length ≤ 1000)
    (hr : ∀ k, (Value.slice xa L.length xc).ownBlock = some k → ¬E k ∧ k < w.heap.size ∧ Off H w k) :
    SeqW Fence.wide n Try.prog 52 #[.pointer (some ⟨c, 0, none⟩)] encA (fun l => KpP (fun k => E k ∨ k = l) H) (fun pre x => pre ++ [x] <+: L.zipIdx.reverse) (fun xs _ => xs = L.zipIdx.reverse) (fun pre _ => pre <+: L.zipIdx.reverse) w := by
  intro l J Jx W hW hl1 hl2 hJ _ hY h0
  have h1 := (hc _ (List.mem_singleton.2 rfl)).1.lt
  simp only at h1
  exact backward1_in n l c xa xc L (fun k => E k ∨ k = l) H W (hc.later hW) (fun e => by rcases e with e | e; exact hcE e; omega) (hi.later hW) hL
    (fun k hk => ⟨fun e => by have := hr k hk; rcases e with e | e; exact this.1 e; omega, Nat.lt_of_lt_of_le (hr k hk).2.1 hW.size, (hr k hk).2.2.later hW⟩) J Jx hJ hY h0 hn
set_option maxRecDepth 100000 in
set_option maxHeartbeats 2000000 in
theorem back1_in (n : Nat) (hn : 3 ≤ n) (l c2 bp lo : Nat) (gp : Option Nat) (L : List Int) (E H : Nat → Prop) (W : World) (hE : ∀ k, E k → k < W.heap.size)
    (hc2 : HdAt W c2 (.pointer (some ⟨bp, 0, none⟩))) (hp : PileAt W lo bp gp L) (hL : L.length ≤ 1000) (hH : Heads H W)
    (J Jx : List Int → World → Prop) (hJ : OwnFrom W.heap.size J) (hJx : OwnFrom W.heap.size Jx)
    (hY : ∀ pre (x : Int) W1, J pre W1 → pre ++ [x] <+: L.reverse → YieldAt Fence.wide (n - 1) Try.prog l (encW x) W1 fun e W' =>
      (e = .returned (.bool true) ∧ J (pre ++ [x]) W' ∧ KpP E H W1 W') ∨ (e = .returned (.bool false) ∧ Jx (pre ++ [x]) W' ∧ KpP E H W1 W'))
    (h0 : J [] W) :
    CallsIn Fence.wide n Try.prog 43 #[.func (.yield l) #[] #[], .pointer (some ⟨c2, 0, none⟩)] W fun e W' => (∃ v, e = .returned v) ∧
      ((∃ xs, xs = L.reverse ∧ J xs W') ∨ (∃ pre, pre <+: L.reverse ∧ Jx pre W')) := by
  have HJ := Lib.hid hJ
  have HJX := Lib.hid hJx
  have HY := Lib.hid hY
  have HE := Lib.hid hE
  have b0 := below_new W (.cells #[.func (.yield l) #[] #[]] 30)
  have HH := Lib.hid (hH.later b0)
  have HP := Lib.hid (list_any (hp.later b0) hL)
  have HL := Lib.hid hL
  have HB0 : Hid (Boxes H [(W.heap.size, .func (.yield l) #[] #[])] (W.alloc (.cells #[.func (.yield l) #[] #[]] 30))) := Lib.hid (fun q hq => by
    rw [List.mem_singleton.1 hq]
    exact ⟨HdAt.new W _ _, hH.off (Nat.le_refl _) b0⟩)
  have HJ0 := Lib.hid (OwnFrom.later hJ h0 b0)
  have c2c := (hc2.later b0).cell
  clear hJ hJx hY hE hH hp hL hc2 h0 b0
  refine callsIn_of_wp_marks Try.func43 rfl trivial ?_ rfl
  simp only [Try.ntmps43, List.size_toArray, List.length_cons, List.length_nil, Nat.reduceAdd, Nat.reduceSub, Array.replicate_succ, Array.replicate_zero, List.push_toArray, List.append_toArray, List.nil_append, List.cons_append]
  gi_wp2_with fail
  refine ⟨trivial, fun _ => by omega, (callsIn_wide.2 HP.out).mono ?_⟩
  rintro e w0 ⟨v, rfl, ho, hb0⟩
  have hi := own_ints ho
  have hrow := World.ownsRow.lt ho
  obtain ⟨xa, xc, rfl⟩ := hi.form
  rw [World.size_alloc] at hrow hb0
  have HI0 := Lib.hid hi
  have HR0 := Lib.hid hrow
  have HBB := Lib.hid (show Below (W.alloc (.cells #[.func (.yield l) #[] #[]] 30)).heap.size (W.alloc (.cells #[.func (.yield l) #[] #[]] 30)) w0 by rw [World.size_alloc]; exact hb0)
  clear hi hrow ho hb0 c2c
  gi_wp2_with fail
  refine ⟨trivial, fun _ => by omega, (callsIn_wide.2 (backward_any (xa, L.length, xc) w0)).mono ?_⟩
  rintro e w1 ⟨rfl, hc3, hb1⟩
  have HBB1 := Lib.hid (stepB HBB.out hb1)
  have HH1 := Lib.hid (HH.out.later HBB1.out)
  have HB1 := Lib.hid (HB0.out.later HBB1.out)
  have HJ1 := Lib.hid (OwnFrom.later HJ.out HJ0.out HBB1.out)
  have HS0 := Lib.hid (show W.heap.size + 1 ≤ w0.heap.size by simpa using HBB.out.size)
  have HS1 := Lib.hid (Nat.le_trans HS0.out hb1.size)
  have HC3 : Hid (Boxes H [(w0.heap.size, .slice xa L.length xc)] w1) := Lib.hid (fun q hq => by
    rw [List.mem_singleton.1 hq]
    exact ⟨hc3, HH.out.off (by simpa using HS0.out) HBB1.out⟩)
  have HI1 := Lib.hid (HI0.out.later hb1)
  have HR1 : Hid (∀ k, (Value.slice xa L.length xc).ownBlock = some k → ¬E k ∧ k < w1.heap.size ∧ Off H w1 k) := Lib.hid (fun k hk => ⟨fun e => by have := HE.out k e; have := HR0.out k hk; omega, Nat.lt_of_lt_of_le (HR0.out k hk).2 hb1.size, HH.out.off (by have := HR0.out k hk; simp; omega) HBB1.out⟩)
  clear hb1 hc3
  gi_wp2_with fail
  have HSEQ := Lib.hid (backward_seq (n - 1) (by omega) (w := w1) (c := w0.heap.size) E H HC3.out (fun e => by have := HE.out _ e; have := HS0.out; omega) HI1.out HL.out HR1.out)
  refine range_world rfl (by omega) (gf := 52) (lb := #[.pointer (some ⟨w0.heap.size, 0, none⟩)]) rfl trivial (fun _ _ => by kernel_rfl) HSEQ.out KpP.trans (fun W' o o' ho hc _ => KpP.put o' (.inr rfl) ho hc) (Below.refl _ _) (fun _ => rfl)
    (fun pre W' => J (fstA pre) W' ∧ Boxes H [(W.heap.size, .func (.yield l) #[] #[])] W')
    (fun c pre W' => c = .ret ∧ Jx (fstA pre) W')
    (fun s A B row hs hg hr => ⟨HJ.out _ A B row hs.1 hg (fun r e => ⟨by have := (hr r e).1; have := HS1.out; omega, (hr r e).2⟩), hs.2.grown hg (fun r e => (hr r e).2)⟩)
    (fun c s A B row hs hg hr => ⟨hs.1, HJX.out _ A B row hs.2 hg (fun r e => ⟨by have := (hr r e).1; have := HS1.out; omega, (hr r e).2⟩)⟩)
    (fun s A B row hs hg hr => hs) (fun s A B row hs hg hr => hs) ⟨HJ1.out, HB1.out⟩ ?a1 ?assign ?body ?done ?stop
  case assign =>
    intro l' x W' K hK
    simp only [encA]
    gi_wp2
    exact hK
  case body =>
    rintro pre x W' ⟨hJ', hB'⟩ hT hsz
    have HJ' := Lib.hid hJ'
    have HB' := Lib.hid hB'
    have HT := Lib.hid hT
    have d3' := (hB' _ (List.mem_singleton.2 rfl)).1.cell
    simp only at d3'
    have HE2 := Lib.hid (show ∀ q ∈ [(W.heap.size, Value.func (.yield l) #[] #[])], ¬E q.1 from fun q hq => by
      rw [List.mem_singleton.1 hq]
      exact fun e => by have := HE.out _ e; omega)
    have HPRE := Lib.hid (show fstA pre ++ [x.1] <+: L.reverse by have h := hT.map (·.1); simpa [fstA] using h)
    clear hJ' hB' hT
    obtain ⟨fn, tmps, assign, body, hy, hR⟩ := HY.out (fstA pre) x.1 W' HJ'.out HPRE.out
    simp only [encW] at hy
    gi_wp2
    refine ⟨fun _ => by omega, RoundIn.mono (F := Fence.wide) (roundIn_wide hR) ?_⟩
    rintro e w3 (⟨rfl, hJ3, hk3⟩ | ⟨rfl, hJ3, hk3⟩)
    · have HJ3 := Lib.hid hJ3
      have HK3 := Lib.hid hk3
      have HB3 := Lib.hid (HB'.out.kept hk3 HE2.out)
      clear hJ3 hk3 hy hR d3'
      gi_wp2
      exact ⟨HK3.out.from (fun k e => by have := HE.out k e; have := HS1.out; omega), HK3.out.mono (fun k h => .inl h), by rw [fstA_snoc]; exact HJ3.out, HB3.out⟩
    · have HJ3 := Lib.hid hJ3
      have HK3 := Lib.hid hk3
      clear hJ3 hk3 hy hR d3'
      gi_wp2
      exact ⟨HK3.out.from (fun k e => by have := HE.out k e; have := HS1.out; omega), HK3.out.mono (fun k h => .inl h), rfl, by rw [fstA_snoc]; exact HJ3.out⟩
  case done =>
    rintro D xs W' hD hS ⟨hJ', hB'⟩ hK
    rw [hS, fstA_all] at hJ'
    have HJ' := Lib.hid hJ'
    have HK := Lib.hid hK
    have HD := Lib.hid hD
    clear hS hJ' hB' hD hK
    gi_wp2
    refine ⟨by simp, .inl ⟨_, _, rfl, run_takeDeferred HK.out, ?_⟩⟩
    exact ⟨_, results_none rfl _ _ _, ⟨_, rfl⟩, .inl ⟨_, rfl, HJ.out.putObj _ HJ'.out (by have := HD.out; have := HS1.out; omega) HK.out rfl⟩⟩
  case stop =>
    rintro D c pre W' hD hS ⟨rfl, hJ'⟩ hK
    have HP := Lib.hid (show fstA pre <+: L.reverse by have h := hS.map (·.1); simpa [fstA] using h)
    have HJ' := Lib.hid hJ'
    have HK := Lib.hid hK
    have HD := Lib.hid hD
    clear hS hJ' hD hK
    gi_wp2
    refine ⟨by simp, .inl ⟨_, _, rfl, run_takeDeferred HK.out, ?_⟩⟩
    exact ⟨_, results_none rfl _ _ _, ⟨_, rfl⟩, .inr ⟨_, HP.out, HJX.out.putObj _ HJ'.out (by have := HD.out; have := HS1.out; omega) HK.out rfl⟩⟩
/-- The function value that Back returns keeps the contract of the law on ranges. -/
theorem back_seq (n : Nat) (hn : 3 ≤ n) {w : World} {c2 bp lo : Nat} {gp : Option Nat} {L : List Int} (E H : Nat → Prop) (hE : ∀ k, E k → k < w.heap.size) (hc2 : HdAt w c2 (.pointer (some ⟨bp, 0, none⟩))) (hp : PileAt w lo bp gp L) (hL : L.length ≤ 1000) (hH : Heads H w) :
    SeqW Fence.wide n Try.prog 43 #[.pointer (some ⟨c2, 0, none⟩)] encW (fun l => KpP (fun k => E k ∨ k = l) H) (fun pre x => pre ++ [x] <+: L.reverse) (fun xs _ => xs = L.reverse) (fun pre _ => pre <+: L.reverse) w := by
  intro l J Jx W hW hl1 hl2 hJ hJx hY h0
  exact back1_in n hn l c2 bp lo gp L (fun k => E k ∨ k = l) H W (fun k hk => by rcases hk with hk | rfl; exact Nat.lt_of_lt_of_le (hE k hk) hW.size; exact hl2) (hc2.later hW) (hp.later hW) hL (hH.later hW) J Jx hJ hJx hY h0
theorem len_nil (w : World) : Calls Try.prog 19 #[.pointer none] w (Same w (.int .i64 0)) := by
  go_enter Try.func19, Try.ntmps19
  go_wp2
  go_ret
  exact ⟨rfl, rfl⟩
theorem at_nil (i : Int) (w : World) (hi : 0 ≤ i) : Calls Try.prog 21 #[.pointer none, .int .i64 i] w (Same w (.tuple #[.int .i64 0, .bool false])) := by
  have d0 : decide (i < 0) = false := decide_eq_false (by omega)
  have d1 : decide (0 ≤ i) = true := decide_eq_true hi
  go_enter Try.func21, Try.ntmps21
  go_wp2_with fail
  refine (len_nil w).mono ?_
  rintro e w1 ⟨rfl, rfl⟩
  go_wp2
  go_ret2
  exact ⟨rfl, rfl⟩
theorem pop_nil (w : World) : Calls Try.prog 13 #[.pointer none] w (Same w (.tuple #[.int .i64 0, .bool false])) := by
  go_enter Try.func13, Try.ntmps13
  go_wp2_with fail
  refine (at_nil 0 w (Int.le_refl _)).mono ?_
  rintro e w1 ⟨rfl, rfl⟩
  go_wp2
  go_ret2
  exact ⟨rfl, rfl⟩
theorem place_nil (x : Int) (w : World) : Calls Try.prog 22 #[.pointer none, .int .i64 x] w (RetV w (.int .i64 (-1))) := by
  go_enter_defers Try.func22, Try.ntmps22
  go_wp2
  simp [bodyPostD, Leaves, results, Try.results22, go_sem]
  exact ⟨rfl, below_new w _⟩
theorem has_nil (x : Int) (w : World) : Calls Try.prog 20 #[.pointer none, .int .i64 x] w (RetV w (.bool false)) := by
  have d0 : decide ((0 : Int) ≤ -1) = false := rfl
  go_enter Try.func20, Try.ntmps20
  go_wp2_with fail
  refine (place_nil x w).mono ?_
  rintro e w1 ⟨rfl, hb1⟩
  go_wp2
  go_ret
  exact ⟨rfl, hb1⟩
theorem lay_nil (i x : Int) (w : World) : Calls Try.prog 37 #[.pointer none, .int .i64 i, .int .i64 x] w (RetV w (.bool false)) := by
  go_enter Try.func37, Try.ntmps37
  go_wp2
  go_ret
  exact ⟨rfl, Below.refl _ _⟩
theorem push_nil (x : Int) (w : World) : Calls Try.prog 11 #[.pointer none, .int .i64 x] w (RetV w (.bool false)) := by
  go_enter Try.func11, Try.ntmps11
  go_wp2_with fail
  refine (lay_nil 0 x w).mono ?_
  rintro e w1 ⟨rfl, hb1⟩
  go_wp2
  go_ret
  exact ⟨rfl, hb1⟩
theorem under_nil (x : Int) (w : World) : Calls Try.prog 12 #[.pointer none, .int .i64 x] w (RetV w (.bool false)) := by
  go_enter Try.func12, Try.ntmps12
  go_wp2_with fail
  refine (len_nil w).mono ?_
  rintro e w1 ⟨rfl, rfl⟩
  go_wp2_with fail
  refine (lay_nil 0 x _).mono ?_
  rintro e w1 ⟨rfl, hb1⟩
  go_wp2
  go_ret
  exact ⟨rfl, hb1⟩
theorem drop_nil (x : Int) (w : World) : Calls Try.prog 14 #[.pointer none, .int .i64 x] w (RetV w (.bool false)) := by
  have d0 : decide ((-1 : Int) < 0) = true := rfl
  go_enter Try.func14, Try.ntmps14
  go_wp2_with fail
  refine (place_nil x w).mono ?_
  rintro e w1 ⟨rfl, hb1⟩
  go_wp2
  go_ret
  exact ⟨rfl, hb1⟩
theorem copy_nil (w : World) : Calls Try.prog 23 #[.pointer none] w (RetV w (.pointer none)) := by
  go_enter Try.func23, Try.ntmps23
  go_wp2
  go_ret
  exact ⟨rfl, Below.refl _ _⟩
theorem list_nil (w : World) : Calls Try.prog 18 #[.pointer none] w (RetV w (.slice none 0 0)) := by
  go_enter Try.func18, Try.ntmps18
  go_wp2
  go_ret
  exact ⟨rfl, Below.refl _ _⟩
theorem turn_from_nil (b : Nat) (x : Int) (u : Bool) (w : World) : Calls Try.prog 16 #[.pointer none, .pointer (some ⟨b, 0, none⟩), .int .i64 x, .bool u] w (RetV w (.bool false)) := by
  go_enter Try.func16, Try.ntmps16
  go_wp2_with fail
  refine (has_nil x w).mono ?_
  rintro e w1 ⟨rfl, hb1⟩
  go_wp2
  go_ret
  exact ⟨rfl, hb1⟩
theorem turn_to_nil (p : Option Addr) (x : Int) (u : Bool) (w : World) : Calls Try.prog 16 #[.pointer p, .pointer none, .int .i64 x, .bool u] w (RetV w (.bool false)) := by
  go_enter Try.func16, Try.ntmps16
  go_wp2
  go_ret
  exact ⟨rfl, Below.refl _ _⟩
end Go.Proofs.Ytphcdeppilaceaa

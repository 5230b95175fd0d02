/- All, so and Where (layer 5): the iterator of Where hands those things to its rounds of which a function says so. -/
import Derived.Test.YtphcdeppilaceaaFn
namespace Go.Proofs.Ytphcdeppilaceaa
open Go.RowKit
attribute [local go_sem] Oper.semAt_some

def RetFn (w : World) (f : Nat) (v : Value) (e : Ending) (w' : World) : Prop := e = .returned (.func (.func f) #[] #[.pointer (some ⟨w.heap.size, 0, none⟩)]) ∧ HdAt w' w.heap.size v ∧ Below w.heap.size w w'
theorem all_any (p : Option Addr) (w : World) : Calls Try.prog 24 #[.pointer p] w (RetFn w 42 (.pointer p)) := by
  have hmf := @mk_func
  go_enter Try.func24, Try.ntmps24
  go_wp2
  go_ret
  exact ⟨rfl, HdAt.new w _ _, below_new w _⟩
theorem back_any (p : Option Addr) (w : World) : Calls Try.prog 25 #[.pointer p] w (RetFn w 43 (.pointer p)) := by
  have hmf := @mk_func
  go_enter Try.func25, Try.ntmps25
  go_wp2
  go_ret
  exact ⟨rfl, HdAt.new w _ _, below_new w _⟩
def RetFn2 (w : World) (f : Nat) (u v : Value) (e : Ending) (w' : World) : Prop := e = .returned (.func (.func f) #[] #[.pointer (some ⟨w.heap.size + 1, 0, none⟩), .pointer (some ⟨w.heap.size, 0, none⟩)]) ∧ HdAt w' (w.heap.size + 1) u ∧ HdAt w' w.heap.size v ∧ Below w.heap.size w w'
theorem where_any (p : Option Addr) (gf : Nat) (lb : Array Value) (w : World) : Calls Try.prog 26 #[.pointer p, .func (.func gf) #[] lb] w (RetFn2 w 45 (.func (.func gf) #[] lb) (.pointer p)) := by
  have hmf := @mk_func
  have hb := below_new (w.alloc (.cells #[.pointer p] 25)) (.cells #[.func (.func gf) #[] lb] 30)
  have h := HdAt.new (w.alloc (.cells #[.pointer p] 25)) (.func (.func gf) #[] lb) 30
  rw [World.size_alloc] at h
  go_enter Try.func26, Try.ntmps26
  go_wp2
  go_ret
  exact ⟨by simp, h, (HdAt.new w (.pointer p) 25).later hb, stepB (below_new w _) hb⟩

theorem cd_so (p : Option Addr) (w : World) :
    CallsD Try.prog 53 #[.pointer p] .returning w fun e u' w' => e = .returned (.tuple #[]) ∧ u' = .returning ∧ w' = w := by
  refine callsD_of_wpS Try.func53 rfl fun c₀ cs hu => ?_
  apply wpS_seq
  apply wpS_region
  simp [wpOpsS, go_sem, recoverD, hu, Try.ntmps53, Exit.thenS]
  refine wpS_cond (t := false) (by simp [Act.eval, Array.replicate]) ?_
  simp only [Bool.false_eq_true, if_false]
  refine wpS_of_wp (wp_skip ?_)
  cases c₀
  simp_all [bodyPostS, results, Try.results53]

theorem turns1_any (x : Int) (w : World) : Calls Try.prog 36 #[.int .i64 x] w (Same w (.bool true)) := by
  go_enter Try.func36, Try.ntmps36
  go_wp2
  go_ret
  exact ⟨rfl, rfl⟩
set_option maxRecDepth 100000 in
set_option maxHeartbeats 2000000 in
theorem so_turns (x : Int) (w : World) : Calls Try.prog 46 #[.func (.func 36) #[] #[], .int .i64 x] w (RetB w true) := by
  have hmf := @mk_func
  go_enter_defers Try.func46, Try.ntmps46
  go_wp2_with fail
  refine (turns1_any x _).mono ?_
  rintro e w1 ⟨rfl, rfl⟩
  go_wp2
  refine leaves_cons (f := 53) (args := #[.pointer (some ⟨w.heap.size, 0, none⟩)]) (by simp) (by simp [go_sem]) ?_
  refine (cd_so _ _).mono ?_
  rintro e u' w'' ⟨rfl, rfl, rfl⟩
  simp [Leaves, settle, results, Try.results46, go_sem]
  exact ⟨rfl, below_new w _⟩

theorem roundIn_wide {n m : Nat} {P : Program} {l : Nat} {f : FuncId} {tmps : Array Value} {assign body : Code} {w : World} {R : Ending → World → Prop} (h : RoundIn Fence.wide n P l f tmps assign body w R) : RoundIn Fence.wide m P l f tmps assign body w R := by
  exact ⟨h.1, fun c cs _ => h.2 c cs (room_wide _)⟩
def filtA (f : Int → Bool) (pre : List AItem) : List Int := (pre.map (·.1)).filter f
theorem filt_snoc (f : Int → Bool) (pre : List AItem) (x : AItem) : filtA f (pre ++ [x]) = if f x.1 then filtA f pre ++ [x.1] else filtA f pre := by
  cases h : f x.1 <;> simp [filtA, h]
theorem filt_all (f : Int → Bool) (L : List Int) : filtA f L.zipIdx = L.filter f := by
  simp [filtA]
theorem filt_pre (f : Int → Bool) {L : List Int} {pre : List AItem} (h : pre <+: L.zipIdx) : filtA f pre <+: L.filter f := by
  rw [← filt_all]
  exact (h.map _).filter _
def encW (x : Int) : Array Value := #[.int .i64 x]
theorem func_some (gf : Nat) (lb : Array Value) : ∀ w, Sem.run Try.prog (binOp BinOp.eql 30 (Value.func (Fn.func gf) #[] lb) Value.nilFunc) w = .ok (.bool false) w := fun w => by
  rfl
set_option maxRecDepth 100000 in
set_option maxHeartbeats 2000000 in
theorem where1_in (n : Nat) (hn : 3 ≤ n) (l c1 c2 bp lo gf : Nat) (lb : Array Value) (f : Int → Bool) (gp : Option Nat) (L : List Int) (E H : Nat → Prop) (ks : List (Nat × Value)) (W : World) (hE : ∀ k, E k → k < W.heap.size)
    (hc2 : HdAt W c2 (.pointer (some ⟨bp, 0, none⟩))) (hks : Boxes H ks W) (hk1 : (c1, .func (.func gf) #[] lb) ∈ ks) (hkE : ∀ q ∈ ks, ¬E q.1) (hp : PileAt W lo bp gp L) (hL : L.length ≤ 1000) (hH : Heads H W)
    (hso : ∀ x w', Boxes H ks w' → Calls Try.prog 46 #[.func (.func gf) #[] lb, .int .i64 x] w' (RetB w' (f x)))
    (J Jx : List Int → World → Prop) (hJ : OwnFrom W.heap.size J) (hJx : OwnFrom W.heap.size Jx)
    (hY : ∀ pre (x : Int) W1, J pre W1 → pre ++ [x] <+: L.filter f → YieldAt Fence.wide (n - 1) Try.prog l (encW x) W1 fun e W' =>
      (e = .returned (.bool true) ∧ J (pre ++ [x]) W' ∧ KpP E H W1 W') ∨ (e = .returned (.bool false) ∧ Jx (pre ++ [x]) W' ∧ KpP E H W1 W'))
    (h0 : J [] W) :
    CallsIn Fence.wide n Try.prog 45 #[.func (.yield l) #[] #[], .pointer (some ⟨c1, 0, none⟩), .pointer (some ⟨c2, 0, none⟩)] W fun e W' => (∃ v, e = .returned v) ∧
      ((∃ xs, xs = L.filter f ∧ J xs W') ∨ (∃ pre, pre <+: L.filter f ∧ Jx pre W')) := by
  have HJ := Lib.hid hJ
  have HJX := Lib.hid hJx
  have HY := Lib.hid hY
  have HE := Lib.hid hE
  have HKE := Lib.hid hkE
  have HSO := Lib.hid hso
  have b0 := below_new W (.cells #[.func (.yield l) #[] #[]] 30)
  have HH := Lib.hid (hH.later b0)
  have HP := Lib.hid (hp.later b0)
  have HL := Lib.hid hL
  have HB0 : Hid (Boxes H ((W.heap.size, .func (.yield l) #[] #[]) :: ks) (W.alloc (.cells #[.func (.yield l) #[] #[]] 30))) := Lib.hid (fun q hq => by
    rcases List.mem_cons.1 hq with rfl | hq
    · exact ⟨HdAt.new W _ _, hH.off (Nat.le_refl _) b0⟩
    · exact (hks.later b0) q hq)
  have HJ0 := Lib.hid (OwnFrom.later hJ h0 b0)
  have c1c := ((hks _ hk1).1.later b0).cell
  have c2c := (hc2.later b0).cell
  have HK1 := Lib.hid hk1
  have hbo := func_some gf lb
  clear hJ hJx hY hE hkE hso hH hp hL hks hc2 h0 b0 hk1
  refine callsIn_of_wp_marks Try.func45 rfl trivial ?_ rfl
  simp only [Try.ntmps45, List.size_toArray, List.length_cons, List.length_nil, Nat.reduceAdd, Nat.reduceSub, Array.replicate_succ, Array.replicate_zero, List.push_toArray, List.append_toArray, List.nil_append, List.cons_append]
  gi_wp2_with fail
  refine ⟨trivial, fun _ => by omega, (callsIn_wide.2 (all_any _ _)).mono ?_⟩
  rintro e w1 ⟨rfl, hc3, hb1⟩
  rw [World.size_alloc] at hc3 hb1
  rw [World.size_alloc]
  have HH1 := Lib.hid (HH.out.later (by simpa using hb1))
  have HP1 := Lib.hid (HP.out.later (by simpa using hb1))
  have HB1 := Lib.hid (HB0.out.later (by simpa using hb1))
  have HJ1 := Lib.hid (OwnFrom.later HJ.out HJ0.out (by simpa using hb1))
  have HS1 := Lib.hid (show W.heap.size + 1 ≤ w1.heap.size by simpa using hb1.size)
  have HC3 := Lib.hid hc3
  clear hb1 hc3 c1c c2c
  gi_wp2_with fail
  have HSEQ := Lib.hid (all_seq (n - 1) (by omega) (w := w1) (c := W.heap.size + 1) E H (fun k hk => by have := HE.out k hk; have := HS1.out; omega) HC3.out HP1.out HL.out HH1.out)
  refine range_world rfl (by omega) (gf := 42) (lb := #[.pointer (some ⟨W.heap.size + 1, 0, none⟩)]) rfl trivial (fun _ _ => by kernel_rfl) HSEQ.out KpP.trans (fun W' o o' ho hc _ => KpP.put o' (.inr rfl) ho hc) (Below.refl _ _) (fun _ => rfl)
    (fun pre W' => J (filtA f pre) W' ∧ Boxes H ((W.heap.size, .func (.yield l) #[] #[]) :: ks) W')
    (fun c pre W' => c = .ret ∧ Jx (filtA f pre) W')
    (fun s A B row hs hg hr => ⟨HJ.out _ A B row hs.1 hg (fun r e => ⟨by have := (hr r e).1; have := HS1.out; omega, (hr r e).2⟩), hs.2.grown hg (fun r e => (hr r e).2)⟩)
    (fun c s A B row hs hg hr => ⟨hs.1, HJX.out _ A B row hs.2 hg (fun r e => ⟨by have := (hr r e).1; have := HS1.out; omega, (hr r e).2⟩)⟩)
    (fun s A B row hs hg hr => hs) (fun s A B row hs hg hr => hs) ⟨HJ1.out, HB1.out⟩ ?a1 ?assign ?body ?done ?stop
  case assign =>
    intro l' x W' K hK
    simp only [encA]
    gi_wp2
    exact hK
  case body =>
    rintro pre x W' ⟨hJ', hB'⟩ hT hsz
    have HJ' := Lib.hid hJ'
    have HB' := Lib.hid hB'
    have HT := Lib.hid hT
    have d1 := (hB' _ (List.mem_cons_of_mem _ HK1.out)).1.cell
    have d3 := (hB' _ (List.mem_cons_self ..)).1.cell
    simp only at d1 d3
    have HF := Lib.hid (filt_snoc f pre x)
    have HQ := Lib.hid (HSO.out x.1 W' (fun q hq => hB' q (List.mem_cons_of_mem _ hq)))
    have HE2 := Lib.hid (show ∀ q ∈ ((W.heap.size, Value.func (.yield l) #[] #[]) :: ks), ¬E q.1 from fun q hq => by
      rcases List.mem_cons.1 hq with rfl | hq
      · exact fun e => by have := HE.out _ e; omega
      · exact HKE.out q hq)
    obtain ⟨bx, hbx⟩ : ∃ bx, f x.1 = bx := ⟨_, rfl⟩
    rw [hbx] at HQ HF
    clear hJ' hB' hT
    gi_wp2_with fail
    refine ⟨trivial, fun _ => by omega, ?_⟩
    refine CallsIn.mono (F := Fence.wide) (callsIn_wide.2 HQ.out) ?_
    rintro e w2 ⟨rfl, hb2⟩
    have HB2 := Lib.hid (HB'.out.later hb2)
    have HJ2 := Lib.hid (OwnFrom.later HJ.out HJ'.out hb2)
    have HK2 := Lib.hid (KpP.of_below E H hb2)
    have d3' := cell_stays hb2 d3
    have HS2 := Lib.hid hb2.size
    clear hb2 d1 d3
    cases bx with
    | true =>
      rw [if_pos rfl] at HF
      obtain ⟨fn, tmps, assign, body, hy, hR⟩ := HY.out (filtA f pre) x.1 w2 HJ2.out (by rw [← HF.out]; exact filt_pre f HT.out)
      simp only [encW] at hy
      gi_wp2
      refine ⟨fun _ => by omega, RoundIn.mono (F := Fence.wide) (roundIn_wide hR) ?_⟩
      rintro e w3 (⟨rfl, hJ3, hk3⟩ | ⟨rfl, hJ3, hk3⟩)
      · have HJ3 := Lib.hid hJ3
        have HK3 := Lib.hid (HK2.out.trans hk3)
        have HB3 := Lib.hid (HB2.out.kept hk3 HE2.out)
        clear hJ3 hk3 hy hR d3'
        gi_wp2
        exact ⟨HK3.out.from (fun k e => by have := HE.out k e; have := HS1.out; omega), HK3.out.mono (fun k h => .inl h), by rw [HF.out]; exact HJ3.out, HB3.out⟩
      · have HJ3 := Lib.hid hJ3
        have HK3 := Lib.hid (HK2.out.trans hk3)
        clear hJ3 hk3 hy hR d3'
        gi_wp2
        exact ⟨HK3.out.from (fun k e => by have := HE.out k e; have := HS1.out; omega), HK3.out.mono (fun k h => .inl h), rfl, by rw [HF.out]; exact HJ3.out⟩
    | false =>
      rw [if_neg (by decide)] at HF
      clear d3'
      gi_wp2
      refine ⟨(fun _ h => by cases h), ?_⟩
      gi_wp2
      exact ⟨HK2.out.from (fun k e => by have := HE.out k e; have := HS1.out; omega), HK2.out.mono (fun k h => .inl h), by rw [HF.out]; exact HJ2.out, HB2.out⟩
  case done =>
    rintro D xs W' hD hS ⟨hJ', hB'⟩ hK
    rw [hS, filt_all] at hJ'
    have HJ' := Lib.hid hJ'
    have HK := Lib.hid hK
    have HD := Lib.hid hD
    clear hS hJ' hB' hD hK
    gi_wp2
    refine ⟨by simp, .inl ⟨_, _, rfl, run_takeDeferred HK.out, ?_⟩⟩
    exact ⟨_, results_none rfl _ _ _, ⟨_, rfl⟩, .inl ⟨_, rfl, HJ.out.putObj _ HJ'.out (by have := HD.out; have := HS1.out; omega) HK.out rfl⟩⟩
  case stop =>
    rintro D c pre W' hD hS ⟨rfl, hJ'⟩ hK
    have HP := Lib.hid (filt_pre f hS)
    have HJ' := Lib.hid hJ'
    have HK := Lib.hid hK
    have HD := Lib.hid hD
    clear hS hJ' hD hK
    gi_wp2
    refine ⟨by simp, .inl ⟨_, _, rfl, run_takeDeferred HK.out, ?_⟩⟩
    exact ⟨_, results_none rfl _ _ _, ⟨_, rfl⟩, .inr ⟨_, HP.out, HJX.out.putObj _ HJ'.out (by have := HD.out; have := HS1.out; omega) HK.out rfl⟩⟩
/-- The function value that Where returns keeps the contract of the law on ranges. -/
theorem where_seq (n : Nat) (hn : 3 ≤ n) {w : World} {c1 c2 bp lo gf : Nat} {lb : Array Value} {f : Int → Bool} {gp : Option Nat} {L : List Int} (E H : Nat → Prop) (ks : List (Nat × Value)) (hE : ∀ k, E k → k < w.heap.size)
    (hc2 : HdAt w c2 (.pointer (some ⟨bp, 0, none⟩))) (hks : Boxes H ks w) (hk1 : (c1, .func (.func gf) #[] lb) ∈ ks) (hkE : ∀ q ∈ ks, ¬E q.1) (hp : PileAt w lo bp gp L) (hL : L.length ≤ 1000) (hH : Heads H w)
    (hso : ∀ x w', Boxes H ks w' → Calls Try.prog 46 #[.func (.func gf) #[] lb, .int .i64 x] w' (RetB w' (f x))) :
    SeqW Fence.wide n Try.prog 45 #[.pointer (some ⟨c1, 0, none⟩), .pointer (some ⟨c2, 0, none⟩)] encW (fun l => KpP (fun k => E k ∨ k = l) H) (fun pre x => pre ++ [x] <+: L.filter f) (fun xs _ => xs = L.filter f) (fun pre _ => pre <+: L.filter f) w := by
  intro l J Jx W hW hl1 hl2 hJ hJx hY h0
  exact where1_in n hn l c1 c2 bp lo gf lb f gp L (fun k => E k ∨ k = l) H ks W (fun k hk => by rcases hk with hk | rfl; exact Nat.lt_of_lt_of_le (hE k hk) hW.size; exact hl2) (hc2.later hW) (hks.later hW) hk1
    (fun q hq e => by rcases e with e | e; exact hkE q hq e; have := (hks q hq).1.lt; omega) (hp.later hW) hL (hH.later hW) hso J Jx hJ hJx hY h0
end Go.Proofs.Ytphcdeppilaceaa

/- A stack's All, told from the top on (layer 12); Top, Pop. -/
import Derived.Test.YtgjojjhppgjkkaaGreatKb
namespace Go.Proofs.YtgjojjhppgjkkaaGreat
open Go.RowKit Go.Maps
attribute [local go_sem] Oper.semAt_some

theorem ents_kp {E H : Nat → Prop} {W W' : World} {v : Value} {l : List EntL} (h : EntsAt W v l) (hk : KpP E H W W') (hv : ∀ k, v.ownBlock = some k → ¬E k ∧ Off H W k) : EntsAt W' v l := by
  rcases h with h | ⟨r, off, cap, rfl, hlt, hcell⟩
  · exact .inl h
  · obtain ⟨h1, h2⟩ := hv r rfl
    obtain ⟨o, ho⟩ : ∃ o, W.heap[r]? = some o := ⟨_, Array.getElem?_eq_getElem hlt⟩
    have hB : W'.heap[r]? = W.heap[r]? := (hk.rest r o ho h1 (fun _ => h2)).trans ho.symm
    refine .inr ⟨r, off, cap, rfl, Nat.lt_of_lt_of_le hlt hk.size, fun i hi => ?_⟩
    obtain ⟨c0, c1, c2, c3⟩ := hcell i hi
    exact ⟨(World.cell?_of_block (a := ⟨r, off + i * 4, none⟩) hB).trans c0, (World.cell?_of_block (a := ⟨r, off + i * 4 + 1, none⟩) hB).trans c1, (World.cell?_of_block (a := ⟨r, off + i * 4 + 2, none⟩) hB).trans c2, (World.cell?_of_block (a := ⟨r, off + i * 4 + 3, none⟩) hB).trans c3⟩
theorem backwardE_any (v : Option Addr × Nat × Nat) (w : World) : Calls Tryz.prog 54 #[.slice v.1 v.2.1 v.2.2] w (RetFn w 95 (.slice v.1 v.2.1 v.2.2)) := by
  have hmf := @mk_func
  go_enter Tryz.func54, Tryz.ntmps54
  go_wp2
  go_ret
  exact ⟨rfl, HdAt.new w _ _, below_new w _⟩
abbrev EItem := EntL × Nat
def encE (x : EItem) : Array Value := #[.int .i64 (x.2 : Int), entV x.1]
def encX (x : EntL) : Array Value := #[entV x]
theorem zip_revE (L : List EntL) (k : Nat) (h : k < L.length) : L.zipIdx.reverse.take (k + 1) = L.zipIdx.reverse.take k ++ [(L[L.length - 1 - k], L.length - 1 - k)] := by
  rw [take_last _ _ (by simpa using h)]
  simp
def fstE (pre : List EItem) : List EntL := pre.map (·.1)
theorem fstE_snoc (pre : List EItem) (x : EItem) : fstE (pre ++ [x]) = fstE pre ++ [x.1] := by simp [fstE]
theorem fstE_all (L : List EntL) : fstE L.zipIdx.reverse = L.reverse := by simp [fstE, List.map_reverse]
set_option maxRecDepth 100000 in
set_option maxHeartbeats 4000000 in
theorem backwardE1_in (n : Nat) (l c : Nat) (xa : Option Addr) (xc : Nat) (L : List EntL) (E H : Nat → Prop) (W : World) (hc : Boxes H [(c, .slice xa L.length xc)] W) (hcE : ¬E c) (hi : EntsAt W (.slice xa L.length xc) L) (hL : L.length ≤ 1000)
    (hr : ∀ k, (Value.slice xa L.length xc).ownBlock = some k → ¬E k ∧ k < W.heap.size ∧ Off H W k)
    (J Jx : List EItem → World → Prop) (hJ : OwnFrom W.heap.size J)
    (hY : ∀ pre (x : EItem) W1, J pre W1 → pre ++ [x] <+: L.zipIdx.reverse → YieldAt Fence.wide (n - 1) Tryz.prog l (encE x) W1 fun e W' =>
      (e = .returned (.bool true) ∧ J (pre ++ [x]) W' ∧ KpP E H W1 W') ∨ (e = .returned (.bool false) ∧ Jx (pre ++ [x]) W' ∧ KpP E H W1 W'))
    (h0 : J [] W) (hn : 1 ≤ n) :
    CallsIn Fence.wide n Tryz.prog 95 #[.func (.yield l) #[] #[], .pointer (some ⟨c, 0, none⟩)] W fun e W' => (∃ v, e = .returned v) ∧
      ((∃ xs, xs = L.zipIdx.reverse ∧ J xs W') ∨ (∃ pre, pre <+: L.zipIdx.reverse ∧ Jx pre W')) := by
  have HJ := Lib.hid hJ
  have HY := Lib.hid hY
  have HI := Lib.hid hi
  have HR := Lib.hid hr
  have HC := Lib.hid hc
  have HL := Lib.hid hL
  have HJ1 := Lib.hid h0
  have c0 := (hc _ (List.mem_singleton.2 rfl)).1.cell
  simp only at c0
  clear hJ hY hL hc h0 hi hr
  refine callsIn_of_wp Tryz.func95 rfl trivial ?_ rfl
  simp only [Tryz.ntmps95, List.size_toArray, List.length_cons, List.length_nil, Nat.reduceAdd, Nat.reduceSub, Array.replicate_succ, Array.replicate_zero, List.push_toArray, List.append_toArray, List.nil_append, List.cons_append]
  have hL0 := HL.out
  gi_wp2
  gi_loopw [3] (fun i wr => ∃ k, k ≤ L.length ∧ i = .int .i64 ((L.length : Int) - 1 - (k : Int)) ∧ Hid (J (L.zipIdx.reverse.take k) wr) ∧ Hid (EntsAt wr (.slice xa L.length xc) L) ∧ Hid (Boxes H [(c, .slice xa L.length xc)] wr) ∧ Hid (∀ k, (Value.slice xa L.length xc).ownBlock = some k → ¬E k ∧ k < wr.heap.size ∧ Off H wr k)) (fun i _ => (intOf i + 1).toNat)
  case atStart => exact ⟨0, Nat.zero_le _, by simp, HJ1, HI, HC, HR⟩
  case round =>
    obtain ⟨k, hk, rfl, HJR, HIR, HCR, HRR⟩ := hrel
    by_cases hlt : k < L.length
    · obtain ⟨r, off, hxa, hr, s0, s1, s2, s3⟩ := HIR.out.at (L.length - 1 - k) (by omega)
      have hz := zip_revE L k hlt
      obtain ⟨x, hx⟩ : ∃ x, L[L.length - 1 - k] = x := ⟨_, rfl⟩
      obtain ⟨q, hq⟩ : ∃ q, L.length - 1 - k = q := ⟨_, rfl⟩
      have hqi : (L.length : Int) - 1 - (k : Int) = (q : Int) := by omega
      have c2 := (HCR.out _ (List.mem_singleton.2 rfl)).1.cell
      simp only at c2
      rw [hx] at s0 s1 s2 s3 hz
      rw [hq] at s0 s1 s2 s3 hz
      rw [hqi]
      have HZ := Lib.hid hz
      have HQI := Lib.hid hqi
      have hql : q < L.length := by omega
      have d1 : decide (0 ≤ (q : Int)) = true := decide_eq_true (by omega)
      subst hxa
      clear hx hz hq hqi
      obtain ⟨fn, tmps, assign, body, hy, hR⟩ := HY.out (L.zipIdx.reverse.take k) (x, q) wr HJR.out (by rw [← HZ.out]; exact List.take_prefix _ _)
      obtain ⟨x0, x1, x2, x3⟩ := x
      simp only [encE, entV] at hy
      dsimp only at s0 s1 s2 s3
      gi_wp2
      refine hR.mono ?_
      rintro e w3 (⟨rfl, hJ3, hk3⟩ | ⟨rfl, hJ3, hk3⟩)
      · have HJ3 := Lib.hid hJ3
        have HI3 := Lib.hid (ents_kp HIR.out hk3 (fun k hk => ⟨(HRR.out k hk).1, (HRR.out k hk).2.2⟩))
        have HC3 := Lib.hid (HCR.out.kept hk3 (fun q hq => by rw [List.mem_singleton.1 hq]; exact hcE))
        have HR3 := Lib.hid (show ∀ k, (Value.slice (some ⟨r, off, none⟩) L.length xc).ownBlock = some k → ¬E k ∧ k < w3.heap.size ∧ Off H w3 k from fun k hk => ⟨(HRR.out k hk).1, Nat.lt_of_lt_of_le (HRR.out k hk).2.1 hk3.size, hk3.off (HRR.out k hk).2.2 (HRR.out k hk).2.1⟩)
        have hL1 := HL.out
        clear hJ3 hk3 hy hR s0 s1 s2 s3 c2
        have hqi := HQI.out
        gi_wp2
        go_roundw
        case rel => exact ⟨k + 1, by omega, by go_num, Lib.hid (by rw [HZ.out]; exact HJ3.out), HI3, HC3, HR3⟩
        case measure => simp [intOf]
      · have HJ3 := Lib.hid hJ3
        clear hJ3 hk3 hy hR s0 s1 s2 s3
        gi_wp2
        refine bodyPost_ret (results_none rfl _ _ _) rfl ?_
        exact ⟨⟨_, rfl⟩, .inr ⟨_, by rw [← HZ.out]; exact List.take_prefix _ _, HJ3.out⟩⟩
    · have d1 : decide (0 ≤ (L.length : Int) - 1 - (k : Int)) = false := decide_eq_false (by omega)
      have hkl : L.zipIdx.reverse.take k = L.zipIdx.reverse := List.take_of_length_le (by simp; omega)
      rw [hkl] at HJR
      gi_wp2
      go_end0
      exact ⟨⟨_, rfl⟩, .inl ⟨_, rfl, HJR.out⟩⟩
theorem backwardE_seq (n : Nat) (hn : 1 ≤ n) {w : World} {c : Nat} {xa : Option Addr} {xc : Nat} {L : List EntL} (E H : Nat → Prop) (hc : Boxes H [(c, .slice xa L.length xc)] w) (hcE : ¬E c) (hi : EntsAt w (.slice xa L.length xc) L) (hL : L.length ≤ 1000)
    (hr : ∀ k, (Value.slice xa L.length xc).ownBlock = some k → ¬E k ∧ k < w.heap.size ∧ Off H w k) :
    SeqW Fence.wide n Tryz.prog 95 #[.pointer (some ⟨c, 0, none⟩)] encE (fun l => KpP (fun k => E k ∨ k = l) H) (fun pre x => pre ++ [x] <+: L.zipIdx.reverse) (fun xs _ => xs = L.zipIdx.reverse) (fun pre _ => pre <+: L.zipIdx.reverse) w := by
  intro l J Jx W hW hl1 hl2 hJ _ hY h0
  have h1 := (hc _ (List.mem_singleton.2 rfl)).1.lt
  simp only at h1
  exact backwardE1_in n l c xa xc L (fun k => E k ∨ k = l) H W (hc.later hW) (fun e => by rcases e with e | e; exact hcE e; omega) (hi.later hW) hL
    (fun k hk => ⟨fun e => by have := hr k hk; rcases e with e | e; exact this.1 e; omega, Nat.lt_of_lt_of_le (hr k hk).2.1 hW.size, (hr k hk).2.2.later hW⟩) J Jx hJ hY h0 hn
set_option maxRecDepth 100000 in
set_option maxHeartbeats 4000000 in
theorem allK1_in (n : Nat) (hn : 3 ≤ n) (l c2 bp lo : Nat) (gp : Option Nat) (L : List EntL) (E H : Nat → Prop) (W : World) (hE : ∀ k, E k → k < W.heap.size)
    (hc2 : HdAt W c2 (.pointer (some ⟨bp, 0, none⟩))) (hp : StackAt W lo bp gp L) (hL : L.length ≤ 1000) (hH : Heads H W) (hgo : ∀ k, gp = some k → ¬E k ∧ Off H W k)
    (J Jx : List EntL → World → Prop) (hJ : OwnFrom W.heap.size J) (hJx : OwnFrom W.heap.size Jx)
    (hY : ∀ pre (x : EntL) W1, J pre W1 → pre ++ [x] <+: L.reverse → YieldAt Fence.wide (n - 1) Tryz.prog l (encX x) W1 fun e W' =>
      (e = .returned (.bool true) ∧ J (pre ++ [x]) W' ∧ KpP E H W1 W') ∨ (e = .returned (.bool false) ∧ Jx (pre ++ [x]) W' ∧ KpP E H W1 W'))
    (h0 : J [] W) :
    CallsIn Fence.wide n Tryz.prog 53 #[.func (.yield l) #[] #[], .pointer (some ⟨c2, 0, none⟩)] W fun e W' => (∃ v, e = .returned v) ∧
      ((∃ xs, xs = L.reverse ∧ J xs W') ∨ (∃ pre, pre <+: L.reverse ∧ Jx pre W')) := by
  have HJ := Lib.hid hJ
  have HJX := Lib.hid hJx
  have HY := Lib.hid hY
  have HE := Lib.hid hE
  have b0 := below_new W (.cells #[.func (.yield l) #[] #[]] 110)
  have HH := Lib.hid (hH.later b0)
  have HL := Lib.hid hL
  have HB0 : Hid (Boxes H [(W.heap.size, .func (.yield l) #[] #[])] (W.alloc (.cells #[.func (.yield l) #[] #[]] 110))) := Lib.hid (fun q hq => by
    rw [List.mem_singleton.1 hq]
    exact ⟨HdAt.new W _ _, hH.off (Nat.le_refl _) b0⟩)
  have HJ0 := Lib.hid (OwnFrom.later hJ h0 b0)
  have c2c := (hc2.later b0).cell
  obtain ⟨xa, xc, f0, hown, ho⟩ := (hp.later b0).field
  have HI0 := Lib.hid (own_ents ho)
  have HGO := Lib.hid (show ∀ k, (Value.slice xa L.length xc).ownBlock = some k → ¬E k ∧ k < W.heap.size ∧ Off H W k from fun k hk => by
    rw [hown] at hk
    exact ⟨(hgo k hk).1, (hp.row k hk).2.1, (hgo k hk).2⟩)
  have HB := Lib.hid b0
  clear hJ hJx hY hE hH hp hL hc2 h0 b0 hgo ho hown
  obtain ⟨W0, hW0⟩ : ∃ W0, W.alloc (.cells #[.func (.yield l) #[] #[]] 110) = W0 := ⟨_, rfl⟩
  have HW0 := Lib.hid hW0
  rw [hW0] at HH HB0 HJ0 HI0 HB
  clear hW0
  refine callsIn_of_wp_marks Tryz.func53 rfl trivial ?_ rfl
  simp only [Tryz.ntmps53, List.size_toArray, List.length_cons, List.length_nil, Nat.reduceAdd, Nat.reduceSub, Array.replicate_succ, Array.replicate_zero, List.push_toArray, List.append_toArray, List.nil_append, List.cons_append]
  gi_wp2_with fail
  rw [HW0.out]
  refine ⟨trivial, fun _ => by omega, (callsIn_wide.2 (backwardE_any (xa, L.length, xc) W0)).mono ?_⟩
  rintro e w1 ⟨rfl, hc3, hb1⟩
  have HBB1 := Lib.hid (stepB HB.out hb1)
  have HH1 := Lib.hid (HH.out.later hb1)
  have HB1 := Lib.hid (HB0.out.later hb1)
  have HJ1 := Lib.hid (OwnFrom.later HJ.out HJ0.out hb1)
  have HS0 := Lib.hid (show W.heap.size ≤ W0.heap.size from HB.out.size)
  have HS1 := Lib.hid (Nat.le_trans HS0.out hb1.size)
  have HSW : Hid (W.heap.size < W0.heap.size) := Lib.hid (by rw [← HW0.out]; simp)
  have HC3 : Hid (Boxes H [(W0.heap.size, .slice xa L.length xc)] w1) := Lib.hid (fun q hq => by
    rw [List.mem_singleton.1 hq]
    exact ⟨hc3, HH.out.off (Nat.le_refl _) hb1⟩)
  have HI1 := Lib.hid (HI0.out.later hb1)
  have HR1 : Hid (∀ k, (Value.slice xa L.length xc).ownBlock = some k → ¬E k ∧ k < w1.heap.size ∧ Off H w1 k) := Lib.hid (fun k hk => ⟨(HGO.out k hk).1, Nat.lt_of_lt_of_le (HGO.out k hk).2.1 HS1.out, (HGO.out k hk).2.2.later HBB1.out⟩)
  clear hb1 hc3
  gi_wp2_with fail
  have HSEQ := Lib.hid (backwardE_seq (n - 1) (by omega) (w := w1) (c := W0.heap.size) E H HC3.out (fun e => by have := HE.out _ e; have := HS0.out; omega) HI1.out HL.out HR1.out)
  refine range_world3 rfl (by omega) (I := fun pre W' => J (fstE pre) W' ∧ Boxes H [(W.heap.size, .func (.yield l) #[] #[])] W') (Ix := fun c pre W' => c = .ret ∧ Jx (fstE pre) W') (gf := 95) (lb := #[.pointer (some ⟨W0.heap.size, 0, none⟩)]) rfl trivial (fun _ _ => by kernel_rfl) HSEQ.out KpP.trans (fun W' o o' ho hc _ => KpP.put o' (.inr rfl) ho hc) (fun W W' hb => KpP.of_below _ _ hb) (Below.refl _ _) (fun _ => rfl)
    (fun s A B row hs hg hr => ⟨HJ.out _ A B row hs.1 hg (fun r e => ⟨by have := (hr r e).1; have := HS1.out; omega, (hr r e).2⟩), hs.2.grown hg (fun r e => (hr r e).2)⟩)
    (fun c s A B row hs hg hr => ⟨hs.1, HJX.out _ A B row hs.2 hg (fun r e => ⟨by have := (hr r e).1; have := HS1.out; omega, (hr r e).2⟩)⟩)
    (fun s A B row hs hg hr => hs) (fun s A B row hs hg hr => hs) ⟨HJ1.out, HB1.out⟩ ?round ?done ?stop
  case round =>
    rintro pre ⟨⟨x0, x1, x2, x3⟩, q⟩ Wr K hI hT hsz hK
    have HPRE := Lib.hid (show fstE pre ++ [⟨x0, x1, x2, x3⟩] <+: L.reverse by have h := hT.map (·.1); simpa [fstE] using h)
    have HK := Lib.hid hK
    have HSZ := Lib.hid hsz
    clear hK hT hI hsz
    simp only [encE, entV]
    gi_wp2
    refine HK.out _ _ (below_new Wr _) ?_
    clear HK
    intro Wb hsz2 hrest hkw ⟨hj, hb⟩
    have hrow : Wb.heap[Wr.heap.size]? = some (.cells #[.int .i64 x0, .int .i64 x1, .int .i64 x2, .bool x3] 59 (0, 0)) := by
      rw [hrest Wr.heap.size (by have := HSZ.out; omega)]
      exact heap_alloc_new Wr _
    have e0 := cell_of_row Wb Wr.heap.size 0 _ _ _ hrow
    have e1 := cell_of_row Wb Wr.heap.size 1 _ _ _ hrow
    have e2 := cell_of_row Wb Wr.heap.size 2 _ _ _ hrow
    have e3 := cell_of_row Wb Wr.heap.size 3 _ _ _ hrow
    have HKW := Lib.hid hkw
    have HB' := Lib.hid hb
    have d3 := (hb _ (List.mem_singleton.2 rfl)).1.cell
    simp only at d3
    have HE2 := Lib.hid (show ∀ q ∈ [(W.heap.size, Value.func (.yield l) #[] #[])], ¬E q.1 from fun q hq => by
      rw [List.mem_singleton.1 hq]
      exact fun e => by have := HE.out _ e; omega)
    obtain ⟨fn, tmps, assign, body', hyy, hR⟩ := HY.out (fstE pre) ⟨x0, x1, x2, x3⟩ Wb hj HPRE.out
    simp only [encX, entV] at hyy
    have HRR := Lib.hid hR
    clear hsz2 hrest hkw hj hb hR hrow
    gi_wp2
    refine ⟨fun _ => by omega, ?_⟩
    refine RoundIn.mono (F := Fence.wide) (roundIn_wide HRR.out) ?_
    rintro e w3 (⟨rfl, hj3, hk3⟩ | ⟨rfl, hj3, hk3⟩)
    · have HP : Hid (KeepsFrom w1.heap.size Wb w3 ∧ KpP (fun k => E k ∨ k = w1.heap.size + 1) H Wr w3 ∧ J (fstE (pre ++ [(⟨x0, x1, x2, x3⟩, q)])) w3 ∧ Boxes H [(W.heap.size, .func (.yield l) #[] #[])] w3) := Lib.hid
        ⟨hk3.from (fun k e => by have := HE.out k e; have := HS1.out; omega), HKW.out.trans (hk3.mono (fun k h => .inl h)), by rw [fstE_snoc]; exact hj3, HB'.out.kept hk3 HE2.out⟩
      clear hj3 hk3 d3 hyy e0 e1 e2 e3
      gi_wp2
      exact HP.out
    · have HP : Hid (KeepsFrom w1.heap.size Wb w3 ∧ KpP (fun k => E k ∨ k = w1.heap.size + 1) H Wr w3 ∧ Jx (fstE (pre ++ [(⟨x0, x1, x2, x3⟩, q)])) w3) := Lib.hid
        ⟨hk3.from (fun k e => by have := HE.out k e; have := HS1.out; omega), HKW.out.trans (hk3.mono (fun k h => .inl h)), by rw [fstE_snoc]; exact hj3⟩
      clear hj3 hk3 d3 hyy e0 e1 e2 e3
      gi_wp2
      exact ⟨HP.out.1, HP.out.2.1, rfl, HP.out.2.2⟩
  case done =>
    rintro D xs W' hD hS ⟨hj, _⟩ hK
    rw [hS, fstE_all] at hj
    have HJ' := Lib.hid hj
    have HK := Lib.hid hK
    have HD := Lib.hid (show w1.heap.size ≤ D from hD)
    clear hS hj hD hK
    gi_wp2
    refine ⟨by simp, .inl ⟨_, _, rfl, run_takeDeferred HK.out, ?_⟩⟩
    exact ⟨_, results_none rfl _ _ _, ⟨_, rfl⟩, .inl ⟨_, rfl, HJ.out.putObj _ HJ'.out (by have := HD.out; have := HS1.out; omega) HK.out rfl⟩⟩
  case stop =>
    rintro D c pre W' hD hS ⟨rfl, hj⟩ hK
    have HP := Lib.hid (show fstE pre <+: L.reverse by have h := hS.map (·.1); simpa [fstE] using h)
    have HJ' := Lib.hid hj
    have HK := Lib.hid hK
    have HD := Lib.hid (show w1.heap.size ≤ D from hD)
    clear hS hj hD hK
    gi_wp2
    refine ⟨by simp, .inl ⟨_, _, rfl, run_takeDeferred HK.out, ?_⟩⟩
    exact ⟨_, results_none rfl _ _ _, ⟨_, rfl⟩, .inr ⟨_, HP.out, HJX.out.putObj _ HJ'.out (by have := HD.out; have := HS1.out; omega) HK.out rfl⟩⟩
/-- The function value that All returns keeps the contract of the law on ranges. -/
theorem allK_seq (n : Nat) (hn : 3 ≤ n) {w : World} {c2 bp lo : Nat} {gp : Option Nat} {L : List EntL} (E H : Nat → Prop) (hE : ∀ k, E k → k < w.heap.size) (hc2 : HdAt w c2 (.pointer (some ⟨bp, 0, none⟩))) (hp : StackAt w lo bp gp L) (hL : L.length ≤ 1000) (hH : Heads H w) (hgo : ∀ k, gp = some k → ¬E k ∧ Off H w k) :
    SeqW Fence.wide n Tryz.prog 53 #[.pointer (some ⟨c2, 0, none⟩)] encX (fun l => KpP (fun k => E k ∨ k = l) H) (fun pre x => pre ++ [x] <+: L.reverse) (fun xs _ => xs = L.reverse) (fun pre _ => pre <+: L.reverse) w := by
  intro l J Jx W hW hl1 hl2 hJ hJx hY h0
  exact allK1_in n hn l c2 bp lo gp L (fun k => E k ∨ k = l) H W (fun k hk => by rcases hk with hk | rfl; exact Nat.lt_of_lt_of_le (hE k hk) hW.size; exact hl2) (hc2.later hW) (hp.later hW) hL (hH.later hW)
    (fun k hk => ⟨fun e => by have := hp.row k hk; rcases e with e | e; exact (hgo k hk).1 e; omega, (hgo k hk).2.later hW⟩) J Jx hJ hJx hY h0
set_option maxRecDepth 100000 in
set_option maxHeartbeats 4000000 in
theorem allK0_seq (n : Nat) {w : World} {c2 : Nat} (Kp : Nat → World → World → Prop) (hc2 : HdAt w c2 (.pointer none)) :
    SeqW Fence.wide n Tryz.prog 53 #[.pointer (some ⟨c2, 0, none⟩)] encX Kp (fun _ _ => False) (fun xs _ => xs = []) (fun _ _ => False) w := by
  intro l J Jx W hW hl1 hl2 hJ hJx _ h0
  have b0 := below_new W (.cells #[.func (.yield l) #[] #[]] 110)
  have HJ0 := Lib.hid (OwnFrom.later hJ h0 b0)
  have c2c := ((hc2.later hW).later b0).cell
  clear hc2 hJ hJx h0 b0
  refine callsIn_of_wp_marks Tryz.func53 rfl trivial ?_ rfl
  simp only [Tryz.ntmps53, List.size_toArray, List.length_cons, List.length_nil, Nat.reduceAdd, Nat.reduceSub, Array.replicate_succ, Array.replicate_zero, List.push_toArray, List.append_toArray, List.nil_append, List.cons_append]
  gi_wp2
  exact ⟨_, results_none rfl _ _ _, ⟨_, rfl⟩, HJ0.out⟩
def RetAllK (w : World) (L : List EntL) (e : Ending) (w' : World) : Prop := ∃ c b g, e = .returned (.func (.func 53) #[] #[.pointer (some ⟨c, 0, none⟩)]) ∧ HdAt w' c (.pointer (some ⟨b, 0, none⟩)) ∧ w.heap.size ≤ c ∧ StackAt w' w.heap.size b g L ∧ Below w.heap.size w w'
set_option maxRecDepth 100000 in
theorem allK_any {w : World} {lo b : Nat} {g : Option Nat} {L : List EntL} (h : StackAt w lo b g L) (hL : L.length ≤ 1000) : Calls Tryz.prog 27 #[.pointer (some ⟨b, 0, none⟩)] w (RetAllK w L) := by
  have HC := Lib.hid (copy_stk h hL)
  have hmf := @mk_func
  clear h
  go_enter Tryz.func27, Tryz.ntmps27
  go_wp2_with fail
  refine HC.out.mono ?_
  rintro e w1 ⟨b2, g2, rfl, hs, hb1⟩
  have HS := Lib.hid hs
  have HB := Lib.hid hb1
  clear hs hb1
  dsimp only
  go_wp2
  go_ret
  exact ⟨_, b2, g2, rfl, HdAt.new w1 _ _, HB.out.size, HS.out.later (below_new w1 _), below_alloc2 HB.out _⟩
theorem allK0_any (w : World) : Calls Tryz.prog 27 #[.pointer none] w (RetFn w 53 (.pointer none)) := by
  have HC := Lib.hid (copy_stk0 w)
  have hmf := @mk_func
  go_enter Tryz.func27, Tryz.ntmps27
  go_wp2_with fail
  refine HC.out.mono ?_
  rintro e w1 ⟨rfl, rfl⟩
  go_wp2
  go_ret
  exact ⟨rfl, HdAt.new w1 _ _, below_new w1 _⟩
end Go.Proofs.YtgjojjhppgjkkaaGreat

/- The Creatures on the Field, one by one, as a range over a function (layer 10); of no store none. -/
import Derived.Test.YtdlkdilgjmmlaaaGreatSn
import Derived.Test.YtdlkdilgjmmlaaaGreatTk
namespace Go.Proofs.YtdlkdilgjmmlaaaGreat
open Go.RowKit Go.Maps
attribute [local go_sem] Oper.semAt_some

def crs (S : StoreL) : List Int := (strL S (fieldL S [])).map Prod.fst
theorem fst_pre {l m : List (Int × Int)} (h : l <+: m) : l.map Prod.fst <+: m.map Prod.fst := by
  obtain ⟨r, rfl⟩ := h
  exact ⟨r.map Prod.fst, by simp⟩
theorem ints_none (w : World) : IntsAt w (.slice none 0 0) [] := .inl ⟨none, 0, rfl, rfl⟩
theorem off_none (W : World) (k : Nat) : Off (fun _ => False) W k := ⟨fun e => e, fun _ e => e.elim⟩
set_option maxRecDepth 100000 in
set_option maxHeartbeats 16000000 in
theorem crs1_in (n : Nat) (hn : 4 ≤ n) (l c1 lo b : Nat) (G : Ghost) (S : StoreL) (E H : Nat → Prop) (W : World) (hE : ∀ k, E k → k < W.heap.size) (hEG : ∀ k, E k → G.tag k = .no) (hH : Heads H W) (hoff : ∀ k, G.tag k ≠ .no → Off H W k)
    (h1 : HdAt W c1 (.pointer (some ⟨b, 0, none⟩))) (h : StoreAt W lo b G S) (hS : WfS S) (hl : S.objs.length ≤ 1000)
    (J Jx : List Int → World → Prop) (hJ : OwnFrom W.heap.size J) (hJx : OwnFrom W.heap.size Jx)
    (hY : ∀ pre (x : Int) W1, J pre W1 → pre ++ [x] <+: crs S → YieldAt Fence.wide (n - 1) Tryz.prog l (encF x) W1 fun e W' =>
      (e = .returned (.bool true) ∧ J (pre ++ [x]) W' ∧ KpP E H W1 W') ∨ (e = .returned (.bool false) ∧ Jx (pre ++ [x]) W' ∧ KpP E H W1 W'))
    (h0 : J [] W) :
    CallsIn Fence.wide n Tryz.prog 174 #[.func (.yield l) #[] #[], .pointer (some ⟨c1, 0, none⟩)] W fun e W' => (∃ v, e = .returned v) ∧
      (J (crs S) W' ∨ (∃ pre, pre <+: crs S ∧ Jx pre W')) := by
  have HJ := Lib.hid hJ
  have HJX := Lib.hid hJx
  have HY := Lib.hid hY
  have HE := Lib.hid hE
  have HEG := Lib.hid hEG
  have HH := Lib.hid hH
  have HOF := Lib.hid hoff
  have HW := Lib.hid hS
  have HL := Lib.hid hl
  have b0 := below_new W (.cells #[.func (.yield l) #[] #[]] 48)
  have HS0 := Lib.hid (h.later b0)
  have HY0 := Lib.hid (HdAt.new W (.func (.yield l) #[] #[]) 48)
  have HJ0 := Lib.hid (OwnFrom.later hJ h0 b0)
  have c1c := (h1.later b0).cell
  have HSZ := Lib.hid (show (W.alloc (.cells #[.func (.yield l) #[] #[]] 48)).heap.size = W.heap.size + 1 from World.size_alloc _ _)
  have HST := Lib.hid (strong_any (some ⟨b, 0, none⟩) (ints_none (W.alloc (.cells #[.func (.yield l) #[] #[]] 48))) (by simp))
  have HQO := Lib.hid (hH.off (Nat.le_refl _) b0)
  have HB0 := Lib.hid b0
  clear hJ hJx hY hE hEG hH hoff h1 h hS hl h0 b0
  refine callsIn_of_wp_marks Tryz.func174 rfl trivial ?_ rfl
  simp only [Tryz.ntmps174, List.size_toArray, List.length_cons, List.length_nil, Nat.reduceAdd, Nat.reduceSub, Array.replicate_succ, Array.replicate_zero, List.push_toArray, List.append_toArray, List.nil_append, List.cons_append]
  gi_wp2_with fail
  obtain ⟨W1, hW1⟩ : ∃ W1, W.alloc (.cells #[.func (.yield l) #[] #[]] 48) = W1 := ⟨_, rfl⟩
  obtain ⟨qy, hqy⟩ : ∃ qy, W.heap.size = qy := ⟨_, rfl⟩
  rw [hW1] at HS0 HY0 HJ0 HSZ HST HQO HB0 ⊢
  rw [hqy] at HY0 HSZ HQO ⊢
  have HQY := Lib.hid hqy
  clear c1c hW1 hqy
  refine ⟨trivial, fun _ => by omega, (callsIn_wide.2 HST.out).mono ?_⟩
  rintro e w1 ⟨qf, d1, d2, u, rfl, k1, k2, _, _, k3, k4, k5, k6, hb1⟩
  have hsz1 := hb1.size
  have HSEQ := Lib.hid (strong_seq (n - 1) (by omega) (w := w1) E H (fun k hk => by have := HE.out k hk; have := HSZ.out; have := HQY.out; omega) HEG.out (HH.out.later (HB0.out.trans (hb1.mono HB0.out.size))) (fun k hk => by
      rcases hk with hk | rfl
      · exact (HOF.out k hk).later (HB0.out.trans (hb1.mono HB0.out.size))
      · exact HH.out.off HB0.out.size (HB0.out.trans (hb1.mono HB0.out.size))) k3 k1 (fun e => by have := HE.out _ e; have := HSZ.out; have := HQY.out; omega) k4 k5 (HS0.out.later hb1) HW.out HL.out k6 (by simp))
  have HY1 := Lib.hid (HY0.out.later hb1)
  have HJ1 := Lib.hid (OwnFrom.later HJ.out HJ0.out hb1)
  have HQ1 := Lib.hid (HQO.out.later hb1)
  have HSZ1 := Lib.hid (show W.heap.size < w1.heap.size by have := HSZ.out; have := HQY.out; omega)
  clear hb1 hsz1 k1 k2 k3 k4 k5 k6
  gi_wp2_with fail
  refine range_world3 rfl (by omega) (I := fun pre W' => J (pre.map Prod.fst) W' ∧ HdAt W' qy (.func (.yield l) #[] #[]) ∧ Off H W' qy) (Ix := fun c pre W' => c = .ret ∧ Jx (pre.map Prod.fst) W') (gf := 179) (lb := _) rfl trivial (fun _ _ => by kernel_rfl) HSEQ.out KpP.trans (fun W' o o' ho hc _ => KpP.put o' (.inr rfl) ho hc) (fun W W' hb => KpP.of_below _ _ hb) (Below.refl _ _) (fun _ => rfl)
    (fun s A B row hs hg hr => ⟨HJ.out _ A B row hs.1 hg (fun r e => ⟨by have := (hr r e).1; have := HSZ1.out; omega, (hr r e).2⟩), hs.2.1.grown hg (fun r e => (hr r e).2), hs.2.2.grown hg (fun r e => (hr r e).2)⟩)
    (fun c s A B row hs hg hr => ⟨hs.1, HJX.out _ A B row hs.2 hg (fun r e => ⟨by have := (hr r e).1; have := HSZ1.out; omega, (hr r e).2⟩)⟩)
    (fun s A B row hs hg hr => hs) (fun s A B row hs hg hr => hs) ⟨HJ1.out, HY1.out, HQ1.out⟩ ?round ?done ?stop
  case round =>
    rintro pre ⟨x, pw⟩ Wr K hI hT hsz hK
    have HTP := Lib.hid (show pre.map Prod.fst ++ [x] <+: crs S from by have := fst_pre hT; simpa [crs] using this)
    have HK := Lib.hid hK
    clear hK hT hI
    simp only [encP]
    simp
    gi_wp2
    refine HK.out _ _ (Below.refl _ _) ?_
    clear HK
    intro Wb hsz2 hrest hkw ⟨hj, hy, ho⟩
    have HKW := Lib.hid hkw
    have HYB := Lib.hid hy
    have HOB := Lib.hid ho
    have cy := hy.cell
    obtain ⟨fn, tmps, assign, body', hyy, hR⟩ := HY.out (pre.map Prod.fst) x Wb hj HTP.out
    unfold encF at hyy
    have HRR := Lib.hid hR
    clear hsz2 hrest hkw hj hy ho hR
    gi_wp2
    refine ⟨fun _ => by omega, ?_⟩
    refine RoundIn.mono (F := Fence.wide) (roundIn_wide HRR.out) ?_
    rintro e w3 (⟨rfl, hj3, hk3⟩ | ⟨rfl, hj3, hk3⟩)
    · have HP : Hid (KeepsFrom w1.heap.size Wb w3 ∧ KpP (fun k => E k ∨ k = w1.heap.size + 1) H Wr w3 ∧ J (((pre ++ [(x, pw)]).map Prod.fst)) w3 ∧ HdAt w3 qy (.func (.yield l) #[] #[]) ∧ Off H w3 qy) := Lib.hid
        ⟨hk3.from (fun k e => by have := HE.out k e; have := HSZ1.out; omega), HKW.out.trans (hk3.mono (fun k h => .inl h)), by simpa using hj3, box_kept HYB.out hk3 (fun e => by have := HE.out _ e; have := HQY.out; omega) HOB.out, hk3.off HOB.out HYB.out.lt⟩
      clear hj3 hk3 cy hyy
      gi_wp2
      exact HP.out
    · have HP : Hid (KeepsFrom w1.heap.size Wb w3 ∧ KpP (fun k => E k ∨ k = w1.heap.size + 1) H Wr w3 ∧ Jx (((pre ++ [(x, pw)]).map Prod.fst)) w3) := Lib.hid
        ⟨hk3.from (fun k e => by have := HE.out k e; have := HSZ1.out; omega), HKW.out.trans (hk3.mono (fun k h => .inl h)), by simpa using hj3⟩
      clear hj3 hk3 cy hyy
      gi_wp2
      exact ⟨HP.out.1, HP.out.2.1, rfl, HP.out.2.2⟩
  case done =>
    rintro D xs W' hD hS ⟨hj, _⟩ hK
    rw [hS] at hj
    have HJ' := Lib.hid hj
    have HK := Lib.hid hK
    have HD := Lib.hid (show w1.heap.size ≤ D from hD)
    clear hS hj hD hK
    gi_wp2
    refine ⟨by simp, .inl ⟨_, _, rfl, run_takeDeferred HK.out, ?_⟩⟩
    exact ⟨_, results_none rfl _ _ _, ⟨_, rfl⟩, .inl (HJ.out.putObj _ HJ'.out (by have := HD.out; have := HSZ1.out; omega) HK.out rfl)⟩
  case stop =>
    rintro D c pre W' hD hS ⟨rfl, hj⟩ hK
    have HP := Lib.hid (fst_pre hS)
    have HJ' := Lib.hid hj
    have HK := Lib.hid hK
    have HD := Lib.hid (show w1.heap.size ≤ D from hD)
    clear hS hj hD hK
    gi_wp2
    refine ⟨by simp, .inl ⟨_, _, rfl, run_takeDeferred HK.out, ?_⟩⟩
    exact ⟨_, results_none rfl _ _ _, ⟨_, rfl⟩, .inr ⟨_, HP.out, HJX.out.putObj _ HJ'.out (by have := HD.out; have := HSZ1.out; omega) HK.out rfl⟩⟩
/-- The function value that creatures returns keeps the contract of the law on ranges. -/
theorem crs_seq (n : Nat) (hn : 4 ≤ n) {w : World} {c1 lo b : Nat} {G : Ghost} {S : StoreL} (E H : Nat → Prop) (hE : ∀ k, E k → k < w.heap.size) (hEG : ∀ k, E k → G.tag k = .no) (hH : Heads H w) (hoff : ∀ k, G.tag k ≠ .no → Off H w k)
    (h1 : HdAt w c1 (.pointer (some ⟨b, 0, none⟩))) (h : StoreAt w lo b G S) (hS : WfS S) (hl : S.objs.length ≤ 1000) :
    SeqW Fence.wide n Tryz.prog 174 #[.pointer (some ⟨c1, 0, none⟩)] encF (fun l => KpP (fun k => E k ∨ k = l) H) (fun pre x => pre ++ [x] <+: crs S) (fun xs _ => xs = crs S) (fun pre _ => pre <+: crs S) w := by
  intro l J Jx W hW hl1 hl2 hJ hJx hY h0
  refine (crs1_in n hn l c1 lo b G S (fun k => E k ∨ k = l) H W (fun k hk => by rcases hk with hk | rfl; exact Nat.lt_of_lt_of_le (hE k hk) hW.size; exact hl2) (fun k hk => by rcases hk with hk | rfl; exact hEG k hk; exact h.high _ hl1) (hH.later hW) (fun k hk => (hoff k hk).later hW)
    (h1.later hW) (h.later hW) hS hl J Jx hJ hJx (fun pre x W1 hj ht => hY pre x W1 hj ht) h0).mono ?_
  rintro e W' ⟨h1, h2 | ⟨pre, h2, h3⟩⟩
  · exact ⟨h1, .inl ⟨_, rfl, h2⟩⟩
  · exact ⟨h1, .inr ⟨_, h2, h3⟩⟩
def RetCrs (w : World) (p : Option Addr) (e : Ending) (w' : World) : Prop := e = .returned (.func (.func 174) #[] #[.pointer (some ⟨w.heap.size, 0, none⟩)]) ∧ HdAt w' w.heap.size (.pointer p) ∧ Below w.heap.size w w'
theorem creatures_any (p : Option Addr) (w : World) : Calls Tryz.prog 166 #[.pointer p] w (RetCrs w p) := by
  have hmf := @mk_func
  go_enter Tryz.func166, Tryz.ntmps166
  go_wp2
  go_ret
  exact ⟨rfl, HdAt.new w _ _, below_new w _⟩
end Go.Proofs.YtdlkdilgjmmlaaaGreat

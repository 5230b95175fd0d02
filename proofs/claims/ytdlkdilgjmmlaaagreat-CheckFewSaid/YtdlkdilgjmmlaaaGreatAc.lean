/- All (layer 10): what its iterator tells, whatever its rounds make: those of the things among which it looks that Check takes. -/
import Derived.Test.YtdlkdilgjmmlaaaGreatBd
import Derived.Test.YtdlkdilgjmmlaaaGreatAb
namespace Go.Proofs.YtdlkdilgjmmlaaaGreat
open Go.RowKit Go.Maps
attribute [local go_sem] Oper.semAt_some

/-- A function value that may be ranged over, and tells the list M. -/
def TellsF (n : Nat) (E H : Nat → Prop) (M : List Int) (V : World) (gf : Nat) (lb : Array Value) : Prop :=
  SeqW Fence.wide n Tryz.prog gf lb encF (fun l => KpP (fun k => E k ∨ k = l) H) (fun pre x => pre ++ [x] <+: M) (fun xs _ => xs = M) (fun pre _ => pre <+: M) V
def RetAmong (n : Nat) (E H : Nat → Prop) (M : List Int) (V : World) (e : Ending) (V' : World) : Prop :=
  ∃ gf lb, e = .returned (.func (.func gf) #[] lb) ∧ (∀ args w, (callFunc gf args).run Tryz.prog w = .ok (.enter gf args) w) ∧ Below V.heap.size V V' ∧ TellsF n E H M V' gf lb
theorem filt_pre10 {c : Int → Bool} {l m : List Int} (h : l <+: m) : l.filter c <+: m.filter c := by
  obtain ⟨r, rfl⟩ := h
  exact ⟨r.filter c, by simp⟩
theorem filt_yes {c : Int → Bool} {pre : List Int} {x : Int} (h : c x = true) : (pre ++ [x]).filter c = pre.filter c ++ [x] := by simp [h]
theorem filt_no {c : Int → Bool} {pre : List Int} {x : Int} (h : c x = false) : (pre ++ [x]).filter c = pre.filter c := by simp [h]
set_option maxRecDepth 100000 in
set_option maxHeartbeats 16000000 in
theorem all10_in (n : Nat) (hn : 3 ≤ n) (l c1 c2 c3 c4 : Nat) (p q : Option Addr) (seat on : Int) (P : World → Prop) (M : List Int) (chk : Int → Int) (E H : Nat → Prop) (W : World) (hE : ∀ k, E k → k < W.heap.size)
    (hoff : ∀ c, c = c1 ∨ c = c2 ∨ c = c3 ∨ c = c4 → ¬E c ∧ Off H W c) (hH : Heads H W) (h1 : HdAt W c1 (.pointer p)) (h2 : HdAt W c2 (.pointer q)) (h3 : HdAt W c3 (.int .i64 seat)) (h4 : HdAt W c4 (.int .i64 on))
    (hP : P W) (hPb : ∀ A B, P A → Below A.heap.size A B → P B) (hPk : ∀ A B, P A → KpP E H A B → P B) (hPo : OwnFrom W.heap.size (fun (_ : List Int) => P))
    (hchk : ∀ V x, P V → Calls Tryz.prog 154 #[.pointer p, .pointer q, .int .i64 seat, .int .i64 on, .int .i64 x] V (RetV V (.int .i64 (chk x))))
    (ham : ∀ V, P V → Below W.heap.size W V → Calls Tryz.prog 153 #[.pointer p, .pointer q, .int .i64 seat, .int .i64 on] V (RetAmong (n - 1) E H M V))
    (J Jx : List Int → World → Prop) (hJ : OwnFrom W.heap.size J) (hJx : OwnFrom W.heap.size Jx)
    (hY : ∀ pre (x : Int) W1, J pre W1 → pre ++ [x] <+: M.filter (fun x => chk x == 0) → YieldAt Fence.wide (n - 1) Tryz.prog l (encF x) W1 fun e W' =>
      (e = .returned (.bool true) ∧ J (pre ++ [x]) W' ∧ KpP E H W1 W') ∨ (e = .returned (.bool false) ∧ Jx (pre ++ [x]) W' ∧ KpP E H W1 W'))
    (h0 : J [] W) :
    CallsIn Fence.wide n Tryz.prog 152 #[.func (.yield l) #[] #[], .pointer (some ⟨c1, 0, none⟩), .pointer (some ⟨c2, 0, none⟩), .pointer (some ⟨c3, 0, none⟩), .pointer (some ⟨c4, 0, none⟩)] W fun e W' => (∃ v, e = .returned v) ∧
      (J (M.filter (fun x => chk x == 0)) W' ∨ (∃ pre, pre <+: M.filter (fun x => chk x == 0) ∧ Jx pre W')) := by
  obtain ⟨c, hc⟩ : ∃ c : Int → Bool, (fun x => chk x == 0) = c := ⟨_, rfl⟩
  have HC := Lib.hid (show ∀ x, c x = (chk x == 0) from fun x => by rw [← hc])
  rw [hc] at hY ⊢
  clear hc
  have HJ := Lib.hid hJ
  have HJX := Lib.hid hJx
  have HY := Lib.hid hY
  have HE := Lib.hid hE
  have HO := Lib.hid hoff
  have HPB := Lib.hid hPb
  have HPK := Lib.hid hPk
  have HPO := Lib.hid hPo
  have HCH := Lib.hid hchk
  have b0 := below_new W (.cells #[.func (.yield l) #[] #[]] 48)
  have HY0 := Lib.hid (HdAt.new W (.func (.yield l) #[] #[]) 48)
  have HP0 := Lib.hid (hPb _ _ hP b0)
  have HJ0 := Lib.hid (OwnFrom.later hJ h0 b0)
  have HB := Lib.hid (And.intro (h1.later b0) (And.intro (h2.later b0) (And.intro (h3.later b0) (h4.later b0))))
  have k1 := (h1.later b0).cell
  have k2 := (h2.later b0).cell
  have k3 := (h3.later b0).cell
  have k4 := (h4.later b0).cell
  have HSZ := Lib.hid (show (W.alloc (.cells #[.func (.yield l) #[] #[]] 48)).heap.size = W.heap.size + 1 from World.size_alloc _ _)
  have HAM := Lib.hid (ham _ HP0.out b0)
  have HQO := Lib.hid (show ∀ k, k = c1 ∨ k = c2 ∨ k = c3 ∨ k = c4 ∨ k = W.heap.size → Off H (W.alloc (.cells #[.func (.yield l) #[] #[]] 48)) k from fun k hk => by
    rcases hk with hk | hk | hk | hk | hk
    · exact (hoff k (.inl hk)).2.later b0
    · exact (hoff k (.inr (.inl hk))).2.later b0
    · exact (hoff k (.inr (.inr (.inl hk)))).2.later b0
    · exact (hoff k (.inr (.inr (.inr hk)))).2.later b0
    · rw [hk]; exact hH.off (Nat.le_refl _) b0)
  clear hJ hJx hY hE hoff hH hPb hPk hPo hchk ham h1 h2 h3 h4 h0 b0 hP
  refine callsIn_of_wp_marks Tryz.func152 rfl trivial ?_ rfl
  simp only [Tryz.ntmps152, List.size_toArray, List.length_cons, List.length_nil, Nat.reduceAdd, Nat.reduceSub, Array.replicate_succ, Array.replicate_zero, List.push_toArray, List.append_toArray, List.nil_append, List.cons_append]
  gi_wp2_with fail
  obtain ⟨W1, hW1⟩ : ∃ W1, W.alloc (.cells #[.func (.yield l) #[] #[]] 48) = W1 := ⟨_, rfl⟩
  obtain ⟨qy, hqy⟩ : ∃ qy, W.heap.size = qy := ⟨_, rfl⟩
  rw [hW1] at HP0 HY0 HJ0 HSZ HB HAM HQO ⊢
  rw [hqy] at HY0 HSZ HQO ⊢
  have HQY := Lib.hid hqy
  clear k1 k2 k3 k4 hW1 hqy
  refine ⟨trivial, fun _ => by omega, (callsIn_wide.2 HAM.out).mono ?_⟩
  rintro e w1 ⟨gf, lb, rfl, heg, hb1, hseq⟩
  have hsz1 := hb1.size
  have HSEQ := Lib.hid hseq
  have HEG := Lib.hid heg
  have HY1 := Lib.hid (HY0.out.later hb1)
  have HJ1 := Lib.hid (OwnFrom.later HJ.out HJ0.out hb1)
  have HP1 := Lib.hid (HPB.out _ _ HP0.out hb1)
  have HQ1 := Lib.hid (show ∀ k, k = c1 ∨ k = c2 ∨ k = c3 ∨ k = c4 ∨ k = qy → Off H w1 k from fun k hk => (HQO.out k hk).later hb1)
  have HB1 := Lib.hid (show HdAt w1 c1 (.pointer p) ∧ HdAt w1 c2 (.pointer q) ∧ HdAt w1 c3 (.int .i64 seat) ∧ HdAt w1 c4 (.int .i64 on) from ⟨HB.out.1.later hb1, HB.out.2.1.later hb1, HB.out.2.2.1.later hb1, HB.out.2.2.2.later hb1⟩)
  have HSZ1 := Lib.hid (show W.heap.size < w1.heap.size by have := HSZ.out; have := HQY.out; omega)
  clear hb1 hsz1 hseq heg
  gi_wp2_with fail
  refine range_world3 rfl (by omega) (I := fun pre W' => J (pre.filter c) W' ∧ P W' ∧ HdAt W' qy (.func (.yield l) #[] #[]) ∧ HdAt W' c1 (.pointer p) ∧ HdAt W' c2 (.pointer q) ∧ HdAt W' c3 (.int .i64 seat) ∧ HdAt W' c4 (.int .i64 on) ∧ ∀ k, k = c1 ∨ k = c2 ∨ k = c3 ∨ k = c4 ∨ k = qy → Off H W' k) (Ix := fun k pre W' => k = .ret ∧ Jx (pre.filter c) W') (gf := gf) (lb := lb) rfl trivial HEG.out HSEQ.out KpP.trans (fun W' o o' ho hc _ => KpP.put o' (.inr rfl) ho hc) (fun W W' hb => KpP.of_below _ _ hb) (Below.refl _ _) (fun _ => rfl)
    (fun s A B row hs hg hr => ⟨HJ.out _ A B row hs.1 hg (fun r e => ⟨by have := (hr r e).1; have := HSZ1.out; omega, (hr r e).2⟩), HPO.out [] A B row hs.2.1 hg (fun r e => ⟨by have := (hr r e).1; have := HSZ1.out; omega, (hr r e).2⟩), hs.2.2.1.grown hg (fun r e => (hr r e).2), hs.2.2.2.1.grown hg (fun r e => (hr r e).2), hs.2.2.2.2.1.grown hg (fun r e => (hr r e).2), hs.2.2.2.2.2.1.grown hg (fun r e => (hr r e).2), hs.2.2.2.2.2.2.1.grown hg (fun r e => (hr r e).2), fun k hk => (hs.2.2.2.2.2.2.2 k hk).grown hg (fun r e => (hr r e).2)⟩)
    (fun c s A B row hs hg hr => ⟨hs.1, HJX.out _ A B row hs.2 hg (fun r e => ⟨by have := (hr r e).1; have := HSZ1.out; omega, (hr r e).2⟩)⟩)
    (fun s A B row hs hg hr => hs) (fun s A B row hs hg hr => hs) ⟨HJ1.out, HP1.out, HY1.out, HB1.out.1, HB1.out.2.1, HB1.out.2.2.1, HB1.out.2.2.2, HQ1.out⟩ ?round ?done ?stop
  case round =>
    rintro pre x Wr K hI hT hsz hK
    have HTP := Lib.hid (filt_pre10 (c := c) hT)
    have HK := Lib.hid hK
    clear hK hT hI
    simp only [encF]
    simp
    gi_wp2
    refine HK.out _ _ (Below.refl _ _) ?_
    clear HK
    intro Wb hsz2 hrest hkw ⟨hj, hp, hy, g1, g2, g3, g4, ho⟩
    have HKW := Lib.hid hkw
    have HYB := Lib.hid (And.intro hy (And.intro g1 (And.intro g2 (And.intro g3 g4))))
    have HCB := Lib.hid (HCH.out Wb x hp)
    have HPBb := Lib.hid hp
    have HJB := Lib.hid hj
    have HOB := Lib.hid ho
    have k1 := g1.cell
    have k2 := g2.cell
    have k3 := g3.cell
    have k4 := g4.cell
    clear hsz2 hrest hkw hj hy hp ho g1 g2 g3 g4
    cases hcx : c x with
    | true =>
      have HF := Lib.hid (filt_yes (pre := pre) hcx)
      have e0 : (chk x == 0) = true := by rw [← HC.out x]; exact hcx
      obtain ⟨v, hv⟩ : ∃ v, chk x = v := ⟨_, rfl⟩
      rw [hv] at e0 HCB
      obtain rfl : v = 0 := by simpa using e0
      clear hcx hv e0
      gi_wp2_with fail
      refine ⟨trivial, fun _ => by omega, (callsIn_wide.2 HCB.out).mono ?_⟩
      rintro e w2 ⟨rfl, hb2⟩
      have HJ2 := Lib.hid (OwnFrom.later HJ.out HJB.out hb2)
      have HP2 := Lib.hid (HPB.out _ _ HPBb.out hb2)
      have HB2 := Lib.hid (show HdAt w2 qy (.func (.yield l) #[] #[]) ∧ HdAt w2 c1 (.pointer p) ∧ HdAt w2 c2 (.pointer q) ∧ HdAt w2 c3 (.int .i64 seat) ∧ HdAt w2 c4 (.int .i64 on) from ⟨HYB.out.1.later hb2, HYB.out.2.1.later hb2, HYB.out.2.2.1.later hb2, HYB.out.2.2.2.1.later hb2, HYB.out.2.2.2.2.later hb2⟩)
      have HO2 := Lib.hid (show ∀ k, k = c1 ∨ k = c2 ∨ k = c3 ∨ k = c4 ∨ k = qy → Off H w2 k from fun k hk => (HOB.out k hk).later hb2)
      have HKP2 := Lib.hid (KpP.of_below E H hb2)
      have cy := HB2.out.1.cell
      obtain ⟨fn, tmps, assign, body', hyy, hR⟩ := HY.out (pre.filter c) x w2 HJ2.out (by rw [← HF.out]; exact HTP.out)
      unfold encF at hyy
      have HRR := Lib.hid hR
      clear hb2 hR k1 k2 k3 k4
      gi_wp2
      refine ⟨fun _ => by omega, ?_⟩
      refine RoundIn.mono (F := Fence.wide) (roundIn_wide HRR.out) ?_
      rintro e w3 (⟨rfl, hj3, hk3⟩ | ⟨rfl, hj3, hk3⟩)
      · have hbx : ∀ c v, (c = c1 ∨ c = c2 ∨ c = c3 ∨ c = c4) → HdAt w2 c v → HdAt w3 c v := fun c v hc h => box_kept h hk3 (HO.out c hc).1 (HO2.out c (by rcases hc with h | h | h | h <;> simp [h]))
        have HP : Hid (KeepsFrom w1.heap.size Wb w3 ∧ KpP (fun k => E k ∨ k = w1.heap.size + 1) H Wr w3 ∧ J ((pre ++ [x]).filter c) w3 ∧ P w3 ∧ HdAt w3 qy (.func (.yield l) #[] #[]) ∧ HdAt w3 c1 (.pointer p) ∧ HdAt w3 c2 (.pointer q) ∧ HdAt w3 c3 (.int .i64 seat) ∧ HdAt w3 c4 (.int .i64 on) ∧ ∀ k, k = c1 ∨ k = c2 ∨ k = c3 ∨ k = c4 ∨ k = qy → Off H w3 k) := Lib.hid
          ⟨(HKP2.out.trans hk3).from (fun k e => by have := HE.out k e; have := HSZ1.out; omega), HKW.out.trans ((HKP2.out.trans hk3).mono (fun k h => .inl h)), by rw [HF.out]; exact hj3, HPK.out _ _ HP2.out hk3, box_kept HB2.out.1 hk3 (fun e => by have := HE.out _ e; have := HQY.out; omega) (HO2.out _ (by simp)),
            hbx _ _ (.inl rfl) HB2.out.2.1, hbx _ _ (.inr (.inl rfl)) HB2.out.2.2.1, hbx _ _ (.inr (.inr (.inl rfl))) HB2.out.2.2.2.1, hbx _ _ (.inr (.inr (.inr rfl))) HB2.out.2.2.2.2, fun k hk => hk3.off (HO2.out k hk) (by
            rcases hk with rfl | rfl | rfl | rfl | rfl
            · exact HB2.out.2.1.lt
            · exact HB2.out.2.2.1.lt
            · exact HB2.out.2.2.2.1.lt
            · exact HB2.out.2.2.2.2.lt
            · exact HB2.out.1.lt)⟩
        clear hj3 hk3 cy hyy hbx
        gi_wp2
        exact HP.out
      · have HP : Hid (KeepsFrom w1.heap.size Wb w3 ∧ KpP (fun k => E k ∨ k = w1.heap.size + 1) H Wr w3 ∧ Jx ((pre ++ [x]).filter c) w3) := Lib.hid
          ⟨(HKP2.out.trans hk3).from (fun k e => by have := HE.out k e; have := HSZ1.out; omega), HKW.out.trans ((HKP2.out.trans hk3).mono (fun k h => .inl h)), by rw [HF.out]; exact hj3⟩
        clear hj3 hk3 cy hyy
        gi_wp2
        exact ⟨HP.out.1, HP.out.2.1, rfl, HP.out.2.2⟩
    | false =>
      have HF := Lib.hid (filt_no (pre := pre) hcx)
      have e0 : (chk x == 0) = false := by rw [← HC.out x]; exact hcx
      obtain ⟨v, hv⟩ : ∃ v, chk x = v := ⟨_, rfl⟩
      rw [hv] at e0 HCB
      clear hcx hv
      gi_wp2_with fail
      refine ⟨trivial, fun _ => by omega, (callsIn_wide.2 HCB.out).mono ?_⟩
      rintro e w2 ⟨rfl, hb2⟩
      have HP : Hid (KeepsFrom w1.heap.size Wb w2 ∧ KpP (fun k => E k ∨ k = w1.heap.size + 1) H Wr w2 ∧ J ((pre ++ [x]).filter c) w2 ∧ P w2 ∧ HdAt w2 qy (.func (.yield l) #[] #[]) ∧ HdAt w2 c1 (.pointer p) ∧ HdAt w2 c2 (.pointer q) ∧ HdAt w2 c3 (.int .i64 seat) ∧ HdAt w2 c4 (.int .i64 on) ∧ ∀ k, k = c1 ∨ k = c2 ∨ k = c3 ∨ k = c4 ∨ k = qy → Off H w2 k) := Lib.hid
        ⟨(KpP.of_below E H hb2).from (fun k e => by have := HE.out k e; have := HSZ1.out; omega), HKW.out.trans (KpP.of_below _ _ hb2), by rw [HF.out]; exact OwnFrom.later HJ.out HJB.out hb2, HPB.out _ _ HPBb.out hb2, HYB.out.1.later hb2, HYB.out.2.1.later hb2, HYB.out.2.2.1.later hb2, HYB.out.2.2.2.1.later hb2, HYB.out.2.2.2.2.later hb2, fun k hk => (HOB.out k hk).later hb2⟩
      clear hb2 k1 k2 k3 k4
      gi_wp2
      refine ⟨(fun _ h => by cases h), ?_⟩
      gi_wp2
      exact HP.out
  case done =>
    rintro D xs W' hD hS ⟨hj, _⟩ hK
    rw [hS] at hj
    have HJ' := Lib.hid hj
    have HK := Lib.hid hK
    have HD := Lib.hid (show w1.heap.size ≤ D from hD)
    clear hS hj hD hK
    gi_wp2
    refine ⟨by simp, .inl ⟨_, _, rfl, run_takeDeferred HK.out, ?_⟩⟩
    exact ⟨_, results_none rfl _ _ _, ⟨_, rfl⟩, .inl (HJ.out.putObj _ HJ'.out (by have := HD.out; have := HSZ1.out; omega) HK.out rfl)⟩
  case stop =>
    rintro D k pre W' hD hS ⟨rfl, hj⟩ hK
    have HP := Lib.hid (filt_pre10 (c := c) hS)
    have HJ' := Lib.hid hj
    have HK := Lib.hid hK
    have HD := Lib.hid (show w1.heap.size ≤ D from hD)
    clear hS hj hD hK
    gi_wp2
    refine ⟨by simp, .inl ⟨_, _, rfl, run_takeDeferred HK.out, ?_⟩⟩
    exact ⟨_, results_none rfl _ _ _, ⟨_, rfl⟩, .inr ⟨_, HP.out, HJX.out.putObj _ HJ'.out (by have := HD.out; have := HSZ1.out; omega) HK.out rfl⟩⟩
def RetAll (w : World) (p q : Option Addr) (seat on : Int) (e : Ending) (w' : World) : Prop :=
  e = .returned (.func (.func 152) #[] #[.pointer (some ⟨w.heap.size, 0, none⟩), .pointer (some ⟨w.heap.size + 1, 0, none⟩), .pointer (some ⟨w.heap.size + 2, 0, none⟩), .pointer (some ⟨w.heap.size + 3, 0, none⟩)]) ∧
    HdAt w' w.heap.size (.pointer p) ∧ HdAt w' (w.heap.size + 1) (.pointer q) ∧ HdAt w' (w.heap.size + 2) (.int .i64 seat) ∧ HdAt w' (w.heap.size + 3) (.int .i64 on) ∧ Below w.heap.size w w' ∧ w'.heap.size = w.heap.size + 4
theorem HdAt.next {w : World} {v : Value} {t : TypeId} {k : Nat} (h : w.heap.size = k) : HdAt (w.alloc (.cells #[v] t)) k v := by subst h; exact HdAt.new w v t
set_option maxRecDepth 100000 in
theorem aimAll_any (p q : Option Addr) (seat on : Int) (w : World) : Calls Tryz.prog 131 #[.pointer p, .pointer q, .int .i64 seat, .int .i64 on] w (RetAll w p q seat on) := by
  have hmf := @mk_func
  go_enter Tryz.func131, Tryz.ntmps131
  go_wp2
  go_ret
  exact ⟨rfl, (((HdAt.new w _ _).later (below_new _ _)).later (below_new _ _)).later (below_new _ _), ((HdAt.next (by simp)).later (below_new _ _)).later (below_new _ _), (HdAt.next (by simp)).later (below_new _ _), HdAt.next (by simp),
    below_alloc2 (below_alloc2 (below_alloc2 (below_new w _) _) _) _, by simp⟩
end Go.Proofs.YtdlkdilgjmmlaaaGreat

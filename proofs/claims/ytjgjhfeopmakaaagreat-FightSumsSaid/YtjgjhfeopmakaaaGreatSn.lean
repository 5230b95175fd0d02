/- Strong (layer 8): creatures and their powers, one by one, as a range over a function. -/
import Derived.Test.YtjgjhfeopmakaaaGreatSd
import Derived.Test.YtjgjhfeopmakaaaGreatFy
import Derived.Test.YtjgjhfeopmakaaaGreatOt
namespace Go.Proofs.YtjgjhfeopmakaaaGreat
open Go.RowKit Go.Maps
attribute [local go_sem] Oper.semAt_some

def kindB (S : StoreL) (o : ObjL) : Bool := (cardS S o).kind == 2
def itemO (S : StoreL) (o : ObjL) : Int × Int := (o.id, layZ (cardS S o).power o.count o.boost)
def strL (S : StoreL) (pre : List ObjL) : List (Int × Int) := (pre.filter (kindB S)).map (itemO S)
theorem two_drew (w : World) (x : Int) : Crd.NumsAt (w.alloc (.cells #[.int .i64 x] 3)).drew (.slice (some ⟨w.heap.size, 0, none⟩) 1 1) [x] := by
  rcases two_nums w x with h | ⟨b, off, cap, e, hb, hc⟩
  · exact .inl h
  · exact .inr ⟨b, off, cap, e, by simpa using hb, fun i hi => cell_stays (Below.refl _ _).drew (hc i hi)⟩
theorem yield_cases {e : Ending} {A B C D : Prop} (h : (e = .returned (.bool true) ∧ A ∧ C) ∨ (e = .returned (.bool false) ∧ B ∧ D)) : ∃ bb, e = .returned (.bool bb) ∧ Hid ((bb = true → A ∧ C) ∧ (bb = false → B ∧ D)) := by
  rcases h with ⟨rfl, h⟩ | ⟨rfl, h⟩
  · exact ⟨true, rfl, Lib.hid ⟨fun _ => h, fun e => Bool.noConfusion e⟩⟩
  · exact ⟨false, rfl, Lib.hid ⟨fun e => Bool.noConfusion e, fun _ => h⟩⟩
theorem strL_snoc (S : StoreL) (pre : List ObjL) (x : ObjL) : strL S (pre ++ [x]) = if kindB S x then strL S pre ++ [itemO S x] else strL S pre := by
  unfold strL
  rw [List.filter_append, List.map_append]
  by_cases h : kindB S x = true
  · rw [if_pos h]
    simp [h]
  · rw [if_neg h]
    simp [h]
theorem strL_pre {S : StoreL} {L pre : List ObjL} (h : pre <+: L) : strL S pre <+: strL S L := by
  obtain ⟨r, rfl⟩ := h
  refine ⟨strL S r, ?_⟩
  unfold strL
  rw [List.filter_append, List.map_append]
def encP (p : Int × Int) : Array Value := #[.int .i64 p.1, .int .i64 p.2]
/-- What Strong returns. -/
def RetStr (w : World) (p : Option Addr) (os : List Int) (e : Ending) (w' : World) : Prop :=
  ∃ qf c1 c2 u, e = .returned (.func (.func 116) #[] #[.pointer (some ⟨qf, 0, none⟩), .pointer (some ⟨w.heap.size, 0, none⟩)]) ∧ HdAt w' w.heap.size (.pointer p) ∧ w.heap.size ≤ qf ∧ w.heap.size ≤ c1 ∧ w.heap.size ≤ c2 ∧
    HdAt w' qf (.func (.func 123) #[] #[.pointer (some ⟨c1, 0, none⟩), .pointer (some ⟨c2, 0, none⟩)]) ∧ HdAt w' c1 (.pointer p) ∧ HdAt w' c2 u ∧ IntsAt w' u os ∧ Below w.heap.size w w'
set_option maxRecDepth 100000 in
set_option maxHeartbeats 16000000 in
theorem strong_any {w : World} {v : Value} {os : List Int} (p : Option Addr) (h : IntsAt w v os) (hl : os.length ≤ 1000) : Calls Tryz.prog 102 #[.pointer p, v] w (RetStr w p os) := by
  have hmf := @mk_func
  have hb0 := below_new w (.cells #[.pointer p] 34)
  have HFA := Lib.hid (field_any p (h.later hb0) hl)
  have HS0 := Lib.hid (HdAt.new w (.pointer p) 34)
  have HB0 := Lib.hid hb0
  clear h hb0
  go_enter Tryz.func102, Tryz.ntmps102
  go_wp2_with fail
  refine HFA.out.mono ?_
  rintro e w1 ⟨rfl, h1, ⟨u, h2, hu⟩, hb1⟩
  have HH := Lib.hid (And.intro h1 (And.intro h2 hu))
  have HB1 := Lib.hid hb1
  obtain ⟨d1, hd1⟩ : ∃ d1, (w.alloc (.cells #[.pointer p] 34)).heap.size = d1 := ⟨_, rfl⟩
  have HD := Lib.hid (show d1 = w.heap.size + 1 by rw [← hd1, World.size_alloc])
  rw [hd1] at HH
  clear h1 h2 hu hb1
  dsimp only
  rw [hd1]
  go_wp2
  go_ret
  have hb2 := below_new w1 (.cells #[.func (.func 123) #[] #[.pointer (some ⟨d1, 0, none⟩), .pointer (some ⟨d1 + 1, 0, none⟩)]] 165)
  have hsz : w.heap.size ≤ w1.heap.size := by have := HB1.out.size; simp at this; omega
  refine ⟨w1.heap.size, d1, d1 + 1, u, rfl, (HS0.out.later HB1.out).later hb2, hsz, by have := HD.out; omega, by have := HD.out; omega, HdAt.new _ _ _, HH.out.1.later hb2, HH.out.2.1.later hb2, HH.out.2.2.later hb2, stepB (stepB HB0.out HB1.out) hb2⟩
set_option maxRecDepth 100000 in
set_option maxHeartbeats 16000000 in
theorem strong1_in (n : Nat) (hn : 3 ≤ n) (l c1 c2 d1 d2 lo b : Nat) (G : Ghost) (S : StoreL) (u : Value) (os : List Int) (E H : Nat → Prop) (W : World) (hE : ∀ k, E k → k < W.heap.size) (hEG : ∀ k, E k → G.tag k = .no) (hH : Heads H W) (hoff : ∀ k, G.tag k ≠ .no ∨ k = c2 → Off H W k)
    (h1 : HdAt W c1 (.func (.func 123) #[] #[.pointer (some ⟨d1, 0, none⟩), .pointer (some ⟨d2, 0, none⟩)])) (h2 : HdAt W c2 (.pointer (some ⟨b, 0, none⟩))) (hcE : ¬E c2)
    (h3 : HdAt W d1 (.pointer (some ⟨b, 0, none⟩))) (h4 : HdAt W d2 u) (h : StoreAt W lo b G S) (hS : WfS S) (hl : S.objs.length ≤ 1000) (hu : IntsAt W u os) (hos : os.length ≤ 1000)
    (J Jx : List (Int × Int) → World → Prop) (hJ : OwnFrom W.heap.size J) (hJx : OwnFrom W.heap.size Jx)
    (hY : ∀ pre (x : Int × Int) W1, J pre W1 → pre ++ [x] <+: strL S (fieldL S os) → YieldAt Fence.wide (n - 1) Tryz.prog l (encP x) W1 fun e W' =>
      (e = .returned (.bool true) ∧ J (pre ++ [x]) W' ∧ KpP E H W1 W') ∨ (e = .returned (.bool false) ∧ Jx (pre ++ [x]) W' ∧ KpP E H W1 W'))
    (h0 : J [] W) :
    CallsIn Fence.wide n Tryz.prog 116 #[.func (.yield l) #[] #[], .pointer (some ⟨c1, 0, none⟩), .pointer (some ⟨c2, 0, none⟩)] W fun e W' => (∃ v, e = .returned v) ∧
      ((∃ xs, xs = strL S (fieldL S os) ∧ J xs W') ∨ (∃ pre, pre <+: strL S (fieldL S os) ∧ Jx pre W')) := by
  have hn1 := h.n1
  have HJ := Lib.hid hJ
  have HJX := Lib.hid hJx
  have HY := Lib.hid hY
  have HE := Lib.hid hE
  have HEG := Lib.hid hEG
  have HCE := Lib.hid hcE
  have HW := Lib.hid hS
  have HL := Lib.hid hl
  have b0 := below_new W (.cells #[.func (.yield l) #[] #[]] 134)
  have HS0 := Lib.hid (h.later b0)
  have HC0 := Lib.hid (h2.later b0)
  have HY0 := Lib.hid (HdAt.new W (.func (.yield l) #[] #[]) 134)
  have HJ0 := Lib.hid (OwnFrom.later hJ h0 b0)
  have HO0 := Lib.hid (show ∀ k, G.tag k ≠ .no ∨ k = c2 ∨ k = W.heap.size → Off H (W.alloc (.cells #[.func (.yield l) #[] #[]] 134)) k from fun k hk => by
    rcases hk with hk | rfl | rfl
    · exact (hoff k (.inl hk)).later b0
    · exact (hoff k (.inr rfl)).later b0
    · exact hH.off (Nat.le_refl _) b0)
  have HTG := Lib.hid (show ∀ k, W.heap.size ≤ k → G.tag k = .no from h.high)
  have c1c := (h1.later b0).cell
  have HB0 := Lib.hid b0
  have HSZ := Lib.hid (show (W.alloc (.cells #[.func (.yield l) #[] #[]] 134)).heap.size = W.heap.size + 1 from World.size_alloc _ _)
  have HSEQ := Lib.hid (field_seq (n - 1) (by omega) (w := W.alloc (.cells #[.func (.yield l) #[] #[]] 134)) E H (fun k hk => by have := hE k hk; simp; omega) (h3.later b0) (h4.later b0) HS0.out hS hl (hu.later b0) hos (hH.later b0))
  clear hJ hJx hY hE hEG hH hoff hcE h1 h2 h3 h4 h hS hl hu h0 b0
  refine callsIn_of_wp_marks Tryz.func116 rfl trivial ?_ rfl
  simp only [Tryz.ntmps116, List.size_toArray, List.length_cons, List.length_nil, Nat.reduceAdd, Nat.reduceSub, Array.replicate_succ, Array.replicate_zero, List.push_toArray, List.append_toArray, List.nil_append, List.cons_append]
  gi_wp2_with fail
  obtain ⟨W1, hW1⟩ : ∃ W1, W.alloc (.cells #[.func (.yield l) #[] #[]] 134) = W1 := ⟨_, rfl⟩
  obtain ⟨qy, hqy⟩ : ∃ qy, W.heap.size = qy := ⟨_, rfl⟩
  rw [hW1] at HS0 HC0 HY0 HJ0 HB0 HSZ HSEQ HO0 ⊢
  rw [hqy] at HY0 HSZ HTG HO0 ⊢
  have HQY := Lib.hid hqy
  clear c1c hW1
  refine range_world3 rfl (by omega) (I := fun pre W' => J (strL S pre) W' ∧ StoreAt W' lo b G S ∧ HdAt W' c2 (.pointer (some ⟨b, 0, none⟩)) ∧ HdAt W' qy (.func (.yield l) #[] #[]) ∧ ∀ k, G.tag k ≠ .no ∨ k = c2 ∨ k = qy → Off H W' k) (Ix := fun c pre W' => c = .ret ∧ Jx (strL S pre) W') (gf := 123) (lb := _) rfl trivial (fun _ _ => by kernel_rfl) HSEQ.out KpP.trans (fun W' o o' ho hc _ => KpP.put o' (.inr rfl) ho hc) (fun W W' hb => KpP.of_below _ _ hb) (Below.refl _ _) (fun _ => rfl)
    (fun s A B row hs hg hr => ⟨HJ.out _ A B row hs.1 hg (fun r e => ⟨by have := (hr r e).1; have := HSZ.out; omega, (hr r e).2⟩),
      hs.2.1.kept hg.size (fun k hk => hg.block k (hs.2.1.tagLt hk) (fun e => hk (HTG.out k (by have := (hr k e.symm).1; have := HSZ.out; omega)))),
      hs.2.2.1.grown hg (fun r e => (hr r e).2), hs.2.2.2.1.grown hg (fun r e => (hr r e).2), fun k hk => (hs.2.2.2.2 k hk).grown hg (fun r e => (hr r e).2)⟩)
    (fun c s A B row hs hg hr => ⟨hs.1, HJX.out _ A B row hs.2 hg (fun r e => ⟨by have := (hr r e).1; have := HSZ.out; omega, (hr r e).2⟩)⟩)
    (fun s A B row hs hg hr => hs) (fun s A B row hs hg hr => hs) ⟨HJ0.out, HS0.out, HC0.out, HY0.out, HO0.out⟩ ?round ?done ?stop
  case round =>
    rintro pre x Wr K hI hT hsz hK
    obtain ⟨k, hk, hx, hid, hz, n0, hcn, hn0⟩ := field_mem HW.out hn1 (show x ∈ fieldL S os from hT.subset (by simp))
    have HSN := Lib.hid (strL_snoc S pre x)
    have HTP := Lib.hid (strL_pre (S := S) hT)
    have HCO := Lib.hid (fun (W' : World) (hs : StoreAt W' lo b G S) => card_ok hs HL.out k n0 hk hn0 (by rw [← hx]; exact hcn))
    have hkb : kindB S x = (S.T[n0].kind == 2) := by unfold kindB; rw [cardS_at hcn hn0]
    have hit : itemO S x = (x.id, layZ S.T[n0].power x.count x.boost) := by unfold itemO; rw [cardS_at hcn hn0]
    rw [hit] at HSN
    rw [hkb] at HSN
    obtain ⟨c, hcq⟩ : ∃ c, S.T[n0] = c := ⟨_, rfl⟩
    rw [hcq] at HCO HSN
    obtain ⟨x0, x1, x2, x3, x4, x5, x6, x7, x8, x9, x10⟩ := x
    obtain ⟨d0, e1, e2, e3, e4, e5, dt⟩ := c
    dsimp only at hid hcn hz HSN
    subst hid hcn hz
    have HI2 := Lib.hid (fun (w' : World) (ya : Option Addr) (yn yc : Nat) (v : Value) (hv : Crd.NumsAt w' v [2]) => (Crd.is_any ⟨d0, e1, e2, e3, e4, e5, dt⟩ ya yn yc v [2] w' (by decide) hv))
    have HLY := Lib.hid (fun w' => layers_any e2 ⟨(k : Int) + 1, n0, x2, 3, x4, x5, x6, x7, x8, x9, x10⟩ w')
    unfold RetCard Crd.cagg at HCO
    unfold Crd.cagg at HI2
    unfold oagg at HLY
    dsimp only at HCO HI2 HLY
    have HK := Lib.hid hK
    clear hK hT hx hkb hit hcq hI
    simp only [encO, ocs]
    simp
    gi_wp2
    refine HK.out _ _ (below_new Wr _) ?_
    clear HK
    intro Wb hsz2 hrest hkw ⟨hj, hs, hc2, hy, ho⟩
    have hqz := (hrest Wr.heap.size (by omega)).trans (heap_alloc_new Wr (.cells #[.int .i64 ((k : Int) + 1), .int .i64 n0, .int .i64 x2, .int .i64 3, .bool x4, .bool x5, .int .i64 x6, .int .i64 x7, .int .i64 x8, .int .i64 x9, .bool x10] 30))
    have HKW := Lib.hid hkw
    have HJB := Lib.hid hj
    have HSB := Lib.hid hs
    have HC2 := Lib.hid hc2
    have HYB := Lib.hid hy
    have HOB := Lib.hid ho
    obtain ⟨qz, hqz0⟩ : ∃ qz, Wr.heap.size = qz := ⟨_, rfl⟩
    rw [hqz0] at hqz ⊢
    have HQZ := Lib.hid hqz
    have HQZ0 := Lib.hid (show W.heap.size ≤ qz by rw [← hqz0]; have := HSZ.out; have := HQY.out; omega)
    have c2c := hc2.cell
    have c0 : Wb.cell? ⟨qz, 0, none⟩ = some (.int .i64 ((k : Int) + 1)) := (obj_of_row (x := ⟨(k : Int) + 1, n0, x2, 3, x4, x5, x6, x7, x8, x9, x10⟩) hqz).1
    have HCC := Lib.hid (HCO.out Wb hs)
    clear hsz2 hrest hkw hj hs hc2 hy ho hqz0 hqz HCO
    gi_wp2_with fail
    refine ⟨trivial, fun _ => by omega, (callsIn_wide.2 HCC.out).mono ?_⟩
    rintro e w2 ⟨xa, xc, rfl, _, hb2⟩
    dsimp only
    gi_wp2
    by_cases hd2 : d0 = 2
    · subst hd2
      have HB3 := Lib.hid (below_alloc2 hb2 (.cells #[.int .i64 2, .int .i64 e1, .int .i64 e2, .int .i64 e3, .int .i64 e4, .int .i64 e5, .slice xa dt.length xc] 65))
      obtain ⟨q5, hq5⟩ : ∃ q5, w2.heap.size = q5 := ⟨_, rfl⟩
      have hrow5 := heap_alloc_new w2 (.cells #[.int .i64 2, .int .i64 e1, .int .i64 e2, .int .i64 e3, .int .i64 e4, .int .i64 e5, .slice xa dt.length xc] 65)
      obtain ⟨W3, hW3⟩ : ∃ W3, w2.alloc (.cells #[.int .i64 2, .int .i64 e1, .int .i64 e2, .int .i64 e3, .int .i64 e4, .int .i64 e5, .slice xa dt.length xc] 65) = W3 := ⟨_, rfl⟩
      rw [hW3] at HB3 hrow5 ⊢
      rw [hq5] at hrow5 ⊢
      have hrowz := (HB3.out.block qz (Array.getElem?_eq_some_iff.1 HQZ.out).1).trans HQZ.out
      obtain ⟨ty, hrowy⟩ := HYB.out.later HB3.out
      have HR3 := Lib.hid (And.intro hrowz (And.intro hrow5 hrowy))
      have HJ3 := Lib.hid (OwnFrom.later HJ.out HJB.out HB3.out)
      have HSF := Lib.hid (fun (w' : World) (hb : Below W3.heap.size W3 w') => (show w'.heap[qz]? = some (.cells #[.int .i64 ((k : Int) + 1), .int .i64 n0, .int .i64 x2, .int .i64 3, .bool x4, .bool x5, .int .i64 x6, .int .i64 x7, .int .i64 x8, .int .i64 x9, .bool x10] 30 (0, 0)) ∧ w'.heap[q5]? = some (.cells #[.int .i64 2, .int .i64 e1, .int .i64 e2, .int .i64 e3, .int .i64 e4, .int .i64 e5, .slice xa dt.length xc] 65 (0, 0)) ∧ w'.heap[qy]? = some (.cells #[.func (.yield l) #[] #[]] ty (0, 0)) from ⟨(hb.block _ (Array.getElem?_eq_some_iff.1 hrowz).1).trans hrowz, (hb.block _ (Array.getElem?_eq_some_iff.1 hrow5).1).trans hrow5, (hb.block _ (Array.getElem?_eq_some_iff.1 hrowy).1).trans hrowy⟩))
      have HQN := Lib.hid (show W.heap.size ≤ qy ∧ W.heap.size ≤ qz ∧ W.heap.size ≤ q5 from ⟨Nat.le_of_eq HQY.out, HQZ0.out, by rw [← hq5]; have h1 := (Array.getElem?_eq_some_iff.1 HQZ.out).1; have h2 := hb2.size; have := HQZ0.out; omega⟩)
      clear hW3 hq5 hb2 hrowz hrow5 hrowy c2c c0 HCC
      rw [show ((2 : Int) == 2) = true from rfl, if_pos rfl] at HSN
      have hk1 : ([2] : List Int).contains 2 = true := rfl
      obtain ⟨pw, hpw⟩ : ∃ pw, layZ e2 x7 x8 = pw := ⟨_, rfl⟩
      rw [hpw] at HSN HLY
      have HI3 := Lib.hid (fun (w' : World) (ya : Option Addr) (yn yc : Nat) => HI2.out ((w'.alloc (.cells #[.int .i64 2] 3)).drew) ya yn yc _ (two_drew w' 2))
      have hYY := HY.out (strL S pre) ((k : Int) + 1, pw)
      simp only [encP] at hYY
      have HYY := Lib.hid hYY
      clear hYY hpw
      refine wpIn_region_any (by kernel_rfl) ?_
      change wpAnyIn _ _ _ _ _ _ _ _ _ (World.drew _)
      refine anyC.any (c := 11) (S := fun w' => w'.heap[qz]? = some (.cells #[.int .i64 ((k : Int) + 1), .int .i64 n0, .int .i64 x2, .int .i64 3, .bool x4, .bool x5, .int .i64 x6, .int .i64 x7, .int .i64 x8, .int .i64 x9, .bool x10] 30 (0, 0)) ∧ w'.heap[q5]? = some (.cells #[.int .i64 2, .int .i64 e1, .int .i64 e2, .int .i64 e3, .int .i64 e4, .int .i64 e5, .slice xa dt.length xc] 65 (0, 0)) ∧ w'.heap[qy]? = some (.cells #[.func (.yield l) #[] #[]] ty (0, 0))) ?_
      refine anyC_take [2, 3, 10, 11] (i := 0) (v := ?_) (by decide) (by decide) (by kernel_rfl) (by kernel_rfl) (by kernel_rfl) (by kernel_rfl) rfl (by kernel_rfl) (by kernel_rfl) (by kernel_rfl) (fun _ _ _ h => h) (by kernel_rfl) (fun _ => rfl) ?_ ?_
      rotate_left
      · intro w' hS
        obtain ⟨_, hr5, _⟩ := hS
        have r0 := cell_of_row w' q5 0 _ _ (0, 0) hr5
        have r1 := cell_of_row w' q5 1 _ _ (0, 0) hr5
        have r2 := cell_of_row w' q5 2 _ _ (0, 0) hr5
        have r3 := cell_of_row w' q5 3 _ _ (0, 0) hr5
        have r4 := cell_of_row w' q5 4 _ _ (0, 0) hr5
        have r5 := cell_of_row w' q5 5 _ _ (0, 0) hr5
        have r6 := cell_of_row w' q5 6 _ _ (0, 0) hr5
        go_simp
        try with_reducible rfl
      refine anyC_one (i := 1) (by kernel_rfl) rfl (fun _ => HSF.out _ (Below.refl _ _).drew) (fun K hK => ?_)
      go_simp
      refine hK _ _ ?_
      clear hK K
      refine anyC_one (i := 2) (by kernel_rfl) rfl (fun _ => HSF.out _ (below_new W3 (.cells #[.int .i64 2] 3)).drew) (fun K hK => ?_)
      go_simp
      gi_wp2_with ((refine ⟨trivial, fun _ => by omega, ?_⟩; gi_at_call 79; refine CallsIn.mono (F := Fence.wide) (callsIn_wide.2 (HI3.out _ _ _ _)) ?_; rintro e w4 ⟨rfl, hb4⟩; have HB4 := Lib.hid (stepB (below_new W3 (.cells #[.int .i64 2] 3)).drew hb4); rw [hk1]; clear hb4))
      refine anyC_take [10, 11] (i := 3) (v := ?_) (by decide) (by decide) (by kernel_rfl) (by kernel_rfl) (by kernel_rfl) (by kernel_rfl) rfl (by kernel_rfl) (by kernel_rfl) (by kernel_rfl) (fun _ _ _ h => h) (by kernel_rfl) (fun _ => rfl) ?_ ?_
      rotate_left
      · intro w' hS
        go_simp
        try with_reducible rfl
      refine anyC_take [11] (i := 4) (v := ?_) (by decide) (by decide) (by kernel_rfl) (by kernel_rfl) (by kernel_rfl) (by kernel_rfl) rfl (by kernel_rfl) (by kernel_rfl) (by kernel_rfl) (fun _ _ _ h => h) (by kernel_rfl) (fun _ => rfl) ?_ ?_
      rotate_left
      · intro w' hS
        obtain ⟨_, _, hry⟩ := hS
        have y0 := cell_of_row w' qy 0 _ _ (0, 0) hry
        go_simp
        try with_reducible rfl
      refine anyC_take [6, 11] (i := 5) (v := ?_) (by decide) (by decide) (by kernel_rfl) (by kernel_rfl) (by kernel_rfl) (by kernel_rfl) rfl (by kernel_rfl) (by kernel_rfl) (by kernel_rfl) (fun _ _ _ h => h) (by kernel_rfl) (fun _ => rfl) ?_ ?_
      rotate_left
      · intro w' hS
        go_simp
        try with_reducible rfl
      refine anyC_take [11] (i := 6) (v := ?_) (by decide) (by decide) (by kernel_rfl) (by kernel_rfl) (by kernel_rfl) (by kernel_rfl) rfl (by kernel_rfl) (by kernel_rfl) (by kernel_rfl) (fun _ _ _ h => h) (by kernel_rfl) (fun _ => rfl) ?_ ?_
      rotate_left
      · intro w' hS
        obtain ⟨hrz, _, _⟩ := hS
        obtain ⟨s0, s1, s2, s3, s4, s5, s6, s7, s8, s9, s10⟩ := obj_of_row (x := ⟨(k : Int) + 1, n0, x2, 3, x4, x5, x6, x7, x8, x9, x10⟩) hrz
        simp only [Nat.zero_add] at s1 s2 s3 s4 s5 s6 s7 s8 s9 s10
        dsimp only at s0 s1 s2 s3 s4 s5 s6 s7 s8 s9 s10
        go_simp
        try with_reducible rfl
      refine anyC_take [8, 10, 11] (i := 7) (v := ?_) (by decide) (by decide) (by kernel_rfl) (by kernel_rfl) (by kernel_rfl) (by kernel_rfl) rfl (by kernel_rfl) (by kernel_rfl) (by kernel_rfl) (fun _ _ _ h => h) (by kernel_rfl) (fun _ => rfl) ?_ ?_
      rotate_left
      · intro w' hS
        go_simp
        try with_reducible rfl
      refine anyC_take [10, 11] (i := 8) (v := ?_) (by decide) (by decide) (by kernel_rfl) (by kernel_rfl) (by kernel_rfl) (by kernel_rfl) rfl (by kernel_rfl) (by kernel_rfl) (by kernel_rfl) (fun _ _ _ h => h) (by kernel_rfl) (fun _ => rfl) ?_ ?_
      rotate_left
      · intro w' hS
        obtain ⟨_, hr5, _⟩ := hS
        have r0 := cell_of_row w' q5 0 _ _ (0, 0) hr5
        have r1 := cell_of_row w' q5 1 _ _ (0, 0) hr5
        have r2 := cell_of_row w' q5 2 _ _ (0, 0) hr5
        have r3 := cell_of_row w' q5 3 _ _ (0, 0) hr5
        have r4 := cell_of_row w' q5 4 _ _ (0, 0) hr5
        have r5 := cell_of_row w' q5 5 _ _ (0, 0) hr5
        have r6 := cell_of_row w' q5 6 _ _ (0, 0) hr5
        go_simp
        try with_reducible rfl
      refine anyC_take [10, 11] (i := 9) (v := ?_) (by decide) (by decide) (by kernel_rfl) (by kernel_rfl) (by kernel_rfl) (by kernel_rfl) rfl (by kernel_rfl) (by kernel_rfl) (by kernel_rfl) (fun _ _ _ h => h) (by kernel_rfl) (fun _ => rfl) ?_ ?_
      rotate_left
      · intro w' hS
        obtain ⟨hrz, _, _⟩ := hS
        obtain ⟨s0, s1, s2, s3, s4, s5, s6, s7, s8, s9, s10⟩ := obj_of_row (x := ⟨(k : Int) + 1, n0, x2, 3, x4, x5, x6, x7, x8, x9, x10⟩) hrz
        simp only [Nat.zero_add] at s1 s2 s3 s4 s5 s6 s7 s8 s9 s10
        dsimp only at s0 s1 s2 s3 s4 s5 s6 s7 s8 s9 s10
        go_simp
        try with_reducible rfl
      refine anyC_one (i := 10) (by kernel_rfl) rfl (fun _ => HSF.out _ HB4.out) (fun K hK => ?_)
      go_simp
      gi_wp2_with ((refine ⟨trivial, fun _ => by omega, ?_⟩; gi_at_call 44; refine CallsIn.mono (F := Fence.wide) (callsIn_wide.2 (HLY.out _)) ?_; rintro e w5 ⟨rfl, hb5⟩; have HB5 := Lib.hid (stepB HB4.out hb5); have HJ5 := Lib.hid (OwnFrom.later HJ.out HJ3.out HB5.out); clear hb5))
      obtain ⟨fn, tmps, assign, body', hyy, hR⟩ := HYY.out w5 HJ5.out (by rw [← HSN.out]; exact HTP.out)
      have HRR := Lib.hid hR
      clear hR
      refine anyC_one (i := 11) (by kernel_rfl) rfl (fun _ => HSF.out _ HB5.out) (fun K hK => ?_)
      go_simp
      gi_wp2_with ((refine ⟨fun _ => by omega, ?_⟩; refine RoundIn.mono (F := Fence.wide) (roundIn_wide HRR.out) ?_; rintro e w6 hcase; obtain ⟨bb, rfl, HH6⟩ := yield_cases hcase; clear hcase))
      have HKP6 : Hid (KpP E H Wb w6 ∧ KpP E H w5 w6) := Lib.hid (by
        have hk6 : KpP E H w5 w6 := by
          cases bb
          · exact (HH6.out.2 rfl).2
          · exact (HH6.out.1 rfl).2
        exact ⟨(KpP.of_below E H (stepB HB3.out HB5.out)).trans hk6, hk6⟩)
      refine anyC_one (i := 12) (by kernel_rfl) rfl (fun h => absurd ((show Array.getD _ 11 true = true by kernel_rfl).symm.trans h) (by decide)) (fun K hK => ?_)
      go_simp
      refine hK _ _ ?_
      clear hK K
      refine anyC_one (i := 13) (by kernel_rfl) rfl (fun h => absurd ((show Array.getD _ 11 true = true by kernel_rfl).symm.trans h) (by decide)) (fun K hK => ?_)
      go_simp
      refine hK _ _ ?_
      clear hK K
      refine anyC_done (by kernel_rfl) (fun h => absurd ((show Array.getD _ 11 true = true by kernel_rfl).symm.trans h) (by decide)) ?_ _
      have HST6 := Lib.hid (show StoreAt w6 lo b G S from HSB.out.kept HKP6.out.1.size (fun k hk => by
        have hlt := HSB.out.tagLt hk
        have ho : Wb.heap[k]? = some Wb.heap[k] := Array.getElem?_eq_getElem hlt
        exact (HKP6.out.1.rest k _ ho (fun e => hk (HEG.out k e)) (fun _ => HOB.out k (.inl hk))).trans ho.symm))
      have HC6 := Lib.hid (box_kept HC2.out HKP6.out.1 HCE.out (HOB.out _ (.inr (.inl rfl))))
      have HY6 := Lib.hid (box_kept HYB.out HKP6.out.1 (fun e => by have := HE.out _ e; have := HQN.out; omega) (HOB.out _ (.inr (.inr rfl))))
      have HO6 := Lib.hid (show ∀ k, G.tag k ≠ .no ∨ k = c2 ∨ k = qy → Off H w6 k from fun k hk => HKP6.out.1.off (HOB.out k hk) (by
        rcases hk with hk | rfl | rfl
        · exact HSB.out.tagLt hk
        · exact HC2.out.lt
        · exact HYB.out.lt))
      have HFR := Lib.hid (show KeepsFrom W1.heap.size Wb w6 from HKP6.out.1.from (fun k e => by have := HE.out k e; have := HSZ.out; have := HQY.out; omega))
      have HK9 := Lib.hid (HKW.out.trans (HKP6.out.1.mono (fun k h => .inl h)))
      cases bb
      · have h6 := (HH6.out.2 rfl).1
        rw [← HSN.out] at h6
        have HJ6 := Lib.hid h6
        clear h6
        gi_wp2
        exact ⟨HFR.out, HK9.out, rfl, HJ6.out⟩
      · have h6 := (HH6.out.1 rfl).1
        rw [← HSN.out] at h6
        have HJ6 := Lib.hid h6
        clear h6
        gi_wp2
        exact ⟨HFR.out, HK9.out, HJ6.out, HST6.out, HC6.out, HY6.out, HO6.out⟩
    · have HB3 := Lib.hid (below_alloc2 hb2 (.cells #[.int .i64 d0, .int .i64 e1, .int .i64 e2, .int .i64 e3, .int .i64 e4, .int .i64 e5, .slice xa dt.length xc] 65))
      obtain ⟨q5, hq5⟩ : ∃ q5, w2.heap.size = q5 := ⟨_, rfl⟩
      have hrow5 := heap_alloc_new w2 (.cells #[.int .i64 d0, .int .i64 e1, .int .i64 e2, .int .i64 e3, .int .i64 e4, .int .i64 e5, .slice xa dt.length xc] 65)
      obtain ⟨W3, hW3⟩ : ∃ W3, w2.alloc (.cells #[.int .i64 d0, .int .i64 e1, .int .i64 e2, .int .i64 e3, .int .i64 e4, .int .i64 e5, .slice xa dt.length xc] 65) = W3 := ⟨_, rfl⟩
      rw [hW3] at HB3 hrow5 ⊢
      rw [hq5] at hrow5 ⊢
      have hrowz := (HB3.out.block qz (Array.getElem?_eq_some_iff.1 HQZ.out).1).trans HQZ.out
      obtain ⟨ty, hrowy⟩ := HYB.out.later HB3.out
      have HR3 := Lib.hid (And.intro hrowz (And.intro hrow5 hrowy))
      have HJ3 := Lib.hid (OwnFrom.later HJ.out HJB.out HB3.out)
      have HSF := Lib.hid (fun (w' : World) (hb : Below W3.heap.size W3 w') => (show w'.heap[qz]? = some (.cells #[.int .i64 ((k : Int) + 1), .int .i64 n0, .int .i64 x2, .int .i64 3, .bool x4, .bool x5, .int .i64 x6, .int .i64 x7, .int .i64 x8, .int .i64 x9, .bool x10] 30 (0, 0)) ∧ w'.heap[q5]? = some (.cells #[.int .i64 d0, .int .i64 e1, .int .i64 e2, .int .i64 e3, .int .i64 e4, .int .i64 e5, .slice xa dt.length xc] 65 (0, 0)) ∧ w'.heap[qy]? = some (.cells #[.func (.yield l) #[] #[]] ty (0, 0)) from ⟨(hb.block _ (Array.getElem?_eq_some_iff.1 hrowz).1).trans hrowz, (hb.block _ (Array.getElem?_eq_some_iff.1 hrow5).1).trans hrow5, (hb.block _ (Array.getElem?_eq_some_iff.1 hrowy).1).trans hrowy⟩))
      have HQN := Lib.hid (show W.heap.size ≤ qy ∧ W.heap.size ≤ qz ∧ W.heap.size ≤ q5 from ⟨Nat.le_of_eq HQY.out, HQZ0.out, by rw [← hq5]; have h1 := (Array.getElem?_eq_some_iff.1 HQZ.out).1; have h2 := hb2.size; have := HQZ0.out; omega⟩)
      clear hW3 hq5 hb2 hrowz hrow5 hrowy c2c c0 HCC
      have hk1 : ([2] : List Int).contains d0 = false := by simp [hd2]
      have hk2 : (d0 == 2) = false := beq_eq_false_iff_ne.2 hd2
      rw [hk2, if_neg (by decide)] at HSN
      have HI3 := Lib.hid (fun (w' : World) (ya : Option Addr) (yn yc : Nat) => HI2.out ((w'.alloc (.cells #[.int .i64 2] 3)).drew) ya yn yc _ (two_drew w' 2))
      refine wpIn_region_any (by kernel_rfl) ?_
      change wpAnyIn _ _ _ _ _ _ _ _ _ (World.drew _)
      refine anyS.any (S := fun w' => w'.heap[qz]? = some (.cells #[.int .i64 ((k : Int) + 1), .int .i64 n0, .int .i64 x2, .int .i64 3, .bool x4, .bool x5, .int .i64 x6, .int .i64 x7, .int .i64 x8, .int .i64 x9, .bool x10] 30 (0, 0)) ∧ w'.heap[q5]? = some (.cells #[.int .i64 d0, .int .i64 e1, .int .i64 e2, .int .i64 e3, .int .i64 e4, .int .i64 e5, .slice xa dt.length xc] 65 (0, 0)) ∧ w'.heap[qy]? = some (.cells #[.func (.yield l) #[] #[]] ty (0, 0))) ?_
      refine anyS_take (i := 0) (v := ?_) (by kernel_rfl) rfl (by kernel_rfl) (by kernel_rfl) (by kernel_rfl) (fun _ _ _ h => h) (by rfl) (fun _ => rfl) ?_ ?_
      rotate_left
      · intro w' hS
        obtain ⟨_, hr5, _⟩ := hS
        have r0 := cell_of_row w' q5 0 _ _ (0, 0) hr5
        have r1 := cell_of_row w' q5 1 _ _ (0, 0) hr5
        have r2 := cell_of_row w' q5 2 _ _ (0, 0) hr5
        have r3 := cell_of_row w' q5 3 _ _ (0, 0) hr5
        have r4 := cell_of_row w' q5 4 _ _ (0, 0) hr5
        have r5 := cell_of_row w' q5 5 _ _ (0, 0) hr5
        have r6 := cell_of_row w' q5 6 _ _ (0, 0) hr5
        go_simp
        try with_reducible rfl
      refine anyS_one (i := 1) (by kernel_rfl) rfl (HSF.out _ (Below.refl _ _).drew) (fun K hK => ?_)
      go_simp
      refine hK _ _ ?_
      clear hK K
      refine anyS_one (i := 2) (by kernel_rfl) rfl (HSF.out _ (below_new W3 (.cells #[.int .i64 2] 3)).drew) (fun K hK => ?_)
      go_simp
      gi_wp2_with ((refine ⟨trivial, fun _ => by omega, ?_⟩; gi_at_call 79; refine CallsIn.mono (F := Fence.wide) (callsIn_wide.2 (HI3.out _ _ _ _)) ?_; rintro e w4 ⟨rfl, hb4⟩; have HB4 := Lib.hid (stepB (below_new W3 (.cells #[.int .i64 2] 3)).drew hb4); rw [hk1]; clear hb4))
      refine anyS_take (i := 3) (v := ?_) (by kernel_rfl) rfl (by kernel_rfl) (by kernel_rfl) (by kernel_rfl) (fun _ _ _ h => h) (by rfl) (fun _ => rfl) ?_ ?_
      rotate_left
      · intro w' hS
        go_simp
        try with_reducible rfl
      refine anyS_skip (i := 4) (by kernel_rfl) rfl (by kernel_rfl) (by kernel_rfl) (by kernel_rfl) (fun _ _ _ h => h) (by rfl) (fun _ => by rfl) ?_
      refine anyS_skip (i := 5) (by kernel_rfl) rfl (by kernel_rfl) (by kernel_rfl) (by kernel_rfl) (fun _ _ _ h => h) (by rfl) (fun _ => by rfl) ?_
      refine anyS_skip (i := 6) (by kernel_rfl) rfl (by kernel_rfl) (by kernel_rfl) (by kernel_rfl) (fun _ _ _ h => h) (by rfl) (fun _ => by rfl) ?_
      refine anyS_skip (i := 7) (by kernel_rfl) rfl (by kernel_rfl) (by kernel_rfl) (by kernel_rfl) (fun _ _ _ h => h) (by rfl) (fun _ => by rfl) ?_
      refine anyS_skip (i := 8) (by kernel_rfl) rfl (by kernel_rfl) (by kernel_rfl) (by kernel_rfl) (fun _ _ _ h => h) (by rfl) (fun _ => by rfl) ?_
      refine anyS_skip (i := 9) (by kernel_rfl) rfl (by kernel_rfl) (by kernel_rfl) (by kernel_rfl) (fun _ _ _ h => h) (by rfl) (fun _ => by rfl) ?_
      refine anyS_one (i := 10) (by kernel_rfl) rfl (HSF.out _ HB4.out) (fun K hK => ?_)
      go_simp
      refine ⟨trivial, hK _ _ ?_⟩
      clear hK K
      refine anyS_one (i := 11) (by kernel_rfl) rfl (HSF.out _ HB4.out) (fun K hK => ?_)
      go_simp
      refine ⟨fun _ _ => trivial, hK _ _ ?_⟩
      clear hK K
      refine anyS_skip (i := 12) (by kernel_rfl) rfl (by kernel_rfl) (by kernel_rfl) (by kernel_rfl) (fun _ _ _ h => h) (by rfl) (fun _ => by rfl) ?_
      refine anyS_take (i := 13) (v := ?_) (by kernel_rfl) rfl (by kernel_rfl) (by kernel_rfl) (by kernel_rfl) (fun _ _ _ h => h) (by rfl) (fun _ => rfl) ?_ ?_
      rotate_left
      · intro w' hS
        go_simp
        try with_reducible rfl
      refine anyS_done (by kernel_rfl) (HSF.out _ HB4.out) ?_ _
      have HB9 := Lib.hid (stepB HB3.out HB4.out)
      have HJ6 := Lib.hid (show J (strL S (pre ++ [⟨(k : Int) + 1, n0, x2, 3, x4, x5, x6, x7, x8, x9, x10⟩])) w4 by rw [HSN.out]; exact OwnFrom.later HJ.out HJB.out HB9.out)
      have kw := KpP.of_below E H HB9.out
      have HFR := Lib.hid (show KeepsFrom W1.heap.size Wb w4 from kw.from (fun k e => by have := HE.out k e; have := HSZ.out; have := HQY.out; omega))
      have HK9 := Lib.hid (HKW.out.trans (kw.mono (fun k h => .inl h)))
      clear kw
      gi_wp2
      exact ⟨HFR.out, HK9.out, HJ6.out, HSB.out.later HB9.out, HC2.out.later HB9.out, HYB.out.later HB9.out, fun k hk => (HOB.out k hk).later HB9.out⟩
  case done =>
    rintro D xs W' hD hS ⟨hj, _⟩ hK
    rw [hS] at hj
    have HJ' := Lib.hid hj
    have HK := Lib.hid hK
    have HD := Lib.hid (show W1.heap.size ≤ D from hD)
    clear hS hj hD hK
    gi_wp2
    refine ⟨by simp, .inl ⟨_, _, rfl, run_takeDeferred HK.out, ?_⟩⟩
    exact ⟨_, results_none rfl _ _ _, ⟨_, rfl⟩, .inl ⟨_, rfl, HJ.out.putObj _ HJ'.out (by have := HD.out; have := HSZ.out; have := HQY.out; omega) HK.out rfl⟩⟩
  case stop =>
    rintro D c pre W' hD hS ⟨rfl, hj⟩ hK
    have HP := Lib.hid (strL_pre (S := S) hS)
    have HJ' := Lib.hid hj
    have HK := Lib.hid hK
    have HD := Lib.hid (show W1.heap.size ≤ D from hD)
    clear hS hj hD hK
    gi_wp2
    refine ⟨by simp, .inl ⟨_, _, rfl, run_takeDeferred HK.out, ?_⟩⟩
    exact ⟨_, results_none rfl _ _ _, ⟨_, rfl⟩, .inr ⟨_, HP.out, HJX.out.putObj _ HJ'.out (by have := HD.out; have := HSZ.out; have := HQY.out; omega) HK.out rfl⟩⟩
/-- The function value that Strong returns keeps the contract of the law on ranges. -/
theorem strong_seq (n : Nat) (hn : 3 ≤ n) {w : World} {c1 c2 d1 d2 lo b : Nat} {G : Ghost} {S : StoreL} {u : Value} {os : List Int} (E H : Nat → Prop) (hE : ∀ k, E k → k < w.heap.size) (hEG : ∀ k, E k → G.tag k = .no) (hH : Heads H w) (hoff : ∀ k, G.tag k ≠ .no ∨ k = c2 → Off H w k)
    (h1 : HdAt w c1 (.func (.func 123) #[] #[.pointer (some ⟨d1, 0, none⟩), .pointer (some ⟨d2, 0, none⟩)])) (h2 : HdAt w c2 (.pointer (some ⟨b, 0, none⟩))) (hcE : ¬E c2)
    (h3 : HdAt w d1 (.pointer (some ⟨b, 0, none⟩))) (h4 : HdAt w d2 u) (h : StoreAt w lo b G S) (hS : WfS S) (hl : S.objs.length ≤ 1000) (hu : IntsAt w u os) (hos : os.length ≤ 1000) :
    SeqW Fence.wide n Tryz.prog 116 #[.pointer (some ⟨c1, 0, none⟩), .pointer (some ⟨c2, 0, none⟩)] encP (fun l => KpP (fun k => E k ∨ k = l) H) (fun pre x => pre ++ [x] <+: strL S (fieldL S os)) (fun xs _ => xs = strL S (fieldL S os)) (fun pre _ => pre <+: strL S (fieldL S os)) w := by
  intro l J Jx W hW hl1 hl2 hJ hJx hY h0
  have hc2 := h2.lt
  refine (strong1_in n hn l c1 c2 d1 d2 lo b G S u os (fun k => E k ∨ k = l) H W (fun k hk => by rcases hk with hk | rfl; exact Nat.lt_of_lt_of_le (hE k hk) hW.size; exact hl2) (fun k hk => by rcases hk with hk | rfl; exact hEG k hk; exact h.high _ hl1) (hH.later hW) (fun k hk => (hoff k hk).later hW)
    (h1.later hW) (h2.later hW) (fun e => by rcases e with e | e; exact hcE e; omega) (h3.later hW) (h4.later hW) (h.later hW) hS hl (hu.later hW) hos J Jx hJ hJx ?_ h0).mono ?_
  · intro pre x W1 hj ht
    exact hY pre x W1 hj ht
  · rintro e W' ⟨h1, ⟨xs, h2, h3⟩ | ⟨pre, h2, h3⟩⟩
    · exact ⟨h1, .inl ⟨_, h2, h3⟩⟩
    · exact ⟨h1, .inr ⟨_, h2, h3⟩⟩
end Go.Proofs.YtjgjhfeopmakaaaGreat

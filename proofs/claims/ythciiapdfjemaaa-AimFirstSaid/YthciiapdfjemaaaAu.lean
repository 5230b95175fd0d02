/- The law AimFirst (layer 10), walked: for every list of things and every numbers it returns true, and only new memory is made. -/
import Derived.Test.YthciiapdfjemaaaAm
import Derived.Test.YthciiapdfjemaaaAq
import Derived.StillTailTactics
namespace Go.Proofs.Ythciiapdfjemaaa
open Go.RowKit Go.Maps
attribute [local go_sem] Oper.semAt_some

theorem results_c6' {fn : Func} {tmps : Array Value} {W W2 : World} {b : Nat} {v : Bool} (h : fn.results = #[.cell 6 4]) (ht : tmps.getD 6 undef = .pointer (some ⟨b, 0, none⟩)) (hb : HdAt W b (.bool v)) (hc : ∀ (j : Nat) (o : Obj), W.heap[j]? = some o → o.isCells = true → W2.heap[j]? = some o) : (results fn tmps).run Try.prog W2 = .ok (.bool v) W2 :=
  results_c6 h ht (by obtain ⟨t, h⟩ := hb; exact ⟨t, hc _ _ h rfl⟩)
theorem own_cap {w : World} {lo n : Nat} {t : TypeId} {v : Value} {xs : List Value} (h : w.ownsRow lo t 1 v n xs) : ∃ xa xc, v = .slice xa n xc ∧ n ≤ xc := by
  rcases h.2 with ⟨rfl, h0⟩ | ⟨g, cap, cur, rfl, _, _, hn, _⟩
  · have : n = 0 := by have := h.1; simp_all
    subst this
    exact ⟨none, 0, rfl, Nat.le_refl _⟩
  · exact ⟨_, _, rfl, hn⟩
theorem own_form1 {w : World} {lo n : Nat} {t : TypeId} {v : Value} {xs : List Value} (h : w.ownsRow lo t 1 v n xs) : ∃ xa xc, v = .slice xa n xc := by
  obtain ⟨xa, xc, h, _⟩ := own_cap h
  exact ⟨xa, xc, h⟩
theorem ints_take {w : World} {xa : Option Addr} {xc : Nat} {L : List Int} (h : IntsAt w (.slice xa L.length xc) L) (k : Nat) (hk : k ≤ L.length) : IntsAt w (.slice xa k xc) (L.take k) := by
  have hl : (L.take k).length = k := by rw [List.length_take]; omega
  rcases h with ⟨ya, cap, e, e0⟩ | ⟨r, off, cap, e, hlt, hc⟩
  · have h0 : L = [] := by simpa [intsV] using e0
    subst h0
    have : k = 0 := by simpa using hk
    subst this
    injection e with e1 _ e2
    subst e1 e2
    exact .inl ⟨_, _, rfl, rfl⟩
  · injection e with e1 _ e2
    subst e1 e2
    refine .inr ⟨r, off, _, by rw [intsV_len, hl], hlt, fun i hi => ?_⟩
    rw [intsV_len, hl] at hi
    rw [hc i (by rw [intsV_len]; omega)]
    simp [intsV]
set_option maxRecDepth 100000 in
set_option maxHeartbeats 32000000 in
theorem aimFirst_walk {v : Value} {l : List ThingL} {n : Nat} (a0 a1 a2 : Int) {w : World} (hv : ThingsAt w v l) (hw : ∀ x ∈ l, Wf x.owner ∧ Wf x.zone) (hlen : l.length ≤ 9223372036854775807) (hn : n < 256) :
    Calls Try.prog 5 #[v, .int .u8 n, .agg #[.int .i64 a0, .int .i64 a1, .int .i64 a2]] w (RetV w (.bool true)) := by
  have HV := Lib.hid hv
  have HW := Lib.hid hw
  obtain ⟨va, vc, rfl⟩ := hv.form
  clear hv hw
  refine (callsIn_wide (n := 9)).1 ?_
  refine callsIn_of_wp_marks Try.func5 rfl trivial ?_ rfl
  simp only [Try.ntmps5, List.size_toArray, List.length_cons, List.length_nil, Nat.reduceAdd, Nat.reduceSub, Array.replicate_succ, Array.replicate_zero, List.push_toArray, List.append_toArray, List.nil_append, List.cons_append]
  refine wpIn_wide.2 ?_
  have hx2 := below_alloc2 (below_new w (.cells #[.int .i64 a0, .int .i64 a1, .int .i64 a2] 54)) (.cells #[.bool false] 4)
  have HX2 := Lib.hid hx2
  have HC2 := Lib.hid (show ((w.alloc (.cells #[.int .i64 a0, .int .i64 a1, .int .i64 a2] 54)).alloc (.cells #[.bool false] 4)).heap[w.heap.size]? = some (.cells #[.int .i64 a0, .int .i64 a1, .int .i64 a2] 54 (0, 0)) from (below_new _ _).block _ (by simp) |>.trans (heap_alloc_new w _))
  have HQ2 := Lib.hid (show HdAt ((w.alloc (.cells #[.int .i64 a0, .int .i64 a1, .int .i64 a2] 54)).alloc (.cells #[.bool false] 4)) (w.heap.size + 1) (.bool false) from HdAt.next (by simp))
  clear hx2
  go_wp2_with fail
  obtain ⟨W2, hW2⟩ : ∃ W2, (w.alloc (.cells #[.int .i64 a0, .int .i64 a1, .int .i64 a2] 54)).alloc (.cells #[.bool false] 4) = W2 := ⟨_, rfl⟩
  have HSZ2 := Lib.hid (show W2.heap.size = w.heap.size + 2 by rw [← hW2]; simp)
  rw [hW2] at HX2 HC2 HQ2 ⊢
  clear hW2
  refine (awake10_any _).mono ?_
  rintro e w1 ⟨rfl, hb1⟩
  have HX3 := Lib.hid (stepB HX2.out hb1)
  have HC3 := Lib.hid ((hb1.block _ (Array.getElem?_eq_some_iff.1 HC2.out).1).trans HC2.out)
  have HQ3 := Lib.hid (HQ2.out.later hb1)
  have HZ3 := Lib.hid (show w.heap.size + 2 ≤ w1.heap.size by have := hb1.size; have := HSZ2.out; omega)
  clear hb1 HX2 HC2 HQ2
  have HMA := Lib.hid (made_any (HV.out.later HX3.out) HW.out hlen)
  go_wp2_with fail
  refine HMA.out.mono ?_
  rintro e w2 (⟨hplay, b, lo, G, S, rfl, hs, hm, hlo, _, hb2⟩ | ⟨hplay, rfl, hb2⟩)
  case inr =>
    have HQ4 := Lib.hid (HQ3.out.later hb2)
    have HX4 := Lib.hid (stepB HX3.out hb2)
    clear hb2
    go_wp2_with fail
    refine (sides_any hn _).mono ?_
    rintro e w3 ⟨tlo, tb, s, r, rfl, _, _, hb3⟩
    have HQ5 := Lib.hid (HQ4.out.later hb3)
    have HX5 := Lib.hid (stepB HX4.out hb3)
    clear hb3
    have cq := HQ5.out.cell
    have fq := HQ5.out.frozen
    have HQ6 := Lib.hid (HQ5.out.set (.bool true))
    have HX6 := Lib.hid (HX5.out.setCell (Nat.le_succ _) (.bool true) (p := ⟨w.heap.size + 1, 0, none⟩))
    go_wp2
    exact ⟨_, results_c6 rfl rfl HQ6.out, rfl, HX6.out⟩
  have HQ4 := Lib.hid (HQ3.out.later hb2)
  have HX4 := Lib.hid (stepB HX3.out hb2)
  have HC4 := Lib.hid ((hb2.block _ (Array.getElem?_eq_some_iff.1 HC3.out).1).trans HC3.out)
  have HS4 := Lib.hid hs
  have HM := Lib.hid hm
  have HL := Lib.hid (show S.objs.length ≤ 1000 by rw [hm.len]; have := hplay.1; omega)
  have HZ4 := Lib.hid (show w1.heap.size ≤ w2.heap.size from hb2.size)
  clear hs hm hplay hlo hb2 HX3 HC3 HQ3 HMA HV HW
  go_wp2_with fail
  refine (sides_any hn _).mono ?_
  rintro e w3 ⟨tlo, tb, s, r, rfl, ht, htlo, hb3⟩
  have HQ3 := Lib.hid (HQ4.out.later hb3)
  have HX3 := Lib.hid (stepB HX4.out hb3)
  have HC3 := Lib.hid ((hb3.block _ (Array.getElem?_eq_some_iff.1 HC4.out).1).trans HC4.out)
  have HS3 := Lib.hid (HS4.out.later hb3)
  have HT3 := Lib.hid ht
  have HZ5 := Lib.hid (show w.heap.size + 2 ≤ w3.heap.size from by have := hb3.size; have := HZ3.out; have := HZ4.out; omega)
  clear ht htlo hb3 HQ4 HX4 HC4 HS4
  obtain ⟨T, hT⟩ : ∃ T, sidesT n = T := ⟨_, rfl⟩
  rw [hT] at HT3
  clear hT
  have hx1 := below_new w3 (.cells #[.slice none 0 0] 32)
  have hx2 := below_alloc2 hx1 (.cells #[.slice none 0 0] 32)
  have HXX := Lib.hid hx2
  have HLX2 : Hid (ListIn ((w3.alloc (.cells #[.slice none 0 0] 32)).alloc (.cells #[.slice none 0 0] 32)) w3.heap.size w3.heap.size (.slice none 0 0) []) := Lib.hid ⟨(below_new _ _).block _ (by simp) |>.trans (list_newO w3 w3.heap.size).box, World.ownsRow_nil _ _ _ _⟩
  have HLY2 : Hid (ListIn ((w3.alloc (.cells #[.slice none 0 0] 32)).alloc (.cells #[.slice none 0 0] 32)) w3.heap.size (w3.heap.size + 1) (.slice none 0 0) []) := Lib.hid ⟨by have h := World.alloc_heap_new (w3.alloc (.cells #[.slice none 0 0] 32)) (.cells #[.slice none 0 0] 32); rw [World.size_alloc] at h; exact h, World.ownsRow_nil _ _ _ _⟩
  have c0 : ((w3.alloc (.cells #[.slice none 0 0] 32)).alloc (.cells #[.slice none 0 0] 32)).cell? ⟨w.heap.size, 0, none⟩ = some (.int .i64 a0) := cell_of_row _ _ 0 _ _ (0, 0) ((hx2.block _ (Array.getElem?_eq_some_iff.1 HC3.out).1).trans HC3.out)
  have c1 : ((w3.alloc (.cells #[.slice none 0 0] 32)).alloc (.cells #[.slice none 0 0] 32)).cell? ⟨w.heap.size, 1, none⟩ = some (.int .i64 a1) := cell_of_row _ _ 1 _ _ (0, 0) ((hx2.block _ (Array.getElem?_eq_some_iff.1 HC3.out).1).trans HC3.out)
  have k0 : w3.cell? ⟨w.heap.size, 0, none⟩ = some (.int .i64 a0) := cell_of_row _ _ 0 _ _ (0, 0) HC3.out
  have k1 : w3.cell? ⟨w.heap.size, 1, none⟩ = some (.int .i64 a1) := cell_of_row _ _ 1 _ _ (0, 0) HC3.out
  have hne1 : ¬ w3.heap.size = w.heap.size := by have := HZ5.out; omega
  have hne2 : ¬ w3.heap.size + 1 = w.heap.size := by have := HZ5.out; omega
  have hne3 : ¬ w.heap.size = w3.heap.size := by have := HZ5.out; omega
  have hne4 : ¬ w.heap.size = w3.heap.size + 1 := by have := HZ5.out; omega
  clear hx1 hx2
  go_wp2_with fail
  refine (aimAll_any (some ⟨b, 0, none⟩) (some ⟨tb, 0, none⟩) a0 a1 _).mono ?_
  rintro e w5 ⟨rfl, hd1, hd2, hd3, hd4, hb5, hs5⟩
  simp only [World.size_alloc] at hd1 hd2 hd3 hd4 hs5
  have HX5 := Lib.hid (stepB HXX.out hb5)
  have HL5 := Lib.hid (show ListIn w5 w3.heap.size w3.heap.size (.slice none 0 0) [] from ⟨(hb5.block _ (Array.getElem?_eq_some_iff.1 HLX2.out.box).1).trans HLX2.out.box, World.ownsRow_nil _ _ _ _⟩)
  have HY5 := Lib.hid (show ListIn w5 w3.heap.size (w3.heap.size + 1) (.slice none 0 0) [] from ⟨(hb5.block _ (Array.getElem?_eq_some_iff.1 HLY2.out.box).1).trans HLY2.out.box, World.ownsRow_nil _ _ _ _⟩)
  have HSEQ := Lib.hid (aim_gather (c1 := w3.heap.size + 1 + 1) 8 (by omega) HL5.out HS3.out (Nat.le_refl _) HT3.out (by omega) hd1 hd2 hd3 hd4 (HS3.out.later HX5.out) HM.out.wf HL.out (HT3.out.later HX5.out))
  unfold TellsF at HSEQ
  have hLL := aimL_len (T := T) (S := S) a0 a1 HM.out.wf (by rw [HM.out.seats]; decide) HL.out HT3.out.n2
  have hND := aimL_nodup (T := T) (S := S) a0 a1 HM.out.wf (by rw [HM.out.seats]; decide)
  obtain ⟨L, hL⟩ : ∃ L, aimL T S a0 a1 = L := ⟨_, rfl⟩
  have HLL := Lib.hid hL
  rw [hL] at HSEQ hLL hND
  have HND := Lib.hid hND
  have HI0 : IntsI w3.heap.size w3 w5 [] w5 := ⟨.slice none 0 0, HL5.out, KpP.refl _ _ _, HX5.out, Nat.zero_le _⟩
  have HSZ := Lib.hid (show w5.heap.size = w3.heap.size + 6 by rw [hs5])
  clear hd1 hd2 hd3 hd4 hb5 hs5 HLX2 HLY2 HXX hL hND k0 k1 c0 c1 hne1 hne2 hne3 hne4
  try dsimp only
  go_wp2_with fail
  refine (wpIn_wide (n := 9)).1 ?_
  try simp only [World.size_alloc]
  refine range_world3 rfl (by omega) (I := IntsI w3.heap.size w3 w5) (Ix := fun _ _ _ => False) (gf := 27) (lb := _) rfl trivial (fun _ _ => by kernel_rfl) HSEQ.out KpP.trans (fun W' o o' ho hc _ => KpP.put o' (.inr rfl) ho hc) (fun W W' hb => KpP.of_below _ _ hb) (Below.refl _ _) (fun _ => rfl)
    (intsI_own HX5.out.size (Nat.le_refl _)) (fun c s A B row hs hg hr => hs) (fun s A B row hs hg hr => hs) (fun s A B row hs hg hr => hs) HI0 ?_ ?_ ?_
  · skip
    rintro pre x W K hI hT hsz hK
    have HPL := Lib.hid (show pre.length + 1 ≤ 1000 from by
      have h1 := hT.length_le
      have h2 := hLL
      simp at h1
      omega)
    have HNX := Lib.hid (show x ∉ pre from by
      obtain ⟨rr, hrr⟩ := hT
      have h := HND.out
      rw [← hrr] at h
      have h2 := (List.nodup_append.1 (List.nodup_append.1 h).1).2.2
      exact fun hx => h2 x hx x (by simp) rfl)
    have HK := Lib.hid hK
    clear hK hT hI
    simp only [encF]
    simp
    gi_wp2
    refine HK.out _ _ (Below.refl _ _) ?_
    clear HK
    intro Wb hsz2 hrest hkw ⟨v1, l0, k0, b0, hl1⟩
    have cl := l0.head.cell
    have fl := l0.head.frozen
    obtain ⟨xa1, xc1, rfl⟩ := own_form1 l0.own
    have HL1 := Lib.hid l0
    have HK1 := Lib.hid k0
    have HB1 := Lib.hid b0
    have HKB := Lib.hid hkw
    clear hsz2 hrest hkw l0 k0 b0 hl1
    have HHAS := Lib.hid (show Calls Try.prog 18 #[.slice xa1 pre.length xc1, .int .i64 x] Wb (Same Wb (.bool false)) from by
      have h := hasRef_any x (own_ints HL1.out.own) (by have := HPL.out; omega)
      rwa [decide_eq_false HNX.out] at h)
    gi_wp2_with fail
    refine ⟨trivial, (callsIn_wide.2 HHAS.out).mono ?_⟩
    rintro e wh ⟨rfl, hwh⟩
    subst wh
    have hlen : pre.length + [x].length ≤ 1000 := by have := HPL.out; simpa using this
    have hlo : w3.heap.size ≤ (Wb.alloc (.cells #[.int .i64 x] 3)).heap.size := by have := HB1.out.size; simp; omega
    gi_wp2_with (gi_at_builtin; refine wpListIn_append_ints rfl _ _ rfl rfl w3.heap.size _ pre.length (intsV pre) rfl (own_later HL1.out.own (below_new Wb _)) _ 1 1 [x] rfl rfl ((RowAt.new _ 3 (intsV [x])).vals 1) hlen hlo ?_)
    intro v' w6x hown hgrow hnew
    have hsep : ∀ c, c = w3.heap.size → (Value.slice xa1 pre.length xc1).ownBlock ≠ some c := fun c hc e => by subst hc; exact (HL1.out.row _ e).2.2 rfl
    obtain ⟨l7, k7, h6⟩ := ListIn.snoc (E := fun _ => False) (H := fun k => k = w3.heap.size) HL1.out rfl hgrow hown (by rw [World.size_alloc]; exact hnew) hsep
    have c6 := h6.cell
    have f6 := h6.frozen
    have HB7 := Lib.hid (show Below w3.heap.size w3 (w6x.setCell ⟨w3.heap.size, 0, none⟩ v') from ((HB1.out.alloc HB1.out.size _).grown hgrow (by have := HB1.out.size; simp; omega) (fun c e => by have := (HL1.out.row c e).1; omega)).setCell (Nat.le_refl _) v')
    obtain ⟨xa7, xc7, rfl⟩ := own_form1 hown
    have HL7 := Lib.hid l7
    have HK7 := Lib.hid k7
    clear hown hgrow hnew hsep l7 k7 h6 hlen hlo cl fl
    gi_wp2
    exact ⟨HK7.out.from (fun k e => e.elim), HKB.out.trans (HK7.out.mono (fun k e => e.elim)), _, HL7.out, HK1.out.trans HK7.out, HB7.out, by rw [List.length_append]; exact HPL.out⟩
  · rintro D1 ys W6 hD1 hS ⟨v6, l6, k6, b6, hl6⟩ hK1
    subst ys
    have HB6 := Lib.hid b6
    have HD6 := Lib.hid (show w.heap.size ≤ D1 ∧ D1 < W6.heap.size ∧ W6.heap[D1]? = some (Obj.deferred (some [])) from ⟨by have := HSZ.out; have := HZ5.out; omega, (Array.getElem?_eq_some_iff.1 hK1).1, hK1⟩)
    have HY6 := Lib.hid (HY5.out.kept k6 ⟨fun e => e, box_off HL5.out (by omega)⟩ (fun k e => by cases e))
    have HL6 := Lib.hid l6
    have c0 : W6.cell? ⟨w.heap.size, 0, none⟩ = some (.int .i64 a0) := cell_of_row _ _ 0 _ _ (0, 0) ((b6.block _ (Array.getElem?_eq_some_iff.1 HC3.out).1).trans HC3.out)
    have c1 : W6.cell? ⟨w.heap.size, 1, none⟩ = some (.int .i64 a1) := cell_of_row _ _ 1 _ _ (0, 0) ((b6.block _ (Array.getElem?_eq_some_iff.1 HC3.out).1).trans HC3.out)
    clear HSEQ HI0 k6 b6 hK1 hl6 l6 HL5 HY5 HX5 hD1 HSZ
    go_wp2_with fail
    refine (aimAll_any (some ⟨b, 0, none⟩) (some ⟨tb, 0, none⟩) a0 a1 W6).mono ?_
    rintro e w8 ⟨rfl, hd1, hd2, hd3, hd4, hb8, hs8⟩
    have HB8 := Lib.hid (show Below w3.heap.size w3 w8 from HB6.out.trans (hb8.mono HB6.out.size))
    have HD8 := Lib.hid (show w.heap.size ≤ D1 ∧ D1 < w8.heap.size ∧ w8.heap[D1]? = some (Obj.deferred (some [])) from ⟨HD6.out.1, Nat.lt_of_lt_of_le HD6.out.2.1 hb8.size, (hb8.block _ HD6.out.2.1).trans HD6.out.2.2⟩)
    have HL8 := Lib.hid (show ListIn w8 w3.heap.size w3.heap.size v6 L from ⟨(hb8.block _ (Array.getElem?_eq_some_iff.1 HL6.out.box).1).trans HL6.out.box, own_later HL6.out.own hb8⟩)
    have HY8 := Lib.hid (show ListIn w8 w3.heap.size (w3.heap.size + 1) (.slice none 0 0) [] from ⟨(hb8.block _ (Array.getElem?_eq_some_iff.1 HY6.out.box).1).trans HY6.out.box, World.ownsRow_nil _ _ _ _⟩)
    have HSEQ2 := Lib.hid (aim_gather (c1 := W6.heap.size) 8 (by omega) HY8.out HS3.out (Nat.le_succ _) HT3.out (by have h1 := (Array.getElem?_eq_some_iff.1 HY6.out.box).1; omega) hd1 hd2 hd3 hd4 (HS3.out.later HB8.out) HM.out.wf HL.out (HT3.out.later HB8.out))
    rw [HLL.out] at HSEQ2
    unfold TellsF at HSEQ2
    have HI1 : IntsI (w3.heap.size + 1) w3 w8 [] w8 ∧ ((([] : List Int).length : Nat) : Int) ≤ max a2 0 := ⟨⟨.slice none 0 0, HY8.out, KpP.refl _ _ _, HB8.out, Nat.zero_le _⟩, by simp; omega⟩
    clear hd1 hd2 hd3 hd4 hb8 hs8 HL6 HY6 HD6 HB6 c0 c1
    try dsimp only
    go_wp2_with fail
    refine (wpIn_wide (n := 9)).1 ?_
    try simp only [World.size_alloc]
    refine range_world3 rfl (by omega) (I := fun pre W => IntsI (w3.heap.size + 1) w3 w8 pre W ∧ ((pre.length : Nat) : Int) ≤ max a2 0) (Ix := fun c pre W => c = .exit 2 ∧ ∃ p : List Int, p <+: pre ∧ ((p.length : Nat) : Int) = max a2 0 ∧ IntsI (w3.heap.size + 1) w3 w8 p W) (gf := 27) (lb := _) rfl trivial (fun _ _ => by kernel_rfl) HSEQ2.out KpP.trans (fun W' o o' ho hc _ => KpP.put o' (.inr rfl) ho hc) (fun W W' hb => KpP.of_below _ _ hb) (Below.refl _ _) (fun _ => rfl)
      (fun s A B row hs hg hr => ⟨intsI_own HB8.out.size (Nat.le_refl _) s A B row hs.1 hg hr, hs.2⟩) (fun c s A B row hs hg hr => ⟨hs.1, by obtain ⟨p, h1, h2, h3⟩ := hs.2; exact ⟨p, h1, h2, intsI_own HB8.out.size (Nat.le_refl _) p A B row h3 hg hr⟩⟩) (fun s A B row hs hg hr => hs) (fun s A B row hs hg hr => hs) HI1 ?_ ?_ ?_
    · skip
      rintro pre x W K hI hT hsz hK
      have HPL := Lib.hid (show pre.length + 1 ≤ 1000 from by
        have h1 := hT.length_le
        have h2 := hLL
        simp at h1
        omega)
      have HK := Lib.hid hK
      clear hK hT hI
      simp only [encF]
      simp
      gi_wp2
      refine HK.out _ _ (Below.refl _ _) ?_
      clear HK
      intro Wb hsz2 hrest hkw ⟨⟨v1, l0, k0, b0, hl1⟩, hml⟩
      have cl := l0.head.cell
      have fl := l0.head.frozen
      obtain ⟨xa1, xc1, rfl⟩ := own_form1 l0.own
      have HL1 := Lib.hid l0
      have HK1 := Lib.hid k0
      have HB1 := Lib.hid b0
      have HKB := Lib.hid hkw
      clear hsz2 hrest hkw l0 k0 b0 hl1
      have c2 : Wb.cell? ⟨w.heap.size, 2, none⟩ = some (.int .i64 a2) := cell_of_row Wb _ 2 _ _ (0, 0) ((HB1.out.block _ (Array.getElem?_eq_some_iff.1 HC3.out).1).trans HC3.out)
      by_cases hmx : (pre.length : Int) = max a2 0
      · have e0 : ((pre.length : Int) == max a2 0) = true := beq_iff_eq.2 hmx
        have HMX := Lib.hid hmx
        have HMXle := Lib.hid hml
        clear hmx hml
        gi_wp2
        exact ⟨KeepsFrom.refl _ _, HKB.out, rfl, pre, List.prefix_append _ _, HMX.out, _, HL1.out, HK1.out, HB1.out, by have := HPL.out; omega⟩
      have e0 : ((pre.length : Int) == max a2 0) = false := beq_eq_false_iff_ne.2 hmx
      have HMX := Lib.hid (show ((pre ++ [x]).length : Int) ≤ max a2 0 from by rw [List.length_append]; simp; omega)
      clear hmx hml
      have hlen : pre.length + [x].length ≤ 1000 := by have := HPL.out; simpa using this
      have hlo : w3.heap.size ≤ (Wb.alloc (.cells #[.int .i64 x] 3)).heap.size := by have := HB1.out.size; simp; omega
      gi_wp2_with (gi_at_builtin; refine wpListIn_append_ints rfl _ _ rfl rfl w3.heap.size _ pre.length (intsV pre) rfl (own_later HL1.out.own (below_new Wb _)) _ 1 1 [x] rfl rfl ((RowAt.new _ 3 (intsV [x])).vals 1) hlen hlo ?_)
      intro v' w6x hown hgrow hnew
      have hsep : ∀ c, c = (w3.heap.size + 1) → (Value.slice xa1 pre.length xc1).ownBlock ≠ some c := fun c hc e => by subst hc; exact (HL1.out.row _ e).2.2 rfl
      obtain ⟨l7, k7, h6⟩ := ListIn.snoc (E := fun _ => False) (H := fun k => k = (w3.heap.size + 1)) HL1.out rfl hgrow hown (by rw [World.size_alloc]; exact hnew) hsep
      have c6 := h6.cell
      have f6 := h6.frozen
      have HB7 := Lib.hid (show Below w3.heap.size w3 (w6x.setCell ⟨(w3.heap.size + 1), 0, none⟩ v') from ((HB1.out.alloc HB1.out.size _).grown hgrow (by have := HB1.out.size; simp; omega) (fun c e => by have := (HL1.out.row c e).1; omega)).setCell (Nat.le_succ _) v')
      obtain ⟨xa7, xc7, rfl⟩ := own_form1 hown
      have HL7 := Lib.hid l7
      have HK7 := Lib.hid k7
      clear hown hgrow hnew hsep l7 k7 h6 hlen hlo cl fl
      gi_wp2
      exact ⟨HK7.out.from (fun k e => e.elim), HKB.out.trans (HK7.out.mono (fun k e => e.elim)), ⟨_, HL7.out, HK1.out.trans HK7.out, HB7.out, by rw [List.length_append]; exact HPL.out⟩, HMX.out⟩
    · rintro D2 ys W9 hD2 hS ⟨⟨v2, l2, k2, b2, hl2⟩, hml⟩ hK2
      subst ys
      have hpl : L.length ≤ L.length := Nat.le_refl _
      have hPL : L = L.take L.length := by rw [List.take_length]
      have hmm : min (L.length : Int) (max a2 0) = (L.length : Int) := by omega
      have HX9 := Lib.hid (stepB HX3.out b2)
      have HC9 := Lib.hid ((b2.block _ (Array.getElem?_eq_some_iff.1 HC3.out).1).trans HC3.out)
      have HQ9 := Lib.hid (HQ3.out.later b2)
      have HL9 := Lib.hid (HL8.out.kept k2 ⟨fun e => e, box_off HY8.out (by omega)⟩ (fun k hk => ⟨fun e => e, box_off HY8.out (fun e => own_not_box HL8.out.own HY8.out.box (by rw [hk, e]))⟩))
      have HY9 := Lib.hid l2
      have HDD := Lib.hid (show w.heap.size ≤ D1 ∧ w.heap.size ≤ D2 ∧ D1 < D2 ∧ W9.heap[D1]? = some (Obj.deferred (some [])) ∧ W9.heap[D2]? = some (Obj.deferred (some [])) from ⟨HD8.out.1, by have := HD8.out.1; have := HD8.out.2.1; omega, by have := HD8.out.2.1; omega, k2.rest D1 _ HD8.out.2.2 (fun e => e) (fun e => by cases e), hK2⟩)
      have c2 : W9.cell? ⟨w.heap.size, 2, none⟩ = some (.int .i64 a2) := cell_of_row W9 _ 2 _ _ (0, 0) HC9.out
      have c9 := HL9.out.head.cell
      have c10 := HY9.out.head.cell
      obtain ⟨xa9, xc9, rfl, hcap⟩ := own_cap HL9.out.own
      have HIN := Lib.hid (fun (w' : World) (hb : Below W9.heap.size W9 w') => ints_no_at ((own_ints HY9.out.own).later hb) ((ints_take (own_ints HL9.out.own) L.length hpl).later hb) hl2 hPL)
      have hmin : min (L.length : Int) (max a2 0) = (L.length : Int) := hmm
      have hc1 : (L.length : Int) ≤ xc9 := by omega
      have hc2 : (0 : Int) ≤ L.length := by omega
      have hc3 : L.length ≤ xc9 := by omega
      clear HSEQ2 HI1 k2 b2 hK2 l2 hl2 HL8 HY8 HD8 hmm hPL hpl hcap hD2
      go_upto_region 16 with fail
      go_still_tail 9, (by kernel_rfl)
      have HB9 := Lib.hid (show Below W9.heap.size W9 W9.drew from (Below.refl _ _).drew)
      change wpList _ _ _ _ _ W9.drew
      obtain ⟨wd, hwd⟩ : ∃ wd, W9.drew = wd := ⟨_, rfl⟩
      rw [hwd] at HB9 ⊢
      clear hwd
      go_wp2_with fail
      refine (HIN.out wd HB9.out).mono ?_
      rintro e w10 ⟨rfl, hb10⟩
      have HB10 := Lib.hid (stepB HB9.out hb10)
      clear hb10
      have HQ10 := Lib.hid (HQ9.out.later HB10.out)
      have HX10 := Lib.hid (stepB HX9.out HB10.out)
      have cq := HQ10.out.cell
      have fq := HQ10.out.frozen
      have HQ11 := Lib.hid (HQ10.out.set (.bool true))
      have HX11 := Lib.hid (HX10.out.setCell (Nat.le_succ _) (.bool true) (p := ⟨w.heap.size + 1, 0, none⟩))
      have far : ∀ D, W9.heap[D]? = some (Obj.deferred (some [])) → (w10.setCell ⟨w.heap.size + 1, 0, none⟩ (.bool true)).heap[D]? = some (Obj.deferred (some [])) := fun D hD => by
        have hD2 : w10.heap[D]? = some (Obj.deferred (some [])) := (HB10.out.block D (Array.getElem?_eq_some_iff.1 hD).1).trans hD
        refine (heap_setCell_other w10 ⟨w.heap.size + 1, 0, none⟩ D _ (fun e => ?_)).trans hD2
        obtain ⟨t, h⟩ := HQ10.out
        have e2 : D = w.heap.size + 1 := e
        rw [← e2, hD2] at h
        cases h
      have HD11 := Lib.hid (And.intro (far D1 HDD.out.2.2.2.1) (far D2 HDD.out.2.2.2.2))
      clear far HQ9 HQ10 HX9 HX10 c2 c9 c10
      go_wp2
      refine leaves_marksO (B := w.heap.size) [D2, D1] _ (by have := HDD.out.2.2.1; simp; omega) (fun D' hD' => by have := HDD.out.1; have := HDD.out.2.1; simp at hD'; omega) (fun D' hD' => by simp at hD'; rcases hD' with rfl | rfl; exact HD11.out.2; exact HD11.out.1) (fun W2 hb hc => ?_)
      exact ⟨_, results_c6' rfl rfl HQ11.out hc, rfl, HX11.out.trans hb⟩
    · rintro D2 c pre W9 hD2 hS ⟨rfl, P, hP, hml, v2, l2, k2, b2, hl2⟩ hK2
      have hP2 : P <+: L := hP.trans hS
      have hpl : P.length ≤ L.length := hP2.length_le
      have hPL : P = L.take P.length := (List.prefix_iff_eq_take.1 hP2)
      have hmm : min (L.length : Int) (max a2 0) = (P.length : Int) := by omega
      clear hP hP2 hS hml
      refine wpIn_wide.2 ?_
      have HX9 := Lib.hid (stepB HX3.out b2)
      have HC9 := Lib.hid ((b2.block _ (Array.getElem?_eq_some_iff.1 HC3.out).1).trans HC3.out)
      have HQ9 := Lib.hid (HQ3.out.later b2)
      have HL9 := Lib.hid (HL8.out.kept k2 ⟨fun e => e, box_off HY8.out (by omega)⟩ (fun k hk => ⟨fun e => e, box_off HY8.out (fun e => own_not_box HL8.out.own HY8.out.box (by rw [hk, e]))⟩))
      have HY9 := Lib.hid l2
      have HDD := Lib.hid (show w.heap.size ≤ D1 ∧ w.heap.size ≤ D2 ∧ D1 < D2 ∧ W9.heap[D1]? = some (Obj.deferred (some [])) ∧ W9.heap[D2]? = some (Obj.deferred (some [])) from ⟨HD8.out.1, by have := HD8.out.1; have := HD8.out.2.1; omega, by have := HD8.out.2.1; omega, k2.rest D1 _ HD8.out.2.2 (fun e => e) (fun e => by cases e), hK2⟩)
      have c2 : W9.cell? ⟨w.heap.size, 2, none⟩ = some (.int .i64 a2) := cell_of_row W9 _ 2 _ _ (0, 0) HC9.out
      have c9 := HL9.out.head.cell
      have c10 := HY9.out.head.cell
      obtain ⟨xa9, xc9, rfl, hcap⟩ := own_cap HL9.out.own
      have HIN := Lib.hid (fun (w' : World) (hb : Below W9.heap.size W9 w') => ints_no_at ((own_ints HY9.out.own).later hb) ((ints_take (own_ints HL9.out.own) P.length hpl).later hb) hl2 hPL)
      have hmin : min (L.length : Int) (max a2 0) = (P.length : Int) := hmm
      have hc1 : (P.length : Int) ≤ xc9 := by omega
      have hc2 : (0 : Int) ≤ P.length := by omega
      have hc3 : P.length ≤ xc9 := by omega
      clear HSEQ2 HI1 k2 b2 hK2 l2 hl2 HL8 HY8 HD8 hmm hPL hpl hcap hD2
      go_upto_region 16 with fail
      go_still_tail 9, (by kernel_rfl)
      have HB9 := Lib.hid (show Below W9.heap.size W9 W9.drew from (Below.refl _ _).drew)
      change wpList _ _ _ _ _ W9.drew
      obtain ⟨wd, hwd⟩ : ∃ wd, W9.drew = wd := ⟨_, rfl⟩
      rw [hwd] at HB9 ⊢
      clear hwd
      go_wp2_with fail
      refine (HIN.out wd HB9.out).mono ?_
      rintro e w10 ⟨rfl, hb10⟩
      have HB10 := Lib.hid (stepB HB9.out hb10)
      clear hb10
      have HQ10 := Lib.hid (HQ9.out.later HB10.out)
      have HX10 := Lib.hid (stepB HX9.out HB10.out)
      have cq := HQ10.out.cell
      have fq := HQ10.out.frozen
      have HQ11 := Lib.hid (HQ10.out.set (.bool true))
      have HX11 := Lib.hid (HX10.out.setCell (Nat.le_succ _) (.bool true) (p := ⟨w.heap.size + 1, 0, none⟩))
      have far : ∀ D, W9.heap[D]? = some (Obj.deferred (some [])) → (w10.setCell ⟨w.heap.size + 1, 0, none⟩ (.bool true)).heap[D]? = some (Obj.deferred (some [])) := fun D hD => by
        have hD2 : w10.heap[D]? = some (Obj.deferred (some [])) := (HB10.out.block D (Array.getElem?_eq_some_iff.1 hD).1).trans hD
        refine (heap_setCell_other w10 ⟨w.heap.size + 1, 0, none⟩ D _ (fun e => ?_)).trans hD2
        obtain ⟨t, h⟩ := HQ10.out
        have e2 : D = w.heap.size + 1 := e
        rw [← e2, hD2] at h
        cases h
      have HD11 := Lib.hid (And.intro (far D1 HDD.out.2.2.2.1) (far D2 HDD.out.2.2.2.2))
      clear far HQ9 HQ10 HX9 HX10 c2 c9 c10
      go_wp2
      refine leaves_marksO (B := w.heap.size) [D2, D1] _ (by have := HDD.out.2.2.1; simp; omega) (fun D' hD' => by have := HDD.out.1; have := HDD.out.2.1; simp at hD'; omega) (fun D' hD' => by simp at hD'; rcases hD' with rfl | rfl; exact HD11.out.2; exact HD11.out.1) (fun W2 hb hc => ?_)
      exact ⟨_, results_c6' rfl rfl HQ11.out hc, rfl, HX11.out.trans hb⟩
  · rintro D c pre W hD hS hI hK
    exact hI.elim
end Go.Proofs.Ythciiapdfjemaaa

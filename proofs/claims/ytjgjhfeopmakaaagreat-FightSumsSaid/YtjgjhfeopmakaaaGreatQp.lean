/- FightNobody: without attackers nobody is struck; who left neither strikes nor is struck (layer 17). -/
import Derived.Test.YtjgjhfeopmakaaaGreatQn
import Derived.Test.YtjgjhfeopmakaaaGreatQo
import Derived.Test.YtjgjhfeopmakaaaGreatYm
namespace Go.Proofs.YtjgjhfeopmakaaaGreat
open Go.RowKit Go.Maps
attribute [local go_sem] Oper.semAt_some

/-- The marks that ranges have left. -/
def Marks (B : Nat) (w : World) (df : List Deferred) : Prop := ∃ Ds : List Nat, df = Ds.map (fun D => { target := .collected D, args := #[] }) ∧ Ds.Nodup ∧ (∀ D ∈ Ds, B ≤ D) ∧ MarksO w Ds
theorem Marks.none (B : Nat) (w : World) : Marks B w [] := ⟨[], rfl, List.nodup_nil, (fun _ h => by cases h), (fun _ h => by cases h)⟩
theorem Marks.later {B : Nat} {w w' : World} {df : List Deferred} (h : Marks B w df) (hb : Below w.heap.size w w') : Marks B w' df := by
  obtain ⟨Ds, h1, h2, h3, h4⟩ := h
  exact ⟨Ds, h1, h2, h3, fun D hD => (hb.block D (h4.lt hD)).trans (h4 D hD)⟩
theorem Marks.cons {B D : Nat} {w w' : World} {df : List Deferred} (h : Marks B w df) (hb : Below w.heap.size w w') (hD : w.heap.size ≤ D) (hB : B ≤ D) (hK : w'.heap[D]? = some (.deferred (some []))) : Marks B w' ({ target := .collected D, args := #[] } :: df) := by
  obtain ⟨Ds, rfl, h2, h3, h4⟩ := h
  refine ⟨D :: Ds, rfl, List.nodup_cons.2 ⟨fun hm => by have := h4.lt hm; omega, h2⟩, fun D' hD' => ?_, fun D' hD' => ?_⟩
  · rcases List.mem_cons.1 hD' with rfl | h
    · exact hB
    · exact h3 _ h
  · rcases List.mem_cons.1 hD' with rfl | h
    · exact hK
    · exact (hb.block _ (h4.lt h)).trans (h4 _ h)
set_option maxRecDepth 100000 in
set_option maxHeartbeats 4000000 in
theorem arr107 (t : Array Value) (h : t.size = 107) : t = #[t.getD 0 undef, t.getD 1 undef, t.getD 2 undef, t.getD 3 undef, t.getD 4 undef, t.getD 5 undef, t.getD 6 undef, t.getD 7 undef, t.getD 8 undef, t.getD 9 undef, t.getD 10 undef, t.getD 11 undef, t.getD 12 undef, t.getD 13 undef, t.getD 14 undef, t.getD 15 undef, t.getD 16 undef, t.getD 17 undef, t.getD 18 undef, t.getD 19 undef, t.getD 20 undef, t.getD 21 undef, t.getD 22 undef, t.getD 23 undef, t.getD 24 undef, t.getD 25 undef, t.getD 26 undef, t.getD 27 undef, t.getD 28 undef, t.getD 29 undef, t.getD 30 undef, t.getD 31 undef, t.getD 32 undef, t.getD 33 undef, t.getD 34 undef, t.getD 35 undef, t.getD 36 undef, t.getD 37 undef, t.getD 38 undef, t.getD 39 undef, t.getD 40 undef, t.getD 41 undef, t.getD 42 undef, t.getD 43 undef, t.getD 44 undef, t.getD 45 undef, t.getD 46 undef, t.getD 47 undef, t.getD 48 undef, t.getD 49 undef, t.getD 50 undef, t.getD 51 undef, t.getD 52 undef, t.getD 53 undef, t.getD 54 undef, t.getD 55 undef, t.getD 56 undef, t.getD 57 undef, t.getD 58 undef, t.getD 59 undef, t.getD 60 undef, t.getD 61 undef, t.getD 62 undef, t.getD 63 undef, t.getD 64 undef, t.getD 65 undef, t.getD 66 undef, t.getD 67 undef, t.getD 68 undef, t.getD 69 undef, t.getD 70 undef, t.getD 71 undef, t.getD 72 undef, t.getD 73 undef, t.getD 74 undef, t.getD 75 undef, t.getD 76 undef, t.getD 77 undef, t.getD 78 undef, t.getD 79 undef, t.getD 80 undef, t.getD 81 undef, t.getD 82 undef, t.getD 83 undef, t.getD 84 undef, t.getD 85 undef, t.getD 86 undef, t.getD 87 undef, t.getD 88 undef, t.getD 89 undef, t.getD 90 undef, t.getD 91 undef, t.getD 92 undef, t.getD 93 undef, t.getD 94 undef, t.getD 95 undef, t.getD 96 undef, t.getD 97 undef, t.getD 98 undef, t.getD 99 undef, t.getD 100 undef, t.getD 101 undef, t.getD 102 undef, t.getD 103 undef, t.getD 104 undef, t.getD 105 undef, t.getD 106 undef] := by
  have e : t.toList = (List.range 107).map (fun i => t.getD i undef) := by
    apply List.ext_getElem
    · simp [h]
    · intro i h1 h2
      simp at h1
      simp [h1]
  have e2 : t = t.toList.toArray := by simp
  rw [e] at e2
  exact e2
theorem Marks.setC {B b : Nat} {w : World} {df : List Deferred} {u v : Value} {t : TypeId} (h : Marks B w df) (hc : w.heap[b]? = some (.cells #[v] t (0, 0))) : Marks B (w.setCell ⟨b, 0, Option.none⟩ u) df := by
  obtain ⟨Ds, h1, h2, h3, h4⟩ := h
  refine ⟨Ds, h1, h2, h3, fun D hD => ?_⟩
  have e := h4 D hD
  rw [heap_setCell_other w ⟨b, 0, Option.none⟩ D u (fun e2 => by rw [e2, hc] at e; cases e)]
  exact e
theorem marks_leaveC {n : Nat} {w w0 : World} {fn : Func} {tmps : Array Value} {df : List Deferred} {b : Nat} (h : Marks w0.heap.size w df) (hb : Below w0.heap.size w0 w) (hr : fn.results = #[.cell 6 4]) (ht : tmps.getD 6 undef = .pointer (some ⟨b, 0, none⟩)) (hc : HdAt w b (.bool true)) : LeavesInM Fence.wide n Tryz.prog fn tmps (RetV w0 (.bool true)) df .returning w := by
  obtain ⟨Ds, rfl, h2, h3, h4⟩ := h
  refine leaves_marksO (B := w0.heap.size) Ds _ h2 h3 h4 (fun W' hb' hk => ⟨_, results_c6 hr ht ?_, rfl, hb.trans hb'⟩)
  obtain ⟨t, h⟩ := hc
  exact ⟨t, hk _ _ h rfl⟩
theorem u8_at {w : World} {xa : Option Addr} {xc : Nat} {os : List Int} (h : ValsAt w (.slice xa os.length xc) (u8sV os)) (k : Nat) (hk : k < os.length) : ∃ b off, xa = some ⟨b, off, none⟩ ∧ w.cell? ⟨b, off + k, none⟩ = some (.int .u8 os[k]) := by
  have hl : (u8sV os).length = os.length := by simp [u8sV]
  rcases h with ⟨xa', cap, h1, h2⟩ | ⟨b, off, cap, h1, _, hc⟩
  · have : os = [] := by simpa [u8sV] using h2
    subst this
    simp at hk
  · injection h1 with h1 _ _
    refine ⟨b, off, h1, ?_⟩
    have := hc k (by rw [hl]; exact hk)
    rw [this]
    simp [u8sV]
theorem nob_attack {l : List ManL} {S : StoreL} {f : Int → Bool} {T : TeamL} {D : DryL} (h : NobS l S f) (hl : l.length ≤ 20) {t x : Int} (hx : x ∈ attackL ⟨S, T, D⟩ t) : f x = false ∧ ∃ k, ∃ hk : k < l.length, x = (k : Int) + 1 ∧ l[k].attacks = true ∧ k < 256 ∧ (k : Int) < l.length ∧ (0 : Int) ≤ k := by
  obtain ⟨h1, h2⟩ := attack_mem hx
  obtain ⟨hf, k, hk, e, ho⟩ := h.here h1
  refine ⟨hf, k, hk, e, ?_, by omega, by omega, by omega⟩
  have h3 : atkB T t (objI S x) = true := h2
  rw [ho] at h3
  unfold atkB at h3
  rw [Bool.and_eq_true] at h3
  exact h3.1
theorem nob_plan {w : World} {lo : Nat} {g : GhostB} {l : List ManL} {S : StoreL} {f : Int → Bool} {T : TeamL} {D : DryL} (hb : BoardAt w lo g ⟨S, T, D⟩) (h : NobS l S f) (hl : l.length ≤ 20) {t : Int} {x : HitL} (hx : x ∈ planL ⟨S, T, D⟩ t) :
    f x.x = false ∧ (-100 ≤ x.x ∧ x.x < 256) ∧ (¬(0 < x.y) ∨ (0 < x.y ∧ f x.y = false ∧ (-100 ≤ x.y ∧ x.y < 256))) := by
  have hin : ∀ y, y ∈ crsL S → f y = false ∧ (-100 ≤ y ∧ y < 256) ∧ 0 < y := fun y hy => by
    obtain ⟨hf, k, hk, e, _⟩ := h.here hy
    exact ⟨hf, by omega, by omega⟩
  rcases (plan_mem hb hx).2 with ⟨h1, _, h3, _⟩ | ⟨h1, h2, _⟩ | ⟨h1, h2, _⟩
  · obtain ⟨a1, a2, _⟩ := hin _ (attack_mem h1).1
    have hn := next_bounds hb.tm t
    dsimp only at hn h3
    exact ⟨a1, a2, .inl (by omega)⟩
  · obtain ⟨a1, a2, _⟩ := hin _ (attack_mem h1).1
    obtain ⟨b1, b2, b3⟩ := hin _ (block_mem h2).1
    exact ⟨a1, a2, .inr ⟨b3, b1, b2⟩⟩
  · obtain ⟨a1, a2, _⟩ := hin _ (block_mem h2).1
    obtain ⟨b1, b2, b3⟩ := hin _ (attack_mem h1).1
    exact ⟨a1, a2, .inr ⟨b3, b1, b2⟩⟩
theorem wrapA (n : Nat) (h : n < 256) : wrap64 (1 + (n : Int)) = 1 + n := by unfold wrap64; omega
theorem wrapB (n : Nat) (h : n < 256) : IntKind.i64.wrap (1 + (n : Int)) = 1 + n := by rw [IntKind.wrap_i64]; omega
theorem wrapC (n : Nat) (h : n < 256) : wrap64 ((n : Int) + 1 - 1) = n := by unfold wrap64; omega
theorem wrapD (n : Nat) (h : n < 256) : IntKind.i64.wrap ((n : Int) + 1 - 1) = n := by rw [IntKind.wrap_i64]; omega
theorem litC (n : Nat) (h : n < 256) : (Lit.int .i64 ((n : Int) + 1)).wf = true := WalkArith.wf_i64 (by omega)
theorem litZ (x : Int) (h : -100 ≤ x ∧ x < 256) : (Lit.int .i64 x).wf = true := WalkArith.wf_i64 (by omega)
theorem litA (n : Nat) (h : n < 256) : (Lit.int .i64 (1 + (n : Int))).wf = true := WalkArith.wf_i64 (by omega)
/-- What the loop of who leaves holds. -/
structure OffI (l : List ManL) (T : TeamL) (D : DryL) (lo q mb : Nat) (W : World) (k : Nat) (S : StoreL) (f : Int → Bool) (g : GhostB) : Prop where
  bd : BoardAt W lo g ⟨S, T, D⟩
  q : g.q = q
  nob : NobS l S f
  map : LaidMap W mb k f
def NobI (wq : World) (q13 : Nat) (pre : List Int) (W : World) : Prop := Below wq.heap.size wq W ∧ ∃ bb, HdAt W q13 (.bool bb) ∧ (bb = false → pre = [])
theorem nobI_own {wq : World} {q13 D : Nat} (hB : wq.heap.size ≤ D) : OwnFrom D (NobI wq q13) := by
  rintro s X Y row ⟨h3, bb, h4, h5⟩ hg hr
  exact ⟨ownFrom_below (β := Unit) (Nat.le_refl _) hB () X Y row h3 hg hr, bb, h4.grown hg (fun r e => (hr r e).2), h5⟩
set_option maxRecDepth 100000 in
set_option maxHeartbeats 32000000 in
theorem fightNobody_walk {v u : Value} {l : List ManL} {os : List Int} {n : Nat} {w : World} (hv : MansAt w v l) (hw : ∀ x ∈ l, Wf x.owner) (hlen : l.length ≤ 9223372036854775807) (hn : n < 256) (hu : ValsAt w u (u8sV os)) (hul : os.length ≤ maxLen) (ho : ∀ x ∈ os, 0 ≤ x ∧ x < 256) :
    Calls Tryz.prog 5 #[v, .int .u8 n, u] w (RetV w (.bool true)) := by
  have hmm := @run_makeMap Tryz.prog
  obtain ⟨va, vc, rfl⟩ := hv.form
  obtain ⟨ua, uc, rfl⟩ : ∃ ua uc, u = .slice ua os.length uc := by
    rcases hu with ⟨xa, cap, rfl, h2⟩ | ⟨b, off, cap, rfl, _⟩
    · have : os = [] := by simpa [u8sV] using h2
      subst this
      exact ⟨xa, cap, rfl⟩
    · exact ⟨some ⟨b, off, none⟩, cap, by simp [u8sV]⟩
  have hb1 := below_new w (.cells #[.slice va l.length vc] 22)
  have hb2 := below_new (w.alloc (.cells #[.slice va l.length vc] 22)) (.cells #[.bool false] 4)
  have hr1 := (hb2.block w.heap.size (by simp)).trans (heap_alloc_new w (.cells #[.slice va l.length vc] 22))
  have hr2 := heap_alloc_new (w.alloc (.cells #[.slice va l.length vc] 22)) (.cells #[.bool false] 4)
  have hbb := stepB hb1 hb2
  obtain ⟨W0, hW0⟩ : ∃ W0, (w.alloc (.cells #[.slice va l.length vc] 22)).alloc (.cells #[.bool false] 4) = W0 := ⟨_, rfl⟩
  rw [hW0] at hr1 hr2 hbb
  rw [World.size_alloc] at hr2
  have HV := Lib.hid (hv.later hbb)
  have HU := Lib.hid (show ValsAt W0 (.slice ua os.length uc) (u8sV os) from hu.later hbb)
  have HW := Lib.hid hw
  have HO := Lib.hid ho
  have HBB := Lib.hid hbb
  obtain ⟨q, hq⟩ : ∃ q, w.heap.size = q := ⟨_, rfl⟩
  have HQ := Lib.hid hq
  rw [hq] at hr1 hr2
  have HR1 := Lib.hid hr1
  have HR2 := Lib.hid hr2
  clear hv hu hw ho hb1 hb2 hr1 hr2 hbb
  refine (callsIn_wide (n := 9)).1 ?_
  refine callsIn_of_wp_marks Tryz.func5 rfl trivial ?_ rfl
  simp only [Tryz.ntmps5, List.size_toArray, List.length_cons, List.length_nil, Nat.reduceAdd, Nat.reduceSub, Array.replicate_succ, Array.replicate_zero, List.push_toArray, List.append_toArray, List.nil_append, List.cons_append]
  refine wpIn_wide.2 ?_
  go_wp2_with fail
  refine (awake17_any _).mono ?_
  rintro e w1 ⟨rfl, hb1⟩
  have HB1 := Lib.hid hb1
  have HR11 := Lib.hid ((hb1.block _ (Crd.lt_of_row HR1.out)).trans HR1.out)
  have HR12 := Lib.hid ((hb1.block _ (Crd.lt_of_row HR2.out)).trans HR2.out)
  have HBO := Lib.hid (board17_any (HV.out.later hb1) HW.out hlen n hn)
  have z1 := cell_of_row w1 q 0 _ _ _ HR11.out
  simp only [List.getElem?_toArray, List.getElem?_cons_zero] at z1
  clear hb1 hW0
  dsimp only
  go_wp2_with fail
  refine HBO.out.mono ?_
  rintro e w2 (⟨hplay, lo, g, rfl, hg, hlo, hb2⟩ | ⟨hplay, rfl, hb2⟩)
  case inr =>
    have hr2 := (hb2.block _ (Crd.lt_of_row HR12.out)).trans HR12.out
    have c2 := cell_of_row w2 (q + 1) 0 _ _ _ hr2
    have f2 := frozen_of_row w2 (q + 1) 0 _ _ hr2
    have HX := Lib.hid (show HdAt (w2.setCell ⟨q + 1, 0, none⟩ (.bool true)) (q + 1) (.bool true) from HdAt.set ⟨_, hr2⟩ _)
    have HB2 := Lib.hid (show Below w.heap.size w (w2.setCell ⟨q + 1, 0, none⟩ (.bool true)) from (stepB (stepB HBB.out HB1.out) hb2).setCell (by have := HQ.out; show w.heap.size ≤ q + 1; omega) _)
    simp only [List.getElem?_toArray, List.getElem?_cons_zero] at c2
    clear hr2 hb2 HBO z1
    dsimp only
    go_wp2
    exact ⟨_, results_c6 rfl rfl HX.out, rfl, HB2.out⟩
  have HP := Lib.hid hplay
  have HG2 := Lib.hid hg
  have HB2 := Lib.hid (stepB HB1.out hb2)
  have HLO := Lib.hid (show W0.heap.size ≤ lo from by have := HB1.out.size; omega)
  have HR21 := Lib.hid ((hb2.block _ (Crd.lt_of_row HR11.out)).trans HR11.out)
  have HR22 := Lib.hid ((hb2.block _ (Crd.lt_of_row HR12.out)).trans HR12.out)
  have hl20 := hplay.1
  clear hplay hg hlo hb2 HBO z1 HR11 HR12
  dsimp only
  by_cases h20 : 20 < os.length
  · have d0 : decide ((20 : Int) < os.length) = true := decide_eq_true (by omega)
    have d0' : decide (20 < os.length) = true := decide_eq_true h20
    have c2 := cell_of_row w2 (q + 1) 0 _ _ _ HR22.out
    have f2 := frozen_of_row w2 (q + 1) 0 _ _ HR22.out
    have HX := Lib.hid (show HdAt (w2.setCell ⟨q + 1, 0, none⟩ (.bool true)) (q + 1) (.bool true) from HdAt.set ⟨_, HR22.out⟩ _)
    have HB3 := Lib.hid (show Below w.heap.size w (w2.setCell ⟨q + 1, 0, none⟩ (.bool true)) from (stepB HBB.out HB2.out).setCell (by have := HQ.out; show w.heap.size ≤ q + 1; omega) _)
    simp only [List.getElem?_toArray, List.getElem?_cons_zero] at c2
    go_wp2
    exact ⟨_, results_c6 rfl rfl HX.out, rfl, HB3.out⟩
  have d0 : decide ((20 : Int) < os.length) = false := decide_eq_false (by omega)
  have d0' : decide (20 < os.length) = false := decide_eq_false h20
  have hm1 := below_new w2 (.map #[] 0)
  have hm2 := below_new (w2.alloc (.map #[] 0)) (.cells #[.map (some w2.heap.size)] 59)
  have hlm := (laid_made w2).later hm2
  have hr8 := heap_alloc_new (w2.alloc (.map #[] 0)) (.cells #[.map (some w2.heap.size)] 59)
  have hm3 := stepB hm1 hm2
  go_upto_region 7 with fail
  obtain ⟨W3, hW3⟩ : ∃ W3, (w2.alloc (.map #[] 0)).alloc (.cells #[.map (some w2.heap.size)] 59) = W3 := ⟨_, rfl⟩
  rw [hW3] at hlm hr8 hm3
  try rw [hW3]
  rw [World.size_alloc] at hr8
  obtain ⟨mb, hmb⟩ : ∃ mb, w2.heap.size = mb := ⟨_, rfl⟩
  have HMB := Lib.hid hmb
  try simp only [hmb]
  rw [hmb] at hlm hr8
  have HR31 := Lib.hid ((hm3.block _ (Crd.lt_of_row HR21.out)).trans HR21.out)
  have HR32 := Lib.hid ((hm3.block _ (Crd.lt_of_row HR22.out)).trans HR22.out)
  have HR38 := Lib.hid hr8
  have HLM := Lib.hid hlm
  have HB3 := Lib.hid (stepB HB2.out hm3)
  have HG3 := Lib.hid (HG2.out.later hm3)
  have HNS := Lib.hid (NobS.start (made17_fold l HP.out.2.2))
  have HQL := Lib.hid (show q + 1 < w2.heap.size from Crd.lt_of_row HR22.out)
  have HGL := Lib.hid (fun k (hk : g.own k) => HG2.out.ownLo hk)
  have HGT := Lib.hid (fun k (hk : g.own k) => HG2.out.ownLt hk)
  have HQ0 := Lib.hid (Crd.lt_of_row HR2.out)
  have HW0S := Lib.hid (show W0.heap.size ≤ w2.heap.size from HB2.out.size)
  have ho20 : os.length ≤ 20 := by omega
  clear hlm hr8 hm1 hm2 hm3 hW3 hmb HG2 HR21 HR22 hul
  unfold board17 at HG3
  obtain ⟨S0, hS0⟩ : ∃ S0, made17 (l.map cardM) l = S0 := ⟨_, rfl⟩
  obtain ⟨TT, hTT⟩ : ∃ TT, sidesT n = TT := ⟨_, rfl⟩
  rw [hS0, hTT] at HG3
  rw [hS0] at HNS
  obtain ⟨q7, hq7⟩ : ∃ q7, g.q = q7 := ⟨_, rfl⟩
  have HQ7 := Lib.hid hq7
  try simp only [hq7]
  clear hS0 hTT
  go_wp2
  go_loopw [33] (fun i wr => ∃ (k : Nat) (S : StoreL) (f : Int → Bool) (g' : GhostB), k ≤ os.length ∧ i = .int .i64 k ∧ Hid (OffI l TT dry0 lo q7 mb wr k S f g') ∧ Hid (∀ k, k < W3.heap.size → g'.own k → g.own k) ∧ Hid (wr.heap[q]? = some (.cells #[.slice va l.length vc] 22 (0, 0)) ∧ wr.heap[q + 1]? = some (.cells #[.bool false] 4 (0, 0)) ∧ wr.heap[mb + 1]? = some (.cells #[.map (some mb)] 59 (0, 0))) ∧ Hid (Below W0.heap.size W0 wr) ∧ Hid (W3.heap.size ≤ wr.heap.size)) (fun i _ => os.length - (intOf i).toNat)
  case atStart => exact ⟨0, S0, _, g, Nat.zero_le _, rfl, Lib.hid ⟨HG3.out, HQ7.out, HNS.out, HLM.out⟩, Lib.hid (fun _ _ h => h), Lib.hid ⟨HR31.out, HR32.out, HR38.out⟩, HB3, Lib.hid (Nat.le_refl _)⟩
  case round =>
    obtain ⟨k, S, f, g', hk, rfl, HI, HOW, HBX, HBW, HSZ⟩ := hrel
    have HLO' := Lib.hid (fun k (hk : g'.own k) => HI.out.bd.ownLo hk)
    have HNM := Lib.hid (show ∀ j, j = q ∨ j = q + 1 ∨ j = mb ∨ j = mb + 1 → j < W3.heap.size ∧ ¬g'.own j from fun j hj => by
      have h1 := Crd.lt_of_row HR38.out
      have h2 := HQL.out
      have h3 := HMB.out
      have h4 := HLO.out
      have h5 := HQ0.out
      refine ⟨by omega, fun e => ?_⟩
      have h6 := HLO'.out j e
      have h7 := HGT.out j (HOW.out j (by omega) e)
      omega)
    by_cases hlt : k < os.length
    · obtain ⟨ub, uoff, rfl, cu⟩ := u8_at (HU.out.later HBW.out) k hlt
      have hx := HO.out os[k] (List.getElem_mem hlt)
      obtain ⟨x, hx0⟩ : ∃ x, os[k] = x := ⟨_, rfl⟩
      rw [hx0] at cu hx
      obtain ⟨xn, rfl⟩ : ∃ xn : Nat, x = xn := ⟨x.toNat, by omega⟩
      have hxn : xn < 256 := by omega
      have dk : decide ((k : Int) < os.length) = true := decide_eq_true (by omega)
      have hw1 : wrap64 (1 + (xn : Int)) = 1 + xn := wrapA xn hxn
      have hw2 : IntKind.i64.wrap (1 + (xn : Int)) = 1 + xn := wrapB xn hxn
      have hlit : (Lit.int .i64 (1 + (xn : Int))).wf = true := litA xn hxn
      have HLIT := Lib.hid hlit
      have HSZR := Lib.hid (show W3.heap.size ≤ wr.heap.size from HSZ.out)
      obtain ⟨qx, b', tb', s', r', G'⟩ := g'
      have hqx := HI.out.q
      dsimp only at hqx
      subst hqx
      have c0 := HI.out.bd.cells.1
      dsimp only at c0
      have z8 := cell_of_row wr (mb + 1) 0 _ _ _ HBX.out.2.2
      simp only [List.getElem?_toArray, List.getElem?_cons_zero] at z8
      clear hx0 hx hlit
      by_cases hh : hasS S (1 + (xn : Int))
      · have HMV := Lib.hid (move_bd HI.out.bd (1 + (xn : Int)) hh 5 (by decide) (by decide))
        dsimp only at HMV
        have HNB := Lib.hid (HI.out.nob.move hh)
        go_wp2_with fail
        refine HMV.out.mono ?_
        rintro e w5 ⟨rfl, g5, hg5, ht5, hq5⟩
        have hkp := fun j hj => (ht5.keeps (k := j) (Nat.lt_of_lt_of_le (HNM.out j hj).1 HSZR.out) (HNM.out j hj).2)
        have hlt5 : ∀ j, j = q ∨ j = q + 1 ∨ j = mb ∨ j = mb + 1 → j < w5.heap.size := fun j hj => Nat.lt_of_lt_of_le (HNM.out j hj).1 (Nat.le_trans HSZR.out ht5.size)
        have hl5 := HI.out.map.of (hkp mb (by omega)).1
        obtain ⟨w6, hrun, hl6, hgr6⟩ := hl5.put (by unfold maxLen; omega) HLIT.out
        have hbl : ∀ j, j ≠ mb → j < w5.heap.size → w6.heap[j]? = w5.heap[j]? := fun j hj hlt => hgr6.block j hlt (fun e => hj (Option.some.inj e))
        have hmbn : ¬g5.own mb := fun e => (HNM.out mb (by omega)).2 (ht5.own mb (Nat.lt_of_lt_of_le (HNM.out mb (by omega)).1 HSZR.out) e)
        have HI6 := Lib.hid (show OffI l TT dry0 lo qx mb w6 (k + 1) (moveI S (1 + (xn : Int)) 5) (fun y => if y = 1 + (xn : Int) then true else f y) g5 from
          ⟨hg5.kept hgr6.size (fun j hj => hbl j (fun e => hmbn (by rw [← e]; exact hj)) (hg5.ownLt hj)), hq5, HNB.out, hl6⟩)
        have HOW6 := Lib.hid (show ∀ j, j < W3.heap.size → g5.own j → g.own j from fun j hj e => HOW.out j hj (ht5.own j (Nat.lt_of_lt_of_le hj HSZR.out) e))
        have HBX6 := Lib.hid (show w6.heap[q]? = some (.cells #[.slice va l.length vc] 22 (0, 0)) ∧ w6.heap[q + 1]? = some (.cells #[.bool false] 4 (0, 0)) ∧ w6.heap[mb + 1]? = some (.cells #[.map (some mb)] 59 (0, 0)) from by
          have h2 := HQL.out
          have h3 := HMB.out
          refine ⟨((hbl q (by omega) (hlt5 q (by omega))).trans (hkp q (by omega)).1).trans HBX.out.1, ((hbl (q + 1) (by omega) (hlt5 _ (by omega))).trans (hkp (q + 1) (by omega)).1).trans HBX.out.2.1, ((hbl (mb + 1) (by omega) (hlt5 _ (by omega))).trans (hkp (mb + 1) (by omega)).1).trans HBX.out.2.2⟩)
        have HBW6 := Lib.hid (show Below W0.heap.size W0 w6 from grown_of (ht5.below HBW.out (fun j hj => Nat.le_trans HLO.out (HLO'.out j hj))) hgr6 (fun j e => by cases e; have h2 := HQL.out; have h3 := HMB.out; have h4 := HW0S.out; omega))
        have HSZ6 := Lib.hid (show W3.heap.size ≤ w6.heap.size from Nat.le_trans HSZR.out (Nat.le_trans ht5.size hgr6.size))
        have z85 := cell_of_row w5 (mb + 1) 0 _ _ _ ((hkp (mb + 1) (by omega)).1.trans HBX.out.2.2)
        simp only [List.getElem?_toArray, List.getElem?_cons_zero] at z85
        clear hg5 ht5 hq5 hkp hlt5 hl5 hl6 hgr6 hbl hmbn z8 c0 cu HMV
        dsimp only
        go_wp2
        go_roundw
        case rel => exact ⟨k + 1, _, _, g5, by omega, by go_num, HI6, HOW6, HBX6, HBW6, HSZ6⟩
        case measure => simp [intOf]; omega
      · have HMV := Lib.hid (move_out (zone := 5) false (by decide) (get_out HI.out.bd.st (by have := HI.out.bd.len; dsimp only at this ⊢; omega) (1 + (xn : Int)) (by unfold hasS at hh; dsimp only; omega)))
        dsimp only at HMV
        go_wp2_with fail
        refine HMV.out.mono ?_
        rintro e w5 ⟨rfl, hb5⟩
        have HI6 := Lib.hid (show OffI l TT dry0 lo qx mb w5 (k + 1) S f ⟨qx, b', tb', s', r', G'⟩ from ⟨HI.out.bd.later hb5, rfl, HI.out.nob, (HI.out.map.later hb5).mono (Nat.le_succ _)⟩)
        have HBX6 := Lib.hid (show w5.heap[q]? = some (.cells #[.slice va l.length vc] 22 (0, 0)) ∧ w5.heap[q + 1]? = some (.cells #[.bool false] 4 (0, 0)) ∧ w5.heap[mb + 1]? = some (.cells #[.map (some mb)] 59 (0, 0)) from
          ⟨(hb5.block _ (Crd.lt_of_row HBX.out.1)).trans HBX.out.1, (hb5.block _ (Crd.lt_of_row HBX.out.2.1)).trans HBX.out.2.1, (hb5.block _ (Crd.lt_of_row HBX.out.2.2)).trans HBX.out.2.2⟩)
        have HBW6 := Lib.hid (stepB HBW.out hb5)
        have HSZ6 := Lib.hid (show W3.heap.size ≤ w5.heap.size from Nat.le_trans HSZR.out hb5.size)
        clear hb5 z8 c0 cu HMV
        dsimp only
        go_wp2
        go_roundw
        case rel => exact ⟨k + 1, S, f, _, by omega, by go_num, HI6, HOW, HBX6, HBW6, HSZ6⟩
        case measure => simp [intOf]; omega
    · obtain rfl : k = os.length := by omega
      have dk : decide ((os.length : Int) < os.length) = false := decide_eq_false (by omega)
      obtain ⟨qx, b', tb', s', r', G'⟩ := g'
      have hqx := HI.out.q
      dsimp only at hqx
      subst hqx
      have HG9 := Lib.hid HI.out.bd
      have HN9 := Lib.hid HI.out.nob
      have HM9 := Lib.hid HI.out.map
      obtain ⟨NL, hNL⟩ : ∃ NL, TT.sh.length = NL := ⟨_, rfl⟩
      have HNL := Lib.hid hNL
      have hN4 : NL ≤ 4 := by rw [← hNL]; exact HG9.out.tm.n2
      have HAL := Lib.hid (fun t => show (attackL ⟨S, TT, dry0⟩ t).length ≤ 100 from by
        have h1 := selP_len S (atkB TT t) (crsL S)
        have h2 := HN9.out.len
        have h3 : (strL S (fieldL S [])).length ≤ S.objs.length := by
          unfold strL
          rw [List.length_map]
          refine Nat.le_trans (List.length_filter_le _ _) (Nat.le_trans (selO_len _ _ _) ?_)
          have hk : okK S.seats 0 3 := ⟨by rw [HN9.out.seats]; decide, by decide, by decide, fun _ => rfl⟩
          refine nodup_len S.objs.length _ (HN9.out.wf.nodup 0 3 hk) (fun x hx => ?_)
          obtain ⟨k, hk2, rfl, _⟩ := (HN9.out.wf.mem 0 3 hk x).1 hx
          omega
        unfold crsL at h1
        rw [List.length_map] at h1
        show (selP S (atkB TT t) ((strL S (fieldL S [])).map Prod.fst)).length ≤ 100
        omega)
      have HLOB := Lib.hid (show W0.heap.size ≤ wr.heap.size from HBW.out.size)
      have HWS := Lib.hid (show w.heap.size ≤ wr.heap.size from Nat.le_trans HBB.out.size HBW.out.size)
      obtain ⟨wB, hwB⟩ : ∃ wB, wr = wB := ⟨_, rfl⟩
      subst hwB
      clear HI HOW HLO' HNM hNL
      go_wp2
      refine wp_loop (fun a W => a.tmps.size = 107 ∧ a.tmps.getD 3 undef = .pointer (some ⟨q, 0, none⟩) ∧ a.tmps.getD 6 undef = .pointer (some ⟨q + 1, 0, none⟩) ∧ a.tmps.getD 7 undef = .pointer (some ⟨qx, 0, none⟩) ∧ a.tmps.getD 8 undef = .pointer (some ⟨mb + 1, 0, none⟩) ∧ ∃ k : Nat, k ≤ NL ∧ a.tmps.getD 12 undef = .int .i64 k ∧ Hid (Below wr.heap.size wr W) ∧ Hid (Marks w.heap.size W a.defers))
        (fun a _ => NL - (intOf (a.tmps.getD 12 undef)).toNat) ?start2 ?round2
      case start2 => exact ⟨rfl, rfl, rfl, rfl, rfl, 0, Nat.zero_le _, rfl, Lib.hid (Below.refl _ _), Lib.hid (Marks.none _ _)⟩
      case round2 =>
        rintro ⟨t, df⟩ wq ⟨hsz, h3, h6, h7, h8, k, hk, h12, HBR, HMK⟩
        dsimp only at hsz h3 h6 h7 h8 h12 HMK
        rw [arr107 t hsz]
        simp only [h3, h6, h7, h8, h12]
        clear hsz h3 h6 h7 h8 h12
        obtain ⟨fr, hfr⟩ : ∃ fr : Nat → Value, fr = fun i => t.getD i undef := ⟨_, rfl⟩
        have hfr2 : ∀ i, t.getD i undef = fr i := fun i => by rw [hfr]
        simp only [hfr2]
        clear hfr hfr2
        have HLN := Lib.hid (tlen_any (HG9.out.later HBR.out).tm)
        dsimp only at HLN
        rw [HNL.out] at HLN
        have c1 := (HG9.out.later HBR.out).cells.2.1
        dsimp only at c1
        by_cases hkN : k < NL
        case neg =>
          obtain rfl : k = NL := by omega
          have d0 : decide ((k : Int) < (k : Int)) = false := decide_eq_false (by omega)
          have hr2 := (HBR.out.block _ (Crd.lt_of_row HBX.out.2.1)).trans HBX.out.2.1
          have c2 := cell_of_row wq (q + 1) 0 _ _ _ hr2
          have f2 := frozen_of_row wq (q + 1) 0 _ _ hr2
          simp only [List.getElem?_toArray, List.getElem?_cons_zero] at c2
          have HX := Lib.hid (show HdAt (wq.setCell ⟨q + 1, 0, none⟩ (.bool true)) (q + 1) (.bool true) from HdAt.set ⟨_, hr2⟩ _)
          have HBE := Lib.hid (show Below w.heap.size w (wq.setCell ⟨q + 1, 0, none⟩ (.bool true)) from (stepB (stepB HBB.out HBW.out) HBR.out).setCell (by have := HQ.out; show w.heap.size ≤ q + 1; omega) _)
          have HME := Lib.hid (show Marks w.heap.size (wq.setCell ⟨q + 1, 0, none⟩ (.bool true)) df from HMK.out.setC hr2)
          clear hr2
          go_wp2_with fail
          refine HLN.out.mono ?_
          rintro e w4 ⟨rfl, rfl⟩
          go_wp2
          exact marks_leaveC HME.out HBE.out rfl rfl HX.out
        have dkN : decide ((k : Int) < NL) = true := decide_eq_true (by omega)
        have HAT := Lib.hid (HAL.out k)
        have HGQ := Lib.hid (HG9.out.later HBR.out)
        have hb13 := below_new wq (.cells #[.bool false] 4)
        have HB13 := Lib.hid hb13
        have HR13 := Lib.hid (HdAt.new wq (.bool false) 4)
        have HATK := Lib.hid (attackers_any qx (k : Int) (wq.alloc (.cells #[.bool false] 4)))
        obtain ⟨q13, hq13⟩ : ∃ q13, wq.heap.size = q13 := ⟨_, rfl⟩
        have HQ13 := Lib.hid hq13
        rw [hq13] at HR13
        clear hb13
        go_wp2_with fail
        refine HLN.out.mono ?_
        rintro e w4 ⟨rfl, rfl⟩
        clear HLN c1
        go_wp2_with fail
        refine HATK.out.mono ?_
        rintro e w5 ⟨rfl, j1, j2, hb5⟩
        rw [World.size_alloc, HQ13.out] at j1 j2
        have HB5 := Lib.hid (stepB HB13.out hb5)
        have HR5 := Lib.hid (HR13.out.later hb5)
        have HB5N := Lib.hid hb5.size
        have HQ5 := Lib.hid (show q13 < w5.heap.size from HR5.out.lt)
        have HSEQ := Lib.hid (attk_seq 8 (by omega) (w := w5) (fun k => k = q13) (fun _ => False) (fun j e => by rw [e]; exact HQ5.out) j1 j2 (HGQ.out.later HB5.out) (fun c hc => hc.elim))
        have HI0 : Hid (NobI w4 q13 [] w5) := Lib.hid ⟨HB5.out, false, HR5.out, fun _ => rfl⟩
        clear j1 j2 hb5 HATK HR13
        go_wp2_with fail
        try simp only [World.size_alloc, HQ13.out]
        refine (wpIn_wide (n := 9)).1 ?_
        refine range_world3 rfl (by omega) (I := NobI w4 q13) (Ix := fun _ _ _ => False) (gf := 41) (lb := _) rfl trivial (fun _ _ => by kernel_rfl) HSEQ.out KpP.trans (fun W' o o' ho hc _ => KpP.put o' (.inr rfl) ho hc) (fun W W' hb => KpP.of_below _ _ hb) (Below.refl _ _) (fun _ => rfl)
          (nobI_own HB5.out.size) (fun c s A B row hs hg hr => hs) (fun s A B row hs hg hr => hs) (fun s A B row hs hg hr => hs) HI0.out ?rngr ?rngd ?rngs
        case rngs =>
          rintro D c pre W hD hS hI hK
          exact hI.elim
        case rngr =>
          rintro pre x W K hI hT hsz hK
          obtain ⟨hfx, kk, hkk, rfl, hat, hk256, hkl, hk0⟩ := nob_attack HN9.out hl20 (hT.subset (show x ∈ pre ++ [x] by simp))
          have hwc := wrapC kk hk256
          have hwd := wrapD kk hk256
          have HFX := Lib.hid hfx
          have HATT := Lib.hid hat
          have HK := Lib.hid hK
          clear hK hT hI hfx hat
          simp only [encF]
          simp
          gi_wp2
          refine HK.out _ _ (Below.refl _ _) ?_
          clear HK
          intro Wb hsz2 hrest hkw ⟨hbw, bb, hbb, hbn⟩
          have HKB := Lib.hid hkw
          have HBWb := Lib.hid hbw
          have hbq := stepB HBR.out hbw
          have z8 := cell_of_row Wb (mb + 1) 0 _ _ _ ((hbq.block _ (Crd.lt_of_row HBX.out.2.2)).trans HBX.out.2.2)
          have z3 := cell_of_row Wb q 0 _ _ _ ((hbq.block _ (Crd.lt_of_row HBX.out.1)).trans HBX.out.1)
          simp only [List.getElem?_toArray, List.getElem?_cons_zero] at z8 z3
          have hlk := (HM9.out.later hbq).look (litC kk hk256)
          rw [HFX.out] at hlk
          obtain ⟨ab, off, rfl, t0, t1, t2, t3, t4, t5, t6, t7, t8⟩ := (HV.out.later (stepB HBW.out hbq)).at kk hkk
          rw [HATT.out] at t8
          have HBB13 := Lib.hid hbb
          have c13 := hbb.cell
          have f13 := hbb.frozen
          clear hsz2 hrest hkw hbw hbb hbn hbq t0 t1 t2 t3 t4 t5 t6 t7
          gi_wp2
          have hkp := (kpP_setE (W := Wb) (l := q13) (.bool true))
          exact ⟨hkp.from (fun j e => by rw [e]; exact HQ5.out), HKB.out.trans (hkp.mono (fun j e => .inl e)), HBWb.out.setCell (by have := HQ13.out; show w4.heap.size ≤ q13; omega) _, true, HBB13.out.set _, fun e => by cases e⟩
        case rngd =>
          rintro D xs W hD hS ⟨hbw, bb, hbb, hbn⟩ hK
          have hxs : xs = attackL ⟨S, TT, dry0⟩ k := hS
          subst hxs
          have hbq := stepB HBR.out hbw
          have HBQ := Lib.hid hbq
          have HPL := Lib.hid (plan_any (HG9.out.later hbq) (k : Int) HAT.out)
          dsimp only at HPL
          have HMP := Lib.hid (fun x hx => nob_plan (t := (k : Int)) (x := x) HG9.out HN9.out hl20 hx)
          have HNO := Lib.hid (show bb = false → planL ⟨S, TT, dry0⟩ k = [] from fun e => plan_none (hbn e))
          have HMK7 := Lib.hid (HMK.out.cons hbw (by have h1 := HB5N.out; rw [World.size_alloc] at h1; have h2 : w5.heap.size ≤ D := hD; omega) (by have h1 := HWS.out; have h2 := HBR.out.size; have h3 := HB5N.out; rw [World.size_alloc] at h3; have h4 : w5.heap.size ≤ D := hD; omega) hK)
          obtain ⟨PL, hPL⟩ : ∃ PL, planL ⟨S, TT, dry0⟩ (k : Int) = PL := ⟨_, rfl⟩
          rw [hPL] at HPL HNO HMP
          have HPLE := Lib.hid (show PL.length ≤ (planR ⟨S, TT, dry0⟩ (k : Int) (attackL ⟨S, TT, dry0⟩ k)).length from by rw [← hPL]; exact List.length_filter_le _ _)
          have HB13b := Lib.hid hbb
          clear hbw hbb hbn hK hS hD hbq hPL HSEQ HI0
          go_wp2_with fail
          refine HPL.out.mono ?_
          rintro e w8 ⟨pv, rfl, hpv, hpf, hb8⟩
          have HB8 := Lib.hid (stepB HBQ.out hb8)
          have HMK8 := Lib.hid (HMK7.out.later hb8)
          have c13 := (HB13b.out.later hb8).cell
          have HPV := Lib.hid hpv
          obtain ⟨pa, pc, rfl⟩ := hpv.form
          clear hpv hpf hb8 HPL HMK7 HMK
          dsimp only
          have hcond : bb = true ∨ (bb = false ∧ PL.length = 0) := by
            cases bb with
            | true => exact .inl rfl
            | false => exact .inr ⟨rfl, by rw [HNO.out rfl]; rfl⟩
          have HPLL := Lib.hid (show PL.length ≤ 1000000 from by have h1 := planR_len HG9.out (k : Int) (attackL ⟨S, TT, dry0⟩ k); have h2 := HAT.out; have h3 := HPLE.out; omega)
          have hpll := HPLL.out
          obtain ⟨wA, rfl⟩ : ∃ wA, wA = wr := ⟨_, rfl⟩
          rcases hcond with hbt | ⟨hbt, hp0⟩
          · subst hbt
            go_wp2
            go_loopw [87] (fun i wr => ∃ k2 : Nat, k2 ≤ PL.length ∧ i = .int .i64 k2 ∧ Hid (Below w8.heap.size w8 wr)) (fun i _ => PL.length - (intOf i).toNat)
            case atStart => exact ⟨0, Nat.zero_le _, rfl, Lib.hid (Below.refl _ _)⟩
            case round =>
              obtain ⟨k2, hk2, rfl, HB9⟩ := hrel
              by_cases hlt2 : k2 < PL.length
              · obtain ⟨hb, hoff, rfl, x0, x1, x2⟩ := (HPV.out.later HB9.out).at k2 hlt2
                obtain ⟨hfx, hlx, hy⟩ := HMP.out PL[k2] (List.getElem_mem hlt2)
                have dk2 : decide ((k2 : Int) < PL.length) = true := decide_eq_true (by omega)
                obtain ⟨x, hx⟩ : ∃ x, PL[k2] = x := ⟨_, rfl⟩
                rw [hx] at x0 x1 x2 hfx hlx hy
                clear hx
                obtain ⟨x, y, z⟩ := x
                dsimp only at x0 x1 x2 hfx hlx hy
                have hba := below_new wr (.cells #[.int .i64 x, .int .i64 y, .int .i64 z] 52)
                have hbz := stepB (stepB HB8.out HB9.out) hba
                have z8 := cell_of_row (wr.alloc (.cells #[.int .i64 x, .int .i64 y, .int .i64 z] 52)) (mb + 1) 0 _ _ _ ((hbz.block _ (Crd.lt_of_row HBX.out.2.2)).trans HBX.out.2.2)
                simp only [List.getElem?_toArray, List.getElem?_cons_zero] at z8
                have hlk := (HM9.out.later hbz).look (litZ x hlx)
                rw [hfx] at hlk
                have HB10 := Lib.hid (stepB HB9.out hba)
                rcases hy with hy | ⟨hy, hfy, hly⟩
                · have dy : decide (0 < y) = false := decide_eq_false (Int.not_lt.2 hy)
                  clear hfx hlx hba hbz
                  go_wp2
                  go_roundw
                  case rel => exact ⟨k2 + 1, by omega, by go_num, HB10⟩
                  case measure => simp [intOf]; omega
                · have dy : decide (0 < y) = true := decide_eq_true hy
                  have hlk2 := (HM9.out.later hbz).look (litZ y hly)
                  rw [hfy] at hlk2
                  clear hfx hlx hba hbz hfy hly
                  go_wp2
                  go_roundw
                  case rel => exact ⟨k2 + 1, by omega, by go_num, HB10⟩
                  case measure => simp [intOf]; omega
              · obtain rfl : k2 = PL.length := by omega
                have dk2 : decide ((PL.length : Int) < PL.length) = false := decide_eq_false (by omega)
                have HBN := Lib.hid (stepB HB8.out HB9.out)
                have HMN := Lib.hid (HMK8.out.later HB9.out)
                go_wp2
                refine ⟨⟨rfl, rfl, rfl, rfl, rfl, k + 1, by omega, by go_num, HBN, HMN⟩, ?_⟩
                simp [intOf]
                omega
          · subst hbt
            have dp : decide ((0 : Int) < (PL.length : Int)) = false := decide_eq_false (by omega)
            have dp' : decide (0 < PL.length) = false := decide_eq_false (by omega)
            have dp2 : (PL.length : Int) = 0 := by omega
            go_wp2
            go_loopw [87] (fun i wr => ∃ k2 : Nat, k2 ≤ PL.length ∧ i = .int .i64 k2 ∧ Hid (Below w8.heap.size w8 wr)) (fun i _ => PL.length - (intOf i).toNat)
            case atStart => exact ⟨0, Nat.zero_le _, rfl, Lib.hid (Below.refl _ _)⟩
            case round =>
              obtain ⟨k2, hk2, rfl, HB9⟩ := hrel
              by_cases hlt2 : k2 < PL.length
              · exact absurd hlt2 (by omega)
              · obtain rfl : k2 = PL.length := by omega
                have dk2 : decide ((PL.length : Int) < PL.length) = false := decide_eq_false (by omega)
                have HBN := Lib.hid (stepB HB8.out HB9.out)
                have HMN := Lib.hid (HMK8.out.later HB9.out)
                go_wp2
                refine ⟨⟨rfl, rfl, rfl, rfl, rfl, k + 1, by omega, by go_num, HBN, HMN⟩, ?_⟩
                simp [intOf]
                omega
end Go.Proofs.YtjgjhfeopmakaaaGreat

/- The law StackResolves, walked (layer 12). -/
import Derived.Test.YtgjojjhppgjkkaaGreatKp
import Derived.Test.YtgjojjhppgjkkaaGreatEa
namespace Go.Proofs.YtgjojjhppgjkkaaGreat
open Go.RowKit Go.Maps
attribute [local go_sem] Oper.semAt_some

theorem below_sets7 {W : World} {b : Nat} {v0 v1 v2 v3 v4 v5 v6 : Value} (k : Nat) (h : k ≠ b) : (((((((W.setCell ⟨b, 0, none⟩ v0).setCell ⟨b, 1, none⟩ v1).setCell ⟨b, 2, none⟩ v2).setCell ⟨b, 3, none⟩ v3).setCell ⟨b, 4, none⟩ v4).setCell ⟨b, 5, none⟩ v5).setCell ⟨b, 6, none⟩ v6).heap[k]? = W.heap[k]? := by
  rw [heap_setCell_other _ ⟨b, 6, none⟩ k _ h, heap_setCell_other _ ⟨b, 5, none⟩ k _ h, heap_setCell_other _ ⟨b, 4, none⟩ k _ h, heap_setCell_other _ ⟨b, 3, none⟩ k _ h, heap_setCell_other _ ⟨b, 2, none⟩ k _ h, heap_setCell_other _ ⟨b, 1, none⟩ k _ h, heap_setCell_other _ ⟨b, 0, none⟩ k _ h]
def t7cells (n0 : Nat) : Array Value := #[.int .i64 1, .int .i64 0, .int .i64 0, .int .i64 0, .int .i64 0, .int .i64 0, .slice none 0 0, .int .i64 2, .int .i64 1, .int .i64 2, .int .i64 2, .int .i64 0, .int .i64 0, .slice none 0 0, .int .i64 2, .int .i64 2, .int .i64 1, .int .i64 3, .int .i64 1, .int .i64 0, .slice none 0 0, .int .i64 3, .int .i64 1, .int .i64 0, .int .i64 0, .int .i64 0, .int .i64 0, .slice (some ⟨n0, 0, none⟩) 1 1]
/-- The table, in blocks of the call's own. -/
def RetTab (w : World) (e : Ending) (w' : World) : Prop := ∃ n0, w.heap.size ≤ n0 ∧ e = .returned (.slice (some ⟨n0 + 1, 0, none⟩) 4 4) ∧ n0 + 1 < w'.heap.size ∧ w'.heap[n0]? = some (.cells #[.int .i64 1, .int .i64 2, .int .i64 1] 24 (0, 0)) ∧ w'.heap[n0 + 1]? = some (.cells (t7cells n0) 45 (0, 0)) ∧ Below w.heap.size w w'
set_option maxRecDepth 100000 in
set_option maxHeartbeats 4000000 in
theorem table_fresh (w : World) : Calls Tryz.prog 14 #[] w (RetTab w) := by
  go_enter Tryz.func14, Tryz.ntmps14
  go_wp2
  go_ret
  refine ⟨w.heap.size, Nat.le_refl _, rfl, by simp, ?_, ?_, below_alloc2 (below_new w _) _⟩
  · exact (Below.heap_alloc _ _ _ (by simp)).trans (heap_alloc_new w _)
  · have e1 := heap_alloc_new (w.alloc (.cells #[.int .i64 1, .int .i64 2, .int .i64 1] 24)) (.cells (t7cells w.heap.size) 45)
    rw [World.size_alloc] at e1
    exact e1
def tvT (n0 c : Nat) : Value := if c = 3 then .slice (some ⟨n0, 0, none⟩) 1 1 else .slice none 0 0
theorem table_cells {w : World} {n0 : Nat} (h : w.heap[n0 + 1]? = some (.cells (t7cells n0) 45 (0, 0))) (c : Nat) (hc : c < T7.length) :
    w.cell? ⟨n0 + 1, c * 7, none⟩ = some (.int .i64 T7[c].kind) ∧ w.cell? ⟨n0 + 1, c * 7 + 1, none⟩ = some (.int .i64 T7[c].cost) ∧ w.cell? ⟨n0 + 1, c * 7 + 2, none⟩ = some (.int .i64 T7[c].power) ∧ w.cell? ⟨n0 + 1, c * 7 + 3, none⟩ = some (.int .i64 T7[c].tough) ∧
    w.cell? ⟨n0 + 1, c * 7 + 4, none⟩ = some (.int .i64 T7[c].keys) ∧ w.cell? ⟨n0 + 1, c * 7 + 5, none⟩ = some (.int .i64 T7[c].whn) ∧ w.cell? ⟨n0 + 1, c * 7 + 6, none⟩ = some (tvT n0 c) := by
  have hh := fun j => cell_of_row w (n0 + 1) j _ _ _ h
  rcases (show c = 0 ∨ c = 1 ∨ c = 2 ∨ c = 3 by simp [T7] at hc; omega) with rfl | rfl | rfl | rfl
  · exact ⟨hh 0, hh 1, hh 2, hh 3, hh 4, hh 5, hh 6⟩
  · exact ⟨hh 7, hh 8, hh 9, hh 10, hh 11, hh 12, hh 13⟩
  · exact ⟨hh 14, hh 15, hh 16, hh 17, hh 18, hh 19, hh 20⟩
  · exact ⟨hh 21, hh 22, hh 23, hh 24, hh 25, hh 26, hh 27⟩
theorem tv_form (n0 c : Nat) (hc : c < T7.length) : ∃ ya yc, tvT n0 c = .slice ya T7[c].terms.length yc := by
  rcases (show c = 0 ∨ c = 1 ∨ c = 2 ∨ c = 3 by simp [T7] at hc; omega) with rfl | rfl | rfl | rfl
  · exact ⟨none, 0, rfl⟩
  · exact ⟨none, 0, rfl⟩
  · exact ⟨none, 0, rfl⟩
  · exact ⟨_, 1, rfl⟩
theorem tv_terms {W : World} {n0 : Nat} (h : W.heap[n0]? = some (.cells #[.int .i64 1, .int .i64 2, .int .i64 1] 24 (0, 0))) (c : Nat) (hc : c < T7.length) : Crd.TermsIs W (tvT n0 c) T7[c].terms := by
  rcases (show c = 0 ∨ c = 1 ∨ c = 2 ∨ c = 3 by simp [T7] at hc; omega) with rfl | rfl | rfl | rfl
  · exact .inl ⟨none, 0, rfl, rfl⟩
  · exact .inl ⟨none, 0, rfl, rfl⟩
  · exact .inl ⟨none, 0, rfl, rfl⟩
  · refine .inr ⟨n0, 0, 1, rfl, Crd.lt_of_row h, fun j hj => ?_⟩
    have hh := fun j => cell_of_row W n0 j _ _ _ h
    obtain rfl : j = 0 := by simp [T7] at hj; omega
    exact ⟨hh 0, hh 1, hh 2⟩
theorem kind_leq (c : Nat) (hc : c < T7.length) : decide (T7[c].kind ≤ 2) = decide (T7[c].kind = 2 ∨ T7[c].kind = 1) := by
  rcases (show c = 0 ∨ c = 1 ∨ c = 2 ∨ c = 3 by simp [T7] at hc; omega) with rfl | rfl | rfl | rfl <;> rfl
theorem keeps_entry (B : BoardL) (x : EntL) : KeepsO B.S (workE B x).1.S := by
  unfold workE
  split
  · exact keeps_all _ _ _ _
  · split
    · split
      · exact keeps_move _ _ _
      · exact (keeps_all _ _ _ _).trans (keeps_move _ _ _)
    · exact KeepsO.refl _
theorem work_none {B : BoardL} {x : EntL} (h : errI B.S x.obj = 7) : workE B x = (B, 0) := by
  have hn : ¬hasS B.S x.obj := by
    unfold errI at h
    split at h
    · cases h
    · assumption
  have hc : cardI B.S x.obj = zeroC := by unfold cardI; rw [if_neg hn]
  have ho : objI B.S x.obj = zeroO := by unfold objI; rw [if_neg hn]
  unfold workE
  rw [hc, ho]
  split
  · rfl
  · rw [if_neg (by decide)]
/-- What the law knows of a thing that there is. -/
theorem obj_there {lo : Nat} {w : World} {g : GhostB} {B : BoardL} (h : BoardAt w lo g B) (hT : B.S.T = T7) {i : Int} (he : errI B.S i = 0) : ∃ c : Nat, ∃ hc : c < T7.length, (objI B.S i).card = (c : Int) ∧ cardI B.S i = T7[c] := by
  have hn : hasS B.S i := by
    unfold errI at he
    split at he
    · assumption
    · cases he
  obtain ⟨j, rfl⟩ : ∃ j : Nat, i = (j : Int) + 1 := ⟨(i - 1).toNat, by have := hn.1; omega⟩
  have hj : j < B.S.objs.length := by have := hn.2; omega
  obtain ⟨_, h1, h2, _⟩ := h.wf.ids j hj
  rw [hT] at h2
  obtain ⟨c, hc⟩ : ∃ c : Nat, B.S.objs[j].card = c := ⟨_, (Int.toNat_of_nonneg h1).symm⟩
  have hc2 : c < T7.length := by rw [hc] at h2; omega
  refine ⟨c, hc2, ?_, ?_⟩
  · unfold objI
    rw [if_pos hn, objOf_at hj]
    exact hc
  · unfold cardI
    rw [if_pos hn, objOf_at hj, cardS_at hc (by rw [hT]; exact hc2)]
    congr 1
/-- What the law's loop holds: a stack, two boards alike, all apart. -/
structure ResI (w : World) (es : List EntL) (loS loA loB b qa qb j : Nat) (W : World) (gk : Option Nat) (ga gb : GhostB) (A B : BoardL) : Prop where
  st : StackAt W loS b gk (es.take j)
  ba : BoardAt W loA ga A
  bb : BoardAt W loB gb B
  sa : ∀ k, ga.own k → ¬ownK b gk k
  sb : ∀ k, gb.own k → ¬ownK b gk k
  ab : ∀ k, ga.own k → ¬gb.own k
  low : ∀ k, (ga.own k ∨ ownK b gk k) ∨ gb.own k → w.heap.size ≤ k
  bw : Below w.heap.size w W
  qa : ga.q = qa
  qb : gb.q = qb
  T : B.S.T = T7
theorem ResI.later {w : World} {es : List EntL} {loS loA loB b qa qb j : Nat} {W W' : World} {gk : Option Nat} {ga gb : GhostB} {A B : BoardL} (h : ResI w es loS loA loB b qa qb j W gk ga gb A B) (hb : Below W.heap.size W W') : ResI w es loS loA loB b qa qb j W' gk ga gb A B :=
  ⟨h.st.later hb, h.ba.later hb, h.bb.later hb, h.sa, h.sb, h.ab, h.low, stepB h.bw hb, h.qa, h.qb, h.T⟩
/-- The first board's stack is resolved. -/
theorem ResI.res {w : World} {es : List EntL} {loS loA loB b qa qb i j : Nat} {W W' : World} {gk gk5 : Option Nat} {ga gb g5 : GhostB} {A B A' : BoardL} (h : ResI w es loS loA loB b qa qb j W gk ga gb A B) (hs : StackAt W' loS b gk5 (es.take i)) (hb : BoardAt W' loA g5 A') (hq : g5.q = qa) (ha : ∀ k, g5.own k → ¬ownK b gk5 k)
    (ht : TurnedO W W' (fun k => ga.own k ∨ ownK b gk k) (fun k => g5.own k ∨ ownK b gk5 k)) : ResI w es loS loA loB b qa qb i W' gk5 g5 gb A' B := by
  have hap : ∀ k, (ga.own k ∨ ownK b gk k) → ¬gb.own k := fun k h1 h2 => by
    rcases h1 with h1 | h1
    · exact h.ab k h1 h2
    · exact h.sb k h2 h1
  have hap2 := apart_o ht hap (fun k hk => h.bb.ownLt hk)
  refine ⟨hs, hb, h.bb.farO ht hap, ha, fun k h1 h2 => hap2 k (.inr h2) h1, fun k h1 h2 => hap2 k (.inl h1) h2, fun k hk => ?_, ht.below h.bw (fun k hk => h.low k (.inl hk)), hq, h.qb, h.T⟩
  rcases hk with hk | hk
  · by_cases hlt : k < W.heap.size
    · exact h.low k (.inl (ht.own k hlt hk))
    · have := h.bw.size; omega
  · exact h.low k (.inr hk)
/-- The second board has changed. -/
theorem ResI.turn {w : World} {es : List EntL} {loS loA loB b qa qb j : Nat} {W W' : World} {gk : Option Nat} {ga gb gb' : GhostB} {A B B' : BoardL} (h : ResI w es loS loA loB b qa qb j W gk ga gb A B) (hb : BoardAt W' loB gb' B') (ht : TurnedB W W' gb gb') (hq : gb'.q = gb.q) (hT : B'.S.T = T7) : ResI w es loS loA loB b qa qb j W' gk ga gb' A B' := by
  have hto := ht.o
  refine ⟨h.st.farO hto h.sb, h.ba.farO hto (fun k h1 h2 => h.ab k h2 h1), hb, h.sa, apart_o hto h.sb (fun k hk => h.st.ownLt hk), fun k h1 h2 => apart_o hto (fun k h3 h4 => h.ab k h4 h3) (fun k hk => h.ba.ownLt hk) k h2 h1, fun k hk => ?_, hto.below h.bw (fun k hk => h.low k (.inr hk)), h.qa, hq.trans h.qb, hT⟩
  rcases hk with hk | hk
  · exact h.low k (.inl hk)
  · by_cases hlt : k < W.heap.size
    · exact h.low k (.inr (ht.own k hlt hk))
    · have := h.bw.size; omega
set_option maxRecDepth 100000 in
set_option maxHeartbeats 32000000 in
theorem stackResolves_walk {v1 v3 : Value} {l : List ThingL} {nn : Nat} {es : List EntL} {w : World} (hv : ThingsAt w v1 l) (hw : ∀ x ∈ l, Wf x.owner ∧ Wf x.zone) (hlen : l.length ≤ 9223372036854775807) (hn : nn < 256) (he : EntsAt w v3 es) (hle : es.length ≤ 9223372036854775807) :
    Calls Tryz.prog 5 #[v1, .int .u8 nn, v3] w (RetV w (.bool true)) := by
  obtain ⟨ya, yc, rfl⟩ := he.form
  have HBO := Lib.hid (fun (w' : World) (hb : Below w.heap.size w w') => board_any (hv.later hb) hw hlen nn hn)
  obtain ⟨va, vc, rfl⟩ := hv.form
  have HE := Lib.hid he
  have HAW := Lib.hid (awake12_any w)
  clear hv hw he hn
  by_cases hp : playT l
  case neg =>
    have HNP := Lib.hid hp
    clear hp
    go_enter Tryz.func5, Tryz.ntmps5
    go_wp2_with fail
    refine HAW.out.mono ?_
    rintro e w1 ⟨rfl, hb1⟩
    have HB1 := Lib.hid hb1
    clear hb1 HAW
    go_wp2_with fail
    refine (HBO.out w1 HB1.out).mono ?_
    rintro e w2 hr
    obtain ⟨rfl, hb2⟩ := hr.no HNP.out
    have HB2 := Lib.hid (stepB HB1.out hb2)
    clear hr hb2
    dsimp only
    go_wp2_with fail
    refine (HBO.out w2 HB2.out).mono ?_
    rintro e w3 hr
    obtain ⟨rfl, hb3⟩ := hr.no HNP.out
    have HB3 := Lib.hid (stepB HB2.out hb3)
    clear hr hb3
    dsimp only
    go_wp2
    go_ret
    exact ⟨rfl, HB3.out⟩
  have HPP := Lib.hid hp
  clear hp
  go_enter Tryz.func5, Tryz.ntmps5
  go_wp2_with fail
  refine HAW.out.mono ?_
  rintro e w1 ⟨rfl, hb1⟩
  have HB1 := Lib.hid hb1
  clear hb1 HAW
  go_wp2_with fail
  refine (HBO.out w1 HB1.out).mono ?_
  rintro e w2 hr
  obtain ⟨loa, ga, rfl, hba, hla, hb2⟩ := hr.yes HPP.out
  have HBA := Lib.hid hba
  have HB2 := Lib.hid (stepB HB1.out hb2)
  have HLA := Lib.hid (show ∀ k, ga.own k → w.heap.size ≤ k from fun k hk => Nat.le_trans (Nat.le_trans HB1.out.size hla) (hba.ownLo hk))
  clear hr hba hla hb2
  dsimp only
  go_wp2_with fail
  refine (HBO.out w2 HB2.out).mono ?_
  rintro e w3 hr
  obtain ⟨lob, gb, rfl, hbb, hlb, hb3⟩ := hr.yes HPP.out
  have HBB := Lib.hid hbb
  have HBA3 := Lib.hid (HBA.out.later hb3)
  have HB3 := Lib.hid (stepB HB2.out hb3)
  have HLB := Lib.hid (show ∀ k, gb.own k → w2.heap.size ≤ k from fun k hk => Nat.le_trans hlb (hbb.ownLo hk))
  have HAB := Lib.hid (show ∀ k, ga.own k → ¬gb.own k from fun k h1 h2 => by have h3 := HBA.out.ownLt h1; have h4 := HLB.out k h2; omega)
  have HTT := Lib.hid (show (boardL l nn).S.T = T7 from by
    rcases hr with ⟨_, hm, _⟩ | ⟨h, _⟩
    · exact hm.T
    · exact absurd HPP.out h)
  have hptr := fun W => (by kernel_rfl : (binOp .eql 28 (.pointer (some ⟨ga.q, 0, none⟩)) (.pointer none)).run Tryz.prog W = .ok (.bool false) W)
  clear hr hbb hlb hb3 HBO
  dsimp only
  by_cases h8 : 8 < es.length
  · have d0 : decide ((8 : Int) < es.length) = true := decide_eq_true (by omega)
    clear h8
    go_wp2
    go_ret
    exact ⟨rfl, HB3.out⟩
  have d8 : decide ((8 : Int) < es.length) = false := decide_eq_false (by omega)
  have hl8 : es.length ≤ 8 := by omega
  have hnw := new_stk (HE.out.later HB3.out) (by omega)
  rw [List.take_of_length_le hl8] at hnw
  have HNW := Lib.hid hnw
  clear h8 hnw
  go_wp2_with fail
  refine HNW.out.mono ?_
  rintro e w4 ⟨b, gk, rfl, hs4, hb4⟩
  have HI0 : Hid (ResI w es w3.heap.size loa lob b ga.q gb.q es.length w4 gk ga gb (boardL l nn) (boardL l nn)) := Lib.hid ⟨by rw [List.take_length]; exact hs4, HBA3.out.later hb4, HBB.out.later hb4,
    fun k h1 h2 => by have h3 := HBA3.out.ownLt h1; have h4 := hs4.ownLo h2; omega, fun k h1 h2 => by have h3 := HBB.out.ownLt h1; have h4 := hs4.ownLo h2; omega, HAB.out,
    fun k h => by
      rcases h with (h | h) | h
      · exact HLA.out k h
      · exact Nat.le_trans HB3.out.size (hs4.ownLo h)
      · exact Nat.le_trans HB2.out.size (HLB.out k h), stepB HB3.out hb4, rfl, rfl, HTT.out⟩
  obtain ⟨los, hlos⟩ : ∃ los, w3.heap.size = los := ⟨_, rfl⟩
  rw [hlos] at HI0
  clear hs4 hb4 HNW hlos HBA HBA3 HBB HTT HAB HLA HLB
  dsimp only
  go_wp2_with fail
  go_loopw [10] (fun i wr => ∃ (j : Nat) (z : Int) (gk' : Option Nat) (ga' gb' : GhostB) (B' : BoardL), j ≤ es.length ∧ i = .int .i64 z ∧ Hid (z = (j : Int) - 1) ∧ Hid (ResI w es los loa lob b ga.q gb.q j wr gk' ga' gb' B' B')) (fun i _ => (intOf i + 1).toNat)
  case atStart => exact ⟨es.length, (es.length : Int) - 1, gk, ga, gb, _, Nat.le_refl _, rfl, Lib.hid rfl, HI0⟩
  case round =>
    obtain ⟨j, z, gk', ga', gb', B', hj, rfl, HZ, HI⟩ := hrel
    cases j with
    | zero =>
      obtain rfl : z = -1 := by have := HZ.out; omega
      have hS := HI.out.st
      rw [List.take_zero] at hS
      have HR0 := Lib.hid (resolve_empty (q := ga.q) hS)
      simp only [entV, zeroE] at HR0
      clear hS
      go_wp2_with fail
      refine HR0.out.mono ?_
      rintro e w5 ⟨rfl, hb5⟩
      have hb6 := stepB hb5 (below_new w5 (.cells #[.int .i64 0, .int .i64 0, .int .i64 0, .bool false] 59))
      obtain ⟨W6, hW6⟩ : ∃ W6, w5.alloc (.cells #[.int .i64 0, .int .i64 0, .int .i64 0, .bool false] 59) = W6 := ⟨_, rfl⟩
      rw [hW6] at hb6
      have HW6 := Lib.hid hW6
      have hI6 := HI.out.later hb6
      have hsm := bsame_self hI6.ba hI6.bb
      rw [hI6.qa, hI6.qb] at hsm
      have HSM := Lib.hid hsm
      have HBW := Lib.hid hI6.bw
      clear hb5 hb6 hW6 hI6 hsm
      dsimp only
      go_upto_region 28 with fail
      rw [HW6.out]
      go_wp2_with fail
      refine HSM.out.mono ?_
      rintro e w7 ⟨rfl, hb7⟩
      have HB7 := Lib.hid (stepB HBW.out hb7)
      clear hb7
      go_wp2
      go_ret
      exact ⟨rfl, HB7.out⟩
    | succ i =>
      obtain rfl : z = (i : Int) := by have := HZ.out; omega
      have hie : i < es.length := by omega
      have d0 : decide ((0 : Int) ≤ i) = true := decide_eq_true (by omega)
      have HTK := Lib.hid (take_last es i hie)
      obtain ⟨bb, off, rfl, hbb, s0, s1, s2, s3⟩ := (HE.out.later HI.out.bw).at i hie
      obtain ⟨x, hx⟩ : ∃ x, es[i] = x := ⟨_, rfl⟩
      rw [hx] at HTK s0 s1 s2 s3
      obtain ⟨x0, x1, x2, x3⟩ := x
      dsimp only at s0 s1 s2 s3
      have d1 : (i : Int) < es.length := by omega
      have d2 : (0 : Int) ≤ i := by omega
      have hb10 := below_new wr (.cells #[.int .i64 x0, .int .i64 x1, .int .i64 x2, .bool x3] 59)
      have h11 := heap_alloc_new wr (.cells #[.int .i64 x0, .int .i64 x1, .int .i64 x2, .bool x3] 59)
      have hq11 : ¬((ga'.own wr.heap.size ∨ ownK b gk' wr.heap.size) ∨ gb'.own wr.heap.size) := fun h => by
        rcases h with (h | h) | h
        · have := HI.out.ba.ownLt h; omega
        · have := HI.out.st.ownLt h; omega
        · have := HI.out.bb.ownLt h; omega
      obtain ⟨W10, hW10⟩ : ∃ W10, wr.alloc (.cells #[.int .i64 x0, .int .i64 x1, .int .i64 x2, .bool x3] 59) = W10 := ⟨_, rfl⟩
      obtain ⟨q11, hqq⟩ : ∃ q11, wr.heap.size = q11 := ⟨_, rfl⟩
      rw [hW10] at hb10 h11
      rw [hqq] at h11 hq11
      have HW10 := Lib.hid hW10
      have HQ11 := Lib.hid hqq
      have HR11 := Lib.hid h11
      have HN11 := Lib.hid hq11
      have HI10 := Lib.hid (HI.out.later hb10)
      have hres := resolve_ok ⟨x0, x1, x2, x3⟩ HI10.out.ba (by have h := HI10.out.st; rw [HTK.out] at h; exact h) HI10.out.sa (by rw [List.length_take]; omega)
      rw [HI10.out.qa] at hres
      obtain ⟨R, hR⟩ : ∃ R, workE B' ⟨x0, x1, x2, x3⟩ = R := ⟨_, rfl⟩
      rw [hR] at hres
      have HRQ0 := Lib.hid hR
      obtain ⟨RB, rn⟩ := R
      dsimp only at hres
      have HRS := Lib.hid hres
      clear hx hb10 h11 hq11 hW10 hqq hres hbb hR
      go_upto_region 11 with fail
      rw [HW10.out]
      simp only [HQ11.out]
      clear s0 s1 s2 s3
      go_wp2_with fail
      refine HRS.out.mono ?_
      rintro e w11 ⟨rfl, g5, gk5, hb5, hq5, hs5, ha5, ht5⟩
      simp only [entV]
      have h11 := (ht5.block q11 (Crd.lt_of_row HR11.out) (fun h => HN11.out (.inl h))).trans HR11.out
      have hI11 := HI10.out.res hs5 hb5 (hq5.trans HI10.out.qa) ha5 ht5
      have hb12 := below_new w11 (.cells #[.int .i64 x0, .int .i64 x1, .int .i64 x2, .bool x3] 59)
      have h12 := heap_alloc_new w11 (.cells #[.int .i64 x0, .int .i64 x1, .int .i64 x2, .bool x3] 59)
      have h112 := (hb12.block q11 (Crd.lt_of_row h11)).trans h11
      have hI12 := hI11.later hb12
      obtain ⟨W12, hW12⟩ : ∃ W12, w11.alloc (.cells #[.int .i64 x0, .int .i64 x1, .int .i64 x2, .bool x3] 59) = W12 := ⟨_, rfl⟩
      obtain ⟨q12, hq12⟩ : ∃ q12, w11.heap.size = q12 := ⟨_, rfl⟩
      rw [hW12] at h12 h112 hI12
      rw [hq12] at h12
      have HW12 := Lib.hid hW12
      have HQ12 := Lib.hid hq12
      have HI12 := Lib.hid hI12
      have HR12 := Lib.hid h112
      have m0 := cell_of_row W12 q11 0 _ _ _ h112
      have m1 := cell_of_row W12 q11 1 _ _ _ h112
      have m2 := cell_of_row W12 q11 2 _ _ _ h112
      have m3 := cell_of_row W12 q11 3 _ _ _ h112
      have r0 := cell_of_row W12 q12 0 _ _ _ h12
      have r1 := cell_of_row W12 q12 1 _ _ _ h12
      have r2 := cell_of_row W12 q12 2 _ _ _ h12
      have r3 := cell_of_row W12 q12 3 _ _ _ h12
      have hln := len_stk hI12.st
      rw [show (es.take i).length = i by rw [List.length_take]; omega] at hln
      have HLN := Lib.hid hln
      have hE : (x0 == x0 && (x1 == x1 && (x2 == x2 && x3 == x3))) = true := by simp
      have h3 := fun W => neqEnt x0 x0 x1 x1 x2 x2 x3 x3 W
      rw [hE] at h3
      have h2 := @neqgE
      clear hb5 hq5 hs5 ha5 ht5 h11 hI11 hb12 h12 h112 hI12 hW12 hq12 hln hE HRS HI10 HI
      go_upto_region 12 with fail
      rw [HW12.out]
      simp only [HQ12.out]
      go_wp2_with fail
      refine HLN.out.mono ?_
      rintro e w13 ⟨rfl, rfl⟩
      clear m0 m2 m3 r0 r1 r2 r3 h3 h2 HLN
      obtain ⟨o, ho⟩ : ∃ o, objI B'.S x1 = o := ⟨_, rfl⟩
      obtain ⟨er, her⟩ : ∃ er, errI B'.S x1 = er := ⟨_, rfl⟩
      have HER := Lib.hid her
      have HOO := Lib.hid ho
      have HGE := Lib.hid (fun (w' : World) (hb : Below w13.heap.size w13 w') => show Calls Tryz.prog 13 #[.pointer (some ⟨gb'.b, 0, none⟩), .int .i64 x1] w' (RetGet w' o er) from by have := getI_any (HI12.out.bb.later hb) x1; rw [ho, her] at this; exact this)
      obtain ⟨y0, y1, y2, y3, y4, y5, y6, y7, y8, y9, y10⟩ := o
      unfold RetGet oagg at HGE
      dsimp only at HGE
      obtain ⟨cw, -⟩ := HI12.out.bb.cells
      rw [HI12.out.qb] at cw
      have hgl : gb.q < w13.heap.size := by rw [← HI12.out.qb]; exact HI12.out.bb.lt
      have hql : q11 < w13.heap.size := Crd.lt_of_row HR12.out
      have mk : (w13.alloc (.cells #[.int .i64 0, .int .i64 0, .int .i64 0, .int .i64 0, .bool false, .bool false, .int .i64 0, .int .i64 0, .int .i64 0, .int .i64 0, .bool false] 35)).cell? ⟨q11, 1, none⟩ = some (.int .i64 x1) := by rw [(below_new w13 _).cell (p := ⟨q11, 1, none⟩) hql]; exact m1
      have mw : (w13.alloc (.cells #[.int .i64 0, .int .i64 0, .int .i64 0, .int .i64 0, .bool false, .bool false, .int .i64 0, .int .i64 0, .int .i64 0, .int .i64 0, .bool false] 35)).cell? ⟨gb.q, 0, none⟩ = some (.pointer (some ⟨gb'.b, 0, none⟩)) := by rw [(below_new w13 _).cell (p := ⟨gb.q, 0, none⟩) hgl]; exact cw
      clear ho her
      go_upto_region 15 with fail
      go_cut [16, 17] from 70 to 79 (fun s16 s17 wx => ∃ q16, s16 = .pointer (some ⟨q16, 0, none⟩) ∧ s17 = .int .i64 er ∧ Hid (wx.heap[q16]? = some (.cells #[.int .i64 y0, .int .i64 y1, .int .i64 y2, .int .i64 y3, .bool y4, .bool y5, .int .i64 y6, .int .i64 y7, .int .i64 y8, .int .i64 y9, .bool y10] 35 (0, 0))) ∧ Hid (Below w13.heap.size w13 wx))
      case first =>
          (go_region_with ((go_at_call 13; first
              | (refine (HGE.out _ (Below.refl _ _).drew).mono ?_
                 rintro e w5 ⟨rfl, hb5⟩
                 have HB5 := Lib.hid (stepB (Below.refl w13.heap.size w13).drew hb5)
                 clear hb5
                 dsimp only)
              | (refine (HGE.out _ (below_alloc2 (Below.refl _ _).drew _)).mono ?_
                 rintro e w5 ⟨rfl, hb5⟩
                 have hrw : w5.heap[w13.heap.size]? = some (.cells #[.int .i64 0, .int .i64 0, .int .i64 0, .int .i64 0, .bool false, .bool false, .int .i64 0, .int .i64 0, .int .i64 0, .int .i64 0, .bool false] 35 (0, 0)) := (hb5.block w13.heap.size (by simp)).trans (heap_alloc_new _ _)
                 have hC := fun k => hb5.cell (p := ⟨w13.heap.size, k, none⟩) (by simp)
                 have hF := fun k => hb5.frozen (p := ⟨w13.heap.size, k, none⟩) (by simp)
                 have c0 : w5.cell? ⟨w13.heap.size, 0, none⟩ = some (.int .i64 0) := by rw [hC]; simp [go_sem]
                 have c1 : w5.cell? ⟨w13.heap.size, 1, none⟩ = some (.int .i64 0) := by rw [hC]; simp [go_sem]
                 have c2 : w5.cell? ⟨w13.heap.size, 2, none⟩ = some (.int .i64 0) := by rw [hC]; simp [go_sem]
                 have c3 : w5.cell? ⟨w13.heap.size, 3, none⟩ = some (.int .i64 0) := by rw [hC]; simp [go_sem]
                 have c4 : w5.cell? ⟨w13.heap.size, 4, none⟩ = some (.bool false) := by rw [hC]; simp [go_sem]
                 have c5 : w5.cell? ⟨w13.heap.size, 5, none⟩ = some (.bool false) := by rw [hC]; simp [go_sem]
                 have c6 : w5.cell? ⟨w13.heap.size, 6, none⟩ = some (.int .i64 0) := by rw [hC]; simp [go_sem]
                 have c7 : w5.cell? ⟨w13.heap.size, 7, none⟩ = some (.int .i64 0) := by rw [hC]; simp [go_sem]
                 have c8 : w5.cell? ⟨w13.heap.size, 8, none⟩ = some (.int .i64 0) := by rw [hC]; simp [go_sem]
                 have c9 : w5.cell? ⟨w13.heap.size, 9, none⟩ = some (.int .i64 0) := by rw [hC]; simp [go_sem]
                 have c10 : w5.cell? ⟨w13.heap.size, 10, none⟩ = some (.bool false) := by rw [hC]; simp [go_sem]
                 have f0 : w5.frozen? ⟨w13.heap.size, 0, none⟩ = false := by rw [hF]; simp [go_sem]
                 have f1 : w5.frozen? ⟨w13.heap.size, 1, none⟩ = false := by rw [hF]; simp [go_sem]
                 have f2 : w5.frozen? ⟨w13.heap.size, 2, none⟩ = false := by rw [hF]; simp [go_sem]
                 have f3 : w5.frozen? ⟨w13.heap.size, 3, none⟩ = false := by rw [hF]; simp [go_sem]
                 have f4 : w5.frozen? ⟨w13.heap.size, 4, none⟩ = false := by rw [hF]; simp [go_sem]
                 have f5 : w5.frozen? ⟨w13.heap.size, 5, none⟩ = false := by rw [hF]; simp [go_sem]
                 have f6 : w5.frozen? ⟨w13.heap.size, 6, none⟩ = false := by rw [hF]; simp [go_sem]
                 have f7 : w5.frozen? ⟨w13.heap.size, 7, none⟩ = false := by rw [hF]; simp [go_sem]
                 have f8 : w5.frozen? ⟨w13.heap.size, 8, none⟩ = false := by rw [hF]; simp [go_sem]
                 have f9 : w5.frozen? ⟨w13.heap.size, 9, none⟩ = false := by rw [hF]; simp [go_sem]
                 have f10 : w5.frozen? ⟨w13.heap.size, 10, none⟩ = false := by rw [hF]; simp [go_sem]
                 have HB5 := Lib.hid (stepB (below_alloc2 (Below.refl w13.heap.size w13).drew _) hb5)
                 clear hC hF hb5
                 dsimp only)))) <;> (
            go_wp2
            go_meet
            case rel => first
              | (have hmine := c1; exact ⟨w13.heap.size, rfl, rfl, Lib.hid (set11row _ _ _ _ _ _ _ _ _ _ _ hrw rfl), Lib.hid (((((((((((HB5.out.setCell (Nat.le_refl _) _).setCell (Nat.le_refl _) _).setCell (Nat.le_refl _) _).setCell (Nat.le_refl _) _).setCell (Nat.le_refl _) _).setCell (Nat.le_refl _) _).setCell (Nat.le_refl _) _).setCell (Nat.le_refl _) _).setCell (Nat.le_refl _) _).setCell (Nat.le_refl _) _).setCell (Nat.le_refl _) _)⟩)
              | exact ⟨_, rfl, rfl, Lib.hid (heap_alloc_new _ _), Lib.hid (below_alloc2 HB5.out _)⟩)
      case rest =>
      obtain ⟨q16, rfl, rfl, HR16, HB15⟩ := hcut
      obtain ⟨w15, rfl⟩ : ∃ w15, w15 = wc := ⟨_, rfl⟩
      have HI15 := Lib.hid (HI12.out.later HB15.out)
      have HR15 := Lib.hid ((HB15.out.block q11 (Crd.lt_of_row HR12.out)).trans HR12.out)
      clear cw hgl hql mk mw m1 HGE HI12 HR12
      have hTRB : RB.S.T = T7 := by
        have h := (keeps_entry B' ⟨x0, x1, x2, x3⟩).T
        rw [HRQ0.out, HI15.out.T] at h
        exact h
      have HTRB := Lib.hid hTRB
      clear hTRB
      go_upto_if 81 with fail
      go_cut [15, 18] from 82 to 127 (fun s15 _ wx => s15 = .int .i64 (rn : Int) ∧ ∃ gb2, Hid (BoardAt wx lob gb2 RB) ∧ Hid (TurnedB w15 wx gb' gb2) ∧ Hid (gb2.q = gb'.q))
      case first =>
        by_cases he7 : er = 7
        · have e := work_none (B := B') (x := ⟨x0, x1, x2, x3⟩) (HER.out.trans he7)
          rw [HRQ0.out] at e
          injection e with e1 e2
          subst e1 e2 he7
          go_wp2
          go_meet
          case rel => exact ⟨rfl, gb', Lib.hid HI15.out.bb, Lib.hid (TurnedB.of_below (Below.refl _ _)), Lib.hid rfl⟩
        · have he0 : er = 0 := by
            have h := errI_cases B'.S x1
            rw [HER.out] at h
            exact h.resolve_right he7
          subst he0
          obtain ⟨c, hc, hcard, hcd⟩ := obj_there HI15.out.bb HI15.out.T HER.out
          rw [HOO.out] at hcard
          obtain rfl : y1 = (c : Int) := hcard
          obtain ⟨cd, hcd'⟩ : ∃ cd, T7[c] = cd := ⟨_, rfl⟩
          have HKL := Lib.hid (kind_leq c hc)
          have hwe := HRQ0.out
          unfold workE at hwe
          dsimp only at hwe
          rw [hcd, HOO.out] at hwe
          rw [hcd'] at hwe HKL
          have HCD := Lib.hid hcd'
          have hcd := hcd'
          obtain ⟨k0, k1, k2, k3, k4, k5, ts⟩ := cd
          dsimp only at hwe HKL
          have HWE := Lib.hid hwe
          have HTL := Lib.hid (show ts.length ≤ 30 from by
            have h := may_terms T7_ok c hc
            rw [hcd] at h
            exact h)
          have HKO := Lib.hid (keeps_all B' x0 x2 ts)
          have hc4 : (c : Int) < 4 := by have : T7.length = 4 := rfl; omega
          have hc0 : (0 : Int) ≤ c := by omega
          have HTB := Lib.hid (fun (w' : World) (_ : Below w15.heap.size w15 w') => table_fresh w')
          have p1 := cell_of_row w15 q16 1 _ _ _ HR16.out
          have p1a := cell_stays (below_new w15 (.cells #[.int .i64 0, .int .i64 0, .int .i64 0, .int .i64 0, .int .i64 0, .int .i64 0, .slice none 0 0] 45)) p1
          clear he7 hcd' hwe
          go_upto_region 17 with fail
          go_cut [18] from 82 to 86 (fun s18 wx => ∃ (q18 n0 : Nat) (ya' : Option Addr) (yc' : Nat), s18 = .pointer (some ⟨q18, 0, none⟩) ∧ Hid (wx.heap[q18]? = some (.cells #[.int .i64 k0, .int .i64 k1, .int .i64 k2, .int .i64 k3, .int .i64 k4, .int .i64 k5, .slice ya' ts.length yc'] 45 (0, 0))) ∧ Hid (tvT n0 c = .slice ya' ts.length yc') ∧ Hid (wx.heap[n0]? = some (.cells #[.int .i64 1, .int .i64 2, .int .i64 1] 24 (0, 0))) ∧ Hid (w15.heap.size ≤ n0) ∧ Hid (Below w15.heap.size w15 wx))
          case first =>
              (go_region_with ((go_at_call 14; first
                  | (refine (HTB.out _ (Below.refl _ _).drew).mono ?_
                     rintro e w5 ⟨n0, hn0, rfl, hlt0, hr0, hr1, hb5⟩
                     have HB5 := Lib.hid (stepB (Below.refl w15.heap.size w15).drew hb5)
                     have HN0 := Lib.hid hn0
                     have HR0 := Lib.hid hr0
                     obtain ⟨t0, t1, t2, t3, t4, t5, t6⟩ := table_cells hr1 c hc
                     obtain ⟨ya', yc', hy⟩ := tv_form n0 c hc
                     rw [hcd] at t0 t1 t2 t3 t4 t5 hy
                     dsimp only at t0 t1 t2 t3 t4 t5 hy
                     rw [hy] at t6
                     have HY := Lib.hid hy
                     have HBA := below_new w5 (.cells #[.int .i64 0, .int .i64 0, .int .i64 0, .int .i64 0, .int .i64 0, .int .i64 0, .slice none 0 0] 45)
                     have u0 := cell_stays HBA t0
                     have u1 := cell_stays HBA t1
                     have u2 := cell_stays HBA t2
                     have u3 := cell_stays HBA t3
                     have u4 := cell_stays HBA t4
                     have u5 := cell_stays HBA t5
                     have u6 := cell_stays HBA t6
                     have p1' := cell_stays (HB5.out) p1
                     have p1'' := cell_stays HBA p1'
                     clear hn0 hr0 hr1 hlt0 hy HBA
                     clear hb5
                     dsimp only)
                  | (refine (HTB.out _ (below_alloc2 (Below.refl _ _).drew _)).mono ?_
                     rintro e w5 ⟨n0, hn0, rfl, hlt0, hr0, hr1, hb5⟩
                     have hrw : w5.heap[w15.heap.size]? = some (.cells #[.int .i64 0, .int .i64 0, .int .i64 0, .int .i64 0, .int .i64 0, .int .i64 0, .slice none 0 0] 45 (0, 0)) := (hb5.block w15.heap.size (by simp)).trans (heap_alloc_new _ _)
                     have hC := fun k => hb5.cell (p := ⟨w15.heap.size, k, none⟩) (by simp)
                     have hF := fun k => hb5.frozen (p := ⟨w15.heap.size, k, none⟩) (by simp)
                     have c0 : w5.cell? ⟨w15.heap.size, 0, none⟩ = some (.int .i64 0) := by rw [hC]; simp [go_sem]
                     have c1 : w5.cell? ⟨w15.heap.size, 1, none⟩ = some (.int .i64 0) := by rw [hC]; simp [go_sem]
                     have c2 : w5.cell? ⟨w15.heap.size, 2, none⟩ = some (.int .i64 0) := by rw [hC]; simp [go_sem]
                     have c3 : w5.cell? ⟨w15.heap.size, 3, none⟩ = some (.int .i64 0) := by rw [hC]; simp [go_sem]
                     have c4 : w5.cell? ⟨w15.heap.size, 4, none⟩ = some (.int .i64 0) := by rw [hC]; simp [go_sem]
                     have c5 : w5.cell? ⟨w15.heap.size, 5, none⟩ = some (.int .i64 0) := by rw [hC]; simp [go_sem]
                     have c6 : w5.cell? ⟨w15.heap.size, 6, none⟩ = some (.slice none 0 0) := by rw [hC]; simp [go_sem]
                     have f0 : w5.frozen? ⟨w15.heap.size, 0, none⟩ = false := by rw [hF]; simp [go_sem]
                     have f1 : w5.frozen? ⟨w15.heap.size, 1, none⟩ = false := by rw [hF]; simp [go_sem]
                     have f2 : w5.frozen? ⟨w15.heap.size, 2, none⟩ = false := by rw [hF]; simp [go_sem]
                     have f3 : w5.frozen? ⟨w15.heap.size, 3, none⟩ = false := by rw [hF]; simp [go_sem]
                     have f4 : w5.frozen? ⟨w15.heap.size, 4, none⟩ = false := by rw [hF]; simp [go_sem]
                     have f5 : w5.frozen? ⟨w15.heap.size, 5, none⟩ = false := by rw [hF]; simp [go_sem]
                     have f6 : w5.frozen? ⟨w15.heap.size, 6, none⟩ = false := by rw [hF]; simp [go_sem]
                     have HB5 := Lib.hid (stepB (below_alloc2 (Below.refl w15.heap.size w15).drew _) hb5)
                     have HN0 := Lib.hid hn0
                     have HR0 := Lib.hid hr0
                     obtain ⟨t0, t1, t2, t3, t4, t5, t6⟩ := table_cells hr1 c hc
                     obtain ⟨ya', yc', hy⟩ := tv_form n0 c hc
                     rw [hcd] at t0 t1 t2 t3 t4 t5 hy
                     dsimp only at t0 t1 t2 t3 t4 t5 hy
                     rw [hy] at t6
                     have HY := Lib.hid hy
                     have HBA := below_new w5 (.cells #[.int .i64 0, .int .i64 0, .int .i64 0, .int .i64 0, .int .i64 0, .int .i64 0, .slice none 0 0] 45)
                     have u0 := cell_stays HBA t0
                     have u1 := cell_stays HBA t1
                     have u2 := cell_stays HBA t2
                     have u3 := cell_stays HBA t3
                     have u4 := cell_stays HBA t4
                     have u5 := cell_stays HBA t5
                     have u6 := cell_stays HBA t6
                     have p1' := cell_stays (HB5.out) p1
                     have p1'' := cell_stays HBA p1'
                     clear hn0 hr0 hr1 hlt0 hy HBA
                     clear hC hF hb5
                     dsimp only)))) <;> (
                go_wp2
                go_meet
                case rel => first
                  | (have hmine := c1; exact ⟨w15.heap.size, n0, ya', yc', rfl, Lib.hid (set7row _ _ _ _ _ _ _ hrw rfl), HY, Lib.hid ((below_sets7 n0 (by have := HN0.out; simp at this; omega)).trans HR0.out), Lib.hid (by have := HN0.out; simp at this; omega), Lib.hid (((((((HB5.out.setCell (Nat.le_refl _) _).setCell (Nat.le_refl _) _).setCell (Nat.le_refl _) _).setCell (Nat.le_refl _) _).setCell (Nat.le_refl _) _).setCell (Nat.le_refl _) _).setCell (Nat.le_refl _) _)⟩)
                  | exact ⟨_, n0, ya', yc', rfl, Lib.hid (heap_alloc_new _ _), HY, Lib.hid (((below_new w5 _).block n0 (Crd.lt_of_row HR0.out)).trans HR0.out), Lib.hid HN0.out, Lib.hid (below_alloc2 HB5.out _)⟩)
          case rest =>
          obtain ⟨q18, n0, ya', yc', rfl, HR18, HTV, HN0, HLE0, HB17⟩ := hcut
          obtain ⟨w17, rfl⟩ : ∃ w17, w17 = wc := ⟨_, rfl⟩
          clear p1 p1a HTB
          have HBB17 := Lib.hid (HI15.out.bb.later HB17.out)
          have HOB := Lib.hid (show ∀ k, gb'.own k → k < w15.heap.size from fun k hk => HI15.out.bb.ownLt hk)
          have HU := Lib.hid (fun (W : World) (hb : Below w17.heap.size w17 W) => show ∀ w' g', TurnedB W w' gb' g' → Crd.TermsIs w' (.slice ya' ts.length yc') ts from fun w' g' ht => by
            have h := tv_terms (W := w') (n0 := n0) ((ht.block n0 (Nat.lt_of_lt_of_le (Crd.lt_of_row HN0.out) hb.size) (fun ho => by have h1 := HOB.out n0 ho; have h2 := HLE0.out; omega)).trans ((hb.block n0 (Crd.lt_of_row HN0.out)).trans HN0.out)) c hc
            rw [HTV.out, HCD.out] at h
            exact h)
          have hrow11 := (HB17.out.block q11 (Crd.lt_of_row HR15.out)).trans HR15.out
          have hrow16 := (HB17.out.block q16 (Crd.lt_of_row HR16.out)).trans HR16.out
          have HR17 := Lib.hid hrow11
          have e0 := cell_of_row w17 q11 0 _ _ _ hrow11
          have e1 := cell_of_row w17 q11 1 _ _ _ hrow11
          have e2 := cell_of_row w17 q11 2 _ _ _ hrow11
          have e3 := cell_of_row w17 q11 3 _ _ _ hrow11
          have z3 := cell_of_row w17 q16 3 _ _ _ hrow16
          have d0' := cell_of_row w17 q18 0 _ _ _ HR18.out
          have d6 := cell_of_row w17 q18 6 _ _ _ HR18.out
          obtain ⟨cw, -⟩ := HBB17.out.cells
          rw [HI15.out.qb] at cw
          have hA := fun (W : World) (hb : Below w17.heap.size w17 W) => all11_any (HBB17.out.later hb) (HU.out W hb) (by have := HTL.out; omega) ⟨ya', yc', rfl⟩ x0 x2
          rw [HI15.out.qb] at hA
          obtain ⟨R2, hR2⟩ : ∃ R2, runAll B' x0 x2 ts = R2 := ⟨_, rfl⟩
          rw [hR2] at hA HWE HKO
          obtain ⟨RA, ra⟩ := R2
          dsimp only at hA HWE HKO
          have HA := Lib.hid hA
          clear hA hR2 hrow11 hrow16
          cases x3 with
          | true =>
            have hw2 : (RA, ra) = (RB, rn) := by have h := HWE.out; rwa [if_pos rfl] at h
            injection hw2 with h1 h2
            subst h1 h2
            go_wp2_with fail
            refine (HA.out _ (Below.refl _ _)).mono ?_
            rintro e w18 ⟨rfl, g18, hb18, ht18, hq18⟩
            have HF : Hid (∃ gb2, Hid (BoardAt w18 lob gb2 RA) ∧ Hid (TurnedB w15 w18 gb' gb2) ∧ Hid (gb2.q = gb'.q)) := Lib.hid ⟨g18, Lib.hid hb18, Lib.hid ((TurnedB.of_below HB17.out).trans ht18), Lib.hid hq18⟩
            clear hb18 ht18 hq18
            go_wp2
            go_meet
            case rel => exact ⟨rfl, HF.out⟩
          | false =>
            by_cases hz : y3 = 4
            case neg =>
              have hw2 : (B', 0) = (RB, rn) := by have h := HWE.out; rwa [if_neg (by decide), if_neg hz] at h
              injection hw2 with h1 h2
              subst h1 h2
              have e4 : (y3 != 4) = true := bne_iff_ne.2 hz
              have HF : Hid (∃ gb2, Hid (BoardAt w17 lob gb2 B') ∧ Hid (TurnedB w15 w17 gb' gb2) ∧ Hid (gb2.q = gb'.q)) := Lib.hid ⟨gb', HBB17, Lib.hid (TurnedB.of_below HB17.out), Lib.hid rfl⟩
              clear hz
              go_wp2
              go_meet
              case rel => exact ⟨rfl, HF.out⟩
            subst hz
            have HHS := Lib.hid (objI_has (show (objI B'.S x1).zone = 4 by rw [HOO.out]))
            obtain ⟨kb, hkb⟩ : ∃ kb, decide (k0 ≤ 2) = kb := ⟨_, rfl⟩
            have hkl := HKL.out
            rw [hkb] at hkl
            have HKB := Lib.hid hkl
            clear hkl
            cases kb with
            | true =>
              have hw2 : ((⟨moveI B'.S x1 3, B'.T, B'.D⟩ : BoardL), 0) = (RB, rn) := by have h := HWE.out; rwa [if_neg (by decide), if_pos rfl, if_pos (of_decide_eq_true HKB.out.symm)] at h
              injection hw2 with h1 h2
              subst h1 h2
              have hmv := move_bd (HBB17.out.later ((Below.refl w17.heap.size w17).drew)) x1 HHS.out 3 (by decide) (by decide)
              have HC := Lib.hid hmv
              have HTU := Lib.hid (show TurnedB w15 w17.drew gb' gb' from TurnedB.of_below (HB17.out.drew))
              clear hmv
              go_upto_region 24 with fail
              go_still_tail 6, (by kernel_rfl)
              change wpList _ _ _ _ _ (World.drew _)
              go_wp2_with fail
              refine HC.out.mono ?_
              rintro e w18 ⟨rfl, g18, hb18, ht18, hq18⟩
              have HF : Hid (∃ gb2, Hid (BoardAt w18 lob gb2 ⟨moveI B'.S x1 3, B'.T, B'.D⟩) ∧ Hid (TurnedB w15 w18 gb' gb2) ∧ Hid (gb2.q = gb'.q)) := Lib.hid ⟨g18, Lib.hid hb18, Lib.hid (HTU.out.trans ht18), Lib.hid hq18⟩
              clear hb18 ht18 hq18
              go_wp2
              go_meet
              case rel => exact ⟨rfl, HF.out⟩
            | false =>
              have hw2 : ((⟨moveI RA.S x1 5, RA.T, RA.D⟩ : BoardL), ra) = (RB, rn) := by have h := HWE.out; rwa [if_neg (by decide), if_pos rfl, if_neg (of_decide_eq_false HKB.out.symm)] at h
              injection hw2 with h1 h2
              subst h1 h2
              go_wp2_with fail
              refine (HA.out _ (Below.refl _ _)).mono ?_
              rintro e w18 ⟨rfl, g18, hb18, ht18, hq18⟩
              have hr18 := (ht18.block q11 (Crd.lt_of_row HR17.out) (fun ho => by have h1 := HOB.out q11 ho; exact absurd ho (fun ho => HN11.out (.inr ho)))).trans HR17.out
              have e1 := cell_of_row w18 q11 1 _ _ _ hr18
              obtain ⟨cw, -⟩ := hb18.cells
              rw [hq18, HI15.out.qb] at cw
              have HC := Lib.hid (move_bd (hb18.later ((Below.refl w18.heap.size w18).drew)) x1 (HKO.out.has HHS.out) 5 (by decide) (by decide))
              have HTU := Lib.hid (show TurnedB w15 w18.drew gb' g18 from ((TurnedB.of_below HB17.out).trans ht18).trans (TurnedB.of_below ((Below.refl w18.heap.size w18).drew)))
              have HQ18 := Lib.hid hq18
              clear hb18 ht18 hq18 hr18 e0 e2 e3 d0' d6 z3
              go_upto_region 19 with fail
              go_still_tail 6, (by kernel_rfl)
              change wpList _ _ _ _ _ (World.drew _)
              go_wp2_with fail
              refine HC.out.mono ?_
              rintro e w19 ⟨rfl, g19, hb19, ht19, hq19⟩
              have HF : Hid (∃ gb2, Hid (BoardAt w19 lob gb2 ⟨moveI RA.S x1 5, RA.T, RA.D⟩) ∧ Hid (TurnedB w15 w19 gb' gb2) ∧ Hid (gb2.q = gb'.q)) := Lib.hid ⟨g19, Lib.hid hb19, Lib.hid (HTU.out.trans ht19), Lib.hid (hq19.trans HQ18.out)⟩
              clear hb19 ht19 hq19
              go_wp2
              go_meet
              case rel => exact ⟨rfl, HF.out⟩
      case rest =>
      obtain ⟨rfl, gb2, HB2x, HT2x, HQ2x⟩ := hcut
      obtain ⟨w18, rfl⟩ : ∃ w18, w18 = wc := ⟨_, rfl⟩
      have hI18 := HI15.out.turn HB2x.out HT2x.out HQ2x.out HTRB.out
      have hsm := bsame_self hI18.ba hI18.bb
      rw [hI18.qa, hI18.qb] at hsm
      have HSM := Lib.hid hsm
      have HI18 := Lib.hid hI18
      have hnn : ((rn : Int) != (rn : Int)) = false := bne_self_eq_false _
      clear hI18 hsm
      go_wp2_with fail
      refine HSM.out.mono ?_
      rintro e w19 ⟨rfl, hb19⟩
      have HI19 := Lib.hid (HI18.out.later hb19)
      clear hb19 hnn
      go_wp2
      go_roundw
      case rel => exact ⟨i, (i : Int) - 1, gk5, g5, gb2, RB, by omega, by go_num, Lib.hid rfl, HI19⟩
      case measure => simp [intOf]
end Go.Proofs.YtgjojjhppgjkkaaGreat

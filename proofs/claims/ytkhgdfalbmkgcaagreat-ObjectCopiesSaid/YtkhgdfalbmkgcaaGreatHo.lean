/- The document's example of layer 6 (awake). -/
import Derived.Test.YtkhgdfalbmkgcaaGreatHn
namespace Go.Proofs.YtkhgdfalbmkgcaaGreat
open Go.RowKit Go.Maps

def exC : Crd.CardL := ⟨2, 0, 0, 1, 0, 0, []⟩
def exS0 : StoreL := ⟨[exC], 1, [], fun _ _ => []⟩
def exS1 : StoreL := addL exS0 0 0 2
theorem exW0 : WfS exS0 := WfS.none _ _
theorem exW1 : WfS exS1 := exW0.add (by decide) (by decide) (by decide) (by decide)
theorem cards_one {w : World} (c : Crd.CardL) (hc : c.terms = []) : Crd.CardsAt (w.alloc (.cells (ccs c (.slice none 0 0)) 42)) (.slice (some ⟨w.heap.size, 0, none⟩) 1 1) [c] := by
  refine .inr ⟨w.heap.size, 0, 1, rfl, by simp, fun i hi => ?_⟩
  have hi0 : i = 0 := by simp at hi; omega
  subst hi0
  have h := box_card w c (.slice none 0 0)
  refine ⟨none, 0, h 0, h 1, h 2, h 3, h 4, h 5, ?_, .inl ⟨none, 0, ?_, hc⟩⟩
  · show _ = some (Value.slice none c.terms.length 0)
    rw [hc]; exact h 6
  · show Value.slice none c.terms.length 0 = _
    rw [hc]; rfl
def exO (h : Bool) (z hurt : Int) : ObjL := ⟨1, 0, 0, z, false, h, hurt, 0, 0, 0, false⟩
theorem ex_sick : sickB exC 3 = true := by decide
theorem ex_well : sickB exC 2 = false := by decide
theorem ex_fresh3 : freshO [exC] 1 0 0 3 = exO true 3 0 := by
  unfold freshO exO
  rw [show ([exC][(0 : Int).toNat]?.map fun c => sickB c 3).getD false = sickB exC 3 from rfl, ex_sick]
theorem ex_fresh2 : freshO [exC] 1 0 0 2 = exO false 2 0 := by
  unfold freshO exO
  rw [show ([exC][(0 : Int).toNat]?.map fun c => sickB c 2).getD false = sickB exC 2 from rfl, ex_well]
/-- A store of the example's one object. -/
structure ExS (S : StoreL) (o : ObjL) : Prop where
  T : S.T = [exC]
  seats : S.seats = 1
  objs : S.objs = [o]
  wf : WfS S
theorem ex1 : ExS exS1 (exO false 2 0) := ⟨rfl, rfl, by
  show [freshO [exC] 1 0 0 2] = _
  rw [ex_fresh2], exW1⟩
theorem ExS.move {S : StoreL} {o : ObjL} (h : ExS S o) (hid : o.card = 0) (how : o.owner = 0) (z : Nat) (h1 : 1 ≤ z) (h7 : z ≤ 7) (o' : ObjL) (hf : freshO [exC] 1 0 0 z = o') :
    ∃ (hk : 0 < S.objs.length), S.objs[0] = o ∧ ExS (moveL S 0 S.objs[0] z false) o' := by
  have hl : 0 < S.objs.length := by rw [h.objs]; simp
  have h0 : S.objs[0] = o := by simp [h.objs]
  refine ⟨hl, h0, h.T, h.seats, ?_, h.wf.move hl h1 h7 false⟩
  show S.objs.set 0 (freshO S.T (((0 : Nat) : Int) + 1) S.objs[0].card S.objs[0].owner z) = [o']
  rw [h0, hid, how, h.T, h.objs]
  show [freshO [exC] 1 0 0 z] = [o']
  rw [hf]
/-- The example's object is moved. -/
theorem ex_move {w : World} {lo b : Nat} {G : Ghost} {S : StoreL} {o : ObjL} (h : StoreAt w lo b G S) (hs : ExS S o) (hid : o.card = 0) (how : o.owner = 0) (z : Nat) (h1 : 1 ≤ z) (h7 : z ≤ 7) (o' : ObjL) (hf : freshO [exC] 1 0 0 z = o') :
    Calls Tryz.prog 10 #[.pointer (some ⟨b, 0, none⟩), .int .i64 1, .int .i64 z, .bool false] w
      (fun e w' => e = .returned (.int .i64 0) ∧ ∃ G' S', StoreAt w' lo b G' S' ∧ ExS S' o' ∧ Turned w w' G G') := by
  obtain ⟨hk, h0, he⟩ := hs.move hid how z h1 h7 o' hf
  refine (move_ok h hs.wf (by rw [hs.objs]; simp) 0 z hk h1 h7 false).mono ?_
  rintro e w' ⟨rfl, G', h1, h2⟩
  exact ⟨rfl, G', _, h1, he, h2⟩
theorem ex_get {w : World} {lo b : Nat} {G : Ghost} {S : StoreL} {o : ObjL} (h : StoreAt w lo b G S) (hs : ExS S o) : Calls Tryz.prog 9 #[.pointer (some ⟨b, 0, none⟩), .int .i64 1] w (RetGet w o 0) := by
  have hk : 0 < S.objs.length := by rw [hs.objs]; simp
  have h0 : S.objs[0] = o := by simp [hs.objs]
  have := get_in h (by rw [hs.objs]; simp) 0 hk
  rw [h0] at this
  exact this
theorem ex_set {w : World} {lo b : Nat} {G : Ghost} {S : StoreL} {o x : ObjL} (h : StoreAt w lo b G S) (hs : ExS S o) (h0 : x.id = 1) (h1 : x.card = o.card) (h2 : x.owner = o.owner) (h3 : x.zone = o.zone) :
    Calls Tryz.prog 11 #[.pointer (some ⟨b, 0, none⟩), oagg x] w (fun e w' => e = .returned (.int .i64 0) ∧ ∃ G' S', StoreAt w' lo b G' S' ∧ ExS S' x ∧ Turned w w' G G') := by
  have hk : 0 < S.objs.length := by rw [hs.objs]; simp
  have he : S.objs[0] = o := by simp [hs.objs]
  have e1 : x.card = S.objs[0].card := by rw [he]; exact h1
  have e2 : x.owner = S.objs[0].owner := by rw [he]; exact h2
  have e3 : x.zone = S.objs[0].zone := by rw [he]; exact h3
  refine (set_any h (by rw [hs.objs]; simp) 0 hk x (by rw [h0]; rfl) e1 e2 e3).mono ?_
  rintro e w' ⟨rfl, G', h4, h5⟩
  refine ⟨rfl, G', _, h4, ⟨hs.T, hs.seats, ?_, hs.wf.set hk (by rw [h0]; rfl) e1 e2 e3⟩, h5⟩
  show S.objs.set 0 x = [x]
  rw [hs.objs]; rfl
set_option maxRecDepth 100000 in
set_option maxHeartbeats 8000000 in
theorem awake6_any (w : World) : Calls Tryz.prog 4 #[] w (RetV w (.bool true)) := by
  have HNW := Lib.hid (newS_ok (cards_one (w := w) exC rfl) (by decide) 1 (by decide) (by decide))
  unfold ccs exC at HNW
  dsimp only at HNW
  go_enter Tryz.func4, Tryz.ntmps4
  go_wp2_with fail
  refine HNW.out.mono ?_
  rintro e w1 ⟨b, G, rfl, hst, hb1⟩
  have hlo : (w.alloc (.cells #[.int .i64 2, .int .i64 0, .int .i64 0, .int .i64 1, .int .i64 0, .int .i64 0, .slice none 0 0] 42)).heap.size ≤ w1.heap.size := hb1.size
  have hbw := stepB (below_new w _) hb1
  obtain ⟨lo, hlo'⟩ : ∃ lo, (w.alloc (.cells #[.int .i64 2, .int .i64 0, .int .i64 0, .int .i64 1, .int .i64 0, .int .i64 0, .slice none 0 0] 42)).heap.size = lo := ⟨_, rfl⟩
  rw [hlo'] at hst hlo
  have hlw : w.heap.size ≤ lo := by rw [← hlo']; simp
  have H1 := Lib.hid (show StoreAt w1 lo b G exS0 from hst)
  have HLW := Lib.hid hlw
  have HB1 := Lib.hid hbw
  have HAD := Lib.hid (show Calls Tryz.prog 8 #[.pointer (some ⟨b, 0, none⟩), .int .i64 0, .int .i64 0, .int .i64 2] w1 (RetS w1 lo b G exS1 (.tuple #[.int .i64 1, .int .i64 0])) from add_ok H1.out hlo (exW0.short (by decide)) 0 0 2 (by decide) (by decide) (by decide) (by decide))
  clear hst hb1 hlo hbw hlo' hlw
  dsimp only
  go_wp2_with fail
  refine HAD.out.mono ?_
  rintro e w2 ⟨rfl, G2, hst2, ht2⟩
  have H2 := Lib.hid hst2
  have HB2 := Lib.hid (ht2.below HB1.out (fun k hk => Nat.le_trans HLW.out (H1.out.low k hk)))
  have HMV := Lib.hid (ex_move H2.out ex1 rfl rfl 3 (by decide) (by decide) (exO true 3 0) ex_fresh3)
  clear hst2 ht2
  dsimp only
  go_wp2_with fail
  refine HMV.out.mono ?_
  rintro e w3 ⟨rfl, G3, S3, hst3, hex3, ht3⟩
  have H3 := Lib.hid hst3
  have E3 := Lib.hid hex3
  have HB3 := Lib.hid (ht3.below HB2.out (fun k hk => Nat.le_trans HLW.out (H2.out.low k hk)))
  have HGT := ex_get H3.out E3.out
  unfold RetGet oagg exO at HGT
  dsimp only at HGT
  have HG := Lib.hid HGT
  clear hst3 hex3 ht3 HGT
  dsimp only
  go_wp2_with fail
  refine HG.out.mono ?_
  rintro e w4 ⟨rfl, hb4⟩
  have H4 := Lib.hid ((H3.out.later hb4).later (below_new w4 (.cells #[.int .i64 1, .int .i64 0, .int .i64 0, .int .i64 3, .bool false, .bool true, .int .i64 3, .int .i64 0, .int .i64 0, .int .i64 0, .bool false] 35)))
  have HB4 := Lib.hid (below_alloc2 (stepB HB3.out hb4) (.cells #[.int .i64 1, .int .i64 0, .int .i64 0, .int .i64 3, .bool false, .bool true, .int .i64 3, .int .i64 0, .int .i64 0, .int .i64 0, .bool false] 35))
  have HST := ex_set (x := exO true 3 3) H4.out E3.out rfl rfl rfl rfl
  have HT4 := Lib.hid ((H3.out.later hb4).high w4.heap.size (Nat.le_refl _))
  have HX4 := Lib.hid (heap_alloc_new w4 (.cells #[.int .i64 1, .int .i64 0, .int .i64 0, .int .i64 3, .bool false, .bool true, .int .i64 3, .int .i64 0, .int .i64 0, .int .i64 0, .bool false] 35))
  have HLE := Lib.hid (stepB HB3.out hb4).size
  unfold oagg exO at HST
  dsimp only at HST
  have HS := Lib.hid HST
  clear hb4 HST
  dsimp only
  go_wp2_with fail
  refine HS.out.mono ?_
  rintro e w5 ⟨rfl, G5, S5, hst5, hex5, ht5⟩
  have H5 := Lib.hid hst5
  have E5 := Lib.hid (show ExS S5 (exO true 3 3) from hex5)
  have HB5 := Lib.hid (ht5.below HB4.out (fun k hk => Nat.le_trans HLW.out (H4.out.low k hk)))
  have hk5 := ht5.keeps (Array.getElem?_eq_some_iff.1 HX4.out).1 HT4.out
  have HX5 := Lib.hid (hk5.1.trans HX4.out)
  have HT5 := Lib.hid hk5.2
  have HM5 := Lib.hid (ex_move H5.out E5.out rfl rfl 2 (by decide) (by decide) (exO false 2 0) ex_fresh2)
  clear hst5 hex5 ht5 hk5
  dsimp only
  go_wp2_with fail
  refine HM5.out.mono ?_
  rintro e w6 ⟨rfl, G6, S6, hst6, hex6, ht6⟩
  have H6 := Lib.hid hst6
  have E6 := Lib.hid hex6
  have HB6 := Lib.hid (ht6.below HB5.out (fun k hk => Nat.le_trans HLW.out (H5.out.low k hk)))
  have hk6 := ht6.keeps (Array.getElem?_eq_some_iff.1 HX5.out).1 HT5.out
  have HX6 := Lib.hid (hk6.1.trans HX5.out)
  have HT6 := Lib.hid hk6.2
  have HM6 := Lib.hid (ex_move H6.out E6.out rfl rfl 3 (by decide) (by decide) (exO true 3 0) ex_fresh3)
  clear hst6 hex6 ht6 hk6
  dsimp only
  go_wp2_with fail
  refine HM6.out.mono ?_
  rintro e w7 ⟨rfl, G7, S7, hst7, hex7, ht7⟩
  have H7 := Lib.hid hst7
  have E7 := Lib.hid hex7
  have HB7 := Lib.hid (ht7.below HB6.out (fun k hk => Nat.le_trans HLW.out (H6.out.low k hk)))
  have hk7 := ht7.keeps (Array.getElem?_eq_some_iff.1 HX6.out).1 HT6.out
  have HX7 := Lib.hid (hk7.1.trans HX6.out)
  have HGT := ex_get H7.out E7.out
  unfold RetGet oagg exO at HGT
  dsimp only at HGT
  have HG7 := Lib.hid HGT
  clear hst7 hex7 ht7 hk7 HGT
  dsimp only
  go_wp2_with fail
  refine HG7.out.mono ?_
  rintro e w8 ⟨rfl, hb8⟩
  have hx8 := (hb8.block w4.heap.size (Array.getElem?_eq_some_iff.1 HX7.out).1).trans HX7.out
  have HB8 := Lib.hid (stepB HB7.out hb8)
  obtain ⟨p0, p1, p2, p3, p4, p5, p6, p7, p8, p9, p10⟩ := obj_of_row (x := exO true 3 3) hx8
  have hfr := fun j => frozen_of_row w8 w4.heap.size j _ _ hx8
  simp only [Nat.zero_add, exO] at p0 p1 p2 p3 p4 p5 p6 p7 p8 p9 p10
  clear hb8 hx8
  dsimp only
  go_wp2
  go_ret
  have hle := HLE.out
  exact ⟨rfl, ((((((((((HB8.out.setCell hle _).setCell hle _).setCell hle _).setCell hle _).setCell hle _).setCell hle _).setCell hle _).setCell hle _).setCell hle _).setCell hle _).setCell hle _⟩
end Go.Proofs.YtkhgdfalbmkgcaaGreat

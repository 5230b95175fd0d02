/- Contracts of layers 6 to 12 that trig had no use for: drying, wetting, losing, life, poison, what stands in a zone. -/
import Derived.Test.YtdlkdilgjmmlaaaGreatFy
import Derived.Test.YtdlkdilgjmmlaaaGreatFz
import Derived.Test.YtdlkdilgjmmlaaaGreatBi
import Derived.Lib.SliceRun
import Derived.Laws.StructEq
import Derived.Deep.RegionHeld3
import Derived.RangeFuncRecord
import Derived.RangeFuncLeaves
import Derived.RangeFuncFrom
import Derived.Deep.RegionLaw
namespace Go.Proofs.YtdlkdilgjmmlaaaGreat
open Go.RowKit Go.Maps
set_option maxRecDepth 100000 in
set_option maxHeartbeats 2000000 in
theorem dry_any {w : World} {lo : Nat} {g : GhostB} {B : BoardL} (h : BoardAt w lo g B) (k : Int) : Calls Tryz.prog 17 #[.pointer (some ⟨g.q, 0, none⟩), .int .i64 k] w (Same w (.bool (dryT B k))) := by
  obtain ⟨-, -, c2, c3, c4, c5⟩ := h.cells
  have HO := Lib.hid (has11_any h k)
  have hn := h.st.n4
  unfold dryT
  cases hh : hasT B k with
  | false =>
    rw [hh] at HO
    clear h hn hh
    rw [Bool.false_and]
    go_enter Tryz.func17, Tryz.ntmps17
    go_wp2_with fail
    refine HO.out.mono ?_
    rintro e w1 ⟨rfl, rfl⟩
    go_wp2
    go_ret
    exact ⟨rfl, rfl⟩
  | true =>
    rw [hh] at HO
    rw [Bool.true_and]
    rcases hasT_cases hn hh with rfl | rfl | rfl | rfl
    all_goals
      clear h hn hh
      go_enter Tryz.func17, Tryz.ntmps17
      go_wp2_with fail
      refine HO.out.mono ?_
      rintro e w1 ⟨rfl, rfl⟩
      go_wp2
      go_ret
      exact ⟨rfl, rfl⟩
set_option maxRecDepth 100000 in
set_option maxHeartbeats 2000000 in
theorem wet_any {w : World} {lo : Nat} {g : GhostB} {B : BoardL} (h : BoardAt w lo g B) : Calls Tryz.prog 24 #[.pointer (some ⟨g.q, 0, none⟩)] w (RetBd w lo g ⟨B.S, B.T, dry0⟩ (.tuple #[])) := by
  obtain ⟨c0, c1, c2, c3, c4, c5⟩ := h.cells
  have hf := fun j => h.free j
  have hcl : ∀ ty, (Builtin.clear_ #[65] ty #[.slice (some ⟨g.q, 2, none⟩) 4 4]).run Tryz.prog w = .ok (.tuple #[]) (w.setCells g.q 2 (List.replicate 4 (.bool false))) :=
    fun ty => Lib.run_clear_slice w 65 4 ty (.bool false) Tryz.underlying65 (fun _ => by kernel_rfl) rfl rfl g.q 2 4 4 (by omega)
      (fun j hj => by rcases (show j = 0 ∨ j = 1 ∨ j = 2 ∨ j = 3 by omega) with rfl | rfl | rfl | rfl <;> simp [c2, c3, c4, c5]) (fun j _ => hf _)
  have hs := heap_setCells_same (List.replicate 4 (Value.bool false)) 2 h.hd (by simp)
  have HW := Lib.hid (h.withD (D' := dry0) (Eq.trans hs rfl) (grown_setCells g.q (List.replicate 4 (.bool false)) 2 w))
  clear hs hf h c0 c1 c2 c3 c4 c5
  go_enter Tryz.func24, Tryz.ntmps24
  go_wp2
  go_end0
  exact ⟨rfl, g, HW.out.1, HW.out.2, rfl⟩
set_option maxRecDepth 100000 in
set_option maxHeartbeats 2000000 in
theorem draw_out {w : World} {lo : Nat} {g : GhostB} {B : BoardL} (h : BoardAt w lo g B) (k n : Int) (hk : hasT B k = false) : Calls Tryz.prog 39 #[.pointer (some ⟨g.q, 0, none⟩), .int .i64 k, .int .i64 n] w (Same w (.int .i64 0)) := by
  have hh := has11_any h k
  rw [hk] at hh
  have HH := Lib.hid hh
  clear hh h hk
  go_enter Tryz.func39, Tryz.ntmps39
  go_wp2_with fail
  refine HH.out.mono ?_
  rintro e w1 ⟨rfl, rfl⟩
  go_wp2
  go_ret
  exact ⟨rfl, rfl⟩
set_option maxRecDepth 100000 in
theorem tlife_any {w : World} {lo b s r : Nat} {T : TeamL} (h : TeamAt w lo b s r T) (k : Int) : Calls Tryz.prog 14 #[.pointer (some ⟨b, 0, none⟩), .int .i64 k] w (Same w (.int .i64 (lifeT T k))) := by
  have HI := Lib.hid (thas_any h k)
  cases hi : inT T k with
  | false =>
    have e : lifeT T k = 0 := by simp [lifeT, hi]
    rw [hi] at HI
    rw [e]
    clear h hi e
    go_enter Tryz.func14, Tryz.ntmps14
    go_wp2_with fail
    refine HI.out.mono ?_
    rintro e w1 ⟨rfl, rfl⟩
    go_wp2
    go_ret
    exact ⟨rfl, rfl⟩
  | true =>
    obtain ⟨n, rfl, hn⟩ := in_nat hi
    rw [hi] at HI
    rw [lifeT_in hn]
    obtain ⟨c1, c2, k0, k1⟩ := h.heads
    obtain ⟨c0, _, _⟩ := h.cells n hn
    obtain ⟨x, hx⟩ : ∃ x, T.sh[n].life = x := ⟨_, rfl⟩
    rw [hx] at c0 ⊢
    have h2 := h.n2
    clear h hi hx
    go_enter Tryz.func14, Tryz.ntmps14
    go_wp2_with fail
    refine HI.out.mono ?_
    rintro e w1 ⟨rfl, rfl⟩
    go_wp2
    go_ret
    exact ⟨rfl, rfl⟩
set_option maxRecDepth 100000 in
theorem tpoison_any {w : World} {lo b s r : Nat} {T : TeamL} (h : TeamAt w lo b s r T) (k : Int) : Calls Tryz.prog 15 #[.pointer (some ⟨b, 0, none⟩), .int .i64 k] w (Same w (.int .i64 (poisonT T k))) := by
  have HI := Lib.hid (thas_any h k)
  cases hi : inT T k with
  | false =>
    have e : poisonT T k = 0 := by simp [poisonT, hi]
    rw [hi] at HI
    rw [e]
    clear h hi e
    go_enter Tryz.func15, Tryz.ntmps15
    go_wp2_with fail
    refine HI.out.mono ?_
    rintro e w1 ⟨rfl, rfl⟩
    go_wp2
    go_ret
    exact ⟨rfl, rfl⟩
  | true =>
    obtain ⟨n, rfl, hn⟩ := in_nat hi
    rw [hi] at HI
    rw [poisonT_in hn]
    obtain ⟨c1, c2, k0, k1⟩ := h.heads
    obtain ⟨_, c0, _⟩ := h.cells n hn
    obtain ⟨x, hx⟩ : ∃ x, T.sh[n].poison = x := ⟨_, rfl⟩
    rw [hx] at c0 ⊢
    have h2 := h.n2
    clear h hi hx
    go_enter Tryz.func15, Tryz.ntmps15
    go_wp2_with fail
    refine HI.out.mono ?_
    rintro e w1 ⟨rfl, rfl⟩
    go_wp2
    go_ret
    exact ⟨rfl, rfl⟩
set_option maxRecDepth 100000 in
set_option maxHeartbeats 4000000 in
theorem sickFn {w : World} {q o g : Nat} {h n : Int} (hq : w.cell? ⟨q, o + 1, none⟩ = some (.int .i64 h)) (hf : w.frozen? ⟨q, o + 1, none⟩ = false) (hg : w.cell? ⟨g, 0, none⟩ = some (.int .i64 n)) :
    Calls Tryz.prog 80 #[.pointer (some ⟨q, o, none⟩), .pointer (some ⟨g, 0, none⟩)] w (fun e w' => e = .returned (.tuple #[]) ∧ w' = (w.setCell ⟨q, o + 1, none⟩ (.int .i64 (max (addZ h n) 0))).drew) := by
  have HC := Lib.hid (add_any h n)
  go_enter Tryz.func80, Tryz.ntmps80
  go_wp2
  go_region_with ((go_at_call 77; refine (HC.out _).mono ?_; rintro e w1 ⟨rfl, rfl⟩; dsimp only))
  all_goals
    go_wp2
    exact bodyPost_end (v := .tuple #[]) (by simp [results, Tryz.results80, go_sem]) rfl ⟨rfl, rfl⟩
set_option maxRecDepth 100000 in
set_option maxHeartbeats 4000000 in
theorem tsick_any {w : World} {lo b s r : Nat} {T : TeamL} (h : TeamAt w lo b s r T) (k m : Int) : Calls Tryz.prog 38 #[.pointer (some ⟨b, 0, none⟩), .int .i64 k, .int .i64 m] w (RetT w lo b s r (.int .i64 (if inT T k then 0 else 2)) (sickT T k m)) := by
  have hmf := @mk_func
  have hb := below_new w (.cells #[.int .i64 m] 3)
  have h' := h.later hb
  have HG := Lib.hid (grown_below (b := r) hb)
  have hg : (w.alloc (.cells #[.int .i64 m] 3)).cell? ⟨w.heap.size, 0, none⟩ = some (.int .i64 m) := by simp [go_sem]
  cases hi : inT T k with
  | false =>
    have e : sickT T k m = T := by simp [sickT, hi]
    rw [e]
    have HC := Lib.hid (fun f => tchange_out h' k hi f)
    have HH := Lib.hid h'
    clear h h' hb hi e hg
    go_enter Tryz.func38, Tryz.ntmps38
    go_wp2_with fail
    refine (HC.out _).mono ?_
    rintro e w1 ⟨rfl, rfl⟩
    go_wp2
    go_ret
    exact ⟨rfl, HH.out, HG.out⟩
  | true =>
    obtain ⟨n, rfl, hn⟩ := in_nat hi
    have e : sickT T n m = putT T n ⟨T.sh[n].life, max (addZ T.sh[n].poison m) 0, T.sh[n].lost⟩ := by rw [sickT, if_pos hi, Int.toNat_natCast, shAt_in hn]
    rw [e]
    obtain ⟨hp1, hp2, hp3⟩ := h'.put n 1 hn (by decide) (.int .i64 (max (addZ T.sh[n].poison m) 0)) ⟨T.sh[n].life, max (addZ T.sh[n].poison m) 0, T.sh[n].lost⟩ rfl
    obtain ⟨c1, c2, k0, k1⟩ := h'.heads
    obtain ⟨_, c0, _⟩ := h'.cells n hn
    have HI := Lib.hid (thas_any h' n)
    rw [hi] at HI
    have HP := Lib.hid (And.intro hp1 hp2)
    have h2 := h.n2
    have HF := Lib.hid (sickFn (w := w.alloc (.cells #[.int .i64 m] 3)) c0 hp3 hg)
    have HC : Hid (Calls Tryz.prog 78 #[.pointer (some ⟨b, 0, none⟩), .int .i64 n, .func (.func 80) #[] #[.pointer (some ⟨w.heap.size, 0, none⟩)]] (w.alloc (.cells #[.int .i64 m] 3))
        (RetT (w.alloc (.cells #[.int .i64 m] 3)) lo b s r (.int .i64 0) (putT T n ⟨T.sh[n].life, max (addZ T.sh[n].poison m) 0, T.sh[n].lost⟩))) := Lib.hid (by
      obtain ⟨W, hW⟩ : ∃ W, w.alloc (.cells #[.int .i64 m] 3) = W := ⟨_, rfl⟩
      obtain ⟨g, hgn⟩ : ∃ g, w.heap.size = g := ⟨_, rfl⟩
      rw [hW] at HI HF HP k0 k1 ⊢
      rw [hgn] at HF ⊢
      clear h h' hb hi e hg hW hgn HG hp1 hp2 hp3 c0 hmf
      go_enter Tryz.func78, Tryz.ntmps78
      go_wp2_with fail
      refine HI.out.mono ?_
      rintro e w1 ⟨rfl, rfl⟩
      go_wp2_with fail
      refine HF.out.mono ?_
      rintro e w2 ⟨rfl, rfl⟩
      go_wp2
      go_ret
      exact ⟨rfl, HP.out.1.later (Below.drew (Below.refl _ _)), grown_trans HP.out.2 (grown_below (Below.drew (Below.refl _ _)))⟩)
    clear h h' hb hi e hg hp1 hp2 hp3 c0 HI HP HF k0 k1
    go_enter Tryz.func38, Tryz.ntmps38
    go_wp2_with fail
    refine HC.out.mono ?_
    rintro e w1 ⟨rfl, h3, h4⟩
    go_wp2
    go_ret
    exact ⟨rfl, h3, grown_trans HG.out h4⟩
set_option maxRecDepth 100000 in
set_option maxHeartbeats 4000000 in
theorem tin_any {w : World} {lo b s r : Nat} {T : TeamL} (h : TeamAt w lo b s r T) (y : Int) : Calls Tryz.prog 16 #[.pointer (some ⟨b, 0, none⟩), .int .i64 y] w (RetList w (seatsT T y)) := by
  unfold seatsT
  have HL := Lib.hid (tseats_any h)
  have hn4 := h.n1.2
  obtain ⟨c1, c2, k0, _⟩ := h.heads
  have HK := Lib.hid k0
  have HS := Lib.hid h.sd
  obtain ⟨p, hp⟩ : ∃ p : Nat → Bool, (fun n : Nat => ofT T n == y) = p := ⟨_, rfl⟩
  have HP := Lib.hid (fun (n : Nat) (hn : n < T.sides.length) => show p n = (T.sides[n] == y) by rw [← hp]; simp [ofT, List.getD, hn])
  rw [hp]
  obtain ⟨SL, hSL⟩ : ∃ SL, T.sides = SL := ⟨_, rfl⟩
  rw [hSL] at HL HK hn4
  have HS2 : Hid (s < w.heap.size ∧ ∀ k (h : k < SL.length), w.cell? ⟨s, k, none⟩ = some (.int .i64 SL[k])) := Lib.hid (by subst hSL; exact HS.out)
  have HP2 : Hid (∀ (n : Nat) (hn : n < SL.length), p n = (SL[n] == y)) := Lib.hid (by subst hSL; exact HP.out)
  rw [hSL]
  clear h k0 hp HS HP hSL
  go_enter Tryz.func16, Tryz.ntmps16
  go_wp2_with fail
  refine HL.out.mono ?_
  rintro e w1 ⟨rfl, rfl⟩
  go_wp2
  go_loopw [5, 9] (fun v i wr => ∃ k : Nat, k ≤ SL.length ∧ i = .int .i64 k ∧ Hid (wr.ownsRow w1.heap.size 3 1 v (upTo p k).length (intsV (upTo p k))) ∧ Hid (Below w1.heap.size w1 wr)) (fun _ i _ => SL.length - (intOf i).toNat)
  case atStart => exact ⟨0, Nat.zero_le _, rfl, Lib.hid (World.ownsRow_nil _ _ _ _), Lib.hid (Below.refl _ _)⟩
  case round =>
    obtain ⟨k, hk, rfl, HW, HB⟩ := hrel
    by_cases hlt : k < SL.length
    · have d0 : decide ((k : Int) < SL.length) = true := decide_eq_true (by omega)
      have d1 : (k : Int) < SL.length := by omega
      have k0 := cell_stays HB.out HK.out
      have c0 := cell_stays HB.out (HS2.out.2 k hlt)
      have hpk := HP2.out k hlt
      have hlen := upTo_len p k
      obtain ⟨L, hL⟩ : ∃ L, upTo p k = L := ⟨_, rfl⟩
      rw [hL] at HW hlen
      obtain ⟨x, hx⟩ : ∃ x, SL[k] = x := ⟨_, rfl⟩
      rw [hx] at c0 hpk
      clear hx
      cases hb : p k with
      | false =>
        have HN := Lib.hid ((upTo_no hb).trans hL)
        have e0 : (x == y) = false := by rw [← hpk, hb]
        clear hb hL hpk
        go_wp2
        go_roundw
        case rel => exact ⟨k + 1, by omega, by go_num, by rw [HN.out]; exact HW, HB⟩
        case measure => simp [intOf]; omega
      | true =>
        have HN := Lib.hid ((upTo_yes hb).trans (by rw [hL]))
        have e0 : (x == y) = true := by rw [← hpk, hb]
        clear hb hL hpk
        go_wp2_with (at_builtin; refine wpList_push rfl _ _ rfl rfl _ L (k : Int) rfl HW.out HB.out rfl (by omega) ?f)
        case f =>
          intro v' w' h3 h4
          have H3 := Lib.hid (show w'.ownsRow w1.heap.size 3 1 v' (upTo p (k + 1)).length (intsV (upTo p (k + 1))) from by rw [HN.out, List.length_append]; exact h3)
          have H4 := Lib.hid h4
          clear h3 h4
          go_wp2
          go_roundw
          case rel => exact ⟨k + 1, by omega, by go_num, H3, H4⟩
          case measure => simp [intOf]; omega
    · obtain rfl : k = SL.length := by omega
      go_wp2
      go_ret
      exact ⟨_, rfl, HW.out, HB.out⟩

set_option maxRecDepth 100000 in
set_option maxHeartbeats 4000000 in
theorem dead_of {w : World} {p : Option Addr} {i n : Int} {o : ObjL} {c : Crd.CardL} (h : Calls Tryz.prog 43 #[.pointer p, .int .i64 i] w (RetCre w o c n)) :
    Calls Tryz.prog 32 #[.pointer p, .int .i64 i] w (RetV w (.bool (n == 0 && (layZ c.tough o.count o.boost == 0 || decide (layZ c.tough o.count o.boost ≤ o.hurt))))) := by
  have H := Lib.hid h
  have HL := Lib.hid layers_any
  obtain ⟨x0, x1, x2, x3, x4, x5, x6, x7, x8, x9, x10⟩ := o
  obtain ⟨d0, d1, d2, d3, d4, d5, dt⟩ := c
  unfold RetCre Crd.cagg oagg at H
  unfold oagg at HL
  dsimp only at H ⊢
  clear h
  by_cases hn : n = 0
  · subst hn
    obtain ⟨y, hy⟩ : ∃ y, layZ d3 x7 x8 = y := ⟨_, rfl⟩
    have HY := Lib.hid hy
    by_cases h0 : y = 0
    · subst h0
      rw [hy]
      clear hy
      go_enter Tryz.func32, Tryz.ntmps32
      go_wp2_with fail
      refine H.out.mono ?_
      rintro e w1 ⟨xa, xc, rfl, hb1⟩
      dsimp only
      go_wp2_with fail
      refine (HL.out d3 ⟨x0, x1, x2, x3, x4, x5, x6, x7, x8, x9, x10⟩ _).mono ?_
      rintro e w2 ⟨rfl, hb2⟩
      dsimp only
      rw [HY.out]
      go_wp2
      go_ret
      exact ⟨by first | rfl | simp, stepB (below_alloc2 (below_alloc2 hb1 _) _) hb2⟩
    · have e0 : (y == 0) = false := beq_eq_false_iff_ne.2 h0
      rw [hy]
      clear hy h0
      obtain ⟨W, hW⟩ : ∃ W : World, W = w := ⟨_, rfl⟩
      go_enter Tryz.func32, Tryz.ntmps32
      go_wp2_with fail
      refine H.out.mono ?_
      rintro e w1 ⟨xa, xc, rfl, hb1⟩
      dsimp only
      have HB1 := Lib.hid hb1
      go_wp2_with fail
      refine (HL.out d3 ⟨x0, x1, x2, x3, x4, x5, x6, x7, x8, x9, x10⟩ _).mono ?_
      rintro e w2 ⟨rfl, hb2⟩
      dsimp only
      rw [HY.out]
      have k6 : w2.cell? ⟨w1.heap.size, 6, none⟩ = some (.int .i64 x6) := cell_stays hb2 (by simp [go_sem])
      go_wp2
      go_ret
      exact ⟨ret_bool (by simp [e0]), stepB (below_alloc2 (below_alloc2 hb1 _) _) hb2⟩
  · have e0 : (n != 0) = true := bne_iff_ne.2 hn
    have e1 : (n == 0) = false := beq_eq_false_iff_ne.2 hn
    rw [e1]
    clear hn
    go_enter Tryz.func32, Tryz.ntmps32
    go_wp2_with fail
    refine H.out.mono ?_
    rintro e w1 ⟨xa, xc, rfl, hb1⟩
    dsimp only
    go_wp2
    go_ret
    exact ⟨rfl, below_alloc2 (below_alloc2 hb1 _) _⟩
def touS (S : StoreL) (i : Int) : Int := layZ (creC S i).tough (creO S i).count (creO S i).boost
def deadS (S : StoreL) (i : Int) : Bool := creE S i == 0 && (touS S i == 0 || decide (touS S i ≤ (creO S i).hurt))
theorem dead_any {w : World} {lo b : Nat} {G : Ghost} {S : StoreL} (h : StoreAt w lo b G S) (hS : WfS S) (hl : S.objs.length ≤ 1000) (i : Int) :
    Calls Tryz.prog 32 #[.pointer (some ⟨b, 0, none⟩), .int .i64 i] w (RetV w (.bool (deadS S i))) := dead_of (cre_any h hS hl i)
end Go.Proofs.YtdlkdilgjmmlaaaGreat

/- Contracts of layers 6 to 12 that trig had no use for: drying, wetting, losing, life, poison, what stands in a zone. -/
import Derived.Test.YtjgjhfeopmakaaaGreatFy
import Derived.Test.YtjgjhfeopmakaaaGreatFz
import Derived.Test.YtjgjhfeopmakaaaGreatBi
import Derived.Lib.SliceRun
import Derived.Laws.StructEq
import Derived.Deep.RegionHeld3
import Derived.RangeFuncRecord
import Derived.RangeFuncLeaves
import Derived.RangeFuncFrom
import Derived.Deep.RegionLaw
namespace Go.Proofs.YtjgjhfeopmakaaaGreat
open Go.RowKit Go.Maps
set_option maxRecDepth 100000 in
theorem tlife_any {w : World} {lo b s r : Nat} {T : TeamL} (h : TeamAt w lo b s r T) (k : Int) : Calls Tryz.prog 22 #[.pointer (some ⟨b, 0, none⟩), .int .i64 k] w (Same w (.int .i64 (lifeT T k))) := by
  have HI := Lib.hid (thas_any h k)
  cases hi : inT T k with
  | false =>
    have e : lifeT T k = 0 := by simp [lifeT, hi]
    rw [hi] at HI
    rw [e]
    clear h hi e
    go_enter Tryz.func22, Tryz.ntmps22
    go_wp2_with fail
    refine HI.out.mono ?_
    rintro e w1 ⟨rfl, rfl⟩
    go_wp2
    go_ret
    exact ⟨rfl, rfl⟩
  | true =>
    obtain ⟨n, rfl, hn⟩ := in_nat hi
    rw [hi] at HI
    rw [lifeT_in hn]
    obtain ⟨c1, c2, k0, k1⟩ := h.heads
    obtain ⟨c0, _, _⟩ := h.cells n hn
    obtain ⟨x, hx⟩ : ∃ x, T.sh[n].life = x := ⟨_, rfl⟩
    rw [hx] at c0 ⊢
    have h2 := h.n2
    clear h hi hx
    go_enter Tryz.func22, Tryz.ntmps22
    go_wp2_with fail
    refine HI.out.mono ?_
    rintro e w1 ⟨rfl, rfl⟩
    go_wp2
    go_ret
    exact ⟨rfl, rfl⟩
set_option maxRecDepth 100000 in
set_option maxHeartbeats 4000000 in
theorem sickFn {w : World} {q o g : Nat} {h n : Int} (hq : w.cell? ⟨q, o + 1, none⟩ = some (.int .i64 h)) (hf : w.frozen? ⟨q, o + 1, none⟩ = false) (hg : w.cell? ⟨g, 0, none⟩ = some (.int .i64 n)) :
    Calls Tryz.prog 91 #[.pointer (some ⟨q, o, none⟩), .pointer (some ⟨g, 0, none⟩)] w (fun e w' => e = .returned (.tuple #[]) ∧ w' = (w.setCell ⟨q, o + 1, none⟩ (.int .i64 (max (addZ h n) 0))).drew) := by
  have HC := Lib.hid (add_any h n)
  go_enter Tryz.func91, Tryz.ntmps91
  go_wp2
  go_region_with ((go_at_call 92; refine (HC.out _).mono ?_; rintro e w1 ⟨rfl, rfl⟩; dsimp only))
  all_goals
    go_wp2
    exact bodyPost_end (v := .tuple #[]) (by simp [results, Tryz.results91, go_sem]) rfl ⟨rfl, rfl⟩
set_option maxRecDepth 100000 in
set_option maxHeartbeats 4000000 in
theorem tsick_any {w : World} {lo b s r : Nat} {T : TeamL} (h : TeamAt w lo b s r T) (k m : Int) : Calls Tryz.prog 52 #[.pointer (some ⟨b, 0, none⟩), .int .i64 k, .int .i64 m] w (RetT w lo b s r (.int .i64 (if inT T k then 0 else 2)) (sickT T k m)) := by
  have hmf := @mk_func
  have hb := below_new w (.cells #[.int .i64 m] 3)
  have h' := h.later hb
  have HG := Lib.hid (grown_below (b := r) hb)
  have hg : (w.alloc (.cells #[.int .i64 m] 3)).cell? ⟨w.heap.size, 0, none⟩ = some (.int .i64 m) := by simp [go_sem]
  cases hi : inT T k with
  | false =>
    have e : sickT T k m = T := by simp [sickT, hi]
    rw [e]
    have HC := Lib.hid (fun f => tchange_out h' k hi f)
    have HH := Lib.hid h'
    clear h h' hb hi e hg
    go_enter Tryz.func52, Tryz.ntmps52
    go_wp2_with fail
    refine (HC.out _).mono ?_
    rintro e w1 ⟨rfl, rfl⟩
    go_wp2
    go_ret
    exact ⟨rfl, HH.out, HG.out⟩
  | true =>
    obtain ⟨n, rfl, hn⟩ := in_nat hi
    have e : sickT T n m = putT T n ⟨T.sh[n].life, max (addZ T.sh[n].poison m) 0, T.sh[n].lost⟩ := by rw [sickT, if_pos hi, Int.toNat_natCast, shAt_in hn]
    rw [e]
    obtain ⟨hp1, hp2, hp3⟩ := h'.put n 1 hn (by decide) (.int .i64 (max (addZ T.sh[n].poison m) 0)) ⟨T.sh[n].life, max (addZ T.sh[n].poison m) 0, T.sh[n].lost⟩ rfl
    obtain ⟨c1, c2, k0, k1⟩ := h'.heads
    obtain ⟨_, c0, _⟩ := h'.cells n hn
    have HI := Lib.hid (thas_any h' n)
    rw [hi] at HI
    have HP := Lib.hid (And.intro hp1 hp2)
    have h2 := h.n2
    have HF := Lib.hid (sickFn (w := w.alloc (.cells #[.int .i64 m] 3)) c0 hp3 hg)
    have HC : Hid (Calls Tryz.prog 90 #[.pointer (some ⟨b, 0, none⟩), .int .i64 n, .func (.func 91) #[] #[.pointer (some ⟨w.heap.size, 0, none⟩)]] (w.alloc (.cells #[.int .i64 m] 3))
        (RetT (w.alloc (.cells #[.int .i64 m] 3)) lo b s r (.int .i64 0) (putT T n ⟨T.sh[n].life, max (addZ T.sh[n].poison m) 0, T.sh[n].lost⟩))) := Lib.hid (by
      obtain ⟨W, hW⟩ : ∃ W, w.alloc (.cells #[.int .i64 m] 3) = W := ⟨_, rfl⟩
      obtain ⟨g, hgn⟩ : ∃ g, w.heap.size = g := ⟨_, rfl⟩
      rw [hW] at HI HF HP k0 k1 ⊢
      rw [hgn] at HF ⊢
      clear h h' hb hi e hg hW hgn HG hp1 hp2 hp3 c0 hmf
      go_enter Tryz.func90, Tryz.ntmps90
      go_wp2_with fail
      refine HI.out.mono ?_
      rintro e w1 ⟨rfl, rfl⟩
      go_wp2_with fail
      refine HF.out.mono ?_
      rintro e w2 ⟨rfl, rfl⟩
      go_wp2
      go_ret
      exact ⟨rfl, HP.out.1.later (Below.drew (Below.refl _ _)), grown_trans HP.out.2 (grown_below (Below.drew (Below.refl _ _)))⟩)
    clear h h' hb hi e hg hp1 hp2 hp3 c0 HI HP HF k0 k1
    go_enter Tryz.func52, Tryz.ntmps52
    go_wp2_with fail
    refine HC.out.mono ?_
    rintro e w1 ⟨rfl, h3, h4⟩
    go_wp2
    go_ret
    exact ⟨rfl, h3, grown_trans HG.out h4⟩
set_option maxRecDepth 100000 in
theorem life_nil (x : Int) (w : World) : Calls Tryz.prog 22 #[.pointer none, .int .i64 x] w (Same w (.int .i64 0)) := by
  go_enter Tryz.func22, Tryz.ntmps22
  go_wp2_with fail
  refine (has_nil x w).mono ?_
  rintro e w1 ⟨rfl, rfl⟩
  go_wp2
  go_ret
  exact ⟨rfl, rfl⟩
set_option maxRecDepth 100000 in
set_option maxHeartbeats 4000000 in
theorem tough_of {w : World} {p : Option Addr} {i n : Int} {o : ObjL} {c : Crd.CardL} (h : Calls Tryz.prog 43 #[.pointer p, .int .i64 i] w (RetCre w o c n)) :
    Calls Tryz.prog 114 #[.pointer p, .int .i64 i] w (RetV w (.int .i64 (layZ c.tough o.count o.boost))) := by
  have H := Lib.hid h
  have HL := Lib.hid layers_any
  obtain ⟨x0, x1, x2, x3, x4, x5, x6, x7, x8, x9, x10⟩ := o
  obtain ⟨d0, d1, d2, d3, d4, d5, dt⟩ := c
  unfold RetCre Crd.cagg oagg at H
  unfold oagg at HL
  dsimp only at H ⊢
  clear h
  go_enter Tryz.func114, Tryz.ntmps114
  go_wp2_with fail
  refine H.out.mono ?_
  rintro e w1 ⟨xa, xc, rfl, hb1⟩
  dsimp only
  go_wp2_with fail
  refine (HL.out d3 ⟨x0, x1, x2, x3, x4, x5, x6, x7, x8, x9, x10⟩ _).mono ?_
  rintro e w2 ⟨rfl, hb2⟩
  dsimp only
  go_wp2
  go_ret
  exact ⟨rfl, stepB (below_alloc2 (below_alloc2 hb1 _) _) hb2⟩
def touS (S : StoreL) (i : Int) : Int := layZ (creC S i).tough (creO S i).count (creO S i).boost
def deadS (S : StoreL) (i : Int) : Bool := creE S i == 0 && (touS S i == 0 || decide (touS S i ≤ (creO S i).hurt))
theorem tough_any {w : World} {lo b : Nat} {G : Ghost} {S : StoreL} (h : StoreAt w lo b G S) (hS : WfS S) (hl : S.objs.length ≤ 1000) (i : Int) :
    Calls Tryz.prog 114 #[.pointer (some ⟨b, 0, none⟩), .int .i64 i] w (RetV w (.int .i64 (touS S i))) := tough_of (cre_any h hS hl i)
end Go.Proofs.YtjgjhfeopmakaaaGreat

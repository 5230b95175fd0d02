/- How strong creatures are: power, toughness, keys, for any number (layer 8). -/
import Derived.Test.YtjgjhfeopmakaaaGreatSn
import Derived.Test.YtjgjhfeopmakaaaGreatFx
namespace Go.Proofs.YtjgjhfeopmakaaaGreat
open Go.RowKit Go.Maps
set_option maxRecDepth 100000 in
set_option maxHeartbeats 4000000 in
theorem power_of {w : World} {p : Option Addr} {i n : Int} {o : ObjL} {c : Crd.CardL} (h : Calls Tryz.prog 43 #[.pointer p, .int .i64 i] w (RetCre w o c n)) :
    Calls Tryz.prog 19 #[.pointer p, .int .i64 i] w (RetV w (.int .i64 (layZ c.power o.count o.boost))) := by
  have H := Lib.hid h
  have HL := Lib.hid layers_any
  obtain ⟨x0, x1, x2, x3, x4, x5, x6, x7, x8, x9, x10⟩ := o
  obtain ⟨d0, d1, d2, d3, d4, d5, dt⟩ := c
  unfold RetCre Crd.cagg oagg at H
  unfold oagg at HL
  dsimp only at H ⊢
  clear h
  go_enter Tryz.func19, Tryz.ntmps19
  go_wp2_with fail
  refine H.out.mono ?_
  rintro e w1 ⟨xa, xc, rfl, hb1⟩
  dsimp only
  go_wp2_with fail
  refine (HL.out d2 ⟨x0, x1, x2, x3, x4, x5, x6, x7, x8, x9, x10⟩ _).mono ?_
  rintro e w2 ⟨rfl, hb2⟩
  dsimp only
  go_wp2
  go_ret
  exact ⟨rfl, stepB (below_alloc2 (below_alloc2 hb1 _) _) hb2⟩
set_option maxRecDepth 100000 in
set_option maxHeartbeats 4000000 in
theorem keys_of {w : World} {p : Option Addr} {i n : Int} {o : ObjL} {c : Crd.CardL} (h : Calls Tryz.prog 43 #[.pointer p, .int .i64 i] w (RetCre w o c n)) :
    Calls Tryz.prog 64 #[.pointer p, .int .i64 i] w (RetV w (.int .i64 c.keys)) := by
  have H := Lib.hid h
  have HL := Lib.hid layers_any
  obtain ⟨x0, x1, x2, x3, x4, x5, x6, x7, x8, x9, x10⟩ := o
  obtain ⟨d0, d1, d2, d3, d4, d5, dt⟩ := c
  unfold RetCre Crd.cagg oagg at H
  unfold oagg at HL
  dsimp only at H ⊢
  clear h
  go_enter Tryz.func64, Tryz.ntmps64
  go_wp2_with fail
  refine H.out.mono ?_
  rintro e w1 ⟨xa, xc, rfl, hb1⟩
  dsimp only
  go_wp2
  go_ret
  exact ⟨rfl, below_alloc2 (below_alloc2 hb1 _) _⟩
def powS (S : StoreL) (i : Int) : Int := layZ (creC S i).power (creO S i).count (creO S i).boost
theorem power_any {w : World} {lo b : Nat} {G : Ghost} {S : StoreL} (h : StoreAt w lo b G S) (hS : WfS S) (hl : S.objs.length ≤ 1000) (i : Int) :
    Calls Tryz.prog 19 #[.pointer (some ⟨b, 0, none⟩), .int .i64 i] w (RetV w (.int .i64 (powS S i))) := power_of (cre_any h hS hl i)
theorem keys_any {w : World} {lo b : Nat} {G : Ghost} {S : StoreL} (h : StoreAt w lo b G S) (hS : WfS S) (hl : S.objs.length ≤ 1000) (i : Int) :
    Calls Tryz.prog 64 #[.pointer (some ⟨b, 0, none⟩), .int .i64 i] w (RetV w (.int .i64 (creC S i).keys)) := keys_of (cre_any h hS hl i)
end Go.Proofs.YtjgjhfeopmakaaaGreat

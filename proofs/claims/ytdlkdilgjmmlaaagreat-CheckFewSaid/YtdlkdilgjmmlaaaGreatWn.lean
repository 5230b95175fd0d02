/- The argument State of layer 14's laws, opened to what it holds. -/
import Derived.Test.YtdlkdilgjmmlaaaGreatWh
import Derived.Test.YtdlkdilgjmmlaaaGreatRm
namespace Go.Proofs.YtdlkdilgjmmlaaaGreat
open Go.ChangeShapes Go.WideShapes Go.RowKit Go.Deep

set_option maxRecDepth 100000 in
theorem open_state {H : Type} {enc : TypeId × Value → H} {w : World} {base : Nat} {v : Value} {d : DataW H} {p : List MemPlace} (hv : Value.okWide Tryz.prog w .any base 26 v) (h : DataW.Trod enc Tryz.prog w 0 (fun _ => true) true 26 v d p) :
    ∃ x : StL, StAt w v x := by
  obtain ⟨cs, rfl, hsz⟩ := okWide_struct Tryz.underlying26 hv
  obtain ⟨l⟩ := cs
  match l, hsz.trans (show Tryz.prog.cellsOf 26 = 5 by kernel_rfl) with
  | [c0, c1, c2, c3, c4], _ =>
    obtain ⟨fuel, hf⟩ := h
    obtain ⟨xs, n, _, _, _, hlen, hg⟩ := DataW.trod_struct Tryz.underlying26 hf
    match xs, hlen with
    | [y0, y1, y2, y3, y4], _ =>
      have hc1 : Tryz.prog.cellsOf 3 = 1 := by kernel_rfl
      have hc2 : Tryz.prog.cellsOf 24 = 1 := by kernel_rfl
      have g0 : DataW.trod enc Tryz.prog w 0 (fun _ => true) true n 24 (([c0, c1, c2, c3, c4].drop 0).take (Tryz.prog.cellsOf 24)) = some y0 := hg 0 _ rfl
      have g1 : DataW.trod enc Tryz.prog w 0 (fun _ => true) true n 24 (([c0, c1, c2, c3, c4].drop 1).take (Tryz.prog.cellsOf 24)) = some y1 := hg 1 _ rfl
      have g2 : DataW.trod enc Tryz.prog w 0 (fun _ => true) true n 24 (([c0, c1, c2, c3, c4].drop 2).take (Tryz.prog.cellsOf 24)) = some y2 := hg 2 _ rfl
      have g3 : DataW.trod enc Tryz.prog w 0 (fun _ => true) true n 24 (([c0, c1, c2, c3, c4].drop 3).take (Tryz.prog.cellsOf 24)) = some y3 := hg 3 _ rfl
      have g4 : DataW.trod enc Tryz.prog w 0 (fun _ => true) true n 3 (([c0, c1, c2, c3, c4].drop 4).take (Tryz.prog.cellsOf 3)) = some y4 := hg 4 _ rfl
      rw [hc2] at g0 g1 g2 g3
      rw [hc1] at g4
      have g0 : DataW.trod enc Tryz.prog w 0 (fun _ => true) true n 24 [c0] = some y0 := by simpa [Value.cells] using g0
      have g1 : DataW.trod enc Tryz.prog w 0 (fun _ => true) true n 24 [c1] = some y1 := by simpa [Value.cells] using g1
      have g2 : DataW.trod enc Tryz.prog w 0 (fun _ => true) true n 24 [c2] = some y2 := by simpa [Value.cells] using g2
      have g3 : DataW.trod enc Tryz.prog w 0 (fun _ => true) true n 24 [c3] = some y3 := by simpa [Value.cells] using g3
      have g4 : DataW.trod enc Tryz.prog w 0 (fun _ => true) true n 3 [c4] = some y4 := by simpa [Value.cells] using g4
      obtain ⟨x4, q4, _, _⟩ := DataW.trod_int Tryz.underlying3 g4
      obtain ⟨l0, hl0, _⟩ := open_nums1 g0
      obtain ⟨l1, hl1, _⟩ := open_nums1 g1
      obtain ⟨l2, hl2, _⟩ := open_nums1 g2
      obtain ⟨l3, hl3, _⟩ := open_nums1 g3
      rw [cell_int q4]
      exact ⟨⟨l0, l1, l2, l3, x4⟩, c0, c1, c2, c3, rfl, hl0, hl1, hl2, hl3⟩
end Go.Proofs.YtdlkdilgjmmlaaaGreat

/- Arguments of effect's laws: lists of terms, a deed, small numbers; opened to what they hold. -/
import Derived.Test.YtgjojjhppgjkkaaGreatAq
import Derived.Test.YtgjojjhppgjkkaaGreatCd
namespace Go.Proofs.YtgjojjhppgjkkaaGreat.Crd
open Go.ChangeShapes Go.WideShapes Go.RowKit Go.Deep
theorem cellsT : Tryz.prog.cellsOf 24 = 3 := by kernel_rfl
theorem one_int {x : Int} {v : Value} (h : [v] = [Value.int .i64 x]) : v = .int .i64 x := by injection h

set_option maxRecDepth 100000 in
/-- A list of terms, as a datum's reading finds it. -/
theorem open_terms {H : Type} {enc : TypeId × Value → H} {w : World} {n : Nat} {v : Value} {x : DataW H × List MemPlace} (h : DataW.trod enc Tryz.prog w 0 (fun _ => true) true n 43 [v] = some x) :
    ∃ (l : List TermL) (xa : Option Addr) (xc : Nat), v = .slice xa l.length xc ∧ l.length ≤ maxLen ∧ TermsIs w (.slice xa l.length xc) l := by
  rcases open_slice_fields Tryz.underlying43 Tryz.underlying24 (by kernel_rfl) cellsT h with ⟨h1, _⟩ | ⟨a, len, cap, m, D, Pl, hcs, _, hl, hm, hmm, _, hi⟩
  · injection h1 with h1 _
    exact ⟨[], none, 0, h1, Nat.zero_le _, .inl ⟨_, _, rfl, rfl⟩⟩
  · injection hcs with hv _
    subst hv
    rw [if_pos rfl] at hmm
    subst hmm
    by_cases h0 : len = 0
    · subst h0
      exact ⟨[], some a, m, rfl, Nat.zero_le _, .inl ⟨_, _, rfl, rfl⟩⟩
    · have hterm : ∀ i, i < len → ∃ t : TermL, w.cell? (a.add (i * 3)) = some (.int .i64 t.op) ∧ w.cell? (a.add (i * 3 + 1)) = some (.int .i64 t.n) ∧ w.cell? (a.add (i * 3 + 2)) = some (.int .i64 t.on) := by
        intro i hil
        obtain ⟨ys, n', _, _, _, hf⟩ := hi i (Nat.lt_of_lt_of_le hil hl)
        obtain ⟨v0, z0, a0, _, g0⟩ := hf 0 _ rfl
        obtain ⟨v1, z1, a1, _, g1⟩ := hf 1 _ rfl
        obtain ⟨v2, z2, a2, _, g2⟩ := hf 2 _ rfl
        obtain ⟨x0, q0, _, _⟩ := DataW.trod_int Tryz.underlying3 g0
        obtain ⟨x1, q1, _, _⟩ := DataW.trod_int Tryz.underlying3 g1
        obtain ⟨x2, q2, _, _⟩ := DataW.trod_int Tryz.underlying3 g2
        rw [one_int q0] at a0
        rw [one_int q1] at a1
        rw [one_int q2] at a2
        exact ⟨⟨x0, x1, x2⟩, a0, a1, a2⟩
      obtain ⟨f, hf⟩ : ∃ f : Nat → TermL, ∀ i, i < len → w.cell? (a.add (i * 3)) = some (.int .i64 (f i).op) ∧ w.cell? (a.add (i * 3 + 1)) = some (.int .i64 (f i).n) ∧ w.cell? (a.add (i * 3 + 2)) = some (.int .i64 (f i).on) := by
        refine ⟨fun i => if h : i < len then (hterm i h).choose else ⟨0, 0, 0⟩, fun i hil => ?_⟩
        simp only [dif_pos hil]
        exact (hterm i hil).choose_spec
      obtain ⟨b, off, spot⟩ := a
      have hspot : spot = none := by
        have := World.cell?_spot (hf 0 (Nat.pos_of_ne_zero h0)).1
        simpa [Addr.add] using this
      subst hspot
      have hadd : ∀ k, (⟨b, off, none⟩ : Addr).add k = ⟨b, off + k, none⟩ := fun k => by simp [Addr.add]
      have hlen : ((List.range len).map f).length = len := by rw [List.length_map, List.length_range]
      refine ⟨(List.range len).map f, some ⟨b, off, none⟩, m, by rw [hlen], by rw [hlen]; exact Nat.le_trans hl hm, .inr ⟨b, off, m, rfl, ?_, fun i hil => ?_⟩⟩
      · have := (hf 0 (Nat.pos_of_ne_zero h0)).1
        rw [hadd] at this
        exact World.block_lt_of_cell? w ⟨b, off + 0 * 3, none⟩ this
      · rw [hlen] at hil
        have hgi : ((List.range len).map f)[i] = f i := by rw [List.getElem_map, List.getElem_range]
        rw [hgi]
        have := hf i hil
        rw [hadd, hadd, hadd] at this
        exact this


end Go.Proofs.YtgjojjhppgjkkaaGreat.Crd
namespace Go.Proofs.YtgjojjhppgjkkaaGreat
open Go.ChangeShapes Go.WideShapes Go.RowKit Go.Deep
set_option maxRecDepth 100000 in
theorem open_termsA {H : Type} {enc : TypeId × Value → H} {w : World} {base : Nat} {v : Value} {d : DataW H} {p : List MemPlace} (hv : Value.okWide Tryz.prog w .any base 43 v) (h : DataW.Trod enc Tryz.prog w 0 (fun _ => true) true 43 v d p) :
    ∃ (l : List Crd.TermL) (xa : Option Addr) (xc : Nat), v = .slice xa l.length xc ∧ l.length ≤ maxLen ∧ Crd.TermsIs w (.slice xa l.length xc) l := by
  obtain ⟨a0, len0, cap0, rfl⟩ := okWide_slice Tryz.underlying43 hv
  obtain ⟨fuel, hf⟩ := h
  exact Crd.open_terms (n := fuel) (x := (d, p)) hf
set_option maxRecDepth 100000 in
theorem open_deed {H : Type} {enc : TypeId × Value → H} {w : World} {base : Nat} {v : Value} {d : DataW H} {p : List MemPlace} (hv : Value.okWide Tryz.prog w .any base 26 v) (h : DataW.Trod enc Tryz.prog w 0 (fun _ => true) true 26 v d p) :
    ∃ a b c e f : Int, v = .agg #[.int .i64 a, .int .i64 b, .int .i64 c, .int .i64 e, .int .i64 f] := by
  obtain ⟨cs, rfl, hsz⟩ := okWide_struct Tryz.underlying26 hv
  obtain ⟨l⟩ := cs
  match l, hsz.trans (show Tryz.prog.cellsOf 26 = 5 by kernel_rfl) with
  | [c0, c1, c2, c3, c4], _ =>
    obtain ⟨fuel, hf⟩ := h
    obtain ⟨xs, n, _, _, _, hlen, hg⟩ := DataW.trod_struct Tryz.underlying26 hf
    match xs, hlen with
    | [y0, y1, y2], _ =>
      have hc1 : Tryz.prog.cellsOf 3 = 1 := by kernel_rfl
      have hc3 : Tryz.prog.cellsOf 24 = 3 := by kernel_rfl
      have g0 : DataW.trod enc Tryz.prog w 0 (fun _ => true) true n 3 (([c0, c1, c2, c3, c4].drop 0).take (Tryz.prog.cellsOf 3)) = some y0 := hg 0 _ rfl
      have g1 : DataW.trod enc Tryz.prog w 0 (fun _ => true) true n 24 (([c0, c1, c2, c3, c4].drop 1).take (Tryz.prog.cellsOf 24)) = some y1 := hg 1 _ rfl
      have g2 : DataW.trod enc Tryz.prog w 0 (fun _ => true) true n 3 (([c0, c1, c2, c3, c4].drop 4).take (Tryz.prog.cellsOf 3)) = some y2 := hg 2 _ rfl
      rw [hc1] at g0 g2
      rw [hc3] at g1
      have g0 : DataW.trod enc Tryz.prog w 0 (fun _ => true) true n 3 [c0] = some y0 := by simpa [Value.cells] using g0
      have g1 : DataW.trod enc Tryz.prog w 0 (fun _ => true) true n 24 [c1, c2, c3] = some y1 := by simpa [Value.cells] using g1
      have g2 : DataW.trod enc Tryz.prog w 0 (fun _ => true) true n 3 [c4] = some y2 := by simpa [Value.cells] using g2
      obtain ⟨zs, m, _, _, _, hlen2, hg2⟩ := DataW.trod_struct Tryz.underlying24 g1
      match zs, hlen2 with
      | [z0, z1, z2], _ =>
        have e0 : DataW.trod enc Tryz.prog w 0 (fun _ => true) true m 3 (([c1, c2, c3].drop 0).take (Tryz.prog.cellsOf 3)) = some z0 := hg2 0 _ rfl
        have e1 : DataW.trod enc Tryz.prog w 0 (fun _ => true) true m 3 (([c1, c2, c3].drop 1).take (Tryz.prog.cellsOf 3)) = some z1 := hg2 1 _ rfl
        have e2 : DataW.trod enc Tryz.prog w 0 (fun _ => true) true m 3 (([c1, c2, c3].drop 2).take (Tryz.prog.cellsOf 3)) = some z2 := hg2 2 _ rfl
        rw [hc1] at e0 e1 e2
        have e0 : DataW.trod enc Tryz.prog w 0 (fun _ => true) true m 3 [c1] = some z0 := by simpa [Value.cells] using e0
        have e1 : DataW.trod enc Tryz.prog w 0 (fun _ => true) true m 3 [c2] = some z1 := by simpa [Value.cells] using e1
        have e2 : DataW.trod enc Tryz.prog w 0 (fun _ => true) true m 3 [c3] = some z2 := by simpa [Value.cells] using e2
        obtain ⟨x0, q0, _, _⟩ := DataW.trod_int Tryz.underlying3 g0
        obtain ⟨x1, q1, _, _⟩ := DataW.trod_int Tryz.underlying3 e0
        obtain ⟨x2, q2, _, _⟩ := DataW.trod_int Tryz.underlying3 e1
        obtain ⟨x3, q3, _, _⟩ := DataW.trod_int Tryz.underlying3 e2
        obtain ⟨x4, q4, _, _⟩ := DataW.trod_int Tryz.underlying3 g2
        rw [cell_int q0, cell_int q1, cell_int q2, cell_int q3, cell_int q4]
        exact ⟨x0, x1, x2, x3, x4, rfl⟩
theorem u8_of {n : Int} (h : (Lit.int .u8 n).wf = true) : ∃ m : Nat, n = m ∧ m < 256 := by
  simp [Lit.wf, IntKind.min, IntKind.max, IntKind.signed, IntKind.bits] at h
  exact ⟨n.toNat, by omega, by omega⟩
theorem cell_u8i {x : Int} {v : Value} (h : [v] = [Value.int .u8 x]) : v = .int .u8 x := by injection h
end Go.Proofs.YtgjojjhppgjkkaaGreat

/- Arguments of fight's laws (layer 17): men, a move. -/
import Derived.Test.YtjgjhfeopmakaaaGreatAq
import Derived.Test.YtjgjhfeopmakaaaGreatQk
import Derived.Test.YtjgjhfeopmakaaaGreatYm
namespace Go.Proofs.YtjgjhfeopmakaaaGreat
open Go.ChangeShapes Go.WideShapes Go.RowKit Go.Deep

theorem cellsMan : Tryz.prog.cellsOf 42 = 9 := by kernel_rfl
def ManHere (w : World) (a : Addr) (c : ManL) : Prop := w.cell? (a.add 0) = some (.int .i64 c.power) ∧ w.cell? (a.add 1) = some (.int .i64 c.tough) ∧ w.cell? (a.add 2) = some (.int .i64 c.keys) ∧ w.cell? (a.add 3) = some (.int .i64 c.owner) ∧ w.cell? (a.add 4) = some (.int .i64 c.hurt) ∧ w.cell? (a.add 5) = some (.int .i64 c.block) ∧ w.cell? (a.add 6) = some (.bool c.tapped) ∧ w.cell? (a.add 7) = some (.bool c.sick) ∧ w.cell? (a.add 8) = some (.bool c.attacks)
set_option maxRecDepth 100000 in
theorem open_mans {H : Type} {enc : TypeId × Value → H} {w : World} {base : Nat} {v : Value} {d : DataW H} {p : List MemPlace} (hv : Value.okWide Tryz.prog w .any base 22 v) (h : DataW.Trod enc Tryz.prog w 0 (fun _ => true) true 22 v d p) :
    ∃ l : List ManL, MansAt w v l ∧ l.length ≤ maxLen ∧ ∀ x ∈ l, Wf x.owner := by
  obtain ⟨a0, len0, cap0, rfl⟩ := okWide_slice Tryz.underlying22 hv
  obtain ⟨fuel, h⟩ := h
  rcases open_slice_fields Tryz.underlying22 Tryz.underlying42 (by kernel_rfl) cellsMan h with ⟨h1, _⟩ | ⟨a, len, cap, m, D, Pl, hcs, _, hl, hm, hmm, _, hi⟩
  · exact ⟨[], .inl ⟨_, _, List.cons.inj h1 |>.1, rfl⟩, Nat.zero_le _, fun x hx => by cases hx⟩
  · have hv2 : Value.slice a0 len0 cap0 = .slice (some a) len cap := (List.cons.inj hcs).1
    rw [hv2]
    rw [if_pos rfl] at hmm
    subst hmm
    by_cases h0 : len = 0
    · subst h0
      exact ⟨[], .inl ⟨_, _, rfl, rfl⟩, Nat.zero_le _, fun x hx => by cases hx⟩
    · have hop : ∀ i, i < len → ∃ c : ManL, ManHere w (a.add (i * 9)) c ∧ Wf c.owner := by
        intro i hil
        obtain ⟨ys, n', _, _, _, hf⟩ := hi i (Nat.lt_of_lt_of_le hil hl)
        obtain ⟨v0, z0, a0, _, g0⟩ := hf 0 _ rfl
        obtain ⟨v1, z1, a1, _, g1⟩ := hf 1 _ rfl
        obtain ⟨v2, z2, a2, _, g2⟩ := hf 2 _ rfl
        obtain ⟨v3, z3, a3, _, g3⟩ := hf 3 _ rfl
        obtain ⟨v4, z4, a4, _, g4⟩ := hf 4 _ rfl
        obtain ⟨v5, z5, a5, _, g5⟩ := hf 5 _ rfl
        obtain ⟨v6, z6, a6, _, g6⟩ := hf 6 _ rfl
        obtain ⟨v7, z7, a7, _, g7⟩ := hf 7 _ rfl
        obtain ⟨v8, z8, a8, _, g8⟩ := hf 8 _ rfl
        obtain ⟨x0, q0, _, w0⟩ := DataW.trod_int Tryz.underlying3 g0
        obtain ⟨x1, q1, _, w1⟩ := DataW.trod_int Tryz.underlying3 g1
        obtain ⟨x2, q2, _, w2⟩ := DataW.trod_int Tryz.underlying3 g2
        obtain ⟨x3, q3, _, w3⟩ := DataW.trod_int Tryz.underlying3 g3
        obtain ⟨x4, q4, _, w4⟩ := DataW.trod_int Tryz.underlying3 g4
        obtain ⟨x5, q5, _, w5⟩ := DataW.trod_int Tryz.underlying3 g5
        obtain ⟨x6, q6, _⟩ := DataW.trod_bool Tryz.underlying4 g6
        obtain ⟨x7, q7, _⟩ := DataW.trod_bool Tryz.underlying4 g7
        obtain ⟨x8, q8, _⟩ := DataW.trod_bool Tryz.underlying4 g8
        rw [cell_int q0] at a0
        rw [cell_int q1] at a1
        rw [cell_int q2] at a2
        rw [cell_int q3] at a3
        rw [cell_int q4] at a4
        rw [cell_int q5] at a5
        rw [cell_bool q6] at a6
        rw [cell_bool q7] at a7
        rw [cell_bool q8] at a8
        refine ⟨⟨x0, x1, x2, x3, x4, x5, x6, x7, x8⟩, ⟨?_, ?_, ?_, ?_, ?_, ?_, ?_, ?_, ?_⟩, wf_int w3⟩ <;> rw [Go.Deep.add_add] <;> assumption
      obtain ⟨f, hf⟩ : ∃ f : Nat → ManL, ∀ i, i < len → ManHere w (a.add (i * 9)) (f i) ∧ Wf (f i).owner := by
        refine ⟨fun i => if h : i < len then (hop i h).choose else ⟨0, 0, 0, 0, 0, 0, false, false, false⟩, fun i hil => ?_⟩
        simp only [dif_pos hil]
        exact (hop i hil).choose_spec
      obtain ⟨b, off, spot⟩ := a
      have hspot : spot = none := by
        have c0 := (hf 0 (Nat.pos_of_ne_zero h0)).1.1
        have := World.cell?_spot c0
        simpa [Addr.add] using this
      subst hspot
      have hlen : ((List.range len).map f).length = len := by rw [List.length_map, List.length_range]
      refine ⟨(List.range len).map f, .inr ⟨b, off, m, by rw [hlen], ?_, fun i hil => ?_⟩, by rw [hlen]; exact Nat.le_trans hl hm, fun x hx => ?_⟩
      · have c0 := (hf 0 (Nat.pos_of_ne_zero h0)).1.1
        rw [addr_at2, addr_at2] at c0
        exact World.block_lt_of_cell? w _ c0
      · rw [hlen] at hil
        have hgi : ((List.range len).map f)[i] = f i := by rw [List.getElem_map, List.getElem_range]
        rw [hgi]
        obtain ⟨c0, c1, c2, c3, c4, c5, c6, c7, c8⟩ := (hf i hil).1
        simp only [addr_at2, Nat.add_zero] at c0 c1 c2 c3 c4 c5 c6 c7 c8
        exact ⟨c0, c1, c2, c3, c4, c5, c6, c7, c8⟩
      · obtain ⟨i, hi2, rfl⟩ := List.mem_map.1 hx
        exact (hf i (List.mem_range.1 hi2)).2
theorem open_agg4 {H : Type} {enc : TypeId × Value → H} {P : Program} {w : World} {base : Nat} {spare : Nat → Bool} {held : Bool} {r : Reach} {b0 : Nat} {t : TypeId} {f0 f1 f2 f3 : Field} {v : Value} {d : DataW H} {p : List MemPlace} (hs : P.underlying t = some (.struct #[f0, f1, f2, f3])) (hone : oneCellFields P #[f0, f1, f2, f3] = true) (hC : P.cellsOf t = 4)
    (hv : Value.okWide P w r b0 t v) (h : DataW.Trod enc P w base spare held t v d p) :
    ∃ (v0 v1 v2 v3 : Value) (y0 y1 y2 y3 : DataW H × List MemPlace) (n : Nat), v = .agg #[v0, v1, v2, v3] ∧ DataW.trod enc P w base spare held n f0.type [v0] = some y0 ∧ DataW.trod enc P w base spare held n f1.type [v1] = some y1 ∧ DataW.trod enc P w base spare held n f2.type [v2] = some y2 ∧ DataW.trod enc P w base spare held n f3.type [v3] = some y3 := by
  obtain ⟨cs, rfl, hsz⟩ := okWide_struct hs hv
  obtain ⟨l⟩ := cs
  match l, hsz.trans hC with
  | [c0, c1, c2, c3], _ =>
    obtain ⟨fuel, hf⟩ := h
    obtain ⟨xs, n, _, hx, _, hlen, hg⟩ := DataW.trod_struct hs hf
    obtain ⟨o0, k0⟩ := hone_of hone 0 f0 rfl
    obtain ⟨o1, k1⟩ := hone_of hone 1 f1 rfl
    obtain ⟨o2, k2⟩ := hone_of hone 2 f2 rfl
    obtain ⟨o3, k3⟩ := hone_of hone 3 f3 rfl
    match xs, hlen with
    | [y0, y1, y2, y3], _ =>
      exact ⟨c0, c1, c2, c3, y0, y1, y2, y3, n, rfl, by simpa [Value.cells, o0, k0] using hg 0 f0 rfl, by simpa [Value.cells, o1, k1] using hg 1 f1 rfl, by simpa [Value.cells, o2, k2] using hg 2 f2 rfl, by simpa [Value.cells, o3, k3] using hg 3 f3 rfl⟩

theorem cellsMove : Tryz.prog.cellsOf 24 = 4 := by kernel_rfl
set_option maxRecDepth 100000 in
theorem open_move {H : Type} {enc : TypeId × Value → H} {w : World} {base : Nat} {v : Value} {d : DataW H} {p : List MemPlace} (hv : Value.okWide Tryz.prog w .any base 24 v) (h : DataW.Trod enc Tryz.prog w 0 (fun _ => true) true 24 v d p) :
    ∃ a b c d : Int, v = .agg #[.int .i64 a, .int .i64 b, .int .i64 c, .int .i64 d] := by
  obtain ⟨v0, v1, v2, v3, y0, y1, y2, y3, n, rfl, g0, g1, g2, g3⟩ := open_agg4 Tryz.underlying24 (by kernel_rfl) cellsMove hv h
  obtain ⟨x0, q0, _, _⟩ := DataW.trod_int Tryz.underlying3 g0
  obtain ⟨x1, q1, _, _⟩ := DataW.trod_int Tryz.underlying3 g1
  obtain ⟨x2, q2, _, _⟩ := DataW.trod_int Tryz.underlying3 g2
  obtain ⟨x3, q3, _, _⟩ := DataW.trod_int Tryz.underlying3 g3
  rw [cell_int q0, cell_int q1, cell_int q2, cell_int q3]
  exact ⟨x0, x1, x2, x3, rfl⟩
end Go.Proofs.YtjgjhfeopmakaaaGreat

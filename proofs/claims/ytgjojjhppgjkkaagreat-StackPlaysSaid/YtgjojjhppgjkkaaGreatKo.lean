/- Arguments of stack's laws (layer 12): entries, an entry, calls. -/
import Derived.Test.YtgjojjhppgjkkaaGreatAq
import Derived.Test.YtgjojjhppgjkkaaGreatKa
namespace Go.Proofs.YtgjojjhppgjkkaaGreat
open Go.ChangeShapes Go.WideShapes Go.RowKit Go.Deep

theorem cellsEn : Tryz.prog.cellsOf 59 = 4 := by kernel_rfl
def EntHere (w : World) (a : Addr) (c : EntL) : Prop := w.cell? (a.add 0) = some (.int .i64 c.seat) ∧ w.cell? (a.add 1) = some (.int .i64 c.obj) ∧ w.cell? (a.add 2) = some (.int .i64 c.pos) ∧ w.cell? (a.add 3) = some (.bool c.trig)
set_option maxRecDepth 100000 in
theorem open_ents {H : Type} {enc : TypeId × Value → H} {w : World} {base : Nat} {v : Value} {d : DataW H} {p : List MemPlace} (hv : Value.okWide Tryz.prog w .any base 57 v) (h : DataW.Trod enc Tryz.prog w 0 (fun _ => true) true 57 v d p) :
    ∃ l : List EntL, EntsAt w v l ∧ l.length ≤ maxLen := by
  obtain ⟨a0, len0, cap0, rfl⟩ := okWide_slice Tryz.underlying57 hv
  obtain ⟨fuel, h⟩ := h
  rcases open_slice_fields Tryz.underlying57 Tryz.underlying59 (by kernel_rfl) cellsEn h with ⟨h1, _⟩ | ⟨a, len, cap, m, D, Pl, hcs, _, hl, hm, hmm, _, hi⟩
  · exact ⟨[], .inl ⟨_, _, List.cons.inj h1 |>.1, rfl⟩, Nat.zero_le _⟩
  · have hv2 : Value.slice a0 len0 cap0 = .slice (some a) len cap := (List.cons.inj hcs).1
    rw [hv2]
    rw [if_pos rfl] at hmm
    subst hmm
    by_cases h0 : len = 0
    · subst h0
      exact ⟨[], .inl ⟨_, _, rfl, rfl⟩, Nat.zero_le _⟩
    · have hop : ∀ i, i < len → ∃ c : EntL, EntHere w (a.add (i * 4)) c := by
        intro i hil
        obtain ⟨ys, n', _, _, _, hf⟩ := hi i (Nat.lt_of_lt_of_le hil hl)
        obtain ⟨v0, z0, a0, _, g0⟩ := hf 0 _ rfl
        obtain ⟨v1, z1, a1, _, g1⟩ := hf 1 _ rfl
        obtain ⟨v2, z2, a2, _, g2⟩ := hf 2 _ rfl
        obtain ⟨v3, z3, a3, _, g3⟩ := hf 3 _ rfl
        obtain ⟨x0, q0, _, _⟩ := DataW.trod_int Tryz.underlying3 g0
        obtain ⟨x1, q1, _, _⟩ := DataW.trod_int Tryz.underlying3 g1
        obtain ⟨x2, q2, _, _⟩ := DataW.trod_int Tryz.underlying3 g2
        obtain ⟨x3, q3, _⟩ := DataW.trod_bool Tryz.underlying4 g3
        rw [cell_int q0] at a0
        rw [cell_int q1] at a1
        rw [cell_int q2] at a2
        rw [cell_bool q3] at a3
        refine ⟨⟨x0, x1, x2, x3⟩, ?_, ?_, ?_, ?_⟩ <;> rw [Go.Deep.add_add] <;> assumption
      obtain ⟨f, hf⟩ : ∃ f : Nat → EntL, ∀ i, i < len → EntHere w (a.add (i * 4)) (f i) := by
        refine ⟨fun i => if h : i < len then (hop i h).choose else ⟨0, 0, 0, false⟩, fun i hil => ?_⟩
        simp only [dif_pos hil]
        exact (hop i hil).choose_spec
      obtain ⟨b, off, spot⟩ := a
      have hspot : spot = none := by
        have c0 := (hf 0 (Nat.pos_of_ne_zero h0)).1
        have := World.cell?_spot c0
        simpa [Addr.add] using this
      subst hspot
      have hlen : ((List.range len).map f).length = len := by rw [List.length_map, List.length_range]
      refine ⟨(List.range len).map f, .inr ⟨b, off, m, by rw [hlen], ?_, fun i hil => ?_⟩, by rw [hlen]; exact Nat.le_trans hl hm⟩
      · have c0 := (hf 0 (Nat.pos_of_ne_zero h0)).1
        rw [addr_at2, addr_at2] at c0
        exact World.block_lt_of_cell? w _ c0
      · rw [hlen] at hil
        have hgi : ((List.range len).map f)[i] = f i := by rw [List.getElem_map, List.getElem_range]
        rw [hgi]
        obtain ⟨c0, c1, c2, c3⟩ := hf i hil
        simp only [addr_at2, Nat.add_zero] at c0 c1 c2 c3
        exact ⟨c0, c1, c2, c3⟩
set_option maxRecDepth 100000 in
/-- An entry's cells, as a datum's reading finds them. -/
theorem trod_ent {H : Type} {enc : TypeId × Value → H} {w : World} {n : Nat} {c0 c1 c2 c3 : Value} {y : DataW H × List MemPlace} (h : DataW.trod enc Tryz.prog w 0 (fun _ => true) true n 59 [c0, c1, c2, c3] = some y) :
    ∃ x : EntL, c0 = .int .i64 x.seat ∧ c1 = .int .i64 x.obj ∧ c2 = .int .i64 x.pos ∧ c3 = .bool x.trig := by
  obtain ⟨xs, n, _, _, _, hlen, hg⟩ := DataW.trod_struct Tryz.underlying59 h
  match xs, hlen with
  | [y0, y1, y2, y3], _ =>
    have hc1 : Tryz.prog.cellsOf 3 = 1 := by kernel_rfl
    have hcb : Tryz.prog.cellsOf 4 = 1 := by kernel_rfl
    have g0 : DataW.trod enc Tryz.prog w 0 (fun _ => true) true n 3 (([c0, c1, c2, c3].drop 0).take (Tryz.prog.cellsOf 3)) = some y0 := hg 0 _ rfl
    have g1 : DataW.trod enc Tryz.prog w 0 (fun _ => true) true n 3 (([c0, c1, c2, c3].drop 1).take (Tryz.prog.cellsOf 3)) = some y1 := hg 1 _ rfl
    have g2 : DataW.trod enc Tryz.prog w 0 (fun _ => true) true n 3 (([c0, c1, c2, c3].drop 2).take (Tryz.prog.cellsOf 3)) = some y2 := hg 2 _ rfl
    have g3 : DataW.trod enc Tryz.prog w 0 (fun _ => true) true n 4 (([c0, c1, c2, c3].drop 3).take (Tryz.prog.cellsOf 4)) = some y3 := hg 3 _ rfl
    rw [hc1] at g0 g1 g2
    rw [hcb] at g3
    have g0 : DataW.trod enc Tryz.prog w 0 (fun _ => true) true n 3 [c0] = some y0 := by simpa [Value.cells] using g0
    have g1 : DataW.trod enc Tryz.prog w 0 (fun _ => true) true n 3 [c1] = some y1 := by simpa [Value.cells] using g1
    have g2 : DataW.trod enc Tryz.prog w 0 (fun _ => true) true n 3 [c2] = some y2 := by simpa [Value.cells] using g2
    have g3 : DataW.trod enc Tryz.prog w 0 (fun _ => true) true n 4 [c3] = some y3 := by simpa [Value.cells] using g3
    obtain ⟨x0, q0, _, _⟩ := DataW.trod_int Tryz.underlying3 g0
    obtain ⟨x1, q1, _, _⟩ := DataW.trod_int Tryz.underlying3 g1
    obtain ⟨x2, q2, _, _⟩ := DataW.trod_int Tryz.underlying3 g2
    obtain ⟨x3, q3, _⟩ := DataW.trod_bool Tryz.underlying4 g3
    exact ⟨⟨x0, x1, x2, x3⟩, cell_int q0, cell_int q1, cell_int q2, cell_bool q3⟩
set_option maxRecDepth 100000 in
theorem open_ent {H : Type} {enc : TypeId × Value → H} {w : World} {base : Nat} {v : Value} {d : DataW H} {p : List MemPlace} (hv : Value.okWide Tryz.prog w .any base 59 v) (h : DataW.Trod enc Tryz.prog w 0 (fun _ => true) true 59 v d p) :
    ∃ x : EntL, v = entV x := by
  obtain ⟨cs, rfl, hsz⟩ := okWide_struct Tryz.underlying59 hv
  obtain ⟨l⟩ := cs
  match l, hsz.trans cellsEn with
  | [c0, c1, c2, c3], _ =>
    obtain ⟨fuel, hf⟩ := h
    obtain ⟨x, rfl, rfl, rfl, rfl⟩ := trod_ent (c0 := c0) (c1 := c1) (c2 := c2) (c3 := c3) (n := fuel) (y := (d, p)) hf
    exact ⟨x, rfl⟩
end Go.Proofs.YtgjojjhppgjkkaaGreat

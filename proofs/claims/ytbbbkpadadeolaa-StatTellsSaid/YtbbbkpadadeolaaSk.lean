/- Arguments of the laws of layer 8: a small number, three numbers, a list of sets: opened to what they hold. -/
import Derived.Test.YtbbbkpadadeolaaJp
import Derived.Test.YtbbbkpadadeolaaSe
namespace Go.Proofs.Ytbbbkpadadeolaa
open Go.ChangeShapes Go.WideShapes Go.RowKit Go.Deep

set_option maxRecDepth 100000 in
theorem open_u8 {H : Type} {enc : TypeId × Value → H} {w : World} {base : Nat} {v : Value} {d : DataW H} {p : List MemPlace} (hv : Value.okWide Try.prog w .any base 5 v) (h : DataW.Trod enc Try.prog w 0 (fun _ => true) true 5 v d p) :
    ∃ n : Nat, v = .int .u8 n ∧ n < 256 := by
  obtain ⟨a, rfl, rfl, rfl, wa⟩ := open_int Try.underlying5 hv h
  simp [Lit.wf, IntKind.min, IntKind.max, IntKind.signed, IntKind.bits] at wa
  refine ⟨a.toNat, ?_, by omega⟩
  rw [Int.toNat_of_nonneg wa.1]
theorem cellsSt : Try.prog.cellsOf 64 = 3 := by kernel_rfl
def SetHere (w : World) (a : Addr) (c : SetL) : Prop := w.cell? (a.add 0) = some (.int .i64 c.hurt) ∧ w.cell? (a.add 1) = some (.int .i64 c.count) ∧ w.cell? (a.add 2) = some (.int .i64 c.boost)
set_option maxRecDepth 100000 in
theorem open_sets {H : Type} {enc : TypeId × Value → H} {w : World} {base : Nat} {v : Value} {d : DataW H} {p : List MemPlace} (hv : Value.okWide Try.prog w .any base 23 v) (h : DataW.Trod enc Try.prog w 0 (fun _ => true) true 23 v d p) :
    ∃ l : List SetL, SetsAt w v l ∧ l.length ≤ maxLen := by
  obtain ⟨a0, len0, cap0, rfl⟩ := okWide_slice Try.underlying23 hv
  obtain ⟨fuel, h⟩ := h
  rcases open_slice_fields Try.underlying23 Try.underlying64 (by kernel_rfl) cellsSt h with ⟨h1, _⟩ | ⟨a, len, cap, m, D, Pl, hcs, _, hl, hm, hmm, _, hi⟩
  · exact ⟨[], .inl ⟨_, _, List.cons.inj h1 |>.1, rfl⟩, Nat.zero_le _⟩
  · have hv2 : Value.slice a0 len0 cap0 = .slice (some a) len cap := (List.cons.inj hcs).1
    rw [hv2]
    rw [if_pos rfl] at hmm
    subst hmm
    by_cases h0 : len = 0
    · subst h0
      exact ⟨[], .inl ⟨_, _, rfl, rfl⟩, Nat.zero_le _⟩
    · have hop : ∀ i, i < len → ∃ c : SetL, SetHere w (a.add (i * 3)) c := by
        intro i hil
        obtain ⟨ys, n', _, _, _, hf⟩ := hi i (Nat.lt_of_lt_of_le hil hl)
        obtain ⟨v0, z0, a0, _, g0⟩ := hf 0 _ rfl
        obtain ⟨v1, z1, a1, _, g1⟩ := hf 1 _ rfl
        obtain ⟨v2, z2, a2, _, g2⟩ := hf 2 _ rfl
        obtain ⟨x0, q0, _, _⟩ := DataW.trod_int Try.underlying3 g0
        obtain ⟨x1, q1, _, _⟩ := DataW.trod_int Try.underlying3 g1
        obtain ⟨x2, q2, _, _⟩ := DataW.trod_int Try.underlying3 g2
        rw [cell_int q0] at a0
        rw [cell_int q1] at a1
        rw [cell_int q2] at a2
        refine ⟨⟨x0, x1, x2⟩, ?_, ?_, ?_⟩ <;> rw [Go.Deep.add_add] <;> assumption
      obtain ⟨f, hf⟩ : ∃ f : Nat → SetL, ∀ i, i < len → SetHere w (a.add (i * 3)) (f i) := by
        refine ⟨fun i => if h : i < len then (hop i h).choose else ⟨0, 0, 0⟩, fun i hil => ?_⟩
        simp only [dif_pos hil]
        exact (hop i hil).choose_spec
      obtain ⟨b, off, spot⟩ := a
      have hspot : spot = none := by
        have c0 := (hf 0 (Nat.pos_of_ne_zero h0)).1
        have := World.cell?_spot c0
        simpa [Addr.add] using this
      subst hspot
      have hlen : ((List.range len).map f).length = len := by rw [List.length_map, List.length_range]
      refine ⟨(List.range len).map f, .inr ⟨b, off, m, by rw [hlen], ?_, fun i hil => ?_⟩, by rw [hlen]; exact Nat.le_trans hl hm⟩
      · have c0 := (hf 0 (Nat.pos_of_ne_zero h0)).1
        rw [addr_at2, addr_at2] at c0
        exact World.block_lt_of_cell? w _ c0
      · rw [hlen] at hil
        have hgi : ((List.range len).map f)[i] = f i := by rw [List.getElem_map, List.getElem_range]
        rw [hgi]
        obtain ⟨c0, c1, c2⟩ := hf i hil
        simp only [addr_at2, Nat.add_zero] at c0 c1 c2
        exact ⟨c0, c1, c2⟩
set_option maxRecDepth 100000 in
theorem open_int3 {H : Type} {enc : TypeId × Value → H} {w : World} {base : Nat} {v : Value} {d : DataW H} {p : List MemPlace} (hv : Value.okWide Try.prog w .any base 49 v) (h : DataW.Trod enc Try.prog w 0 (fun _ => true) true 49 v d p) :
    ∃ a b c : Int, v = .agg #[.int .i64 a, .int .i64 b, .int .i64 c] := by
  obtain ⟨cs, rfl, hsz⟩ := okWide_arr Try.underlying49 hv
  obtain ⟨l⟩ := cs
  match l, hsz.trans (show Try.prog.cellsOf 49 = 3 by kernel_rfl) with
  | [c0, c1, c2], _ =>
    obtain ⟨fuel, hf⟩ := h
    obtain ⟨y0, y1, y2, n, _, g0, g1, g2⟩ := trod_array3 Try.underlying49 (by kernel_rfl) hf
    obtain ⟨x0, q0, _, _⟩ := DataW.trod_int Try.underlying3 g0
    obtain ⟨x1, q1, _, _⟩ := DataW.trod_int Try.underlying3 g1
    obtain ⟨x2, q2, _, _⟩ := DataW.trod_int Try.underlying3 g2
    rw [cell_int q0, cell_int q1, cell_int q2]
    exact ⟨x0, x1, x2, rfl⟩
end Go.Proofs.Ytbbbkpadadeolaa

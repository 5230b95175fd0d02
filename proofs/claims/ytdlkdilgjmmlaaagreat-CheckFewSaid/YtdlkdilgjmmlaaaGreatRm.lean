/- Arguments of the laws of layer 13: lists of triples, two numbers, a Fire, opened to what they hold. -/
import Derived.Test.YtdlkdilgjmmlaaaGreatRa
import Derived.Test.YtdlkdilgjmmlaaaGreatAq
namespace Go.Proofs.YtdlkdilgjmmlaaaGreat
open Go.ChangeShapes Go.WideShapes Go.RowKit Go.Deep

set_option maxRecDepth 100000 in
theorem open_int2 {H : Type} {enc : TypeId × Value → H} {w : World} {base : Nat} {v : Value} {d : DataW H} {p : List MemPlace} (hv : Value.okWide Tryz.prog w .any base 23 v) (h : DataW.Trod enc Tryz.prog w 0 (fun _ => true) true 23 v d p) :
    ∃ a b : Int, v = .agg #[.int .i64 a, .int .i64 b] := by
  obtain ⟨cs, rfl, hsz⟩ := okWide_arr Tryz.underlying23 hv
  obtain ⟨l⟩ := cs
  match l, hsz.trans (show Tryz.prog.cellsOf 23 = 2 by kernel_rfl) with
  | [c0, c1], _ =>
    obtain ⟨fuel, hf⟩ := h
    obtain ⟨xs, m, _, _, _, hl, hg⟩ := DataW.trod_array Tryz.underlying23 hf
    match xs, hl with
    | [y0, y1], _ =>
      have hc1 : Tryz.prog.cellsOf 3 = 1 := by kernel_rfl
      have g0 := hg 0 (by decide)
      have g1 := hg 1 (by decide)
      rw [hc1] at g0 g1
      have g0 : DataW.trod enc Tryz.prog w 0 (fun _ => true) true m 3 [c0] = some y0 := by simpa [Value.cells] using g0
      have g1 : DataW.trod enc Tryz.prog w 0 (fun _ => true) true m 3 [c1] = some y1 := by simpa [Value.cells] using g1
      obtain ⟨x0, q0, _, _⟩ := DataW.trod_int Tryz.underlying3 g0
      obtain ⟨x1, q1, _, _⟩ := DataW.trod_int Tryz.underlying3 g1
      rw [cell_int q0, cell_int q1]
      exact ⟨x0, x1, rfl⟩
set_option maxRecDepth 100000 in
theorem open_tris {H : Type} {enc : TypeId × Value → H} {w : World} {base : Nat} {v : Value} {d : DataW H} {p : List MemPlace} (hv : Value.okWide Tryz.prog w .any base 22 v) (h : DataW.Trod enc Tryz.prog w 0 (fun _ => true) true 22 v d p) :
    ∃ l : List TriL, TrisAt w v l ∧ l.length ≤ maxLen ∧ ∀ x ∈ l, Wf x.x ∧ Wf x.y ∧ Wf x.z := by
  obtain ⟨a0, len0, cap0, rfl⟩ := okWide_slice Tryz.underlying22 hv
  obtain ⟨fuel, h⟩ := h
  have hC : Tryz.prog.cellsOf 64 = 3 := by kernel_rfl
  rcases open_slice Tryz.underlying22 h with ⟨h1, _⟩ | ⟨a, len, cap, m, n, D, Pl, hcs, _, hl, hm, hmm, _, hi⟩
  · exact ⟨[], .inl ⟨_, _, List.cons.inj h1 |>.1, rfl⟩, Nat.zero_le _, fun x hx => by cases hx⟩
  · have hv2 : Value.slice a0 len0 cap0 = .slice (some a) len cap := (List.cons.inj hcs).1
    rw [hv2]
    rw [if_pos rfl] at hmm
    subst hmm
    by_cases h0 : len = 0
    · subst h0
      exact ⟨[], .inl ⟨_, _, rfl, rfl⟩, Nat.zero_le _, fun x hx => by cases hx⟩
    · have hop : ∀ i, i < len → ∃ c : TriL, (w.cell? (a.add (i * 3 + 0)) = some (.int .i64 c.x) ∧ w.cell? (a.add (i * 3 + 1)) = some (.int .i64 c.y) ∧ w.cell? (a.add (i * 3 + 2)) = some (.int .i64 c.z)) ∧ Wf c.x ∧ Wf c.y ∧ Wf c.z := by
        intro i hil
        obtain ⟨cs', hc, ht'⟩ := hi i (Nat.lt_of_lt_of_le hil hl)
        rw [hC] at hc
        obtain ⟨_, hcl, hat⟩ := World.cells?_some hc
        match cs', hcl with
        | [c0, c1, c2], _ =>
          obtain ⟨y0, y1, y2, n', _, g0, g1, g2⟩ := trod_array3 Tryz.underlying64 (by kernel_rfl) ht'
          obtain ⟨x0, q0, _, w0⟩ := DataW.trod_int Tryz.underlying3 g0
          obtain ⟨x1, q1, _, w1⟩ := DataW.trod_int Tryz.underlying3 g1
          obtain ⟨x2, q2, _, w2⟩ := DataW.trod_int Tryz.underlying3 g2
          have a0 := hat 0 (by decide)
          have a1 := hat 1 (by decide)
          have a2 := hat 2 (by decide)
          rw [Go.Deep.add_add] at a0 a1 a2
          refine ⟨⟨x0, x1, x2⟩, ⟨?_, ?_, ?_⟩, wf_int w0, wf_int w1, wf_int w2⟩
          · rw [a0, ← cell_int q0]; rfl
          · rw [a1, ← cell_int q1]; rfl
          · rw [a2, ← cell_int q2]; rfl
      obtain ⟨f, hf⟩ : ∃ f : Nat → TriL, ∀ i, i < len → (w.cell? (a.add (i * 3 + 0)) = some (.int .i64 (f i).x) ∧ w.cell? (a.add (i * 3 + 1)) = some (.int .i64 (f i).y) ∧ w.cell? (a.add (i * 3 + 2)) = some (.int .i64 (f i).z)) ∧ Wf (f i).x ∧ Wf (f i).y ∧ Wf (f i).z := by
        refine ⟨fun i => if h : i < len then (hop i h).choose else ⟨0, 0, 0⟩, fun i hil => ?_⟩
        simp only [dif_pos hil]
        exact (hop i hil).choose_spec
      obtain ⟨b, off, spot⟩ := a
      have hspot : spot = none := by
        have c0 := (hf 0 (Nat.pos_of_ne_zero h0)).1.1
        have := World.cell?_spot c0
        simpa [Addr.add] using this
      subst hspot
      have hlen : ((List.range len).map f).length = len := by rw [List.length_map, List.length_range]
      refine ⟨(List.range len).map f, .inr ⟨b, off, _, by rw [hlen], ?_, fun i hil => ?_⟩, by rw [hlen]; exact Nat.le_trans hl hm, fun x hx => ?_⟩
      · have c0 := (hf 0 (Nat.pos_of_ne_zero h0)).1.1
        rw [addr_at2] at c0
        exact World.block_lt_of_cell? w _ c0
      · rw [hlen] at hil
        have hgi : ((List.range len).map f)[i] = f i := by rw [List.getElem_map, List.getElem_range]
        rw [hgi]
        obtain ⟨⟨c0, c1, c2⟩, _⟩ := hf i hil
        simp only [addr_at2, Nat.add_zero] at c0 c1 c2
        exact ⟨c0, c1, c2⟩
      · obtain ⟨i, hi, rfl⟩ := List.mem_map.1 hx
        exact (hf i (List.mem_range.1 hi)).2
set_option maxRecDepth 100000 in
theorem open_nums1 {H : Type} {enc : TypeId × Value → H} {w : World} {fuel : Nat} {v : Value} {x : DataW H × List MemPlace} (h : DataW.trod enc Tryz.prog w 0 (fun _ => true) true fuel 24 [v] = some x) :
    ∃ l : List Int, IntsAt w v l ∧ l.length ≤ maxLen := by
  rcases open_ints Tryz.underlying24 Tryz.underlying3 cellsI h with ⟨hcs, _⟩ | ⟨ad, len', cap', zs, hcs, _, hl, hm, hz, hx, hcell, hwz⟩
  · exact ⟨[], .inl ⟨_, _, (List.cons.inj hcs).1, rfl⟩, Nat.zero_le _⟩
  · have hv2 : v = .slice (some ad) len' cap' := (List.cons.inj hcs).1
    rw [hv2]
    simp only [if_true] at hz
    by_cases h0 : len' = 0
    · subst h0
      exact ⟨[], .inl ⟨_, _, rfl, rfl⟩, Nat.zero_le _⟩
    · have hlen : (zs.take len').length = len' := by rw [List.length_take]; omega
      obtain ⟨b, off, spot⟩ := ad
      have hspot : spot = none := by simpa [Addr.add] using World.cell?_spot (hcell 0 (by omega))
      subst hspot
      refine ⟨zs.take len', .inr ⟨b, off, cap', by rw [intsV_len, hlen], ?_, fun i hi => ?_⟩, by rw [hlen]; omega⟩
      · have := hcell 0 (by omega)
        rw [addr_at2] at this
        exact World.block_lt_of_cell? w _ this
      · rw [intsV_len, hlen] at hi
        have := hcell i (by omega)
        rw [addr_at2] at this
        rw [this]
        simp [intsV, List.getD, show i < zs.length by omega]
end Go.Proofs.YtdlkdilgjmmlaaaGreat

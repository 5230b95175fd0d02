/- A list of cards, and a list of numbers, as arguments: opened to what they hold. -/
import Derived.Test.YtcbjekdbkhibbaaOp
import Derived.Test.YtcbjekdbkhibbaaDc
namespace Go.Proofs.Ytcbjekdbkhibbaa
open Go.ChangeShapes Go.WideShapes Go.RowKit Go.Deep

/-- What a place holds, if a card. -/
def CardHere (w : World) (a : Addr) (c : CardL) : Prop :=
  c.terms.length ≤ maxLen ∧ ∃ ya yc, w.cell? (a.add 0) = some (.int .i64 c.kind) ∧ w.cell? (a.add 1) = some (.int .i64 c.cost) ∧ w.cell? (a.add 2) = some (.int .i64 c.power) ∧ w.cell? (a.add 3) = some (.int .i64 c.tough) ∧
    w.cell? (a.add 4) = some (.int .i64 c.keys) ∧ w.cell? (a.add 5) = some (.int .i64 c.whn) ∧ w.cell? (a.add 6) = some (.slice ya c.terms.length yc) ∧ TermsIs w (.slice ya c.terms.length yc) c.terms
theorem addr_at (b off k : Nat) : (⟨b, off, none⟩ : Addr).add k = ⟨b, off + k, none⟩ := by simp [Addr.add]

set_option maxRecDepth 100000 in
theorem open_cards {H : Type} {enc : TypeId × Value → H} {w : World} {base : Nat} {v : Value} {d : DataW H} {p : List MemPlace} (hv : Value.okWide Try.prog w .any base 85 v) (h : DataW.Trod enc Try.prog w 0 (fun _ => true) true 85 v d p) :
    ∃ l : List CardL, CardsAt w v l ∧ l.length ≤ maxLen ∧ SmallC l := by
  obtain ⟨a0, len0, cap0, rfl⟩ := okWide_slice Try.underlying85 hv
  obtain ⟨fuel, h⟩ := h
  rcases open_slice_fields Try.underlying85 Try.underlying65 (by kernel_rfl) cellsC h with ⟨h1, _⟩ | ⟨a, len, cap, m, D, Pl, hcs, _, hl, hm, hmm, _, hi⟩
  · exact ⟨[], .inl ⟨_, _, List.cons.inj h1 |>.1, rfl⟩, Nat.zero_le _, fun c hc => by cases hc⟩
  · have hv2 : Value.slice a0 len0 cap0 = .slice (some a) len cap := (List.cons.inj hcs).1
    rw [hv2]
    rw [if_pos rfl] at hmm
    subst hmm
    by_cases h0 : len = 0
    · subst h0
      exact ⟨[], .inl ⟨_, _, rfl, rfl⟩, Nat.zero_le _, fun c hc => by cases hc⟩
    · have hcard : ∀ i, i < len → ∃ c : CardL, CardHere w (a.add (i * 7)) c := by
        intro i hil
        obtain ⟨ys, n', _, _, _, hf⟩ := hi i (Nat.lt_of_lt_of_le hil hl)
        obtain ⟨v0, z0, a0, _, g0⟩ := hf 0 _ rfl
        obtain ⟨v1, z1, a1, _, g1⟩ := hf 1 _ rfl
        obtain ⟨v2, z2, a2, _, g2⟩ := hf 2 _ rfl
        obtain ⟨v3, z3, a3, _, g3⟩ := hf 3 _ rfl
        obtain ⟨v4, z4, a4, _, g4⟩ := hf 4 _ rfl
        obtain ⟨v5, z5, a5, _, g5⟩ := hf 5 _ rfl
        obtain ⟨v6, z6, a6, _, g6⟩ := hf 6 _ rfl
        obtain ⟨x0, q0, _, _⟩ := DataW.trod_int Try.underlying3 g0
        obtain ⟨x1, q1, _, _⟩ := DataW.trod_int Try.underlying3 g1
        obtain ⟨x2, q2, _, _⟩ := DataW.trod_int Try.underlying3 g2
        obtain ⟨x3, q3, _, _⟩ := DataW.trod_int Try.underlying3 g3
        obtain ⟨x4, q4, _, _⟩ := DataW.trod_int Try.underlying3 g4
        obtain ⟨x5, q5, _, _⟩ := DataW.trod_int Try.underlying3 g5
        obtain ⟨tl, ta, tc, rfl, htl, htt⟩ := open_terms g6
        rw [one_int q0] at a0
        rw [one_int q1] at a1
        rw [one_int q2] at a2
        rw [one_int q3] at a3
        rw [one_int q4] at a4
        rw [one_int q5] at a5
        refine ⟨⟨x0, x1, x2, x3, x4, x5, tl⟩, htl, ta, tc, ?_, ?_, ?_, ?_, ?_, ?_, ?_, htt⟩ <;> rw [Go.Deep.add_add] <;> assumption
      obtain ⟨f, hf⟩ : ∃ f : Nat → CardL, ∀ i, i < len → CardHere w (a.add (i * 7)) (f i) := by
        refine ⟨fun i => if h : i < len then (hcard i h).choose else zeroC, fun i hil => ?_⟩
        simp only [dif_pos hil]
        exact (hcard i hil).choose_spec
      obtain ⟨b, off, spot⟩ := a
      have hspot : spot = none := by
        obtain ⟨_, _, _, c0, _⟩ := hf 0 (Nat.pos_of_ne_zero h0)
        have := World.cell?_spot c0
        simpa [Addr.add] using this
      subst hspot
      have hlen : ((List.range len).map f).length = len := by rw [List.length_map, List.length_range]
      refine ⟨(List.range len).map f, .inr ⟨b, off, m, by rw [hlen], ?_, fun i hil => ?_⟩, by rw [hlen]; exact Nat.le_trans hl hm, fun c hc => ?_⟩
      · obtain ⟨_, _, _, c0, _⟩ := hf 0 (Nat.pos_of_ne_zero h0)
        rw [addr_at, addr_at] at c0
        exact World.block_lt_of_cell? w _ c0
      · rw [hlen] at hil
        have hgi : ((List.range len).map f)[i] = f i := by rw [List.getElem_map, List.getElem_range]
        rw [hgi]
        obtain ⟨_, ya, yc, c0, c1, c2, c3, c4, c5, c6, ht⟩ := hf i hil
        simp only [addr_at, Nat.add_zero] at c0 c1 c2 c3 c4 c5 c6
        exact ⟨ya, yc, c0, c1, c2, c3, c4, c5, c6, ht⟩
      · simp only [List.mem_map, List.mem_range] at hc
        obtain ⟨i, hil, rfl⟩ := hc
        have := (hf i hil).1
        unfold maxLen at this
        omega
theorem cellsI : Try.prog.cellsOf 3 = 1 := by kernel_rfl
/-- Each number is one of the machine's. -/
def WfI (l : List Int) : Prop := ∀ x ∈ l, (Lit.int .i64 x).wf = true
set_option maxRecDepth 100000 in
theorem open_nums {H : Type} {enc : TypeId × Value → H} {w : World} {base : Nat} {v : Value} {d : DataW H} {p : List MemPlace} (hv : Value.okWide Try.prog w .any base 51 v) (h : DataW.Trod enc Try.prog w 0 (fun _ => true) true 51 v d p) :
    ∃ l : List Int, IntsAt w v l ∧ l.length ≤ maxLen ∧ WfI l := by
  obtain ⟨a0, len0, cap0, rfl⟩ := okWide_slice Try.underlying51 hv
  obtain ⟨fuel, h⟩ := h
  rcases open_ints Try.underlying51 Try.underlying3 cellsI h with ⟨hcs, _⟩ | ⟨ad, len', cap', zs, hcs, _, hl, hm, hz, hx, hcell, hwz⟩
  · exact ⟨[], .inl ⟨_, _, (List.cons.inj hcs).1, rfl⟩, Nat.zero_le _, fun x hx => by cases hx⟩
  · have hv2 : Value.slice a0 len0 cap0 = .slice (some ad) len' cap' := (List.cons.inj hcs).1
    rw [hv2]
    simp only [if_true] at hz
    by_cases h0 : len' = 0
    · subst h0
      exact ⟨[], .inl ⟨_, _, rfl, rfl⟩, Nat.zero_le _, fun x hx => by cases hx⟩
    · have hlen : (zs.take len').length = len' := by rw [List.length_take]; omega
      obtain ⟨b, off, spot⟩ := ad
      have hspot : spot = none := by simpa [Addr.add] using World.cell?_spot (hcell 0 (by omega))
      subst hspot
      refine ⟨zs.take len', .inr ⟨b, off, cap', by rw [hlen], ?_, fun i hi => ?_⟩, by rw [hlen]; omega, fun x hx => hwz x (List.mem_of_mem_take hx)⟩
      · have := hcell 0 (by omega)
        rw [addr_at] at this
        exact World.block_lt_of_cell? w _ this
      · rw [hlen] at hi
        have := hcell i (by omega)
        rw [addr_at] at this
        rw [this]
        simp [List.getD, show i < zs.length by omega]
end Go.Proofs.Ytcbjekdbkhibbaa

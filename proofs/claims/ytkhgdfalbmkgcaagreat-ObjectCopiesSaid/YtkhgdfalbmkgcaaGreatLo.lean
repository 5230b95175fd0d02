/- A table, calls, a call, and two numbers, as arguments of the laws of layer 6: opened to what they hold. -/
import Derived.Test.YtkhgdfalbmkgcaaGreatLa
import Derived.Test.YtkhgdfalbmkgcaaGreatJp
namespace Go.Proofs.YtkhgdfalbmkgcaaGreat.Crd
open Go.ChangeShapes Go.WideShapes Go.RowKit Go.Deep
theorem cellsT : Tryz.prog.cellsOf 96 = 3 := by kernel_rfl
theorem cellsC : Tryz.prog.cellsOf 42 = 7 := by kernel_rfl
theorem one_int {x : Int} {v : Value} (h : [v] = [Value.int .i64 x]) : v = .int .i64 x := by injection h

set_option maxRecDepth 100000 in
/-- A list of terms, as a datum's reading finds it. -/
theorem open_terms {H : Type} {enc : TypeId × Value → H} {w : World} {n : Nat} {v : Value} {x : DataW H × List MemPlace} (h : DataW.trod enc Tryz.prog w 0 (fun _ => true) true n 40 [v] = some x) :
    ∃ (l : List TermL) (xa : Option Addr) (xc : Nat), v = .slice xa l.length xc ∧ l.length ≤ maxLen ∧ TermsIs w (.slice xa l.length xc) l := by
  rcases open_slice_fields Tryz.underlying40 Tryz.underlying96 (by kernel_rfl) cellsT h with ⟨h1, _⟩ | ⟨a, len, cap, m, D, Pl, hcs, _, hl, hm, hmm, _, hi⟩
  · injection h1 with h1 _
    exact ⟨[], none, 0, h1, Nat.zero_le _, .inl ⟨_, _, rfl, rfl⟩⟩
  · injection hcs with hv _
    subst hv
    rw [if_pos rfl] at hmm
    subst hmm
    by_cases h0 : len = 0
    · subst h0
      exact ⟨[], some a, m, rfl, Nat.zero_le _, .inl ⟨_, _, rfl, rfl⟩⟩
    · have hterm : ∀ i, i < len → ∃ t : TermL, w.cell? (a.add (i * 3)) = some (.int .i64 t.op) ∧ w.cell? (a.add (i * 3 + 1)) = some (.int .i64 t.n) ∧ w.cell? (a.add (i * 3 + 2)) = some (.int .i64 t.on) := by
        intro i hil
        obtain ⟨ys, n', _, _, _, hf⟩ := hi i (Nat.lt_of_lt_of_le hil hl)
        obtain ⟨v0, z0, a0, _, g0⟩ := hf 0 _ rfl
        obtain ⟨v1, z1, a1, _, g1⟩ := hf 1 _ rfl
        obtain ⟨v2, z2, a2, _, g2⟩ := hf 2 _ rfl
        obtain ⟨x0, q0, _, _⟩ := DataW.trod_int Tryz.underlying3 g0
        obtain ⟨x1, q1, _, _⟩ := DataW.trod_int Tryz.underlying3 g1
        obtain ⟨x2, q2, _, _⟩ := DataW.trod_int Tryz.underlying3 g2
        rw [one_int q0] at a0
        rw [one_int q1] at a1
        rw [one_int q2] at a2
        exact ⟨⟨x0, x1, x2⟩, a0, a1, a2⟩
      obtain ⟨f, hf⟩ : ∃ f : Nat → TermL, ∀ i, i < len → w.cell? (a.add (i * 3)) = some (.int .i64 (f i).op) ∧ w.cell? (a.add (i * 3 + 1)) = some (.int .i64 (f i).n) ∧ w.cell? (a.add (i * 3 + 2)) = some (.int .i64 (f i).on) := by
        refine ⟨fun i => if h : i < len then (hterm i h).choose else ⟨0, 0, 0⟩, fun i hil => ?_⟩
        simp only [dif_pos hil]
        exact (hterm i hil).choose_spec
      obtain ⟨b, off, spot⟩ := a
      have hspot : spot = none := by
        have := World.cell?_spot (hf 0 (Nat.pos_of_ne_zero h0)).1
        simpa [Addr.add] using this
      subst hspot
      have hadd : ∀ k, (⟨b, off, none⟩ : Addr).add k = ⟨b, off + k, none⟩ := fun k => by simp [Addr.add]
      have hlen : ((List.range len).map f).length = len := by rw [List.length_map, List.length_range]
      refine ⟨(List.range len).map f, some ⟨b, off, none⟩, m, by rw [hlen], by rw [hlen]; exact Nat.le_trans hl hm, .inr ⟨b, off, m, rfl, ?_, fun i hil => ?_⟩⟩
      · have := (hf 0 (Nat.pos_of_ne_zero h0)).1
        rw [hadd] at this
        exact World.block_lt_of_cell? w ⟨b, off + 0 * 3, none⟩ this
      · rw [hlen] at hil
        have hgi : ((List.range len).map f)[i] = f i := by rw [List.getElem_map, List.getElem_range]
        rw [hgi]
        have := hf i hil
        rw [hadd, hadd, hadd] at this
        exact this

/-- What a place holds, if a card. -/
def CardHere (w : World) (a : Addr) (c : CardL) : Prop :=
  c.terms.length ≤ maxLen ∧ ∃ ya yc, w.cell? (a.add 0) = some (.int .i64 c.kind) ∧ w.cell? (a.add 1) = some (.int .i64 c.cost) ∧ w.cell? (a.add 2) = some (.int .i64 c.power) ∧ w.cell? (a.add 3) = some (.int .i64 c.tough) ∧
    w.cell? (a.add 4) = some (.int .i64 c.keys) ∧ w.cell? (a.add 5) = some (.int .i64 c.whn) ∧ w.cell? (a.add 6) = some (.slice ya c.terms.length yc) ∧ TermsIs w (.slice ya c.terms.length yc) c.terms
theorem addr_at (b off k : Nat) : (⟨b, off, none⟩ : Addr).add k = ⟨b, off + k, none⟩ := by simp [Addr.add]

set_option maxRecDepth 100000 in
theorem open_cards {H : Type} {enc : TypeId × Value → H} {w : World} {base : Nat} {v : Value} {d : DataW H} {p : List MemPlace} (hv : Value.okWide Tryz.prog w .any base 22 v) (h : DataW.Trod enc Tryz.prog w 0 (fun _ => true) true 22 v d p) :
    ∃ l : List CardL, CardsAt w v l ∧ l.length ≤ maxLen ∧ SmallC l := by
  obtain ⟨a0, len0, cap0, rfl⟩ := okWide_slice Tryz.underlying22 hv
  obtain ⟨fuel, h⟩ := h
  rcases open_slice_fields Tryz.underlying22 Tryz.underlying42 (by kernel_rfl) cellsC h with ⟨h1, _⟩ | ⟨a, len, cap, m, D, Pl, hcs, _, hl, hm, hmm, _, hi⟩
  · exact ⟨[], .inl ⟨_, _, List.cons.inj h1 |>.1, rfl⟩, Nat.zero_le _, fun c hc => by cases hc⟩
  · have hv2 : Value.slice a0 len0 cap0 = .slice (some a) len cap := (List.cons.inj hcs).1
    rw [hv2]
    rw [if_pos rfl] at hmm
    subst hmm
    by_cases h0 : len = 0
    · subst h0
      exact ⟨[], .inl ⟨_, _, rfl, rfl⟩, Nat.zero_le _, fun c hc => by cases hc⟩
    · have hcard : ∀ i, i < len → ∃ c : CardL, CardHere w (a.add (i * 7)) c := by
        intro i hil
        obtain ⟨ys, n', _, _, _, hf⟩ := hi i (Nat.lt_of_lt_of_le hil hl)
        obtain ⟨v0, z0, a0, _, g0⟩ := hf 0 _ rfl
        obtain ⟨v1, z1, a1, _, g1⟩ := hf 1 _ rfl
        obtain ⟨v2, z2, a2, _, g2⟩ := hf 2 _ rfl
        obtain ⟨v3, z3, a3, _, g3⟩ := hf 3 _ rfl
        obtain ⟨v4, z4, a4, _, g4⟩ := hf 4 _ rfl
        obtain ⟨v5, z5, a5, _, g5⟩ := hf 5 _ rfl
        obtain ⟨v6, z6, a6, _, g6⟩ := hf 6 _ rfl
        obtain ⟨x0, q0, _, _⟩ := DataW.trod_int Tryz.underlying3 g0
        obtain ⟨x1, q1, _, _⟩ := DataW.trod_int Tryz.underlying3 g1
        obtain ⟨x2, q2, _, _⟩ := DataW.trod_int Tryz.underlying3 g2
        obtain ⟨x3, q3, _, _⟩ := DataW.trod_int Tryz.underlying3 g3
        obtain ⟨x4, q4, _, _⟩ := DataW.trod_int Tryz.underlying3 g4
        obtain ⟨x5, q5, _, _⟩ := DataW.trod_int Tryz.underlying3 g5
        obtain ⟨tl, ta, tc, rfl, htl, htt⟩ := open_terms g6
        rw [one_int q0] at a0
        rw [one_int q1] at a1
        rw [one_int q2] at a2
        rw [one_int q3] at a3
        rw [one_int q4] at a4
        rw [one_int q5] at a5
        refine ⟨⟨x0, x1, x2, x3, x4, x5, tl⟩, htl, ta, tc, ?_, ?_, ?_, ?_, ?_, ?_, ?_, htt⟩ <;> rw [Go.Deep.add_add] <;> assumption
      obtain ⟨f, hf⟩ : ∃ f : Nat → CardL, ∀ i, i < len → CardHere w (a.add (i * 7)) (f i) := by
        refine ⟨fun i => if h : i < len then (hcard i h).choose else ⟨0, 0, 0, 0, 0, 0, []⟩, fun i hil => ?_⟩
        simp only [dif_pos hil]
        exact (hcard i hil).choose_spec
      obtain ⟨b, off, spot⟩ := a
      have hspot : spot = none := by
        obtain ⟨_, _, _, c0, _⟩ := hf 0 (Nat.pos_of_ne_zero h0)
        have := World.cell?_spot c0
        simpa [Addr.add] using this
      subst hspot
      have hlen : ((List.range len).map f).length = len := by rw [List.length_map, List.length_range]
      refine ⟨(List.range len).map f, .inr ⟨b, off, m, by rw [hlen], ?_, fun i hil => ?_⟩, by rw [hlen]; exact Nat.le_trans hl hm, fun c hc => ?_⟩
      · obtain ⟨_, _, _, c0, _⟩ := hf 0 (Nat.pos_of_ne_zero h0)
        rw [addr_at, addr_at] at c0
        exact World.block_lt_of_cell? w _ c0
      · rw [hlen] at hil
        have hgi : ((List.range len).map f)[i] = f i := by rw [List.getElem_map, List.getElem_range]
        rw [hgi]
        obtain ⟨_, ya, yc, c0, c1, c2, c3, c4, c5, c6, ht⟩ := hf i hil
        simp only [addr_at, Nat.add_zero] at c0 c1 c2 c3 c4 c5 c6
        exact ⟨ya, yc, c0, c1, c2, c3, c4, c5, c6, ht⟩
      · simp only [List.mem_map, List.mem_range] at hc
        obtain ⟨i, hil, rfl⟩ := hc
        have := (hf i hil).1
        unfold maxLen at this
        omega
end Go.Proofs.YtkhgdfalbmkgcaaGreat.Crd
namespace Go.Proofs.YtkhgdfalbmkgcaaGreat
open Go.ChangeShapes Go.WideShapes Go.RowKit Go.Deep
theorem cellsOp : Tryz.prog.cellsOf 25 = 5 := by kernel_rfl
def OpHere (w : World) (a : Addr) (c : OpL) : Prop := w.cell? (a.add 0) = some (.int .i64 c.k) ∧ w.cell? (a.add 1) = some (.int .i64 c.a) ∧ w.cell? (a.add 2) = some (.int .i64 c.b) ∧ w.cell? (a.add 3) = some (.int .i64 c.c) ∧ w.cell? (a.add 4) = some (.bool c.under)
set_option maxRecDepth 100000 in
theorem open_ops6 {H : Type} {enc : TypeId × Value → H} {w : World} {base : Nat} {v : Value} {d : DataW H} {p : List MemPlace} (hv : Value.okWide Tryz.prog w .any base 23 v) (h : DataW.Trod enc Tryz.prog w 0 (fun _ => true) true 23 v d p) :
    ∃ l : List OpL, OpsAt w v l ∧ l.length ≤ maxLen ∧ ∀ x ∈ l, WfO x := by
  obtain ⟨a0, len0, cap0, rfl⟩ := okWide_slice Tryz.underlying23 hv
  obtain ⟨fuel, h⟩ := h
  rcases open_slice_fields Tryz.underlying23 Tryz.underlying25 (by kernel_rfl) cellsOp h with ⟨h1, _⟩ | ⟨a, len, cap, m, D, Pl, hcs, _, hl, hm, hmm, _, hi⟩
  · exact ⟨[], .inl ⟨_, _, List.cons.inj h1 |>.1, rfl⟩, Nat.zero_le _, fun x hx => by cases hx⟩
  · have hv2 : Value.slice a0 len0 cap0 = .slice (some a) len cap := (List.cons.inj hcs).1
    rw [hv2]
    rw [if_pos rfl] at hmm
    subst hmm
    by_cases h0 : len = 0
    · subst h0
      exact ⟨[], .inl ⟨_, _, rfl, rfl⟩, Nat.zero_le _, fun x hx => by cases hx⟩
    · have hop : ∀ i, i < len → ∃ c : OpL, OpHere w (a.add (i * 5)) c ∧ WfO c := by
        intro i hil
        obtain ⟨ys, n', _, _, _, hf⟩ := hi i (Nat.lt_of_lt_of_le hil hl)
        obtain ⟨v0, z0, a0, _, g0⟩ := hf 0 _ rfl
        obtain ⟨v1, z1, a1, _, g1⟩ := hf 1 _ rfl
        obtain ⟨v2, z2, a2, _, g2⟩ := hf 2 _ rfl
        obtain ⟨v3, z3, a3, _, g3⟩ := hf 3 _ rfl
        obtain ⟨v4, z4, a4, _, g4⟩ := hf 4 _ rfl
        obtain ⟨x0, q0, _, _⟩ := DataW.trod_int Tryz.underlying3 g0
        obtain ⟨x1, q1, _, w1⟩ := DataW.trod_int Tryz.underlying3 g1
        obtain ⟨x2, q2, _, w2⟩ := DataW.trod_int Tryz.underlying3 g2
        obtain ⟨x3, q3, _, w3⟩ := DataW.trod_int Tryz.underlying3 g3
        obtain ⟨x4, q4, _⟩ := DataW.trod_bool Tryz.underlying4 g4
        rw [cell_int q0] at a0
        rw [cell_int q1] at a1
        rw [cell_int q2] at a2
        rw [cell_int q3] at a3
        rw [cell_bool q4] at a4
        refine ⟨⟨x0, x1, x2, x3, x4⟩, ⟨?_, ?_, ?_, ?_, ?_⟩, wf_int w1, wf_int w2, wf_int w3⟩ <;> rw [Go.Deep.add_add] <;> assumption
      obtain ⟨f, hf⟩ : ∃ f : Nat → OpL, ∀ i, i < len → OpHere w (a.add (i * 5)) (f i) ∧ WfO (f i) := by
        refine ⟨fun i => if h : i < len then (hop i h).choose else ⟨0, 0, 0, 0, false⟩, fun i hil => ?_⟩
        simp only [dif_pos hil]
        exact (hop i hil).choose_spec
      obtain ⟨b, off, spot⟩ := a
      have hspot : spot = none := by
        have c0 := (hf 0 (Nat.pos_of_ne_zero h0)).1.1
        have := World.cell?_spot c0
        simpa [Addr.add] using this
      subst hspot
      have hlen : ((List.range len).map f).length = len := by rw [List.length_map, List.length_range]
      refine ⟨(List.range len).map f, .inr ⟨b, off, m, by rw [hlen], ?_, fun i hil => ?_⟩, by rw [hlen]; exact Nat.le_trans hl hm, fun x hx => ?_⟩
      · have c0 := (hf 0 (Nat.pos_of_ne_zero h0)).1.1
        rw [addr_at2, addr_at2] at c0
        exact World.block_lt_of_cell? w _ c0
      · rw [hlen] at hil
        have hgi : ((List.range len).map f)[i] = f i := by rw [List.getElem_map, List.getElem_range]
        rw [hgi]
        obtain ⟨⟨c0, c1, c2, c3, c4⟩, _⟩ := hf i hil
        simp only [addr_at2, Nat.add_zero] at c0 c1 c2 c3 c4
        exact ⟨c0, c1, c2, c3, c4⟩
      · obtain ⟨i, hi, rfl⟩ := List.mem_map.1 hx
        exact (hf i (List.mem_range.1 hi)).2
theorem open_agg5 {H : Type} {enc : TypeId × Value → H} {P : Program} {w : World} {base : Nat} {spare : Nat → Bool} {held : Bool} {r : Reach} {b0 : Nat} {t : TypeId} {f0 f1 f2 f3 f4 : Field} {v : Value} {d : DataW H} {p : List MemPlace} (hs : P.underlying t = some (.struct #[f0, f1, f2, f3, f4])) (hone : oneCellFields P #[f0, f1, f2, f3, f4] = true) (hC : P.cellsOf t = 5)
    (hv : Value.okWide P w r b0 t v) (h : DataW.Trod enc P w base spare held t v d p) :
    ∃ (v0 v1 v2 v3 v4 : Value) (y0 y1 y2 y3 y4 : DataW H × List MemPlace) (n : Nat), v = .agg #[v0, v1, v2, v3, v4] ∧ DataW.trod enc P w base spare held n f0.type [v0] = some y0 ∧ DataW.trod enc P w base spare held n f1.type [v1] = some y1 ∧ DataW.trod enc P w base spare held n f2.type [v2] = some y2 ∧ DataW.trod enc P w base spare held n f3.type [v3] = some y3 ∧ DataW.trod enc P w base spare held n f4.type [v4] = some y4 := by
  obtain ⟨cs, rfl, hsz⟩ := okWide_struct hs hv
  obtain ⟨l⟩ := cs
  match l, hsz.trans hC with
  | [c0, c1, c2, c3, c4], _ =>
    obtain ⟨fuel, hf⟩ := h
    obtain ⟨xs, n, _, hx, _, hlen, hg⟩ := DataW.trod_struct hs hf
    obtain ⟨o0, k0⟩ := hone_of hone 0 f0 rfl
    obtain ⟨o1, k1⟩ := hone_of hone 1 f1 rfl
    obtain ⟨o2, k2⟩ := hone_of hone 2 f2 rfl
    obtain ⟨o3, k3⟩ := hone_of hone 3 f3 rfl
    obtain ⟨o4, k4⟩ := hone_of hone 4 f4 rfl
    match xs, hlen with
    | [y0, y1, y2, y3, y4], _ =>
      exact ⟨c0, c1, c2, c3, c4, y0, y1, y2, y3, y4, n, rfl, by simpa [Value.cells, o0, k0] using hg 0 f0 rfl, by simpa [Value.cells, o1, k1] using hg 1 f1 rfl, by simpa [Value.cells, o2, k2] using hg 2 f2 rfl, by simpa [Value.cells, o3, k3] using hg 3 f3 rfl, by simpa [Value.cells, o4, k4] using hg 4 f4 rfl⟩

theorem trod_two {H : Type} {enc : TypeId × Value → H} {P : Program} {w : World} {base : Nat} {spare : Nat → Bool} {held : Bool} {t e : TypeId} {fuel : Nat} {c0 c1 : Value} {x : DataW H × List MemPlace} (ht : P.underlying t = some (.array 2 e)) (hce : P.cellsOf e = 1)
    (h : DataW.trod enc P w base spare held fuel t [c0, c1] = some x) : ∃ y0 y1 n, DataW.trod enc P w base spare held n e [c0] = some y0 ∧ DataW.trod enc P w base spare held n e [c1] = some y1 := by
  cases fuel with
  | zero => simp [DataW.trod] at h
  | succ n =>
    unfold DataW.trod at h
    rw [ht] at h
    have r2 : List.range 2 = [0, 1] := rfl
    simp [r2, hce] at h
    obtain ⟨_, h⟩ := h
    cases h0 : DataW.trod enc P w base spare held n e [c0] with
    | none => simp [h0] at h
    | some y0 =>
      cases h1 : DataW.trod enc P w base spare held n e [c1] with
      | none => simp [h0, h1] at h
      | some y1 => exact ⟨y0, y1, n, h0, h1⟩
set_option maxRecDepth 100000 in
theorem open_op {H : Type} {enc : TypeId × Value → H} {w : World} {base : Nat} {v : Value} {d : DataW H} {p : List MemPlace} (hv : Value.okWide Tryz.prog w .any base 25 v) (h : DataW.Trod enc Tryz.prog w 0 (fun _ => true) true 25 v d p) :
    ∃ o : OpL, v = .agg #[.int .i64 o.k, .int .i64 o.a, .int .i64 o.b, .int .i64 o.c, .bool o.under] := by
  obtain ⟨v0, v1, v2, v3, v4, y0, y1, y2, y3, y4, n, rfl, g0, g1, g2, g3, g4⟩ := open_agg5 Tryz.underlying25 (by kernel_rfl) cellsOp hv h
  obtain ⟨x0, q0, _, _⟩ := DataW.trod_int Tryz.underlying3 g0
  obtain ⟨x1, q1, _, _⟩ := DataW.trod_int Tryz.underlying3 g1
  obtain ⟨x2, q2, _, _⟩ := DataW.trod_int Tryz.underlying3 g2
  obtain ⟨x3, q3, _, _⟩ := DataW.trod_int Tryz.underlying3 g3
  obtain ⟨x4, q4, _⟩ := DataW.trod_bool Tryz.underlying4 g4
  rw [cell_int q0, cell_int q1, cell_int q2, cell_int q3, cell_bool q4]
  exact ⟨⟨x0, x1, x2, x3, x4⟩, rfl⟩
end Go.Proofs.YtkhgdfalbmkgcaaGreat

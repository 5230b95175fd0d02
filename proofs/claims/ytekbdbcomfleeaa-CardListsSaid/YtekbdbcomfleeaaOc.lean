/- A card as an argument: opened to its numbers and its list of terms. (open_slice_fields, open_agg7: by the guides' own blocks.) A list of cards, and a list of numbers, as arguments: opened to what they hold. -/
import Derived.Test.YtekbdbcomfleeaaTf
import Derived.Test.YtekbdbcomfleeaaTk
import Derived.Deep.Slices
import Derived.Deep.Fields
import Derived.ChangeSame
import Derived.Test.YtekbdbcomfleeaaDc
namespace Go.Proofs.Ytekbdbcomfleeaa
open Go.ChangeShapes Go.WideShapes Go.RowKit Go.Deep

theorem open_slice_fields {H : Type} {enc : TypeId × Value → H} {P : Program} {w : World} {base : Nat} {spare : Nat → Bool} {held : Bool} {t e : TypeId} {fs : Array Field} {fuel : Nat} {cs : List Value} {x : DataW H × List MemPlace} (ht : P.underlying t = some (.slice e)) (he : P.underlying e = some (.struct fs))
    (hone : oneCellFields P fs = true) (hC : P.cellsOf e = fs.size) (h : DataW.trod enc P w base spare held fuel t cs = some x) :
    (cs = [.slice none 0 0] ∧ x = (.nil, [])) ∨
    ∃ (a : Addr) (len cap m : Nat) (D : Nat → DataW H) (Pl : Nat → List MemPlace), cs = [.slice (some a) len cap] ∧ base ≤ a.block ∧ len ≤ cap ∧ cap ≤ maxLen ∧ m = (if spare a.block then cap else len) ∧
      x = (.slice ((List.range len).map D) ((List.range (m - len)).map fun j => D (len + j)), MemPlace.row a (m * fs.size) ++ (List.range m).flatMap Pl) ∧
      ∀ i, i < m → ∃ (ys : List (DataW H × List MemPlace)) (n : Nat), D i = .agg (ys.map (·.1)) ∧ Pl i = ys.flatMap (·.2) ∧ ys.length = fs.size ∧
        ∀ (j : Nat) (f : Field), fs[j]? = some f → ∃ (v : Value) (y : DataW H × List MemPlace), w.cell? (a.add (i * fs.size + j)) = some v ∧ ys[j]? = some y ∧ DataW.trod enc P w base spare held n f.type [v] = some y := by
  rcases open_slice ht h with h0 | ⟨a, len, cap, m, n, D, Pl, hcs, hb, hl, hm, hmm, hx, hi⟩
  · exact .inl h0
  · refine .inr ⟨a, len, cap, m, D, Pl, hcs, hb, hl, hm, hmm, by rw [hC] at hx; exact hx, fun i him => ?_⟩
    obtain ⟨cs', hc, ht'⟩ := hi i him
    rw [hC] at hc
    obtain ⟨ys, n', hn', hy, hlen, hyl, hf⟩ := DataW.trod_struct he ht'
    obtain ⟨_, hcl, hat⟩ := World.cells?_some hc
    simp only [Prod.mk.injEq] at hy
    refine ⟨ys, n', hy.1, hy.2, hyl, fun j f hj => ?_⟩
    obtain ⟨ho, hk⟩ := hone_of hone j f hj
    have hjl : j < fs.size := (Array.getElem?_eq_some_iff.1 hj).1
    have hcell := hat j hjl
    have hv : cs'[j]? = some (cs'[j]'(by omega)) := List.getElem?_eq_getElem (by omega)
    have h1 := hf j f hj
    rw [ho, hk] at h1
    have hone' : (cs'.drop j).take 1 = [cs'[j]'(by omega)] := by
      rw [List.drop_eq_getElem_cons (by omega)]
      rfl
    rw [hone'] at h1
    have hys : ys[j]? = some (ys[j]'(by omega)) := List.getElem?_eq_getElem (by omega)
    refine ⟨_, _, ?_, hys, h1.trans hys⟩
    rw [← Go.Deep.add_add, hcell, hv]
theorem open_agg7 {H : Type} {enc : TypeId × Value → H} {P : Program} {w : World} {base : Nat} {spare : Nat → Bool} {held : Bool} {r : Reach} {b0 : Nat} {t : TypeId} {f0 f1 f2 f3 f4 f5 f6 : Field} {v : Value} {d : DataW H} {p : List MemPlace} (hs : P.underlying t = some (.struct #[f0, f1, f2, f3, f4, f5, f6])) (hone : oneCellFields P #[f0, f1, f2, f3, f4, f5, f6] = true) (hC : P.cellsOf t = 7)
    (hv : Value.okWide P w r b0 t v) (h : DataW.Trod enc P w base spare held t v d p) :
    ∃ (v0 v1 v2 v3 v4 v5 v6 : Value) (y0 y1 y2 y3 y4 y5 y6 : DataW H × List MemPlace) (n : Nat), v = .agg #[v0, v1, v2, v3, v4, v5, v6] ∧ DataW.trod enc P w base spare held n f0.type [v0] = some y0 ∧ DataW.trod enc P w base spare held n f1.type [v1] = some y1 ∧ DataW.trod enc P w base spare held n f2.type [v2] = some y2 ∧ DataW.trod enc P w base spare held n f3.type [v3] = some y3 ∧ DataW.trod enc P w base spare held n f4.type [v4] = some y4 ∧ DataW.trod enc P w base spare held n f5.type [v5] = some y5 ∧ DataW.trod enc P w base spare held n f6.type [v6] = some y6 := by
  obtain ⟨cs, rfl, hsz⟩ := okWide_struct hs hv
  obtain ⟨l⟩ := cs
  match l, hsz.trans hC with
  | [c0, c1, c2, c3, c4, c5, c6], _ =>
    obtain ⟨fuel, hf⟩ := h
    obtain ⟨xs, n, _, hx, _, hlen, hg⟩ := DataW.trod_struct hs hf
    obtain ⟨o0, k0⟩ := hone_of hone 0 f0 rfl
    obtain ⟨o1, k1⟩ := hone_of hone 1 f1 rfl
    obtain ⟨o2, k2⟩ := hone_of hone 2 f2 rfl
    obtain ⟨o3, k3⟩ := hone_of hone 3 f3 rfl
    obtain ⟨o4, k4⟩ := hone_of hone 4 f4 rfl
    obtain ⟨o5, k5⟩ := hone_of hone 5 f5 rfl
    obtain ⟨o6, k6⟩ := hone_of hone 6 f6 rfl
    match xs, hlen with
    | [y0, y1, y2, y3, y4, y5, y6], _ =>
      exact ⟨c0, c1, c2, c3, c4, c5, c6, y0, y1, y2, y3, y4, y5, y6, n, rfl, by simpa [Value.cells, o0, k0] using hg 0 f0 rfl, by simpa [Value.cells, o1, k1] using hg 1 f1 rfl, by simpa [Value.cells, o2, k2] using hg 2 f2 rfl, by simpa [Value.cells, o3, k3] using hg 3 f3 rfl, by simpa [Value.cells, o4, k4] using hg 4 f4 rfl, by simpa [Value.cells, o5, k5] using hg 5 f5 rfl, by simpa [Value.cells, o6, k6] using hg 6 f6 rfl⟩

theorem cellsT : Try.prog.cellsOf 43 = 3 := by kernel_rfl
theorem cellsC : Try.prog.cellsOf 24 = 7 := by kernel_rfl
theorem one_int {x : Int} {v : Value} (h : [v] = [Value.int .i64 x]) : v = .int .i64 x := by injection h

set_option maxRecDepth 100000 in
/-- A list of terms, as a datum's reading finds it. -/
theorem open_terms {H : Type} {enc : TypeId × Value → H} {w : World} {n : Nat} {v : Value} {x : DataW H × List MemPlace} (h : DataW.trod enc Try.prog w 0 (fun _ => true) true n 22 [v] = some x) :
    ∃ (l : List TermL) (xa : Option Addr) (xc : Nat), v = .slice xa l.length xc ∧ l.length ≤ maxLen ∧ TermsIs w (.slice xa l.length xc) l := by
  rcases open_slice_fields Try.underlying22 Try.underlying43 (by kernel_rfl) cellsT h with ⟨h1, _⟩ | ⟨a, len, cap, m, D, Pl, hcs, _, hl, hm, hmm, _, hi⟩
  · injection h1 with h1 _
    exact ⟨[], none, 0, h1, Nat.zero_le _, .inl ⟨_, _, rfl, rfl⟩⟩
  · injection hcs with hv _
    subst hv
    rw [if_pos rfl] at hmm
    subst hmm
    by_cases h0 : len = 0
    · subst h0
      exact ⟨[], some a, m, rfl, Nat.zero_le _, .inl ⟨_, _, rfl, rfl⟩⟩
    · have hterm : ∀ i, i < len → ∃ t : TermL, w.cell? (a.add (i * 3)) = some (.int .i64 t.op) ∧ w.cell? (a.add (i * 3 + 1)) = some (.int .i64 t.n) ∧ w.cell? (a.add (i * 3 + 2)) = some (.int .i64 t.on) := by
        intro i hil
        obtain ⟨ys, n', _, _, _, hf⟩ := hi i (Nat.lt_of_lt_of_le hil hl)
        obtain ⟨v0, z0, a0, _, g0⟩ := hf 0 _ rfl
        obtain ⟨v1, z1, a1, _, g1⟩ := hf 1 _ rfl
        obtain ⟨v2, z2, a2, _, g2⟩ := hf 2 _ rfl
        obtain ⟨x0, q0, _, _⟩ := DataW.trod_int Try.underlying3 g0
        obtain ⟨x1, q1, _, _⟩ := DataW.trod_int Try.underlying3 g1
        obtain ⟨x2, q2, _, _⟩ := DataW.trod_int Try.underlying3 g2
        rw [one_int q0] at a0
        rw [one_int q1] at a1
        rw [one_int q2] at a2
        exact ⟨⟨x0, x1, x2⟩, a0, a1, a2⟩
      obtain ⟨f, hf⟩ : ∃ f : Nat → TermL, ∀ i, i < len → w.cell? (a.add (i * 3)) = some (.int .i64 (f i).op) ∧ w.cell? (a.add (i * 3 + 1)) = some (.int .i64 (f i).n) ∧ w.cell? (a.add (i * 3 + 2)) = some (.int .i64 (f i).on) := by
        refine ⟨fun i => if h : i < len then (hterm i h).choose else zeroT, fun i hil => ?_⟩
        simp only [dif_pos hil]
        exact (hterm i hil).choose_spec
      obtain ⟨b, off, spot⟩ := a
      have hspot : spot = none := by
        have := World.cell?_spot (hf 0 (Nat.pos_of_ne_zero h0)).1
        simpa [Addr.add] using this
      subst hspot
      have hadd : ∀ k, (⟨b, off, none⟩ : Addr).add k = ⟨b, off + k, none⟩ := fun k => by simp [Addr.add]
      have hlen : ((List.range len).map f).length = len := by rw [List.length_map, List.length_range]
      refine ⟨(List.range len).map f, some ⟨b, off, none⟩, m, by rw [hlen], by rw [hlen]; exact Nat.le_trans hl hm, .inr ⟨b, off, m, rfl, ?_, fun i hil => ?_⟩⟩
      · have := (hf 0 (Nat.pos_of_ne_zero h0)).1
        rw [hadd] at this
        exact World.block_lt_of_cell? w ⟨b, off + 0 * 3, none⟩ this
      · rw [hlen] at hil
        have hgi : ((List.range len).map f)[i] = f i := by rw [List.getElem_map, List.getElem_range]
        rw [hgi]
        have := hf i hil
        rw [hadd, hadd, hadd] at this
        exact this

set_option maxRecDepth 100000 in
/-- A card that is an argument. -/
theorem open_card {H : Type} {enc : TypeId × Value → H} {w : World} {base : Nat} {v : Value} {d : DataW H} {p : List MemPlace} (hv : Value.okWide Try.prog w .any base 24 v) (h : DataW.Trod enc Try.prog w 0 (fun _ => true) true 24 v d p) :
    ∃ (c : CardL) (xa : Option Addr) (xc : Nat), v = cagg c (.slice xa c.terms.length xc) ∧ c.terms.length ≤ maxLen ∧ TermsIs w (.slice xa c.terms.length xc) c.terms := by
  obtain ⟨v0, v1, v2, v3, v4, v5, v6, y0, y1, y2, y3, y4, y5, y6, n, rfl, g0, g1, g2, g3, g4, g5, g6⟩ := open_agg7 Try.underlying24 (by kernel_rfl) cellsC hv h
  obtain ⟨x0, q0, _, _⟩ := DataW.trod_int Try.underlying3 g0
  obtain ⟨x1, q1, _, _⟩ := DataW.trod_int Try.underlying3 g1
  obtain ⟨x2, q2, _, _⟩ := DataW.trod_int Try.underlying3 g2
  obtain ⟨x3, q3, _, _⟩ := DataW.trod_int Try.underlying3 g3
  obtain ⟨x4, q4, _, _⟩ := DataW.trod_int Try.underlying3 g4
  obtain ⟨x5, q5, _, _⟩ := DataW.trod_int Try.underlying3 g5
  obtain rfl := one_int q0
  obtain rfl := one_int q1
  obtain rfl := one_int q2
  obtain rfl := one_int q3
  obtain rfl := one_int q4
  obtain rfl := one_int q5
  obtain ⟨l, xa, xc, rfl, hl, ht⟩ := open_terms g6
  exact ⟨⟨x0, x1, x2, x3, x4, x5, l⟩, xa, xc, rfl, hl, ht⟩
end Go.Proofs.Ytekbdbcomfleeaa
namespace Go.Proofs.Ytekbdbcomfleeaa
open Go.ChangeShapes Go.WideShapes Go.RowKit Go.Deep

/-- What a place holds, if a card. -/
def CardHere (w : World) (a : Addr) (c : CardL) : Prop :=
  c.terms.length ≤ maxLen ∧ ∃ ya yc, w.cell? (a.add 0) = some (.int .i64 c.kind) ∧ w.cell? (a.add 1) = some (.int .i64 c.cost) ∧ w.cell? (a.add 2) = some (.int .i64 c.power) ∧ w.cell? (a.add 3) = some (.int .i64 c.tough) ∧
    w.cell? (a.add 4) = some (.int .i64 c.keys) ∧ w.cell? (a.add 5) = some (.int .i64 c.whn) ∧ w.cell? (a.add 6) = some (.slice ya c.terms.length yc) ∧ TermsIs w (.slice ya c.terms.length yc) c.terms
theorem addr_at (b off k : Nat) : (⟨b, off, none⟩ : Addr).add k = ⟨b, off + k, none⟩ := by simp [Addr.add]

set_option maxRecDepth 100000 in
theorem open_cards {H : Type} {enc : TypeId × Value → H} {w : World} {base : Nat} {v : Value} {d : DataW H} {p : List MemPlace} (hv : Value.okWide Try.prog w .any base 47 v) (h : DataW.Trod enc Try.prog w 0 (fun _ => true) true 47 v d p) :
    ∃ l : List CardL, CardsAt w v l ∧ l.length ≤ maxLen ∧ SmallC l := by
  obtain ⟨a0, len0, cap0, rfl⟩ := okWide_slice Try.underlying47 hv
  obtain ⟨fuel, h⟩ := h
  rcases open_slice_fields Try.underlying47 Try.underlying24 (by kernel_rfl) cellsC h with ⟨h1, _⟩ | ⟨a, len, cap, m, D, Pl, hcs, _, hl, hm, hmm, _, hi⟩
  · exact ⟨[], .inl ⟨_, _, List.cons.inj h1 |>.1, rfl⟩, Nat.zero_le _, fun c hc => by cases hc⟩
  · have hv2 : Value.slice a0 len0 cap0 = .slice (some a) len cap := (List.cons.inj hcs).1
    rw [hv2]
    rw [if_pos rfl] at hmm
    subst hmm
    by_cases h0 : len = 0
    · subst h0
      exact ⟨[], .inl ⟨_, _, rfl, rfl⟩, Nat.zero_le _, fun c hc => by cases hc⟩
    · have hcard : ∀ i, i < len → ∃ c : CardL, CardHere w (a.add (i * 7)) c := by
        intro i hil
        obtain ⟨ys, n', _, _, _, hf⟩ := hi i (Nat.lt_of_lt_of_le hil hl)
        obtain ⟨v0, z0, a0, _, g0⟩ := hf 0 _ rfl
        obtain ⟨v1, z1, a1, _, g1⟩ := hf 1 _ rfl
        obtain ⟨v2, z2, a2, _, g2⟩ := hf 2 _ rfl
        obtain ⟨v3, z3, a3, _, g3⟩ := hf 3 _ rfl
        obtain ⟨v4, z4, a4, _, g4⟩ := hf 4 _ rfl
        obtain ⟨v5, z5, a5, _, g5⟩ := hf 5 _ rfl
        obtain ⟨v6, z6, a6, _, g6⟩ := hf 6 _ rfl
        obtain ⟨x0, q0, _, _⟩ := DataW.trod_int Try.underlying3 g0
        obtain ⟨x1, q1, _, _⟩ := DataW.trod_int Try.underlying3 g1
        obtain ⟨x2, q2, _, _⟩ := DataW.trod_int Try.underlying3 g2
        obtain ⟨x3, q3, _, _⟩ := DataW.trod_int Try.underlying3 g3
        obtain ⟨x4, q4, _, _⟩ := DataW.trod_int Try.underlying3 g4
        obtain ⟨x5, q5, _, _⟩ := DataW.trod_int Try.underlying3 g5
        obtain ⟨tl, ta, tc, rfl, htl, htt⟩ := open_terms g6
        rw [one_int q0] at a0
        rw [one_int q1] at a1
        rw [one_int q2] at a2
        rw [one_int q3] at a3
        rw [one_int q4] at a4
        rw [one_int q5] at a5
        refine ⟨⟨x0, x1, x2, x3, x4, x5, tl⟩, htl, ta, tc, ?_, ?_, ?_, ?_, ?_, ?_, ?_, htt⟩ <;> rw [Go.Deep.add_add] <;> assumption
      obtain ⟨f, hf⟩ : ∃ f : Nat → CardL, ∀ i, i < len → CardHere w (a.add (i * 7)) (f i) := by
        refine ⟨fun i => if h : i < len then (hcard i h).choose else zeroC, fun i hil => ?_⟩
        simp only [dif_pos hil]
        exact (hcard i hil).choose_spec
      obtain ⟨b, off, spot⟩ := a
      have hspot : spot = none := by
        obtain ⟨_, _, _, c0, _⟩ := hf 0 (Nat.pos_of_ne_zero h0)
        have := World.cell?_spot c0
        simpa [Addr.add] using this
      subst hspot
      have hlen : ((List.range len).map f).length = len := by rw [List.length_map, List.length_range]
      refine ⟨(List.range len).map f, .inr ⟨b, off, m, by rw [hlen], ?_, fun i hil => ?_⟩, by rw [hlen]; exact Nat.le_trans hl hm, fun c hc => ?_⟩
      · obtain ⟨_, _, _, c0, _⟩ := hf 0 (Nat.pos_of_ne_zero h0)
        rw [addr_at, addr_at] at c0
        exact World.block_lt_of_cell? w _ c0
      · rw [hlen] at hil
        have hgi : ((List.range len).map f)[i] = f i := by rw [List.getElem_map, List.getElem_range]
        rw [hgi]
        obtain ⟨_, ya, yc, c0, c1, c2, c3, c4, c5, c6, ht⟩ := hf i hil
        simp only [addr_at, Nat.add_zero] at c0 c1 c2 c3 c4 c5 c6
        exact ⟨ya, yc, c0, c1, c2, c3, c4, c5, c6, ht⟩
      · simp only [List.mem_map, List.mem_range] at hc
        obtain ⟨i, hil, rfl⟩ := hc
        have := (hf i hil).1
        unfold maxLen at this
        omega
theorem cellsI : Try.prog.cellsOf 3 = 1 := by kernel_rfl
/-- Each number is one of the machine's. -/
def WfI (l : List Int) : Prop := ∀ x ∈ l, (Lit.int .i64 x).wf = true
set_option maxRecDepth 100000 in
theorem open_nums {H : Type} {enc : TypeId × Value → H} {w : World} {base : Nat} {v : Value} {d : DataW H} {p : List MemPlace} (hv : Value.okWide Try.prog w .any base 80 v) (h : DataW.Trod enc Try.prog w 0 (fun _ => true) true 80 v d p) :
    ∃ l : List Int, IntsAt w v l ∧ l.length ≤ maxLen ∧ WfI l := by
  obtain ⟨a0, len0, cap0, rfl⟩ := okWide_slice Try.underlying80 hv
  obtain ⟨fuel, h⟩ := h
  rcases open_ints Try.underlying80 Try.underlying3 cellsI h with ⟨hcs, _⟩ | ⟨ad, len', cap', zs, hcs, _, hl, hm, hz, hx, hcell, hwz⟩
  · exact ⟨[], .inl ⟨_, _, (List.cons.inj hcs).1, rfl⟩, Nat.zero_le _, fun x hx => by cases hx⟩
  · have hv2 : Value.slice a0 len0 cap0 = .slice (some ad) len' cap' := (List.cons.inj hcs).1
    rw [hv2]
    simp only [if_true] at hz
    by_cases h0 : len' = 0
    · subst h0
      exact ⟨[], .inl ⟨_, _, rfl, rfl⟩, Nat.zero_le _, fun x hx => by cases hx⟩
    · have hlen : (zs.take len').length = len' := by rw [List.length_take]; omega
      obtain ⟨b, off, spot⟩ := ad
      have hspot : spot = none := by simpa [Addr.add] using World.cell?_spot (hcell 0 (by omega))
      subst hspot
      refine ⟨zs.take len', .inr ⟨b, off, cap', by rw [hlen], ?_, fun i hi => ?_⟩, by rw [hlen]; omega, fun x hx => hwz x (List.mem_of_mem_take hx)⟩
      · have := hcell 0 (by omega)
        rw [addr_at] at this
        exact World.block_lt_of_cell? w _ this
      · rw [hlen] at hi
        have := hcell i (by omega)
        rw [addr_at] at this
        rw [this]
        simp [List.getD, show i < zs.length by omega]
end Go.Proofs.Ytekbdbcomfleeaa

/- The argument of StackPlays (layer 12): a list of calls. -/
import Derived.Test.YtgjojjhppgjkkaaGreatKo
namespace Go.Proofs.YtgjojjhppgjkkaaGreat
open Go.ChangeShapes Go.WideShapes Go.RowKit Go.Deep

structure OpK where
  k : Int
  x : EntL
def OpCells (w : World) (b o : Nat) (c : OpK) : Prop := w.cell? ⟨b, o, none⟩ = some (.int .i64 c.k) ∧ EntCells w b (o + 1) c.x
theorem OpCells.later {w w' : World} {b o : Nat} {c : OpK} (h : OpCells w b o c) (hb : Below w.heap.size w w') : OpCells w' b o c := ⟨cell_stays hb h.1, h.2.later hb⟩
def OpsAtK (w : World) (v : Value) (l : List OpK) : Prop :=
  (∃ xa cap, v = .slice xa 0 cap ∧ l = []) ∨ ∃ b off cap, v = .slice (some ⟨b, off, none⟩) l.length cap ∧ b < w.heap.size ∧ ∀ i (h : i < l.length), OpCells w b (off + i * 5) l[i]
theorem OpsAtK.later {w w' : World} {v : Value} {l : List OpK} (h : OpsAtK w v l) (hb : Below w.heap.size w w') : OpsAtK w' v l := by
  rcases h with h | ⟨b, off, cap, rfl, hlt, hc⟩
  · exact .inl h
  · exact .inr ⟨b, off, cap, rfl, Nat.lt_of_lt_of_le hlt hb.size, fun i hi => (hc i hi).later hb⟩
theorem OpsAtK.form {w : World} {v : Value} {l : List OpK} (h : OpsAtK w v l) : ∃ xa xc, v = .slice xa l.length xc := by
  rcases h with ⟨xa, cap, rfl, rfl⟩ | ⟨b, off, cap, rfl, _⟩
  · exact ⟨xa, cap, rfl⟩
  · exact ⟨_, cap, rfl⟩
theorem OpsAtK.at {w : World} {xa : Option Addr} {xc : Nat} {l : List OpK} (h : OpsAtK w (.slice xa l.length xc) l) (k : Nat) (hk : k < l.length) : ∃ b off, xa = some ⟨b, off, none⟩ ∧ OpCells w b (off + k * 5) l[k] := by
  rcases h with ⟨_, _, _, h2⟩ | ⟨b, off, cap, h1, hlt, hc⟩
  · subst h2; simp at hk
  · injection h1 with h1 _ _; exact ⟨b, off, h1, hc k hk⟩
theorem cellsOp : Tryz.prog.cellsOf 61 = 5 := by kernel_rfl
def OpHere (w : World) (a : Addr) (c : OpK) : Prop := w.cell? (a.add 0) = some (.int .i64 c.k) ∧ w.cell? (a.add 1) = some (.int .i64 c.x.seat) ∧ w.cell? (a.add 2) = some (.int .i64 c.x.obj) ∧ w.cell? (a.add 3) = some (.int .i64 c.x.pos) ∧ w.cell? (a.add 4) = some (.bool c.x.trig)
set_option maxRecDepth 100000 in
theorem trod_op {H : Type} {enc : TypeId × Value → H} {w : World} {n : Nat} {c0 c1 c2 c3 c4 : Value} {y : DataW H × List MemPlace} (h : DataW.trod enc Tryz.prog w 0 (fun _ => true) true n 61 [c0, c1, c2, c3, c4] = some y) :
    ∃ x : OpK, c0 = .int .i64 x.k ∧ c1 = .int .i64 x.x.seat ∧ c2 = .int .i64 x.x.obj ∧ c3 = .int .i64 x.x.pos ∧ c4 = .bool x.x.trig := by
  obtain ⟨xs, n, _, _, _, hlen, hg⟩ := DataW.trod_struct Tryz.underlying61 h
  match xs, hlen with
  | [y0, y1], _ =>
    have hc1 : Tryz.prog.cellsOf 3 = 1 := by kernel_rfl
    have g0 : DataW.trod enc Tryz.prog w 0 (fun _ => true) true n 3 (([c0, c1, c2, c3, c4].drop 0).take (Tryz.prog.cellsOf 3)) = some y0 := hg 0 _ rfl
    have g1 : DataW.trod enc Tryz.prog w 0 (fun _ => true) true n 59 (([c0, c1, c2, c3, c4].drop 1).take (Tryz.prog.cellsOf 59)) = some y1 := hg 1 _ rfl
    rw [hc1] at g0
    rw [cellsEn] at g1
    have g0 : DataW.trod enc Tryz.prog w 0 (fun _ => true) true n 3 [c0] = some y0 := by simpa [Value.cells] using g0
    have g1 : DataW.trod enc Tryz.prog w 0 (fun _ => true) true n 59 [c1, c2, c3, c4] = some y1 := by simpa [Value.cells] using g1
    obtain ⟨x0, q0, _, _⟩ := DataW.trod_int Tryz.underlying3 g0
    obtain ⟨x, e1, e2, e3, e4⟩ := trod_ent g1
    exact ⟨⟨x0, x⟩, cell_int q0, e1, e2, e3, e4⟩
set_option maxRecDepth 100000 in
theorem open_ops12 {H : Type} {enc : TypeId × Value → H} {w : World} {base : Nat} {v : Value} {d : DataW H} {p : List MemPlace} (hv : Value.okWide Tryz.prog w .any base 54 v) (h : DataW.Trod enc Tryz.prog w 0 (fun _ => true) true 54 v d p) :
    ∃ l : List OpK, OpsAtK w v l ∧ l.length ≤ maxLen := by
  obtain ⟨a0, len0, cap0, rfl⟩ := okWide_slice Tryz.underlying54 hv
  obtain ⟨fuel, h⟩ := h
  rcases open_slice Tryz.underlying54 h with ⟨h1, _⟩ | ⟨a, len, cap, m, n, D, Pl, hcs, _, hl, hm, hmm, _, hi⟩
  · exact ⟨[], .inl ⟨_, _, List.cons.inj h1 |>.1, rfl⟩, Nat.zero_le _⟩
  · have hv2 : Value.slice a0 len0 cap0 = .slice (some a) len cap := (List.cons.inj hcs).1
    rw [hv2]
    rw [if_pos rfl] at hmm
    subst hmm
    by_cases h0 : len = 0
    · subst h0
      exact ⟨[], .inl ⟨_, _, rfl, rfl⟩, Nat.zero_le _⟩
    · have hop : ∀ i, i < len → ∃ c : OpK, OpHere w (a.add (i * 5)) c := by
        intro i hil
        obtain ⟨cs', hc, ht'⟩ := hi i (Nat.lt_of_lt_of_le hil hl)
        rw [cellsOp] at hc
        obtain ⟨_, hcl, hat⟩ := World.cells?_some hc
        match cs', hcl with
        | [c0, c1, c2, c3, c4], _ =>
          obtain ⟨x, e0, e1, e2, e3, e4⟩ := trod_op ht'
          have a0 := hat 0 (by decide)
          have a1 := hat 1 (by decide)
          have a2 := hat 2 (by decide)
          have a3 := hat 3 (by decide)
          have a4 := hat 4 (by decide)
          exact ⟨x, a0.trans (by rw [e0]; rfl), a1.trans (by rw [e1]; rfl), a2.trans (by rw [e2]; rfl), a3.trans (by rw [e3]; rfl), a4.trans (by rw [e4]; rfl)⟩
      obtain ⟨f, hf⟩ : ∃ f : Nat → OpK, ∀ i, i < len → OpHere w (a.add (i * 5)) (f i) := by
        refine ⟨fun i => if h : i < len then (hop i h).choose else ⟨0, zeroE⟩, fun i hil => ?_⟩
        simp only [dif_pos hil]
        exact (hop i hil).choose_spec
      obtain ⟨b, off, spot⟩ := a
      have hspot : spot = none := by
        have c0 := (hf 0 (Nat.pos_of_ne_zero h0)).1
        have := World.cell?_spot c0
        simpa [Addr.add] using this
      subst hspot
      have hlen : ((List.range len).map f).length = len := by rw [List.length_map, List.length_range]
      refine ⟨(List.range len).map f, .inr ⟨b, off, m, by rw [hlen], ?_, fun i hil => ?_⟩, by rw [hlen]; exact Nat.le_trans hl hm⟩
      · have c0 := (hf 0 (Nat.pos_of_ne_zero h0)).1
        rw [addr_at2, addr_at2] at c0
        exact World.block_lt_of_cell? w _ c0
      · rw [hlen] at hil
        have hgi : ((List.range len).map f)[i] = f i := by rw [List.getElem_map, List.getElem_range]
        rw [hgi]
        obtain ⟨c0, c1, c2, c3, c4⟩ := hf i hil
        simp only [addr_at2, Nat.add_zero] at c0 c1 c2 c3 c4
        exact ⟨c0, c1, c2, c3, c4⟩
end Go.Proofs.YtgjojjhppgjkkaaGreat

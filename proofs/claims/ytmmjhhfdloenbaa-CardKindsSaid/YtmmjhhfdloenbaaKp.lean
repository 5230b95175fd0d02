/- The contract of card.Copy (layer 2): the same card, with terms of its own. -/
import Derived.Test.YtmmjhhfdloenbaaNn
import Derived.Test.YtmmjhhfdloenbaaCg
import Derived.Deep.AppendLies
namespace Go.Proofs.Ytmmjhhfdloenbaa
open Go.RowKit

/-- Terms in a row of the call's own. -/
def RowC (w : World) (g : Nat) (l : List TermL) : Prop :=
  ∃ (C : Array Value) (T : TypeId), w.heap[g]? = some (.cells C T (0, 0)) ∧ ∀ j (h : j < l.length), C[j * 3]? = some (.int .i64 l[j].op) ∧ C[j * 3 + 1]? = some (.int .i64 l[j].n) ∧ C[j * 3 + 2]? = some (.int .i64 l[j].on)
def RowsC (B : Nat) (w : World) (v : Value) (l : List TermL) : Prop :=
  (v = .slice none 0 0 ∧ l = []) ∨ ∃ g cap, v = .slice (some ⟨g, 0, none⟩) l.length cap ∧ 0 < l.length ∧ B ≤ g ∧ g < w.heap.size ∧ RowC w g l
def termsV (l : List TermL) : List Value := l.flatMap fun t => [.int .i64 t.op, .int .i64 t.n, .int .i64 t.on]
theorem termsV_len (l : List TermL) : (termsV l).length = l.length * 3 := by
  induction l with
  | nil => rfl
  | cons t l ih => simp only [termsV, List.flatMap_cons, List.length_append, List.length_cons, List.length_nil] at ih ⊢; omega
theorem termsV_at : ∀ (l : List TermL) (j : Nat) (h : j < l.length), (termsV l)[j * 3]? = some (.int .i64 l[j].op) ∧ (termsV l)[j * 3 + 1]? = some (.int .i64 l[j].n) ∧ (termsV l)[j * 3 + 2]? = some (.int .i64 l[j].on)
  | [], j, h => by simp at h
  | t :: l, 0, h => ⟨rfl, rfl, rfl⟩
  | t :: l, j + 1, h => by
    have e : ∀ k, (termsV (t :: l))[k + 3]? = (termsV l)[k]? := fun k => by simp [termsV]
    have h' : j < l.length := by simpa using h
    have := termsV_at l j h'
    rw [show (j + 1) * 3 = j * 3 + 3 by omega, show j * 3 + 3 + 1 = j * 3 + 1 + 3 by omega, show j * 3 + 3 + 2 = j * 3 + 2 + 3 by omega, e, e, e]
    exact this
theorem termsV_one (l : List TermL) : ∀ u ∈ termsV l, u.oneCell' = true := by
  intro u hu
  simp only [termsV, List.mem_flatMap] at hu
  obtain ⟨t, _, hu⟩ := hu
  simp only [List.mem_cons, List.not_mem_nil, or_false] at hu
  rcases hu with rfl | rfl | rfl <;> rfl
theorem terms_news {w : World} {b off : Nat} {l : List TermL} (hc : ∀ i (h : i < l.length), w.cell? ⟨b, off + i * 3, none⟩ = some (.int .i64 l[i].op) ∧ w.cell? ⟨b, off + i * 3 + 1, none⟩ = some (.int .i64 l[i].n) ∧ w.cell? ⟨b, off + i * 3 + 2, none⟩ = some (.int .i64 l[i].on)) :
    ∀ j u, (termsV l)[j]? = some u → w.cell? ((⟨b, off, none⟩ : Addr).add j) = some u := by
  intro j u hu
  have hj : j < (termsV l).length := (List.getElem?_eq_some_iff.1 hu).1
  rw [termsV_len] at hj
  have hadd : (⟨b, off, none⟩ : Addr).add j = ⟨b, off + j, none⟩ := by unfold Addr.add; split <;> simp_all
  rw [hadd]
  obtain ⟨q, r, hqr, hr3⟩ : ∃ q r, j = q * 3 + r ∧ r < 3 := ⟨j / 3, j % 3, by omega, by omega⟩
  subst hqr
  have hq' : q < l.length := by omega
  have h3 := hc q hq'
  have ht := termsV_at l q hq'
  match r, hr3 with
  | 0, _ => rw [Nat.add_zero, ht.1] at hu; rw [← hu]; exact h3.1
  | 1, _ => rw [ht.2.1] at hu; rw [← hu]; exact h3.2.1
  | 2, _ => rw [ht.2.2] at hu; rw [← hu]; exact h3.2.2
theorem rowC_of {w : World} {base cap g : Nat} {l : List TermL} {xs : List Value} {n : Nat} (h : w.ownsRow base 81 3 (.slice (some ⟨g, 0, none⟩) n cap) n xs) (hx : xs = termsV l) (hn : n = l.length) : RowC w g l ∧ base ≤ g := by
  subst hx hn
  rcases h.2 with ⟨h0, _⟩ | ⟨g', cap', cur, hv, hb, hg, hle, _, hs, hk⟩
  · cases h0
  · injection hv with h1 h2 h3
    injection h1 with h1
    injection h1 with h1 _ _
    subst h1
    refine ⟨⟨cur, _, hg, fun j hj => ?_⟩, hb⟩
    have ht := termsV_at l j hj
    rw [← hk] at ht
    simp only [List.getElem?_take] at ht
    rw [if_pos (by omega), if_pos (by omega), if_pos (by omega)] at ht
    simpa using ht
theorem RowC.cells {w : World} {g : Nat} {l : List TermL} (h : RowC w g l) (k : Nat) (hk : k < l.length) : w.cell? ⟨g, k * 3, none⟩ = some (.int .i64 l[k].op) ∧ w.cell? ⟨g, k * 3 + 1, none⟩ = some (.int .i64 l[k].n) ∧ w.cell? ⟨g, k * 3 + 2, none⟩ = some (.int .i64 l[k].on) := by
  obtain ⟨C, T, hC, hc⟩ := h
  have h3 := hc k hk
  exact ⟨by simp [World.cell?, hC, h3.1], by simp [World.cell?, hC, h3.2.1], by simp [World.cell?, hC, h3.2.2]⟩
theorem RowC.lt {w : World} {g : Nat} {l : List TermL} (h : RowC w g l) : g < w.heap.size := by
  obtain ⟨C, T, hC, hc⟩ := h
  exact lt_of_row hC
theorem RowC.frozen {w : World} {g : Nat} {l : List TermL} (h : RowC w g l) (k : Nat) : w.frozen? ⟨g, k, none⟩ = false := by
  obtain ⟨C, T, hC, _⟩ := h
  simp [World.frozen?, hC]
theorem RowC.later {w w' : World} {g : Nat} {l : List TermL} (h : RowC w g l) (hb : Below w.heap.size w w') : RowC w' g l := by
  obtain ⟨C, T, hC, hc⟩ := h
  exact ⟨C, T, (hb.block g (lt_of_row hC)).trans hC, hc⟩
theorem RowC.far {w : World} {g : Nat} {l : List TermL} (h : RowC w g l) {p : Addr} (hp : p.block ≠ g) (u : Value) : RowC (w.setCell p u) g l := by
  obtain ⟨C, T, hC, hc⟩ := h
  exact ⟨C, T, (Below.heap_setCell w p u g (Ne.symm hp)).trans hC, hc⟩
theorem RowC.is {w : World} {g cap : Nat} {l : List TermL} (h : RowC w g l) : TermsIs w (.slice (some ⟨g, 0, none⟩) l.length cap) l :=
  .inr ⟨g, 0, cap, rfl, h.lt, fun i hi => by simp only [Nat.zero_add]; exact h.cells i hi⟩
theorem RowsC.is {B : Nat} {w : World} {v : Value} {l : List TermL} (h : RowsC B w v l) : TermsIs w v l := by
  rcases h with h | ⟨g, cap, rfl, _, _, _, hr⟩
  · exact .inl ⟨none, 0, h⟩
  · exact hr.is
theorem RowsC.later {B : Nat} {w w' : World} {v : Value} {l : List TermL} (h : RowsC B w v l) (hb : Below w.heap.size w w') : RowsC B w' v l := by
  rcases h with h | ⟨g, cap, rfl, h0, hB, hlt, hr⟩
  · exact .inl h
  · exact .inr ⟨g, cap, rfl, h0, hB, Nat.lt_of_lt_of_le hlt hb.size, hr.later hb⟩

theorem append_none (xa : Option Addr) (xc : Nat) (w : World) : (Builtin.append_ #[63, 63] 63 #[.slice none 0 0, .slice xa 0 xc]).run Try.prog w = .ok (.slice none 0 0) w := by
  obtain ⟨i0, hi0, hz0, hz1, hz2⟩ := info_parts info_t
  cases xa <;> simp [Builtin.append_, run_underlying Try.underlying63, sizeOf, typeInfo, hi0, Builtin.lenOf, Builtin.firstCells, loadCells, loadCellsFrom]
theorem wpList_append_run {P : Program} {ops : Array Oper} {rest : List Oper} {o : Oper} {a : Act} {w w' : World} {Q : Exit → Act → World → Prop} {v u r : Value} {t : TypeId} (hgd : o.guard = none) (s x : Operand)
    (ho : o.op = .call { callee := .builtin .append, args := #[s, x], argTypes := #[t, t] }) (hs : a.eval s = v) (hx : a.eval x = u) (hrun : (Builtin.append_ #[t, t] o.type #[v, u]).run P w = .ok r w')
    (h : wpList P ops Q rest (a.put o.dst r) w') : wpList P ops Q (o :: rest) a w :=
  wpList_plain hgd fun _ hK => by
    unfold Oper.wp execOp
    simp only [ho, resolve, invoke, builtin, Sem.run_bind, Sem.run_pure, Result.andThen_ok, List.map_toArray, List.map_cons, List.map_nil, hs, hx, hrun]
    exact hK _ _ h

def RetCopy (c : CardL) (w : World) (e : Ending) (w' : World) : Prop := ∃ v, e = .returned (cagg c v) ∧ RowsC w.heap.size w' v c.terms ∧ Below w.heap.size w w'

set_option maxRecDepth 100000 in
set_option maxHeartbeats 1600000 in
theorem copy_any {c : CardL} {xa : Option Addr} {xc : Nat} {w : World} (ht : TermsIs w (.slice xa c.terms.length xc) c.terms) (hlen : c.terms.length ≤ 30) :
    Calls Try.prog 46 #[cagg c (.slice xa c.terms.length xc)] w (RetCopy c w) := by
  by_cases h0 : c.terms.length = 0
  · have hnil : c.terms = [] := List.eq_nil_of_length_eq_zero h0
    have HN := Lib.hid hnil
    rw [h0]
    have ha := append_none xa xc
    clear ht hnil h0 hlen
    unfold cagg
    go_enter Try.func46, Try.ntmps46
    go_wp2_with (at_builtin; refine wpList_append_run rfl _ _ rfl rfl rfl (ha _) ?_)
    refine bodyPost_ret (by simp [results, Try.results46, go_sem]; rfl) rfl ⟨.slice none 0 0, rfl, .inl ⟨rfl, HN.out⟩, ?_⟩
    exact below_alloc2 (below_new w _) _
  · obtain ⟨i0, hi0, hz0, hz1, hz2⟩ := info_parts info_t
    obtain ⟨b, off, cap, hs, hlt, hc⟩ : ∃ b off cap, Value.slice xa c.terms.length xc = .slice (some ⟨b, off, none⟩) c.terms.length cap ∧ b < w.heap.size ∧
      ∀ i (h : i < c.terms.length), w.cell? ⟨b, off + i * 3, none⟩ = some (.int .i64 c.terms[i].op) ∧ w.cell? ⟨b, off + i * 3 + 1, none⟩ = some (.int .i64 c.terms[i].n) ∧ w.cell? ⟨b, off + i * 3 + 2, none⟩ = some (.int .i64 c.terms[i].on) := by
      rcases ht with ⟨_, _, h1, h2⟩ | h
      · rw [h2] at h0; exact absurd rfl h0
      · exact h
    injection hs with h1 _ h2
    subst h1 h2
    have hnews := terms_news hc
    have HC := Lib.hid (show ∀ j u, (termsV c.terms)[j]? = some u → ((w.alloc (.cells #[.int .i64 c.kind, .int .i64 c.cost, .int .i64 c.power, .int .i64 c.tough, .int .i64 c.keys, .int .i64 c.whn, .slice (some ⟨b, off, none⟩) c.terms.length xc] 65)).alloc (.cells #[.int .i64 0, .int .i64 0, .int .i64 0, .int .i64 0, .int .i64 0, .int .i64 0, .slice none 0 0] 65)).cell? ((⟨b, off, none⟩ : Addr).add j) = some u from fun j u hu => cell_stays (below_alloc2 (below_new w _) _) (hnews j u hu))
    have HL := Lib.hid (termsV_len c.terms)
    clear ht hc hnews hlt
    unfold cagg
    go_enter Try.func46, Try.ntmps46
    go_wp2_with (at_builtin; refine wpList_append_lies _ rfl _ _ 63 rfl w.heap.size 81 i0 _ 3 24 Try.underlying63 hi0 hz0 hz1 hz2 rfl (by decide) (.slice none 0 0) 0 [] rfl ⟨by simp, .inl ⟨rfl, rfl⟩⟩ ⟨b, off, none⟩ c.terms.length xc (termsV c.terms) rfl HL.out HC.out (termsV_one _) (by omega) (by unfold maxLen; omega) (by omega) (by simp; omega) _ rfl ?_)
    intro g cap w1 hown hgrow hat hlt
    obtain ⟨hrow, _⟩ := rowC_of hown rfl rfl
    have hg : g = w.heap.size + 1 + 1 := by
      rcases hat with h | h
      · cases h
      · exact h
    subst hg
    have HR := Lib.hid hrow
    have HLT := Lib.hid hlt
    have hb : Below ((w.alloc (.cells #[.int .i64 c.kind, .int .i64 c.cost, .int .i64 c.power, .int .i64 c.tough, .int .i64 c.keys, .int .i64 c.whn, .slice (some ⟨b, off, none⟩) c.terms.length xc] 65)).alloc (.cells #[.int .i64 0, .int .i64 0, .int .i64 0, .int .i64 0, .int .i64 0, .int .i64 0, .slice none 0 0] 65)).heap.size ((w.alloc (.cells #[.int .i64 c.kind, .int .i64 c.cost, .int .i64 c.power, .int .i64 c.tough, .int .i64 c.keys, .int .i64 c.whn, .slice (some ⟨b, off, none⟩) c.terms.length xc] 65)).alloc (.cells #[.int .i64 0, .int .i64 0, .int .i64 0, .int .i64 0, .int .i64 0, .int .i64 0, .slice none 0 0] 65)) w1 := (Below.refl _ _).grown hgrow (Nat.le_refl _) (by simp [Value.ownBlock])
    have HB := Lib.hid hb
    obtain ⟨hc1, hc2⟩ := bcell hb
    have hA := fun j => hc1 w.heap.size j (by simp; try omega)
    have hB := fun j => hc1 (w.heap.size + 1) j (by simp; try omega)
    have fA := fun j => hc2 w.heap.size j (by simp; try omega)
    have fB := fun j => hc2 (w.heap.size + 1) j (by simp; try omega)
    clear hc1 hc2 hb hrow hown hgrow hat hlt
    have a0 : w1.cell? ⟨w.heap.size, 0, none⟩ = some (.int .i64 c.kind) := by rw [hA]; simp [go_sem]
    have a1 : w1.cell? ⟨w.heap.size, 1, none⟩ = some (.int .i64 c.cost) := by rw [hA]; simp [go_sem]
    have a2 : w1.cell? ⟨w.heap.size, 2, none⟩ = some (.int .i64 c.power) := by rw [hA]; simp [go_sem]
    have a3 : w1.cell? ⟨w.heap.size, 3, none⟩ = some (.int .i64 c.tough) := by rw [hA]; simp [go_sem]
    have a4 : w1.cell? ⟨w.heap.size, 4, none⟩ = some (.int .i64 c.keys) := by rw [hA]; simp [go_sem]
    have a5 : w1.cell? ⟨w.heap.size, 5, none⟩ = some (.int .i64 c.whn) := by rw [hA]; simp [go_sem]
    have a6 : w1.cell? ⟨w.heap.size, 6, none⟩ = some (.slice (some ⟨b, off, none⟩) c.terms.length xc) := by rw [hA]; simp [go_sem]
    have b0 : w1.cell? ⟨w.heap.size + 1, 0, none⟩ = some (.int .i64 0) := by rw [hB]; simp [go_sem]
    have b1 : w1.cell? ⟨w.heap.size + 1, 1, none⟩ = some (.int .i64 0) := by rw [hB]; simp [go_sem]
    have b2 : w1.cell? ⟨w.heap.size + 1, 2, none⟩ = some (.int .i64 0) := by rw [hB]; simp [go_sem]
    have b3 : w1.cell? ⟨w.heap.size + 1, 3, none⟩ = some (.int .i64 0) := by rw [hB]; simp [go_sem]
    have b4 : w1.cell? ⟨w.heap.size + 1, 4, none⟩ = some (.int .i64 0) := by rw [hB]; simp [go_sem]
    have b5 : w1.cell? ⟨w.heap.size + 1, 5, none⟩ = some (.int .i64 0) := by rw [hB]; simp [go_sem]
    have b6 : w1.cell? ⟨w.heap.size + 1, 6, none⟩ = some (.slice none 0 0) := by rw [hB]; simp [go_sem]
    have f0 : w1.frozen? ⟨w.heap.size, 6, none⟩ = false := by rw [fA]; simp [go_sem]
    have g0 : w1.frozen? ⟨w.heap.size + 1, 0, none⟩ = false := by rw [fB]; simp [go_sem]
    have g1 : w1.frozen? ⟨w.heap.size + 1, 1, none⟩ = false := by rw [fB]; simp [go_sem]
    have g2 : w1.frozen? ⟨w.heap.size + 1, 2, none⟩ = false := by rw [fB]; simp [go_sem]
    have g3 : w1.frozen? ⟨w.heap.size + 1, 3, none⟩ = false := by rw [fB]; simp [go_sem]
    have g4 : w1.frozen? ⟨w.heap.size + 1, 4, none⟩ = false := by rw [fB]; simp [go_sem]
    have g5 : w1.frozen? ⟨w.heap.size + 1, 5, none⟩ = false := by rw [fB]; simp [go_sem]
    have g6 : w1.frozen? ⟨w.heap.size + 1, 6, none⟩ = false := by rw [fB]; simp [go_sem]
    clear hA hB fA fB
    go_wp2
    refine bodyPost_ret (by simp [results, Try.results46, go_sem, b0, b1, b2, b3, b4, b5, b6]; rfl) rfl ⟨.slice (some ⟨w.heap.size + 1 + 1, 0, none⟩) c.terms.length cap, rfl, .inr ⟨_, cap, rfl, by omega, by omega, ?_, ?_⟩, ?_⟩
    · have := HLT.out
      simpa [World.setCell] using this
    · exact (((((((HR.out.far (by simp; try omega) _).far (by simp) _).far (by simp) _).far (by simp) _).far (by simp) _).far (by simp) _).far (by simp) _).far (by simp) _
    · exact (((((((((below_alloc2 (below_new w _) _).trans (HB.out.mono (by simp; try omega))).setCell (by simp) _).setCell (by simp) _).setCell (by simp) _).setCell (by simp) _).setCell (by simp) _).setCell (by simp) _).setCell (by simp) _).setCell (by simp) _
end Go.Proofs.Ytmmjhhfdloenbaa

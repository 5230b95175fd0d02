/- The contracts of card.Is, Has, Copy, Same (layer 2). Lists of cards in memory; the contract of deck.Table (layer 3). -/
import Derived.Test.YtgjojjhppgjkkaaGreatCb
import Derived.Deep.AppendLies
import Derived.WalkSmall
namespace Go.Proofs.YtgjojjhppgjkkaaGreat.Crd
open Go.RowKit
theorem lt_of_row {w : World} {b : Nat} {o : Obj} (h : w.heap[b]? = some o) : b < w.heap.size := (Array.getElem?_eq_some_iff.1 h).1
theorem below_alloc1 (w : World) (o : Obj) : Below w.heap.size w (w.alloc o) := (Below.refl _ _).alloc (Nat.le_refl _) _

set_option maxRecDepth 100000 in
set_option maxHeartbeats 1600000 in
theorem is_any (c : CardL) (xa : Option Addr) (xn xc : Nat) (v : Value) (l : List Int) (w : World) (hl : l.length ≤ 9223372036854775807) (h : NumsAt w v l) :
    Calls Tryz.prog 97 #[cagg c (.slice xa xn xc), v] w (RetB w (l.contains c.kind)) := by
  have HN : ∀ o, NumsAt (w.alloc o) v l := fun o => by
    rcases h with h | ⟨b, off, cap, e, hb, hc⟩
    · exact .inl h
    · exact .inr ⟨b, off, cap, e, by simp; omega, fun i hi => cell_stays (below_alloc1 w o) (hc i hi)⟩
  have HNN := Lib.hid HN
  have HL := Lib.hid hl
  clear HN h hl
  unfold cagg
  go_enter Tryz.func97, Tryz.ntmps97
  go_wp2_with fail
  refine (contains_any v l c.kind _ HL.out (HNN.out _)).mono ?_
  rintro e w2 ⟨rfl, rfl⟩
  go_wp2
  go_ret
  exact ⟨ret_bool (by simp), below_alloc1 w _⟩

theorem info_t : (Tryz.prog.info? 24).map (fun i => (i.zero, i.size, i.bytes)) = some (some (.agg #[.int .i64 0, .int .i64 0, .int .i64 0]), 3, 24) := by kernel_rfl

end Go.Proofs.YtgjojjhppgjkkaaGreat.Crd
namespace Go.Proofs.YtgjojjhppgjkkaaGreat.Crd
open Go.RowKit

/-- Terms in a row of the call's own. -/
def RowC (w : World) (g : Nat) (l : List TermL) : Prop :=
  ∃ (C : Array Value) (T : TypeId), w.heap[g]? = some (.cells C T (0, 0)) ∧ ∀ j (h : j < l.length), C[j * 3]? = some (.int .i64 l[j].op) ∧ C[j * 3 + 1]? = some (.int .i64 l[j].n) ∧ C[j * 3 + 2]? = some (.int .i64 l[j].on)
def RowsC (B : Nat) (w : World) (v : Value) (l : List TermL) : Prop :=
  (v = .slice none 0 0 ∧ l = []) ∨ ∃ g cap, v = .slice (some ⟨g, 0, none⟩) l.length cap ∧ 0 < l.length ∧ B ≤ g ∧ g < w.heap.size ∧ RowC w g l
def termsV (l : List TermL) : List Value := l.flatMap fun t => [.int .i64 t.op, .int .i64 t.n, .int .i64 t.on]
theorem termsV_len (l : List TermL) : (termsV l).length = l.length * 3 := by
  induction l with
  | nil => rfl
  | cons t l ih => simp only [termsV, List.flatMap_cons, List.length_append, List.length_cons, List.length_nil] at ih ⊢; omega
theorem termsV_at : ∀ (l : List TermL) (j : Nat) (h : j < l.length), (termsV l)[j * 3]? = some (.int .i64 l[j].op) ∧ (termsV l)[j * 3 + 1]? = some (.int .i64 l[j].n) ∧ (termsV l)[j * 3 + 2]? = some (.int .i64 l[j].on)
  | [], j, h => by simp at h
  | t :: l, 0, h => ⟨rfl, rfl, rfl⟩
  | t :: l, j + 1, h => by
    have e : ∀ k, (termsV (t :: l))[k + 3]? = (termsV l)[k]? := fun k => by simp [termsV]
    have h' : j < l.length := by simpa using h
    have := termsV_at l j h'
    rw [show (j + 1) * 3 = j * 3 + 3 by omega, show j * 3 + 3 + 1 = j * 3 + 1 + 3 by omega, show j * 3 + 3 + 2 = j * 3 + 2 + 3 by omega, e, e, e]
    exact this
theorem termsV_one (l : List TermL) : ∀ u ∈ termsV l, u.oneCell' = true := by
  intro u hu
  simp only [termsV, List.mem_flatMap] at hu
  obtain ⟨t, _, hu⟩ := hu
  simp only [List.mem_cons, List.not_mem_nil, or_false] at hu
  rcases hu with rfl | rfl | rfl <;> rfl
theorem terms_news {w : World} {b off : Nat} {l : List TermL} (hc : ∀ i (h : i < l.length), w.cell? ⟨b, off + i * 3, none⟩ = some (.int .i64 l[i].op) ∧ w.cell? ⟨b, off + i * 3 + 1, none⟩ = some (.int .i64 l[i].n) ∧ w.cell? ⟨b, off + i * 3 + 2, none⟩ = some (.int .i64 l[i].on)) :
    ∀ j u, (termsV l)[j]? = some u → w.cell? ((⟨b, off, none⟩ : Addr).add j) = some u := by
  intro j u hu
  have hj : j < (termsV l).length := (List.getElem?_eq_some_iff.1 hu).1
  rw [termsV_len] at hj
  have hadd : (⟨b, off, none⟩ : Addr).add j = ⟨b, off + j, none⟩ := by unfold Addr.add; split <;> simp_all
  rw [hadd]
  obtain ⟨q, r, hqr, hr3⟩ : ∃ q r, j = q * 3 + r ∧ r < 3 := ⟨j / 3, j % 3, by omega, by omega⟩
  subst hqr
  have hq' : q < l.length := by omega
  have h3 := hc q hq'
  have ht := termsV_at l q hq'
  match r, hr3 with
  | 0, _ => rw [Nat.add_zero, ht.1] at hu; rw [← hu]; exact h3.1
  | 1, _ => rw [ht.2.1] at hu; rw [← hu]; exact h3.2.1
  | 2, _ => rw [ht.2.2] at hu; rw [← hu]; exact h3.2.2
theorem rowC_of {w : World} {base cap g : Nat} {l : List TermL} {xs : List Value} {n : Nat} (h : w.ownsRow base 24 3 (.slice (some ⟨g, 0, none⟩) n cap) n xs) (hx : xs = termsV l) (hn : n = l.length) : RowC w g l ∧ base ≤ g := by
  subst hx hn
  rcases h.2 with ⟨h0, _⟩ | ⟨g', cap', cur, hv, hb, hg, hle, _, hs, hk⟩
  · cases h0
  · injection hv with h1 h2 h3
    injection h1 with h1
    injection h1 with h1 _ _
    subst h1
    refine ⟨⟨cur, _, hg, fun j hj => ?_⟩, hb⟩
    have ht := termsV_at l j hj
    rw [← hk] at ht
    simp only [List.getElem?_take] at ht
    rw [if_pos (by omega), if_pos (by omega), if_pos (by omega)] at ht
    simpa using ht
theorem RowC.cells {w : World} {g : Nat} {l : List TermL} (h : RowC w g l) (k : Nat) (hk : k < l.length) : w.cell? ⟨g, k * 3, none⟩ = some (.int .i64 l[k].op) ∧ w.cell? ⟨g, k * 3 + 1, none⟩ = some (.int .i64 l[k].n) ∧ w.cell? ⟨g, k * 3 + 2, none⟩ = some (.int .i64 l[k].on) := by
  obtain ⟨C, T, hC, hc⟩ := h
  have h3 := hc k hk
  exact ⟨by simp [World.cell?, hC, h3.1], by simp [World.cell?, hC, h3.2.1], by simp [World.cell?, hC, h3.2.2]⟩
theorem RowC.lt {w : World} {g : Nat} {l : List TermL} (h : RowC w g l) : g < w.heap.size := by
  obtain ⟨C, T, hC, hc⟩ := h
  exact lt_of_row hC
theorem RowC.frozen {w : World} {g : Nat} {l : List TermL} (h : RowC w g l) (k : Nat) : w.frozen? ⟨g, k, none⟩ = false := by
  obtain ⟨C, T, hC, _⟩ := h
  simp [World.frozen?, hC]
theorem RowC.later {w w' : World} {g : Nat} {l : List TermL} (h : RowC w g l) (hb : Below w.heap.size w w') : RowC w' g l := by
  obtain ⟨C, T, hC, hc⟩ := h
  exact ⟨C, T, (hb.block g (lt_of_row hC)).trans hC, hc⟩
theorem RowC.far {w : World} {g : Nat} {l : List TermL} (h : RowC w g l) {p : Addr} (hp : p.block ≠ g) (u : Value) : RowC (w.setCell p u) g l := by
  obtain ⟨C, T, hC, hc⟩ := h
  exact ⟨C, T, (Below.heap_setCell w p u g (Ne.symm hp)).trans hC, hc⟩
theorem RowC.is {w : World} {g cap : Nat} {l : List TermL} (h : RowC w g l) : TermsIs w (.slice (some ⟨g, 0, none⟩) l.length cap) l :=
  .inr ⟨g, 0, cap, rfl, h.lt, fun i hi => by simp only [Nat.zero_add]; exact h.cells i hi⟩
theorem RowsC.is {B : Nat} {w : World} {v : Value} {l : List TermL} (h : RowsC B w v l) : TermsIs w v l := by
  rcases h with h | ⟨g, cap, rfl, _, _, _, hr⟩
  · exact .inl ⟨none, 0, h⟩
  · exact hr.is
theorem RowsC.later {B : Nat} {w w' : World} {v : Value} {l : List TermL} (h : RowsC B w v l) (hb : Below w.heap.size w w') : RowsC B w' v l := by
  rcases h with h | ⟨g, cap, rfl, h0, hB, hlt, hr⟩
  · exact .inl h
  · exact .inr ⟨g, cap, rfl, h0, hB, Nat.lt_of_lt_of_le hlt hb.size, hr.later hb⟩

theorem append_none (xa : Option Addr) (xc : Nat) (w : World) : (Builtin.append_ #[43, 43] 43 #[.slice none 0 0, .slice xa 0 xc]).run Tryz.prog w = .ok (.slice none 0 0) w := by
  obtain ⟨i0, hi0, hz0, hz1, hz2⟩ := info_parts info_t
  cases xa <;> simp [Builtin.append_, run_underlying Tryz.underlying43, sizeOf, typeInfo, hi0, Builtin.lenOf, Builtin.firstCells, loadCells, loadCellsFrom]
theorem wpList_append_run {P : Program} {ops : Array Oper} {rest : List Oper} {o : Oper} {a : Act} {w w' : World} {Q : Exit → Act → World → Prop} {v u r : Value} {t : TypeId} (hgd : o.guard = none) (s x : Operand)
    (ho : o.op = .call { callee := .builtin .append, args := #[s, x], argTypes := #[t, t] }) (hs : a.eval s = v) (hx : a.eval x = u) (hrun : (Builtin.append_ #[t, t] o.type #[v, u]).run P w = .ok r w')
    (h : wpList P ops Q rest (a.put o.dst r) w') : wpList P ops Q (o :: rest) a w :=
  wpList_plain hgd fun _ hK => by
    unfold Oper.wp execOp
    simp only [ho, resolve, invoke, builtin, Sem.run_bind, Sem.run_pure, Result.andThen_ok, List.map_toArray, List.map_cons, List.map_nil, hs, hx, hrun]
    exact hK _ _ h

def RetCopy (c : CardL) (w : World) (e : Ending) (w' : World) : Prop := ∃ v, e = .returned (cagg c v) ∧ RowsC w.heap.size w' v c.terms ∧ Below w.heap.size w w'

set_option maxRecDepth 100000 in
set_option maxHeartbeats 1600000 in
theorem copy_any {c : CardL} {xa : Option Addr} {xc : Nat} {w : World} (ht : TermsIs w (.slice xa c.terms.length xc) c.terms) (hlen : c.terms.length ≤ 30) :
    Calls Tryz.prog 107 #[cagg c (.slice xa c.terms.length xc)] w (RetCopy c w) := by
  by_cases h0 : c.terms.length = 0
  · have hnil : c.terms = [] := List.eq_nil_of_length_eq_zero h0
    have HN := Lib.hid hnil
    rw [h0]
    have ha := append_none xa xc
    clear ht hnil h0 hlen
    unfold cagg
    go_enter Tryz.func107, Tryz.ntmps107
    go_wp2_with (at_builtin; refine wpList_append_run rfl _ _ rfl rfl rfl (ha _) ?_)
    refine bodyPost_ret (by simp [results, Tryz.results107, go_sem]; rfl) rfl ⟨.slice none 0 0, rfl, .inl ⟨rfl, HN.out⟩, ?_⟩
    exact below_alloc2 (below_new w _) _
  · obtain ⟨i0, hi0, hz0, hz1, hz2⟩ := info_parts info_t
    obtain ⟨b, off, cap, hs, hlt, hc⟩ : ∃ b off cap, Value.slice xa c.terms.length xc = .slice (some ⟨b, off, none⟩) c.terms.length cap ∧ b < w.heap.size ∧
      ∀ i (h : i < c.terms.length), w.cell? ⟨b, off + i * 3, none⟩ = some (.int .i64 c.terms[i].op) ∧ w.cell? ⟨b, off + i * 3 + 1, none⟩ = some (.int .i64 c.terms[i].n) ∧ w.cell? ⟨b, off + i * 3 + 2, none⟩ = some (.int .i64 c.terms[i].on) := by
      rcases ht with ⟨_, _, h1, h2⟩ | h
      · rw [h2] at h0; exact absurd rfl h0
      · exact h
    injection hs with h1 _ h2
    subst h1 h2
    have hnews := terms_news hc
    have HC := Lib.hid (show ∀ j u, (termsV c.terms)[j]? = some u → ((w.alloc (.cells #[.int .i64 c.kind, .int .i64 c.cost, .int .i64 c.power, .int .i64 c.tough, .int .i64 c.keys, .int .i64 c.whn, .slice (some ⟨b, off, none⟩) c.terms.length xc] 45)).alloc (.cells #[.int .i64 0, .int .i64 0, .int .i64 0, .int .i64 0, .int .i64 0, .int .i64 0, .slice none 0 0] 45)).cell? ((⟨b, off, none⟩ : Addr).add j) = some u from fun j u hu => cell_stays (below_alloc2 (below_new w _) _) (hnews j u hu))
    have HL := Lib.hid (termsV_len c.terms)
    clear ht hc hnews hlt
    unfold cagg
    go_enter Tryz.func107, Tryz.ntmps107
    go_wp2_with (at_builtin; refine wpList_append_lies _ rfl _ _ 43 rfl w.heap.size 24 i0 _ 3 24 Tryz.underlying43 hi0 hz0 hz1 hz2 rfl (by decide) (.slice none 0 0) 0 [] rfl ⟨by simp, .inl ⟨rfl, rfl⟩⟩ ⟨b, off, none⟩ c.terms.length xc (termsV c.terms) rfl HL.out HC.out (termsV_one _) (by omega) (by unfold maxLen; omega) (by omega) (by simp; omega) _ rfl ?_)
    intro g cap w1 hown hgrow hat hlt
    obtain ⟨hrow, _⟩ := rowC_of hown rfl rfl
    have hg : g = w.heap.size + 1 + 1 := by
      rcases hat with h | h
      · cases h
      · exact h
    subst hg
    have HR := Lib.hid hrow
    have HLT := Lib.hid hlt
    have hb : Below ((w.alloc (.cells #[.int .i64 c.kind, .int .i64 c.cost, .int .i64 c.power, .int .i64 c.tough, .int .i64 c.keys, .int .i64 c.whn, .slice (some ⟨b, off, none⟩) c.terms.length xc] 45)).alloc (.cells #[.int .i64 0, .int .i64 0, .int .i64 0, .int .i64 0, .int .i64 0, .int .i64 0, .slice none 0 0] 45)).heap.size ((w.alloc (.cells #[.int .i64 c.kind, .int .i64 c.cost, .int .i64 c.power, .int .i64 c.tough, .int .i64 c.keys, .int .i64 c.whn, .slice (some ⟨b, off, none⟩) c.terms.length xc] 45)).alloc (.cells #[.int .i64 0, .int .i64 0, .int .i64 0, .int .i64 0, .int .i64 0, .int .i64 0, .slice none 0 0] 45)) w1 := (Below.refl _ _).grown hgrow (Nat.le_refl _) (by simp [Value.ownBlock])
    have HB := Lib.hid hb
    obtain ⟨hc1, hc2⟩ := bcell hb
    have hA := fun j => hc1 w.heap.size j (by simp; try omega)
    have hB := fun j => hc1 (w.heap.size + 1) j (by simp; try omega)
    have fA := fun j => hc2 w.heap.size j (by simp; try omega)
    have fB := fun j => hc2 (w.heap.size + 1) j (by simp; try omega)
    clear hc1 hc2 hb hrow hown hgrow hat hlt
    have a0 : w1.cell? ⟨w.heap.size, 0, none⟩ = some (.int .i64 c.kind) := by rw [hA]; simp [go_sem]
    have a1 : w1.cell? ⟨w.heap.size, 1, none⟩ = some (.int .i64 c.cost) := by rw [hA]; simp [go_sem]
    have a2 : w1.cell? ⟨w.heap.size, 2, none⟩ = some (.int .i64 c.power) := by rw [hA]; simp [go_sem]
    have a3 : w1.cell? ⟨w.heap.size, 3, none⟩ = some (.int .i64 c.tough) := by rw [hA]; simp [go_sem]
    have a4 : w1.cell? ⟨w.heap.size, 4, none⟩ = some (.int .i64 c.keys) := by rw [hA]; simp [go_sem]
    have a5 : w1.cell? ⟨w.heap.size, 5, none⟩ = some (.int .i64 c.whn) := by rw [hA]; simp [go_sem]
    have a6 : w1.cell? ⟨w.heap.size, 6, none⟩ = some (.slice (some ⟨b, off, none⟩) c.terms.length xc) := by rw [hA]; simp [go_sem]
    have b0 : w1.cell? ⟨w.heap.size + 1, 0, none⟩ = some (.int .i64 0) := by rw [hB]; simp [go_sem]
    have b1 : w1.cell? ⟨w.heap.size + 1, 1, none⟩ = some (.int .i64 0) := by rw [hB]; simp [go_sem]
    have b2 : w1.cell? ⟨w.heap.size + 1, 2, none⟩ = some (.int .i64 0) := by rw [hB]; simp [go_sem]
    have b3 : w1.cell? ⟨w.heap.size + 1, 3, none⟩ = some (.int .i64 0) := by rw [hB]; simp [go_sem]
    have b4 : w1.cell? ⟨w.heap.size + 1, 4, none⟩ = some (.int .i64 0) := by rw [hB]; simp [go_sem]
    have b5 : w1.cell? ⟨w.heap.size + 1, 5, none⟩ = some (.int .i64 0) := by rw [hB]; simp [go_sem]
    have b6 : w1.cell? ⟨w.heap.size + 1, 6, none⟩ = some (.slice none 0 0) := by rw [hB]; simp [go_sem]
    have f0 : w1.frozen? ⟨w.heap.size, 6, none⟩ = false := by rw [fA]; simp [go_sem]
    have g0 : w1.frozen? ⟨w.heap.size + 1, 0, none⟩ = false := by rw [fB]; simp [go_sem]
    have g1 : w1.frozen? ⟨w.heap.size + 1, 1, none⟩ = false := by rw [fB]; simp [go_sem]
    have g2 : w1.frozen? ⟨w.heap.size + 1, 2, none⟩ = false := by rw [fB]; simp [go_sem]
    have g3 : w1.frozen? ⟨w.heap.size + 1, 3, none⟩ = false := by rw [fB]; simp [go_sem]
    have g4 : w1.frozen? ⟨w.heap.size + 1, 4, none⟩ = false := by rw [fB]; simp [go_sem]
    have g5 : w1.frozen? ⟨w.heap.size + 1, 5, none⟩ = false := by rw [fB]; simp [go_sem]
    have g6 : w1.frozen? ⟨w.heap.size + 1, 6, none⟩ = false := by rw [fB]; simp [go_sem]
    clear hA hB fA fB
    go_wp2
    refine bodyPost_ret (by simp [results, Tryz.results107, go_sem, b0, b1, b2, b3, b4, b5, b6]; rfl) rfl ⟨.slice (some ⟨w.heap.size + 1 + 1, 0, none⟩) c.terms.length cap, rfl, .inr ⟨_, cap, rfl, by omega, by omega, ?_, ?_⟩, ?_⟩
    · have := HLT.out
      simpa [World.setCell] using this
    · exact (((((((HR.out.far (by simp; try omega) _).far (by simp) _).far (by simp) _).far (by simp) _).far (by simp) _).far (by simp) _).far (by simp) _).far (by simp) _
    · exact (((((((((below_alloc2 (below_new w _) _).trans (HB.out.mono (by simp; try omega))).setCell (by simp) _).setCell (by simp) _).setCell (by simp) _).setCell (by simp) _).setCell (by simp) _).setCell (by simp) _).setCell (by simp) _).setCell (by simp) _
end Go.Proofs.YtgjojjhppgjkkaaGreat.Crd
namespace Go.Proofs.YtgjojjhppgjkkaaGreat.Crd
open Go.RowKit
def eqT (t u : TermL) : Bool := t.op == u.op && (t.n == u.n && t.on == u.on)
def sameL : List TermL → List TermL → Bool
  | [], [] => true
  | t :: l, u :: r => eqT t u && sameL l r
  | _, _ => false
def sameB (a b : CardL) : Bool := a.kind == b.kind && (a.cost == b.cost && (a.power == b.power && (a.tough == b.tough && (a.keys == b.keys && (a.whn == b.whn && sameL a.terms b.terms)))))
theorem eqT_iff (t u : TermL) : eqT t u = true ↔ t = u := by
  obtain ⟨a, b, c⟩ := t
  obtain ⟨a', b', c'⟩ := u
  simp [eqT]
theorem sameL_iff : ∀ l r : List TermL, sameL l r = true ↔ l = r
  | [], [] => by simp [sameL]
  | [], _ :: _ => by simp [sameL]
  | _ :: _, [] => by simp [sameL]
  | t :: l, u :: r => by simp [sameL, eqT_iff, sameL_iff l r]
theorem sameB_iff (a b : CardL) : sameB a b = true ↔ a = b := by
  obtain ⟨a1, a2, a3, a4, a5, a6, a7⟩ := a
  obtain ⟨b1, b2, b3, b4, b5, b6, b7⟩ := b
  simp [sameB, sameL_iff]
theorem sameL_len {l r : List TermL} (h : l.length ≠ r.length) : sameL l r = false := by
  cases hs : sameL l r
  · rfl
  · rw [(sameL_iff l r).1 hs] at h; exact absurd rfl h
theorem sameL_no {l r : List TermL} (k : Nat) (hl : k < l.length) (hr : k < r.length) (h : l[k] ≠ r[k]) : sameL l r = false := by
  cases hs : sameL l r
  · rfl
  · have := (sameL_iff l r).1 hs
    subst this
    exact absurd rfl h
theorem sameL_yes {l r : List TermL} (hn : l.length = r.length) (h : l.take l.length = r.take l.length) : sameL l r = true := by
  rw [List.take_length, hn, List.take_length] at h
  exact (sameL_iff l r).2 h
theorem same_first {a b : CardL} (h1 : a.kind = b.kind) (h2 : a.cost = b.cost) (h3 : a.power = b.power) (h4 : a.tough = b.tough) (h5 : a.keys = b.keys) (h6 : a.whn = b.whn) : sameB a b = sameL a.terms b.terms := by
  simp [sameB, h1, h2, h3, h4, h5, h6]
theorem terms_at {w : World} {xa : Option Addr} {xc : Nat} {l : List TermL} (h : TermsIs w (.slice xa l.length xc) l) (k : Nat) (hk : k < l.length) :
    ∃ b off, xa = some ⟨b, off, none⟩ ∧ w.cell? ⟨b, off + k * 3, none⟩ = some (.int .i64 l[k].op) ∧ w.cell? ⟨b, off + k * 3 + 1, none⟩ = some (.int .i64 l[k].n) ∧ w.cell? ⟨b, off + k * 3 + 2, none⟩ = some (.int .i64 l[k].on) := by
  rcases h with ⟨_, _, h1, h2⟩ | ⟨b, off, cap, h1, h2, h3⟩
  · rw [h2] at hk; simp at hk
  · injection h1 with h1 _ _; exact ⟨b, off, h1, h3 k hk⟩

end Go.Proofs.YtgjojjhppgjkkaaGreat.Crd
namespace Go.Proofs.YtgjojjhppgjkkaaGreat.Crd
open Go.RowKit

theorem eqTerms (n : Nat) (a b c a' b' c' : Int) (w : World) : (Op.equalIn (n + 2) 24 (.agg #[.int .i64 a, .int .i64 b, .int .i64 c]) (.agg #[.int .i64 a', .int .i64 b', .int .i64 c'])).run Tryz.prog w = .ok (a == a' && (b == b' && c == c')) w := by
  have u3 := Tryz.underlying3
  have a3 := Tryz.isAgg3
  have z3 := Tryz.sizeOf3
  have hS : Tryz.prog.underlying 24 = some (.struct (Tryz.prog.fieldsOf 24)) := by kernel_rfl
  rw [run_equalIn_agg w (n + 1) 24 _ _ hS (by kernel_rfl)]
  simp only [Program.fieldsOf, Tryz.underlying24]
  go_simp
  by_cases h1 : a = a' <;> by_cases h2 : b = b' <;> by_cases h3 : c = c' <;> simp [h1, h2, h3]
theorem neqTerms (a b c a' b' c' : Int) (w : World) : (binOp .neq 24 (.agg #[.int .i64 a, .int .i64 b, .int .i64 c]) (.agg #[.int .i64 a', .int .i64 b', .int .i64 c'])).run Tryz.prog w = .ok (.bool (!(a == a' && (b == b' && c == c')))) w := by
  rw [run_neq_struct, eqTerms 9998]
  rfl
theorem neqgT (x y : Operand) (xs ys : Array Value) (W : World) : (eqGuard .neq 24 x y (.agg xs) (.agg ys)).run Tryz.prog W = .ok () W := run_eqGuard_agg W .neq 24 x y xs ys (by kernel_rfl)

set_option maxRecDepth 100000 in
set_option maxHeartbeats 4000000 in
theorem equal_any {v u : Value} {l r : List TermL} {w : World} (hl : TermsIs w v l) (hr : TermsIs w u r) (hn : l.length ≤ 9223372036854775807) :
    Calls Tryz.prog 119 #[v, u] w fun e w' => e = .returned (.bool (sameL l r)) ∧ ∃ n, w' = w.drewN n := by
  have hv : ∃ xa xc, v = .slice xa l.length xc := by
    rcases hl with ⟨_, _, rfl, rfl⟩ | ⟨b, off, cap, rfl, _⟩
    · exact ⟨_, _, rfl⟩
    · exact ⟨_, _, rfl⟩
  have hu : ∃ xa xc, u = .slice xa r.length xc := by
    rcases hr with ⟨_, _, rfl, rfl⟩ | ⟨b, off, cap, rfl, _⟩
    · exact ⟨_, _, rfl⟩
    · exact ⟨_, _, rfl⟩
  obtain ⟨xa, xc, rfl⟩ := hv
  obtain ⟨ya, yc, rfl⟩ := hu
  have HL := Lib.hid hl
  have HR := Lib.hid hr
  clear hl hr
  by_cases hne : l.length ≠ r.length
  · have d : ((l.length : Int) != r.length) = true := bne_iff_ne.2 (by omega)
    have HS := Lib.hid (sameL_len hne)
    clear hne
    go_enter Tryz.func119, Tryz.ntmps119
    go_wp2
    go_ret
    exact ⟨ret_bool HS.out.symm, 0, rfl⟩
  have heq : l.length = r.length := Classical.not_not.1 hne
  have d : ((l.length : Int) != r.length) = false := by rw [heq]; exact bne_self_eq_false _
  have HQ := Lib.hid heq
  clear hne heq
  have h1 := @neqTerms
  have h2 := @neqgT
  go_enter Tryz.func119, Tryz.ntmps119
  go_wp2
  go_loopw [13] (fun i wr => ∃ k n : Nat, k ≤ l.length ∧ i = .int .i64 k ∧ wr = w.drewN n ∧ Hid (l.take k = r.take k)) (fun i _ => l.length - (intOf i).toNat)
  case atStart => exact ⟨0, 0, Nat.zero_le _, rfl, rfl, Lib.hid rfl⟩
  case round =>
    obtain ⟨k, n, hk, rfl, rfl, HK⟩ := hrel
    by_cases hlt : k < l.length
    · have hlt2 : k < r.length := by have := HQ.out; omega
      obtain ⟨p, o, rfl, x0, x1, x2⟩ := terms_at HL.out k hlt
      obtain ⟨p', o', rfl, y0, y1, y2⟩ := terms_at HR.out k hlt2
      obtain ⟨E, hE⟩ : ∃ E, (l[k].op == r[k].op && (l[k].n == r[k].n && l[k].on == r[k].on)) = E := ⟨_, rfl⟩
      have hE2 : eqT l[k] r[k] = E := hE
      have h3 := fun W => neqTerms l[k].op l[k].n l[k].on r[k].op r[k].n r[k].on W
      rw [hE] at h3
      clear hE h1
      cases E
      · have HS := Lib.hid (show sameL l r = false from sameL_no k hlt hlt2 (fun e => by rw [(eqT_iff _ _).2 e] at hE2; exact absurd hE2 (by decide)))
        clear hE2
        go_wp2
        go_quiet (fail)
        go_wp2
        go_ret
        exact ⟨ret_bool HS.out.symm, _, World.drewN_drewN _ _ _⟩
      · have HT : Hid (l.take (k + 1) = r.take (k + 1)) := Lib.hid (by
          rw [take_last _ k hlt, take_last _ k hlt2, HK.out, (eqT_iff _ _).1 hE2])
        clear hE2
        go_wp2
        go_quiet (fail)
        go_wp2
        go_roundw
        case rel => exact ⟨k + 1, _, by omega, by go_num, rfl, HT⟩
        case measure => simp [intOf]; omega
    · obtain rfl : k = l.length := by omega
      have HS := Lib.hid (sameL_yes HQ.out HK.out)
      go_wp2
      go_ret
      exact ⟨ret_bool HS.out.symm, _, rfl⟩
end Go.Proofs.YtgjojjhppgjkkaaGreat.Crd
namespace Go.Proofs.YtgjojjhppgjkkaaGreat.Crd
open Go.RowKit

theorem keep14 {A w1 w2 : World} {p0 p1 p2 p3 p4 p5 p6 p7 p8 p9 p10 p11 p12 p13 : Addr} {v0 v1 v2 v3 v4 v5 v6 v7 v8 v9 v10 v11 v12 v13 : Value} (hb : Below w1.heap.size w1 w2)
    (h : Below A.heap.size A w1 ∧ w1.cell? p0 = some v0 ∧ w1.cell? p1 = some v1 ∧ w1.cell? p2 = some v2 ∧ w1.cell? p3 = some v3 ∧ w1.cell? p4 = some v4 ∧ w1.cell? p5 = some v5 ∧ w1.cell? p6 = some v6 ∧ w1.cell? p7 = some v7 ∧ w1.cell? p8 = some v8 ∧ w1.cell? p9 = some v9 ∧ w1.cell? p10 = some v10 ∧ w1.cell? p11 = some v11 ∧ w1.cell? p12 = some v12 ∧ w1.cell? p13 = some v13) :
    Below A.heap.size A w2 ∧ w2.cell? p0 = some v0 ∧ w2.cell? p1 = some v1 ∧ w2.cell? p2 = some v2 ∧ w2.cell? p3 = some v3 ∧ w2.cell? p4 = some v4 ∧ w2.cell? p5 = some v5 ∧ w2.cell? p6 = some v6 ∧ w2.cell? p7 = some v7 ∧ w2.cell? p8 = some v8 ∧ w2.cell? p9 = some v9 ∧ w2.cell? p10 = some v10 ∧ w2.cell? p11 = some v11 ∧ w2.cell? p12 = some v12 ∧ w2.cell? p13 = some v13 := by
  obtain ⟨h, c0, c1, c2, c3, c4, c5, c6, c7, c8, c9, c10, c11, c12, c13⟩ := h
  exact ⟨h.trans (hb.mono h.size), cell_stays hb c0, cell_stays hb c1, cell_stays hb c2, cell_stays hb c3, cell_stays hb c4, cell_stays hb c5, cell_stays hb c6, cell_stays hb c7, cell_stays hb c8, cell_stays hb c9, cell_stays hb c10, cell_stays hb c11, cell_stays hb c12, cell_stays hb c13⟩

theorem numbers_ints (i0 i1 i2 i3 i4 i5 : Int) (xa : Option Addr) (xn xc : Nat) (w : World) :
    Calls Tryz.prog 118 #[.agg #[.int .i64 i0, .int .i64 i1, .int .i64 i2, .int .i64 i3, .int .i64 i4, .int .i64 i5, .slice xa xn xc]] w fun e w' => e = .returned (.agg #[.int .i64 i0, .int .i64 i1, .int .i64 i2, .int .i64 i3, .int .i64 i4, .int .i64 i5]) ∧ Below w.heap.size w w' :=
  numbers_any ⟨i0, i1, i2, i3, i4, i5, []⟩ xa xn xc w
theorem equal_below {v u : Value} {l r : List TermL} {w : World} (hl : TermsIs w v l) (hr : TermsIs w u r) (hn : l.length ≤ 9223372036854775807) :
    Calls Tryz.prog 119 #[v, u] w (RetB w (sameL l r)) :=
  (equal_any hl hr hn).mono fun _ _ ⟨he, n, hw⟩ => ⟨he, by rw [hw]; exact below_drewN (Below.refl _ _) n⟩
def six2 (a b : CardL) : Bool := a.kind == b.kind && (a.cost == b.cost && (a.power == b.power && (a.tough == b.tough && (a.keys == b.keys && a.whn == b.whn))))
theorem same_six (a b : CardL) : sameB a b = (six2 a b && sameL a.terms b.terms) := by simp only [sameB, six2, Bool.and_assoc]

set_option maxRecDepth 100000 in
set_option maxHeartbeats 4000000 in
theorem same_any {a b : CardL} {v u : Value} {w : World} (ha : CardIs w v a) (hb : CardIs w u b) (hla : a.terms.length ≤ 9223372036854775807) :
    Calls Tryz.prog 88 #[v, u] w (RetB w (sameB a b)) := by
  obtain ⟨xa, xn, xc, rfl, hta⟩ := ha
  obtain ⟨ya, yn, yc, rfl, htb⟩ := hb
  obtain rfl := CardIs.len hta
  obtain rfl := CardIs.len htb
  have HTA := Lib.hid hta
  have HTB := Lib.hid htb
  have HLA := Lib.hid hla
  have he := fun W => (show (binOp .eql 178 (.agg #[.int .i64 a.kind, .int .i64 a.cost, .int .i64 a.power, .int .i64 a.tough, .int .i64 a.keys, .int .i64 a.whn]) (.agg #[.int .i64 b.kind, .int .i64 b.cost, .int .i64 b.power, .int .i64 b.tough, .int .i64 b.keys, .int .i64 b.whn])).run Tryz.prog W = .ok (.bool (six2 a b)) W by rw [run_eql_struct, equal6 9998]; rfl)
  have hg := eqg6
  have HSIX := Lib.hid (same_six a b)
  rw [HSIX.out]
  clear hta htb hla
  have hinit : Below w.heap.size w ((w.alloc (.cells #[.int .i64 a.kind, .int .i64 a.cost, .int .i64 a.power, .int .i64 a.tough, .int .i64 a.keys, .int .i64 a.whn, .slice xa a.terms.length xc] 45)).alloc (.cells #[.int .i64 b.kind, .int .i64 b.cost, .int .i64 b.power, .int .i64 b.tough, .int .i64 b.keys, .int .i64 b.whn, .slice ya b.terms.length yc] 45)) ∧ ((w.alloc (.cells #[.int .i64 a.kind, .int .i64 a.cost, .int .i64 a.power, .int .i64 a.tough, .int .i64 a.keys, .int .i64 a.whn, .slice xa a.terms.length xc] 45)).alloc (.cells #[.int .i64 b.kind, .int .i64 b.cost, .int .i64 b.power, .int .i64 b.tough, .int .i64 b.keys, .int .i64 b.whn, .slice ya b.terms.length yc] 45)).cell? ⟨w.heap.size, 0, none⟩ = some (.int .i64 a.kind) ∧ ((w.alloc (.cells #[.int .i64 a.kind, .int .i64 a.cost, .int .i64 a.power, .int .i64 a.tough, .int .i64 a.keys, .int .i64 a.whn, .slice xa a.terms.length xc] 45)).alloc (.cells #[.int .i64 b.kind, .int .i64 b.cost, .int .i64 b.power, .int .i64 b.tough, .int .i64 b.keys, .int .i64 b.whn, .slice ya b.terms.length yc] 45)).cell? ⟨w.heap.size, 1, none⟩ = some (.int .i64 a.cost) ∧ ((w.alloc (.cells #[.int .i64 a.kind, .int .i64 a.cost, .int .i64 a.power, .int .i64 a.tough, .int .i64 a.keys, .int .i64 a.whn, .slice xa a.terms.length xc] 45)).alloc (.cells #[.int .i64 b.kind, .int .i64 b.cost, .int .i64 b.power, .int .i64 b.tough, .int .i64 b.keys, .int .i64 b.whn, .slice ya b.terms.length yc] 45)).cell? ⟨w.heap.size, 2, none⟩ = some (.int .i64 a.power) ∧ ((w.alloc (.cells #[.int .i64 a.kind, .int .i64 a.cost, .int .i64 a.power, .int .i64 a.tough, .int .i64 a.keys, .int .i64 a.whn, .slice xa a.terms.length xc] 45)).alloc (.cells #[.int .i64 b.kind, .int .i64 b.cost, .int .i64 b.power, .int .i64 b.tough, .int .i64 b.keys, .int .i64 b.whn, .slice ya b.terms.length yc] 45)).cell? ⟨w.heap.size, 3, none⟩ = some (.int .i64 a.tough) ∧ ((w.alloc (.cells #[.int .i64 a.kind, .int .i64 a.cost, .int .i64 a.power, .int .i64 a.tough, .int .i64 a.keys, .int .i64 a.whn, .slice xa a.terms.length xc] 45)).alloc (.cells #[.int .i64 b.kind, .int .i64 b.cost, .int .i64 b.power, .int .i64 b.tough, .int .i64 b.keys, .int .i64 b.whn, .slice ya b.terms.length yc] 45)).cell? ⟨w.heap.size, 4, none⟩ = some (.int .i64 a.keys) ∧ ((w.alloc (.cells #[.int .i64 a.kind, .int .i64 a.cost, .int .i64 a.power, .int .i64 a.tough, .int .i64 a.keys, .int .i64 a.whn, .slice xa a.terms.length xc] 45)).alloc (.cells #[.int .i64 b.kind, .int .i64 b.cost, .int .i64 b.power, .int .i64 b.tough, .int .i64 b.keys, .int .i64 b.whn, .slice ya b.terms.length yc] 45)).cell? ⟨w.heap.size, 5, none⟩ = some (.int .i64 a.whn) ∧ ((w.alloc (.cells #[.int .i64 a.kind, .int .i64 a.cost, .int .i64 a.power, .int .i64 a.tough, .int .i64 a.keys, .int .i64 a.whn, .slice xa a.terms.length xc] 45)).alloc (.cells #[.int .i64 b.kind, .int .i64 b.cost, .int .i64 b.power, .int .i64 b.tough, .int .i64 b.keys, .int .i64 b.whn, .slice ya b.terms.length yc] 45)).cell? ⟨w.heap.size, 6, none⟩ = some (.slice xa a.terms.length xc) ∧ ((w.alloc (.cells #[.int .i64 a.kind, .int .i64 a.cost, .int .i64 a.power, .int .i64 a.tough, .int .i64 a.keys, .int .i64 a.whn, .slice xa a.terms.length xc] 45)).alloc (.cells #[.int .i64 b.kind, .int .i64 b.cost, .int .i64 b.power, .int .i64 b.tough, .int .i64 b.keys, .int .i64 b.whn, .slice ya b.terms.length yc] 45)).cell? ⟨w.heap.size + 1, 0, none⟩ = some (.int .i64 b.kind) ∧ ((w.alloc (.cells #[.int .i64 a.kind, .int .i64 a.cost, .int .i64 a.power, .int .i64 a.tough, .int .i64 a.keys, .int .i64 a.whn, .slice xa a.terms.length xc] 45)).alloc (.cells #[.int .i64 b.kind, .int .i64 b.cost, .int .i64 b.power, .int .i64 b.tough, .int .i64 b.keys, .int .i64 b.whn, .slice ya b.terms.length yc] 45)).cell? ⟨w.heap.size + 1, 1, none⟩ = some (.int .i64 b.cost) ∧ ((w.alloc (.cells #[.int .i64 a.kind, .int .i64 a.cost, .int .i64 a.power, .int .i64 a.tough, .int .i64 a.keys, .int .i64 a.whn, .slice xa a.terms.length xc] 45)).alloc (.cells #[.int .i64 b.kind, .int .i64 b.cost, .int .i64 b.power, .int .i64 b.tough, .int .i64 b.keys, .int .i64 b.whn, .slice ya b.terms.length yc] 45)).cell? ⟨w.heap.size + 1, 2, none⟩ = some (.int .i64 b.power) ∧ ((w.alloc (.cells #[.int .i64 a.kind, .int .i64 a.cost, .int .i64 a.power, .int .i64 a.tough, .int .i64 a.keys, .int .i64 a.whn, .slice xa a.terms.length xc] 45)).alloc (.cells #[.int .i64 b.kind, .int .i64 b.cost, .int .i64 b.power, .int .i64 b.tough, .int .i64 b.keys, .int .i64 b.whn, .slice ya b.terms.length yc] 45)).cell? ⟨w.heap.size + 1, 3, none⟩ = some (.int .i64 b.tough) ∧ ((w.alloc (.cells #[.int .i64 a.kind, .int .i64 a.cost, .int .i64 a.power, .int .i64 a.tough, .int .i64 a.keys, .int .i64 a.whn, .slice xa a.terms.length xc] 45)).alloc (.cells #[.int .i64 b.kind, .int .i64 b.cost, .int .i64 b.power, .int .i64 b.tough, .int .i64 b.keys, .int .i64 b.whn, .slice ya b.terms.length yc] 45)).cell? ⟨w.heap.size + 1, 4, none⟩ = some (.int .i64 b.keys) ∧ ((w.alloc (.cells #[.int .i64 a.kind, .int .i64 a.cost, .int .i64 a.power, .int .i64 a.tough, .int .i64 a.keys, .int .i64 a.whn, .slice xa a.terms.length xc] 45)).alloc (.cells #[.int .i64 b.kind, .int .i64 b.cost, .int .i64 b.power, .int .i64 b.tough, .int .i64 b.keys, .int .i64 b.whn, .slice ya b.terms.length yc] 45)).cell? ⟨w.heap.size + 1, 5, none⟩ = some (.int .i64 b.whn) ∧ ((w.alloc (.cells #[.int .i64 a.kind, .int .i64 a.cost, .int .i64 a.power, .int .i64 a.tough, .int .i64 a.keys, .int .i64 a.whn, .slice xa a.terms.length xc] 45)).alloc (.cells #[.int .i64 b.kind, .int .i64 b.cost, .int .i64 b.power, .int .i64 b.tough, .int .i64 b.keys, .int .i64 b.whn, .slice ya b.terms.length yc] 45)).cell? ⟨w.heap.size + 1, 6, none⟩ = some (.slice ya b.terms.length yc) := by
    refine ⟨((Below.refl _ _).alloc (Nat.le_refl _) _).alloc (by simp) _, ?_⟩
    simp [go_sem]
  have HI := Lib.hid hinit
  clear hinit
  unfold cagg
  cases hs : six2 a b
  · rw [hs] at he
    clear hs
    obtain ⟨_, i0, i1, i2, i3, i4, i5, i6, j0, j1, j2, j3, j4, j5, j6⟩ := HI.out
    go_enter Tryz.func88, Tryz.ntmps88
    go_wp2
    first
    | go_region_with (first
      | (go_at_call 118; refine (numbers_ints _ _ _ _ _ _ _ _ _ _).mono ?_; rintro e w2 ⟨rfl, hb2⟩; (first | (have HJ := Lib.hid (keep14 hb2 HJ.out)) | (have HJ := Lib.hid (keep14 hb2 (keep14 ((Below.refl _ _).drew) HI.out)))); obtain ⟨_, i0, i1, i2, i3, i4, i5, i6, j0, j1, j2, j3, j4, j5, j6⟩ := HJ.out))
    | fail "with"
    all_goals
      have hB := HJ.out.1
      go_wp2
      go_ret
      exact ⟨rfl, hB⟩
  · rw [hs] at he
    clear hs
    go_enter Tryz.func88, Tryz.ntmps88
    go_wp2
    go_region_held3 (fun w' => Below w.heap.size w w' ∧ w'.cell? ⟨w.heap.size, 0, none⟩ = some (.int .i64 a.kind) ∧ w'.cell? ⟨w.heap.size, 1, none⟩ = some (.int .i64 a.cost) ∧ w'.cell? ⟨w.heap.size, 2, none⟩ = some (.int .i64 a.power) ∧ w'.cell? ⟨w.heap.size, 3, none⟩ = some (.int .i64 a.tough) ∧ w'.cell? ⟨w.heap.size, 4, none⟩ = some (.int .i64 a.keys) ∧ w'.cell? ⟨w.heap.size, 5, none⟩ = some (.int .i64 a.whn) ∧ w'.cell? ⟨w.heap.size, 6, none⟩ = some (.slice xa a.terms.length xc) ∧ w'.cell? ⟨w.heap.size + 1, 0, none⟩ = some (.int .i64 b.kind) ∧ w'.cell? ⟨w.heap.size + 1, 1, none⟩ = some (.int .i64 b.cost) ∧ w'.cell? ⟨w.heap.size + 1, 2, none⟩ = some (.int .i64 b.power) ∧ w'.cell? ⟨w.heap.size + 1, 3, none⟩ = some (.int .i64 b.tough) ∧ w'.cell? ⟨w.heap.size + 1, 4, none⟩ = some (.int .i64 b.keys) ∧ w'.cell? ⟨w.heap.size + 1, 5, none⟩ = some (.int .i64 b.whn) ∧ w'.cell? ⟨w.heap.size + 1, 6, none⟩ = some (.slice ya b.terms.length yc))
        (first | assumption | (with_reducible exact HI.out) | exact keep14 ((Below.refl _ _).drew) HI.out | exact keep14 (by assumption) (by assumption))
        (first
          | (go_at_call 118; refine (numbers_ints _ _ _ _ _ _ _ _ _ _).mono ?_; rintro e w2 ⟨rfl, hb2⟩)
          | (go_at_call 119; refine (equal_below (HTA.out.later (And.left (by assumption))) (HTB.out.later (And.left (by assumption))) HLA.out).mono ?_; rintro e w2 ⟨rfl, hb2⟩))
    have hB : Below w.heap.size w w2 := And.left (by assumption)
    go_wp2
    go_ret
    exact ⟨rfl, hB⟩
end Go.Proofs.YtgjojjhppgjkkaaGreat.Crd
namespace Go.Proofs.YtgjojjhppgjkkaaGreat.Crd
open Go.RowKit

/-- A card's cells at a place. -/
def CardCells (w : World) (b o : Nat) (c : CardL) : Prop :=
  ∃ ya yc, w.cell? ⟨b, o, none⟩ = some (.int .i64 c.kind) ∧ w.cell? ⟨b, o + 1, none⟩ = some (.int .i64 c.cost) ∧ w.cell? ⟨b, o + 2, none⟩ = some (.int .i64 c.power) ∧ w.cell? ⟨b, o + 3, none⟩ = some (.int .i64 c.tough) ∧
    w.cell? ⟨b, o + 4, none⟩ = some (.int .i64 c.keys) ∧ w.cell? ⟨b, o + 5, none⟩ = some (.int .i64 c.whn) ∧ w.cell? ⟨b, o + 6, none⟩ = some (.slice ya c.terms.length yc) ∧ TermsIs w (.slice ya c.terms.length yc) c.terms
theorem CardCells.later {w w' : World} {b o : Nat} {c : CardL} (h : CardCells w b o c) (hb : Below w.heap.size w w') : CardCells w' b o c := by
  obtain ⟨ya, yc, c0, c1, c2, c3, c4, c5, c6, ht⟩ := h
  exact ⟨ya, yc, cell_stays hb c0, cell_stays hb c1, cell_stays hb c2, cell_stays hb c3, cell_stays hb c4, cell_stays hb c5, cell_stays hb c6, ht.later hb⟩
/-- A list of cards in memory, or no list; what it holds. -/
def CardsAt (w : World) (v : Value) (l : List CardL) : Prop :=
  (∃ xa cap, v = .slice xa 0 cap ∧ l = []) ∨ ∃ b off cap, v = .slice (some ⟨b, off, none⟩) l.length cap ∧ b < w.heap.size ∧ ∀ i (h : i < l.length), CardCells w b (off + i * 7) l[i]
theorem CardsAt.later {w w' : World} {v : Value} {l : List CardL} (h : CardsAt w v l) (hb : Below w.heap.size w w') : CardsAt w' v l := by
  rcases h with h | ⟨b, off, cap, rfl, hlt, hc⟩
  · exact .inl h
  · exact .inr ⟨b, off, cap, rfl, Nat.lt_of_lt_of_le hlt hb.size, fun i hi => (hc i hi).later hb⟩
theorem CardsAt.form {w : World} {v : Value} {l : List CardL} (h : CardsAt w v l) : ∃ xa xc, v = .slice xa l.length xc := by
  rcases h with ⟨xa, cap, rfl, rfl⟩ | ⟨b, off, cap, rfl, _⟩
  · exact ⟨xa, cap, rfl⟩
  · exact ⟨_, cap, rfl⟩
theorem CardsAt.at {w : World} {xa : Option Addr} {xc : Nat} {l : List CardL} (h : CardsAt w (.slice xa l.length xc) l) (k : Nat) (hk : k < l.length) : ∃ b off, xa = some ⟨b, off, none⟩ ∧ CardCells w b (off + k * 7) l[k] := by
  rcases h with ⟨_, _, _, h2⟩ | ⟨b, off, cap, h1, _, hc⟩
  · subst h2; simp at hk
  · injection h1 with h1 _ _; exact ⟨b, off, h1, hc k hk⟩
def tableE (l : List CardL) : Int := if 60 < l.length then 5 else if l.all mayB then 0 else 8
/-- No list of terms is longer than an int tells. -/
def SmallC (l : List CardL) : Prop := ∀ c ∈ l, c.terms.length ≤ 9223372036854775807
theorem SmallC.at {l : List CardL} (h : SmallC l) (k : Nat) (hk : k < l.length) : l[k].terms.length ≤ 9223372036854775807 := h _ (List.getElem_mem hk)
theorem allB_next {α : Type} {p : α → Bool} {l : List α} {k : Nat} (hk : k < l.length) (h : (l.take k).all p = true) (hp : p l[k] = true) : (l.take (k + 1)).all p = true := by
  rw [take_last l k hk, List.all_append, h]; simp [hp]
theorem allB_not {α : Type} {p : α → Bool} {l : List α} {k : Nat} (hk : k < l.length) (hp : p l[k] = false) : l.all p = false := by
  cases h : l.all p
  · rfl
  · rw [List.all_eq_true] at h
    rw [h _ (List.getElem_mem hk)] at hp; exact absurd hp (by decide)
theorem allB_done {α : Type} {p : α → Bool} {l : List α} (h : (l.take l.length).all p = true) : l.all p = true := by rwa [List.take_length] at h

set_option maxRecDepth 100000 in
set_option maxHeartbeats 4000000 in
theorem table_any {v : Value} {l : List CardL} {w : World} (h : CardsAt w v l) (hn : l.length ≤ 9223372036854775807) (hs : SmallC l) :
    Calls Tryz.prog 68 #[v] w (fun e w' => e = .returned (.int .i64 (tableE l)) ∧ Below w.heap.size w w') := by
  obtain ⟨xa, xc, rfl⟩ := h.form
  have HL := Lib.hid h
  have HS := Lib.hid hs
  clear h hs
  by_cases h60 : 60 < l.length
  · have HE := Lib.hid (show tableE l = 5 by unfold tableE; rw [if_pos h60])
    have e1 : decide ((60 : Int) < l.length) = true := decide_eq_true (by omega)
    clear h60
    go_enter Tryz.func68, Tryz.ntmps68
    go_wp2
    go_ret
    exact ⟨ret_int HE.out.symm, Below.refl _ _⟩
  · have HE := Lib.hid (show tableE l = if l.all mayB then 0 else 8 by unfold tableE; rw [if_neg h60])
    have e1 : decide ((60 : Int) < l.length) = false := decide_eq_false (by omega)
    go_enter Tryz.func68, Tryz.ntmps68
    go_wp2
    go_loopw [10] (fun i wr => ∃ k : Nat, k ≤ l.length ∧ i = .int .i64 k ∧ Hid ((l.take k).all mayB = true) ∧ Hid (Below w.heap.size w wr)) (fun i _ => l.length - (intOf i).toNat)
    case atStart => exact ⟨0, Nat.zero_le _, rfl, Lib.hid (by simp), Lib.hid (Below.refl _ _)⟩
    case round =>
      obtain ⟨k, hk, rfl, HK, HB⟩ := hrel
      by_cases hlt : k < l.length
      · obtain ⟨b, off, rfl, hcell⟩ := (HL.out.later HB.out).at k hlt
        have hsl := HS.out.at k hlt
        obtain ⟨c, hcc⟩ : ∃ c, l[k] = c := ⟨_, rfl⟩
        rw [hcc] at hcell hsl
        have HCC := Lib.hid hcc
        obtain ⟨ya, yc, c0, c1, c2, c3, c4, c5, c6, ht⟩ := hcell
        have HT := Lib.hid ht
        have HLN := Lib.hid hsl
        have HLT := Lib.hid hlt
        have d0 : (0 : Int) ≤ k := by omega
        have d1 : (k : Int) < l.length := by omega
        clear ht hsl hcc
        obtain ⟨mm, hmm⟩ : ∃ mm, mayB c = mm := ⟨_, rfl⟩
        have HM := Lib.hid hmm
        clear hmm
        go_wp2_with fail
        refine (check_any ⟨ya, _, yc, rfl, HT.out.later (below_new _ _)⟩ HLN.out).mono ?_
        rw [HM.out]
        rintro e w2 ⟨rfl, hb2⟩
        have HB2 := Lib.hid (HB.out.trans ((below_new wr _).mono HB.out.size |>.trans (hb2.mono (by have := HB.out.size; simp; omega))))
        clear hb2 c0 c1 c2 c3 c4 c5 c6
        cases mm
        · go_wp2
          go_ret
          exact ⟨ret_int (by rw [HE.out, allB_not HLT.out (by rw [HCC.out]; exact HM.out)]; rfl), HB2.out⟩
        · go_wp2
          go_roundw
          case rel => exact ⟨k + 1, by omega, by go_num, Lib.hid (allB_next HLT.out HK.out (by rw [HCC.out]; exact HM.out)), HB2⟩
          case measure => simp [intOf]; omega
      · obtain rfl : k = l.length := by omega
        have HA := Lib.hid (allB_done HK.out)
        go_wp2
        go_ret
        exact ⟨ret_int (by rw [HE.out, HA.out]; rfl), HB.out⟩
end Go.Proofs.YtgjojjhppgjkkaaGreat.Crd

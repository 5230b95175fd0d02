/- append of a list of numbers to a row of the call's own, whatever the list's address. The document's plain words on lists (layer 5): Ints, Has, and the law's list without a number; the document's example of piles. The contract of Turn between two piles of numbers (layer 5). -/
import Derived.Test.YthciiapdfjemaaaFe
import Derived.Deep.AppendLies
import Derived.Laws.OwnMore
import Derived.RangeFuncBox
namespace Go.Proofs.Ythciiapdfjemaaa
open Go.RowKit
attribute [local go_sem] Oper.semAt_some

theorem ints_news {w : World} {b off : Nat} {l : List Int} (h : ∀ i (hi : i < l.length), w.cell? ⟨b, off + i, none⟩ = some (.int .i64 l[i])) : ∀ j u, (intsV l)[j]? = some u → w.cell? ((⟨b, off, none⟩ : Addr).add j) = some u := by
  intro j u hu
  obtain ⟨hj, rfl⟩ := List.getElem?_eq_some_iff.1 hu
  have hj' : j < l.length := by simpa [intsV] using hj
  have h2 := h j hj'
  have e : (intsV l)[j] = .int .i64 l[j] := by simp [intsV]
  have e2 : (⟨b, off, none⟩ : Addr).add j = ⟨b, off + j, none⟩ := by simp [Addr.add]
  rw [e, e2]
  exact h2
theorem wpList_append_run1 {P : Program} {ops : Array Oper} {rest : List Oper} {o : Oper} {a : Act} {w w' : World} {Q : Exit → Act → World → Prop} {v u r : Value} {t : TypeId} (hgd : o.guard = none) (s x : Operand)
    (ho : o.op = .call { callee := .builtin .append, args := #[s, x], argTypes := #[t, t] }) (hs : a.eval s = v) (hx : a.eval x = u) (hrun : (Builtin.append_ #[t, t] o.type #[v, u]).run P w = .ok r w')
    (h : wpList P ops Q rest (a.put o.dst r) w') : wpList P ops Q (o :: rest) a w :=
  wpList_plain hgd fun _ hK => by
    unfold Oper.wp execOp
    simp only [ho, resolve, invoke, builtin, Sem.run_bind, Sem.run_pure, Result.andThen_ok, List.map_toArray, List.map_cons, List.map_nil, hs, hx, hrun]
    exact hK _ _ h
set_option maxRecDepth 100000 in
theorem append_ints (w : World) (base : Nat) (v : Value) (n : Nat) (xs : List Value) (hown : w.ownsRow base 3 1 v n xs) (xa : Option Addr) (xc : Nat) (l : List Int) (ht : IntsAt w (.slice xa l.length xc) l)
    (h1 : n + l.length ≤ 1000) (hbase : base ≤ w.heap.size) :
    ∃ v' w', (Builtin.append_ #[32, 32] 32 #[v, .slice xa l.length xc]).run Try.prog w = .ok v' w' ∧ w'.ownsRow base 3 1 v' (n + l.length) (xs ++ intsV l) ∧ w.grownBy w' v.ownBlock ∧
      (v'.ownBlock = v.ownBlock ∨ v'.ownBlock = some w.heap.size) := by
  obtain ⟨i0, hi0, hz0, hz1, hz2⟩ := info_parts info_int
  rcases xa with _ | a
  · have hl : l = [] := by
      cases l with
      | nil => rfl
      | cons x r =>
        obtain ⟨b, off, h, _⟩ := ht.at 0 (by simp)
        cases h
    subst hl
    refine ⟨v, w, ?_, by simpa [intsV] using hown, World.grownBy.refl w _, .inl rfl⟩
    rcases hown.2 with ⟨rfl, rfl⟩ | ⟨g, cap, cur, rfl, _, _, hnc, _⟩
    · simp [Builtin.append_, run_underlying Try.underlying32, sizeOf, typeInfo, hi0, Builtin.lenOf, Builtin.firstCells]
    · simp [Builtin.append_, run_underlying Try.underlying32, sizeOf, typeInfo, hi0, Builtin.lenOf, Builtin.firstCells, hnc, storeCells]
  · have hnews : ∀ j u, (intsV l)[j]? = some u → w.cell? (a.add j) = some u := by
      cases l with
      | nil => intro j u hu; simp [intsV] at hu
      | cons x r =>
        obtain ⟨b, off, h, _⟩ := ht.at 0 (by simp)
        injection h with h
        subst h
        refine ints_news fun i hi => ?_
        obtain ⟨b', off', h', _, hc'⟩ := ht.at i hi
        injection h' with h'
        injection h' with hb ho
        subst hb; subst ho
        exact hc'
    obtain ⟨v', w', hrun, h2, h3, _, h5⟩ := run_append_own_at (P := Try.prog) w base 32 32 3 i0 _ 1 8 Try.underlying32 hi0 hz0 hz1 hz2 rfl (by decide) v n xs hown a l.length xc (intsV l) (by simp [intsV]) hnews (by intro u hu; obtain ⟨x, _, rfl⟩ := List.mem_map.1 hu; rfl) (by unfold maxLen; omega) (by omega) hbase
    exact ⟨v', w', hrun, h2, h3, h5⟩
set_option maxRecDepth 100000 in
theorem wpList_append_ints {w : World} {ops : Array Oper} {rest : List Oper} {o : Oper} {a : Act} {Q : Exit → Act → World → Prop} (hgd : o.guard = none) (s x : Operand)
    (ho : o.op = .call { callee := .builtin .append, args := #[s, x], argTypes := #[32, 32] }) (hty : o.type = 32) (base : Nat) (v : Value) (n : Nat) (xs : List Value) (hs : a.eval s = v)
    (hown : w.ownsRow base 3 1 v n xs) (xa : Option Addr) (xn xc : Nat) (l : List Int) (hx : a.eval x = .slice xa xn xc) (hn : xn = l.length) (ht : IntsAt w (.slice xa xn xc) l) (h1 : n + l.length ≤ 1000) (hbase : base ≤ w.heap.size)
    (h : ∀ v' w', w'.ownsRow base 3 1 v' (n + l.length) (xs ++ intsV l) → w.grownBy w' v.ownBlock → (v'.ownBlock = v.ownBlock ∨ v'.ownBlock = some w.heap.size) → wpList Try.prog ops Q rest (a.put o.dst v') w') : wpList Try.prog ops Q (o :: rest) a w := by
  subst hn
  obtain ⟨v', w', hrun, h2, h3, h4⟩ := append_ints w base v n xs hown xa xc l ht h1 hbase
  exact wpList_append_run1 hgd s x ho hs hx (by rw [hty]; exact hrun) (h v' w' h2 h3 h4)
theorem own_empty1 {W : World} {b B : Nat} {T : TypeId} (e : b = W.heap.size) (hB : B ≤ b) : (W.alloc (.cells #[] T)).ownsRow B T 1 (.slice (some ⟨b, 0, none⟩) 0 0) 0 [] := by
  subst e
  exact World.ownsRow_made W #[] 0 hB (by decide) rfl
end Go.Proofs.Ythciiapdfjemaaa
namespace Go.Proofs.Ythciiapdfjemaaa
open Go.RowKit

theorem mem_take {L : List Int} {x : Int} {k : Nat} (hlt : k < L.length) (h : x ∉ L.take k) (hne : L[k] ≠ x) : x ∉ L.take (k + 1) := by
  rw [take_last L k hlt]
  intro hm
  rcases List.mem_append.1 hm with hm | hm
  · exact h hm
  · exact hne (List.mem_singleton.1 hm).symm
theorem two_at {w : World} : IntsAt (w.alloc (.cells #[.int .i64 1, .int .i64 2] 3)) (.slice (some ⟨w.heap.size, 0, none⟩) 2 2) [1, 2] := (RowAt.new w 3 (intsV [1, 2])).vals 2
theorem four_at {w : World} : IntsAt (w.alloc (.cells #[.int .i64 3, .int .i64 1, .int .i64 2, .int .i64 4] 3)) (.slice (some ⟨w.heap.size, 0, none⟩) 4 4) [3, 1, 2, 4] := (RowAt.new w 3 (intsV [3, 1, 2, 4])).vals 4
end Go.Proofs.Ythciiapdfjemaaa
namespace Go.Proofs.Ythciiapdfjemaaa
open Go.RowKit

/-- All that lay there but the blocks of two piles is as it was. -/
structure Chg2 (w w' : World) (b1 : Nat) (g1 : Option Nat) (b2 : Nat) (g2 : Option Nat) : Prop where
  os : w'.os = w.os
  tape : w'.tape = w.tape
  output : w'.output = w.output
  size : w.heap.size ≤ w'.heap.size
  block : ∀ k, k < w.heap.size → k ≠ b1 → g1 ≠ some k → k ≠ b2 → g2 ≠ some k → w'.heap[k]? = w.heap[k]?
theorem Chg2.of_below {w w' : World} {b1 b2 : Nat} {g1 g2 : Option Nat} (h : Below w.heap.size w w') : Chg2 w w' b1 g1 b2 g2 := ⟨h.os, h.tape, h.output, h.size, fun k hk _ _ _ _ => h.block k hk⟩
theorem Chg2.then {w w1 w2 : World} {b1 b2 : Nat} {g1 g2 : Option Nat} (h : Chg w w1 b1 g1) (k : Chg w1 w2 b2 g2) : Chg2 w w2 b1 g1 b2 g2 :=
  ⟨k.os.trans h.os, k.tape.trans h.tape, k.output.trans h.output, Nat.le_trans h.size k.size, fun i hi h1 h2 h3 h4 => (k.block i (Nat.lt_of_lt_of_le hi h.size) h3 h4).trans (h.block i hi h1 h2)⟩
theorem Chg2.ahead {w w1 w2 : World} {b1 b2 : Nat} {g1 g2 : Option Nat} (k : Below w.heap.size w w1) (h : Chg2 w1 w2 b1 g1 b2 g2) : Chg2 w w2 b1 g1 b2 g2 :=
  ⟨h.os.trans k.os, h.tape.trans k.tape, h.output.trans k.output, Nat.le_trans k.size h.size, fun i hi a b c d => (h.block i (Nat.lt_of_lt_of_le hi k.size) a b c d).trans (k.block i hi)⟩
theorem Chg2.one {w w' : World} {b1 b2 : Nat} {g1 g2 : Option Nat} (h : Chg w w' b1 g1) : Chg2 w w' b1 g1 b2 g2 := ⟨h.os, h.tape, h.output, h.size, fun k hk a b _ _ => h.block k hk a b⟩
theorem Chg2.flip {w w' : World} {b1 b2 : Nat} {g1 g2 : Option Nat} (h : Chg2 w w' b1 g1 b2 g2) : Chg2 w w' b2 g2 b1 g1 := ⟨h.os, h.tape, h.output, h.size, fun k hk a b c d => h.block k hk c d a b⟩
theorem Chg2.below {A w w' : World} {b1 b2 : Nat} {g1 g2 : Option Nat} (h : Chg2 w w' b1 g1 b2 g2) (hA : Below A.heap.size A w) (hb1 : A.heap.size ≤ b1) (hg1 : ∀ k, g1 = some k → A.heap.size ≤ k) (hb2 : A.heap.size ≤ b2) (hg2 : ∀ k, g2 = some k → A.heap.size ≤ k) : Below A.heap.size A w' :=
  ⟨h.os.trans hA.os, h.tape.trans hA.tape, h.output.trans hA.output, Nat.le_trans hA.size h.size, fun k hk => (h.block k (Nat.lt_of_lt_of_le hk hA.size) (by omega) (fun e => by have := hg1 k e; omega) (by omega) (fun e => by have := hg2 k e; omega)).trans (hA.block k hk)⟩
theorem Sep.flip {b1 b2 : Nat} {g1 g2 : Option Nat} (h : Sep b1 g1 b2 g2) : Sep b2 g2 b1 g1 := ⟨Ne.symm h.1, h.2.2.1, h.2.1, fun k hk hk' => h.2.2.2 k hk' hk⟩
/-- What a change of the first pile leaves apart. -/
theorem Sep.newer {w : World} {lo b1 b2 : Nat} {g1 g1' g2 : Option Nat} {L : List Int} (h : Sep b1 g1 b2 g2) (hn : Newer w g1 g1') (h2 : PileAt w lo b2 g2 L) : Sep b1 g1' b2 g2 := by
  rcases hn with hn | ⟨r, hn, hr⟩
  · rw [hn]; exact h
  · refine ⟨h.1, fun e => ?_, h.2.2.1, fun k hk hk' => ?_⟩
    · rw [hn] at e; injection e with e; have := h2.lt; omega
    · rw [hn] at hk; injection hk with hk; have := h2.row k hk'; omega
theorem Newer.later {w w1 : World} {g g' : Option Nat} (h : Newer w1 g g') (hs : w.heap.size ≤ w1.heap.size) : Newer w g g' := by
  rcases h with h | ⟨r, h, hr⟩
  · exact .inl h
  · exact .inr ⟨r, h, Nat.le_trans hs hr⟩

def turnB (L1 L2 : List Int) (x : Int) : Bool := decide (x ∈ L1) && !decide (x ∈ L2)
def RetTurn (w : World) (lo b1 : Nat) (g1 : Option Nat) (b2 : Nat) (g2 : Option Nat) (v : Bool) (L1 L2 : List Int) (e : Ending) (w' : World) : Prop :=
  ∃ g2', e = .returned (.bool v) ∧ PileAt w' lo b1 g1 L1 ∧ PileAt w' lo b2 g2' L2 ∧ Sep b1 g1 b2 g2' ∧ Chg2 w w' b1 g1 b2 g2 ∧ Newer w g2 g2'
end Go.Proofs.Ythciiapdfjemaaa

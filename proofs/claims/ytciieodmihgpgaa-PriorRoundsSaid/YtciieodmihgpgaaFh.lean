/- append of a list of numbers to a row of the call's own, whatever the list's address; the document's plain words on lists: Ints, Has; the library's Equal at numbers. -/
import Derived.Test.YtciieodmihgpgaaFe
import Derived.Deep.AppendLies
import Derived.Laws.OwnMore
import Derived.RangeFuncBox
namespace Go.Proofs.Ytciieodmihgpgaa
open Go.RowKit
attribute [local go_sem] Oper.semAt_some

theorem ints_news {w : World} {b off : Nat} {l : List Int} (h : ∀ i (hi : i < l.length), w.cell? ⟨b, off + i, none⟩ = some (.int .i64 l[i])) : ∀ j u, (intsV l)[j]? = some u → w.cell? ((⟨b, off, none⟩ : Addr).add j) = some u := by
  intro j u hu
  obtain ⟨hj, rfl⟩ := List.getElem?_eq_some_iff.1 hu
  have hj' : j < l.length := by simpa [intsV] using hj
  have h2 := h j hj'
  have e : (intsV l)[j] = .int .i64 l[j] := by simp [intsV]
  have e2 : (⟨b, off, none⟩ : Addr).add j = ⟨b, off + j, none⟩ := by simp [Addr.add]
  rw [e, e2]
  exact h2
theorem wpList_append_run1 {P : Program} {ops : Array Oper} {rest : List Oper} {o : Oper} {a : Act} {w w' : World} {Q : Exit → Act → World → Prop} {v u r : Value} {t : TypeId} (hgd : o.guard = none) (s x : Operand)
    (ho : o.op = .call { callee := .builtin .append, args := #[s, x], argTypes := #[t, t] }) (hs : a.eval s = v) (hx : a.eval x = u) (hrun : (Builtin.append_ #[t, t] o.type #[v, u]).run P w = .ok r w')
    (h : wpList P ops Q rest (a.put o.dst r) w') : wpList P ops Q (o :: rest) a w :=
  wpList_plain hgd fun _ hK => by
    unfold Oper.wp execOp
    simp only [ho, resolve, invoke, builtin, Sem.run_bind, Sem.run_pure, Result.andThen_ok, List.map_toArray, List.map_cons, List.map_nil, hs, hx, hrun]
    exact hK _ _ h
set_option maxRecDepth 100000 in
theorem append_ints (w : World) (base : Nat) (v : Value) (n : Nat) (xs : List Value) (hown : w.ownsRow base 3 1 v n xs) (xa : Option Addr) (xc : Nat) (l : List Int) (ht : IntsAt w (.slice xa l.length xc) l)
    (h1 : n + l.length ≤ 1000) (hbase : base ≤ w.heap.size) :
    ∃ v' w', (Builtin.append_ #[29, 29] 29 #[v, .slice xa l.length xc]).run Try.prog w = .ok v' w' ∧ w'.ownsRow base 3 1 v' (n + l.length) (xs ++ intsV l) ∧ w.grownBy w' v.ownBlock ∧
      (v'.ownBlock = v.ownBlock ∨ v'.ownBlock = some w.heap.size) := by
  obtain ⟨i0, hi0, hz0, hz1, hz2⟩ := info_parts info_int
  rcases xa with _ | a
  · have hl : l = [] := by
      cases l with
      | nil => rfl
      | cons x r =>
        obtain ⟨b, off, h, _⟩ := ht.at 0 (by simp)
        cases h
    subst hl
    refine ⟨v, w, ?_, by simpa [intsV] using hown, World.grownBy.refl w _, .inl rfl⟩
    rcases hown.2 with ⟨rfl, rfl⟩ | ⟨g, cap, cur, rfl, _, _, hnc, _⟩
    · simp [Builtin.append_, run_underlying Try.underlying29, sizeOf, typeInfo, hi0, Builtin.lenOf, Builtin.firstCells]
    · simp [Builtin.append_, run_underlying Try.underlying29, sizeOf, typeInfo, hi0, Builtin.lenOf, Builtin.firstCells, hnc, storeCells]
  · have hnews : ∀ j u, (intsV l)[j]? = some u → w.cell? (a.add j) = some u := by
      cases l with
      | nil => intro j u hu; simp [intsV] at hu
      | cons x r =>
        obtain ⟨b, off, h, _⟩ := ht.at 0 (by simp)
        injection h with h
        subst h
        refine ints_news fun i hi => ?_
        obtain ⟨b', off', h', _, hc'⟩ := ht.at i hi
        injection h' with h'
        injection h' with hb ho
        subst hb; subst ho
        exact hc'
    obtain ⟨v', w', hrun, h2, h3, _, h5⟩ := run_append_own_at (P := Try.prog) w base 29 29 3 i0 _ 1 8 Try.underlying29 hi0 hz0 hz1 hz2 rfl (by decide) v n xs hown a l.length xc (intsV l) (by simp [intsV]) hnews (by intro u hu; obtain ⟨x, _, rfl⟩ := List.mem_map.1 hu; rfl) (by unfold maxLen; omega) (by omega) hbase
    exact ⟨v', w', hrun, h2, h3, h5⟩
set_option maxRecDepth 100000 in
theorem wpList_append_ints {w : World} {ops : Array Oper} {rest : List Oper} {o : Oper} {a : Act} {Q : Exit → Act → World → Prop} (hgd : o.guard = none) (s x : Operand)
    (ho : o.op = .call { callee := .builtin .append, args := #[s, x], argTypes := #[29, 29] }) (hty : o.type = 29) (base : Nat) (v : Value) (n : Nat) (xs : List Value) (hs : a.eval s = v)
    (hown : w.ownsRow base 3 1 v n xs) (xa : Option Addr) (xn xc : Nat) (l : List Int) (hx : a.eval x = .slice xa xn xc) (hn : xn = l.length) (ht : IntsAt w (.slice xa xn xc) l) (h1 : n + l.length ≤ 1000) (hbase : base ≤ w.heap.size)
    (h : ∀ v' w', w'.ownsRow base 3 1 v' (n + l.length) (xs ++ intsV l) → w.grownBy w' v.ownBlock → (v'.ownBlock = v.ownBlock ∨ v'.ownBlock = some w.heap.size) → wpList Try.prog ops Q rest (a.put o.dst v') w') : wpList Try.prog ops Q (o :: rest) a w := by
  subst hn
  obtain ⟨v', w', hrun, h2, h3, h4⟩ := append_ints w base v n xs hown xa xc l ht h1 hbase
  exact wpList_append_run1 hgd s x ho hs hx (by rw [hty]; exact hrun) (h v' w' h2 h3 h4)
theorem own_empty1 {W : World} {b B : Nat} {T : TypeId} (e : b = W.heap.size) (hB : B ≤ b) : (W.alloc (.cells #[] T)).ownsRow B T 1 (.slice (some ⟨b, 0, none⟩) 0 0) 0 [] := by
  subst e
  exact World.ownsRow_made W #[] 0 hB (by decide) rfl
end Go.Proofs.Ytciieodmihgpgaa
namespace Go.Proofs.Ytciieodmihgpgaa
open Go.RowKit

theorem mem_take {L : List Int} {x : Int} {k : Nat} (hlt : k < L.length) (h : x ∉ L.take k) (hne : L[k] ≠ x) : x ∉ L.take (k + 1) := by
  rw [take_last L k hlt]
  intro hm
  rcases List.mem_append.1 hm with hm | hm
  · exact h hm
  · exact hne (List.mem_singleton.1 hm).symm
end Go.Proofs.Ytciieodmihgpgaa
namespace Go.Proofs.Ytciieodmihgpgaa
open Go.RowKit

theorem Newer.later {w w1 : World} {g g' : Option Nat} (h : Newer w1 g g') (hs : w.heap.size ≤ w1.heap.size) : Newer w g g' := by
  rcases h with h | ⟨r, h, hr⟩
  · exact .inl h
  · exact .inr ⟨r, h, Nat.le_trans hs hr⟩

end Go.Proofs.Ytciieodmihgpgaa

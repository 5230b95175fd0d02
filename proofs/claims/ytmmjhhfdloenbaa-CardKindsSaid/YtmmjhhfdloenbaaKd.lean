/- What CardKinds needs: which cards may be without their terms, or with two more; append of terms to a row of the call's own (layer 2). -/
import Derived.Test.YtmmjhhfdloenbaaSf
import Derived.Deep.AppendLies
namespace Go.Proofs.Ytmmjhhfdloenbaa
open Go.RowKit

theorem may_no_more (c : CardL) : mayB { c with terms := c.terms ++ [⟨6, 0, 2⟩, ⟨6, 0, 2⟩] } = false := by
  have h : termsB (c.terms ++ [⟨6, 0, 2⟩, ⟨6, 0, 2⟩]) = false := by
    unfold termsB
    have : aimedN (c.terms ++ [⟨6, 0, 2⟩, ⟨6, 0, 2⟩]) = aimedN c.terms + 2 := by rw [aimedN_append]; rfl
    rw [this]
    simp
  simp [mayB, h]
theorem may_bare (c : CardL) (h : mayB c = true) : mayB { c with terms := [] } = decide (c.terms.length = 0) := by
  by_cases h0 : c.terms = []
  · have e : ({ c with terms := [] } : CardL) = c := by cases c; simp_all
    rw [e, h, h0]; rfl
  · have hl : ¬ c.terms.length = 0 := fun e => h0 (List.eq_nil_of_length_eq_zero e)
    rw [decide_eq_false hl]
    simp only [mayB, Bool.and_eq_true] at h
    obtain ⟨_, _, hk⟩ := h
    have : kindB { c with terms := [] } = false := by
      simp only [kindB, landB, castB, whenB] at hk ⊢
      by_cases h1 : c.kind = 1
      · simp [h1] at hk; exact absurd hk.2.2.2.2.2 h0
      by_cases h2 : c.kind = 2
      · simp [h2] at hk ⊢
        by_cases hw : c.whn = 0
        · simp [hw] at hk; exact absurd hk.2 h0
        · simp [hw]
      by_cases h3 : c.kind = 3
      · simp [h3]
      by_cases h4 : c.kind = 4
      · simp [h4]
      simp [h1, h2, h3, h4]
    simp [mayB, this]
theorem may_aimed (c : CardL) (h : mayB c = true) : aimedAt c.terms = 0 ∨ c.kind = 3 ∨ (c.kind ≠ 3 ∧ c.whn = 1) := by
  simp only [mayB, Bool.and_eq_true] at h
  obtain ⟨_, _, hk⟩ := h
  simp only [kindB, landB, castB, whenB] at hk
  by_cases h1 : c.kind = 1
  · simp [h1] at hk
    left; rw [hk.2.2.2.2.2]; rfl
  by_cases h2 : c.kind = 2
  · simp [h2] at hk
    by_cases hw : c.whn = 0
    · simp [hw] at hk; left; rw [hk.2]; rfl
    · by_cases hw1 : c.whn = 1
      · exact .inr (.inr ⟨by omega, hw1⟩)
      · simp [hw, hw1] at hk; exact .inl hk.2.2
  by_cases h3 : c.kind = 3
  · exact .inr (.inl h3)
  by_cases h4 : c.kind = 4
  · simp [h4] at hk
    exact .inl hk.2.2
  simp [h1, h2, h3, h4] at hk
theorem may_kind (c : CardL) (h : mayB c = true) : 1 ≤ c.kind ∧ c.kind ≤ 4 := by
  simp only [mayB, Bool.and_eq_true] at h
  obtain ⟨_, _, hk⟩ := h
  simp only [kindB] at hk
  by_cases h1 : c.kind = 1
  · omega
  by_cases h2 : c.kind = 2
  · omega
  by_cases h3 : c.kind = 3
  · omega
  by_cases h4 : c.kind = 4
  · omega
  simp [h1, h2, h3, h4] at hk

theorem append_terms (w : World) (base : Nat) (v : Value) (n : Nat) (xs : List Value) (hown : w.ownsRow base 81 3 v n xs) (xa : Option Addr) (xc : Nat) (l : List TermL) (ht : TermsIs w (.slice xa l.length xc) l)
    (h1 : n + l.length ≤ 1000) (hbase : base ≤ w.heap.size) :
    ∃ v' w', (Builtin.append_ #[63, 63] 63 #[v, .slice xa l.length xc]).run Try.prog w = .ok v' w' ∧ w'.ownsRow base 81 3 v' (n + l.length) (xs ++ termsV l) ∧ w.grownBy w' v.ownBlock ∧
      (v'.ownBlock = v.ownBlock ∨ v'.ownBlock = some w.heap.size) := by
  obtain ⟨i0, hi0, hz0, hz1, hz2⟩ := info_parts info_t
  rcases xa with _ | a
  · have hl : l = [] := by
      rcases ht with ⟨_, _, _, h⟩ | ⟨_, _, _, h, _⟩
      · exact h
      · cases h
    subst hl
    refine ⟨v, w, ?_, by simpa [termsV] using hown, World.grownBy.refl w _, .inl rfl⟩
    rcases hown.2 with ⟨rfl, rfl⟩ | ⟨g, cap, cur, rfl, _, _, hnc, _⟩
    · simp [Builtin.append_, run_underlying Try.underlying63, sizeOf, typeInfo, hi0, Builtin.lenOf, Builtin.firstCells]
    · simp [Builtin.append_, run_underlying Try.underlying63, sizeOf, typeInfo, hi0, Builtin.lenOf, Builtin.firstCells, hnc, storeCells]
  · have hnews : ∀ j u, (termsV l)[j]? = some u → w.cell? (a.add j) = some u := by
      rcases ht with ⟨_, _, _, h⟩ | ⟨b, off, cap, h, _, hc⟩
      · subst h; intro j u hu; simp [termsV] at hu
      · injection h with h _ _
        injection h with h
        subst h
        exact terms_news hc
    obtain ⟨v', w', hrun, h2, h3, _, h5⟩ := run_append_own_at (P := Try.prog) w base 63 63 81 i0 _ 3 24 Try.underlying63 hi0 hz0 hz1 hz2 rfl (by decide) v n xs hown a l.length xc (termsV l) (termsV_len l) hnews (termsV_one l) (by unfold maxLen; omega) (by omega) hbase
    exact ⟨v', w', hrun, h2, h3, h5⟩
theorem wpList_append_terms {w : World} {ops : Array Oper} {rest : List Oper} {o : Oper} {a : Act} {Q : Exit → Act → World → Prop} (hgd : o.guard = none) (s x : Operand)
    (ho : o.op = .call { callee := .builtin .append, args := #[s, x], argTypes := #[63, 63] }) (hty : o.type = 63) (base : Nat) (v : Value) (n : Nat) (xs : List Value) (hs : a.eval s = v)
    (hown : w.ownsRow base 81 3 v n xs) (xa : Option Addr) (xn xc : Nat) (l : List TermL) (hx : a.eval x = .slice xa xn xc) (hn : xn = l.length) (ht : TermsIs w (.slice xa xn xc) l) (h1 : n + l.length ≤ 1000) (hbase : base ≤ w.heap.size)
    (h : ∀ v' w', w'.ownsRow base 81 3 v' (n + l.length) (xs ++ termsV l) → w.grownBy w' v.ownBlock → (v'.ownBlock = v.ownBlock ∨ v'.ownBlock = some w.heap.size) → wpList Try.prog ops Q rest (a.put o.dst v') w') : wpList Try.prog ops Q (o :: rest) a w := by
  subst hn
  obtain ⟨v', w', hrun, h2, h3, h4⟩ := append_terms w base v n xs hown xa xc l ht h1 hbase
  exact wpList_append_run hgd s x ho hs hx (by rw [hty]; exact hrun) (h v' w' h2 h3 h4)
theorem termsV_append (l r : List TermL) : termsV (l ++ r) = termsV l ++ termsV r := by simp [termsV]
theorem Box7.put6 {W : World} {b : Nat} {c : CardL} {v : Value} (h : Box7 W b c v) (u : Value) : Box7 (W.setCell ⟨b, 6, none⟩ u) b c u := by
  obtain ⟨c0, c1, c2, c3, c4, c5, c6⟩ := h
  refine ⟨?_, ?_, ?_, ?_, ?_, ?_, ?_⟩ <;> simp [go_sem, c0, c1, c2, c3, c4, c5, c6]
def twoKills : List TermL := [⟨6, 0, 2⟩, ⟨6, 0, 2⟩]
theorem kills_is {w : World} {b : Nat} (e : b = w.heap.size) (T : TypeId) : TermsIs (w.alloc (.cells #[.int .i64 6, .int .i64 0, .int .i64 2, .int .i64 6, .int .i64 0, .int .i64 2] T)) (.slice (some ⟨b, 0, none⟩) 2 2) twoKills := by
  subst e
  refine .inr ⟨w.heap.size, 0, 2, rfl, by simp, fun i hi => ?_⟩
  match i, hi with
  | 0, _ => exact ⟨by simp [go_sem]; rfl, by simp [go_sem]; rfl, by simp [go_sem]; rfl⟩
  | 1, _ => exact ⟨by simp [go_sem]; rfl, by simp [go_sem]; rfl, by simp [go_sem]; rfl⟩
theorem own_empty {W : World} {b B : Nat} {T : TypeId} (e : b = W.heap.size) (hB : B ≤ b) : (W.alloc (.cells #[] T)).ownsRow B T 3 (.slice (some ⟨b, 0, none⟩) 0 0) 0 [] := by
  subst e
  exact World.ownsRow_made W #[] 0 hB (by decide) rfl
end Go.Proofs.Ytmmjhhfdloenbaa

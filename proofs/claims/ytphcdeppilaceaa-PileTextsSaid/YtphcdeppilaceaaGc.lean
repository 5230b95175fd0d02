/- What the law PileTexts (layer 5) holds: a pile of numbers, and one of their names; how a step changes one of them. -/
import Derived.Test.YtphcdeppilaceaaGb
namespace Go.Proofs.Ytphcdeppilaceaa
open Go.RowKit

def InB (A : List Int) : Prop := ∀ x ∈ A, 0 ≤ x ∧ x < 65536
theorem names_mem {A : List Int} {x : Int} (hA : InB A) (hx : 0 ≤ x ∧ x < 65536) : nameB x ∈ A.map nameB ↔ x ∈ A := by
  rw [List.mem_map]
  constructor
  · rintro ⟨y, hy, e⟩
    rw [← name_inj (hA y hy) hx e]
    exact hy
  · intro h
    exact ⟨x, h, rfl⟩
theorem names_dec {A : List Int} {x : Int} (hA : InB A) (hx : 0 ≤ x ∧ x < 65536) : decide (nameB x ∈ A.map nameB) = decide (x ∈ A) := decide_eq_decide.2 (names_mem hA hx)
theorem names_lay {A : List Int} {x : Int} (i : Nat) (hA : InB A) (hx : 0 ≤ x ∧ x < 65536) : Txt.layL (A.map nameB) i (nameB x) = (layL A i x).map nameB := by
  unfold Txt.layL layL
  by_cases h : x ∈ A
  · rw [if_pos h, if_pos ((names_mem hA hx).2 h)]
  · rw [if_neg h, if_neg (fun e => h ((names_mem hA hx).1 e))]
    simp [insL, List.map_take, List.map_drop]
theorem names_erase {x : Int} (hx : 0 ≤ x ∧ x < 65536) : ∀ {A : List Int}, InB A → (A.map nameB).erase (nameB x) = (A.erase x).map nameB
  | [], _ => rfl
  | y :: A, hA => by
    by_cases h : y = x
    · subst h; simp
    · have hn : nameB y ≠ nameB x := fun e => h (name_inj (hA y (by simp)) hx e)
      rw [List.map_cons, List.erase_cons_tail (by simpa using hn), List.erase_cons_tail (by simpa using h), List.map_cons, names_erase hx (fun z hz => hA z (List.mem_cons_of_mem _ hz))]
theorem inB_lay {A : List Int} {x : Int} (i : Nat) (hA : InB A) (hx : 0 ≤ x ∧ x < 65536) : InB (layL A i x) := by
  intro z hz
  unfold layL at hz
  split at hz
  · exact hA z hz
  · unfold insL at hz
    rcases List.mem_append.1 hz with h | h
    · exact hA z (List.mem_of_mem_take h)
    · rcases List.mem_cons.1 h with rfl | h
      · exact hx
      · exact hA z (List.mem_of_mem_drop h)
theorem inB_erase {A : List Int} {x : Int} (hA : InB A) : InB (A.erase x) := fun z hz => hA z (List.mem_of_mem_erase hz)
theorem inB_tail {A : List Int} (hA : InB A) : InB A.tail := fun z hz => hA z (List.mem_of_mem_tail hz)

/-- Both piles, and the boxes. -/
structure TxI (w W : World) (lo rb nb qb bp bq : Nat) (gp gq : Option Nat) (A B : List Int) : Prop where
  hp : PileAt W lo bp gp A
  hq : Txt.PileAt W lo bq gq (B.map nameB)
  hs : Sep bp gp bq gq
  hr : HdAt W rb (.bool false)
  hn : HdAt W nb (.func (.func 28) #[] #[])
  hb : HdAt W qb (.pointer (some ⟨bq, 0, none⟩))
  off : ∀ k, k = rb ∨ k = nb ∨ k = qb → k ≠ bp ∧ k ≠ bq ∧ gp ≠ some k ∧ gq ≠ some k
  below : Below w.heap.size w W
  low : w.heap.size ≤ lo
theorem TxI.later {w W W' : World} {lo rb nb qb bp bq : Nat} {gp gq : Option Nat} {A B : List Int} (h : TxI w W lo rb nb qb bp bq gp gq A B) (hb : Below W.heap.size W W') : TxI w W' lo rb nb qb bp bq gp gq A B :=
  ⟨h.hp.later hb, h.hq.later hb, h.hs, h.hr.later hb, h.hn.later hb, h.hb.later hb, h.off, stepB h.below hb, h.low⟩
/-- The first pile changes. -/
theorem TxI.stepP {w W W' : World} {lo rb nb qb bp bq : Nat} {gp gp' gq : Option Nat} {A A' B : List Int} (h : TxI w W lo rb nb qb bp bq gp gq A B) (hc : Chg W W' bp gp) (hp : PileAt W' lo bp gp' A') (hn : Newer W gp gp') : TxI w W' lo rb nb qb bp bq gp' gq A' B := by
  have f : ∀ k, k = rb ∨ k = nb ∨ k = qb → k < W.heap.size → W'.heap[k]? = W.heap[k]? := fun k hk hl => hc.block k hl (h.off k hk).1 (h.off k hk).2.2.1
  have hrow := h.hp.row
  have hq := h.hq
  refine ⟨hp, h.hq.far hc h.hs, ?_, h.hr.of (f _ (.inl rfl) h.hr.lt), h.hn.of (f _ (.inr (.inl rfl)) h.hn.lt), h.hb.of (f _ (.inr (.inr rfl)) h.hb.lt), fun k hk => ?_, hc.below h.below (Nat.le_trans h.low h.hp.lo) (fun k e => Nat.le_trans h.low (hrow k e).1), h.low⟩
  · rcases hn with e | ⟨r, e, hr⟩
    · rw [e]; exact h.hs
    · refine ⟨h.hs.1, fun e2 => ?_, h.hs.2.2.1, fun k hk hk' => ?_⟩
      · rw [e] at e2; injection e2 with e2; have := hq.lt; omega
      · rw [e] at hk; injection hk with hk; have := hq.row k hk'; omega
  · have ho := h.off k hk
    have hl : k < W.heap.size := by
      rcases hk with rfl | rfl | rfl
      · exact h.hr.lt
      · exact h.hn.lt
      · exact h.hb.lt
    exact ⟨ho.1, ho.2.1, newer_ne1 hn hl ho.2.2.1, ho.2.2.2⟩
/-- The second one. -/
theorem TxI.stepQ {w W W' : World} {lo rb nb qb bp bq : Nat} {gp gq gq' : Option Nat} {A B B' : List Int} (h : TxI w W lo rb nb qb bp bq gp gq A B) (hc : Chg W W' bq gq) (hq : Txt.PileAt W' lo bq gq' (B'.map nameB)) (hn : Newer W gq gq') : TxI w W' lo rb nb qb bp bq gp gq' A B' := by
  have f : ∀ k, k = rb ∨ k = nb ∨ k = qb → k < W.heap.size → W'.heap[k]? = W.heap[k]? := fun k hk hl => hc.block k hl (h.off k hk).2.1 (h.off k hk).2.2.2
  have hrow := h.hq.row
  have hp := h.hp
  refine ⟨h.hp.far hc h.hs.flip, hq, ?_, h.hr.of (f _ (.inl rfl) h.hr.lt), h.hn.of (f _ (.inr (.inl rfl)) h.hn.lt), h.hb.of (f _ (.inr (.inr rfl)) h.hb.lt), fun k hk => ?_, hc.below h.below (Nat.le_trans h.low h.hq.lo) (fun k e => Nat.le_trans h.low (hrow k e).1), h.low⟩
  · rcases hn with e | ⟨r, e, hr⟩
    · rw [e]; exact h.hs
    · refine ⟨h.hs.1, h.hs.2.1, fun e2 => ?_, fun k hk hk' => ?_⟩
      · rw [e] at e2; injection e2 with e2; have := hp.lt; omega
      · rw [e] at hk'; injection hk' with hk'; have := hp.row k hk; omega
  · have ho := h.off k hk
    have hl : k < W.heap.size := by
      rcases hk with rfl | rfl | rfl
      · exact h.hr.lt
      · exact h.hn.lt
      · exact h.hb.lt
    exact ⟨ho.1, ho.2.1, ho.2.2.1, newer_ne1 hn hl ho.2.2.2⟩
end Go.Proofs.Ytphcdeppilaceaa

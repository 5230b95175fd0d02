/- All (layer 1, octet) at codecs of lists: what Next's answers keep; All's contract; the contract of its iterator in the words of the law on ranges. -/
import Derived.Test.YtplkodmmedhemaaAi
import Derived.Maps.AppendAt
namespace Go.Proofs.Ytplkodmmedhemaa
open Go.RowKit

theorem nextN_fwd {n : Nat} {s : ByteArray} {a x m : Int} (h : nextAt (nextN n) s a = (x, m, 0)) : m = a + n ∧ 0 ≤ a ∧ m ≤ s.size := by
  unfold nextAt at h
  split at h
  · rename_i ha
    unfold nrm3 nextN at h
    split at h <;> rename_i h1
    · simp at h
    · simp at h
      omega
  · simp at h
theorem lnextFrom_fwd {h : Nat} {s : ByteArray} : ∀ {k : Nat} {a m : Int} {acc x : List Int}, lnextFrom (nextN h) s k a acc = (x, m, 0) → a ≤ s.size → a ≤ m ∧ m ≤ s.size ∧ x.length = acc.length + k
  | 0, a, m, acc, x, e, ha => by
    simp [lnextFrom] at e
    obtain ⟨rfl, rfl⟩ := e
    simp; exact ha
  | k + 1, a, m, acc, x, e, ha => by
    unfold lnextFrom at e
    split at e
    · rename_i h0
      obtain ⟨y, b, n, hn⟩ : ∃ y b n, nextAt (nextN h) s a = (y, b, n) := ⟨_, _, _, rfl⟩
      rw [hn] at e h0
      simp only at e h0
      subst h0
      have h1 := nextN_fwd hn
      have h2 := lnextFrom_fwd e h1.2.2
      simp at h2
      omega
    · rename_i h0
      have := congrArg (fun r => r.2.2) e
      simp at this
      exact absurd this h0
/-- A list that Next has told: it takes at least one byte, it ends within the bytes, and it holds no more than the most. -/
theorem lnextAt_fwd {h most : Nat} {s : ByteArray} {a m : Int} {x : List Int} (e : lnextAt (lnextI (nextN h) most) s a = (x, m, 0)) : a < m ∧ m ≤ s.size ∧ x.length ≤ most := by
  unfold lnextAt at e
  split at e
  · rename_i ha
    obtain ⟨y, b, n, hn⟩ : ∃ y b n, lnextI (nextN h) most s a.toNat = (y, b, n) := ⟨_, _, _, rfl⟩
    rw [hn] at e
    simp only [Prod.mk.injEq] at e
    obtain ⟨e1, e2, rfl⟩ := e
    simp [keepL, keepM] at e1 e2
    subst e1 e2
    unfold lnextI lnext at hn
    split at hn
    · rename_i h0
      obtain ⟨c, d, q, hc⟩ : ∃ c d q, nextAt (nextN 1) s (a.toNat : Int) = (c, d, q) := ⟨_, _, _, rfl⟩
      have hbd := next1_bd s (a.toNat : Int)
      rw [hc] at hn h0 hbd
      simp only at hn h0 hbd
      subst h0
      have h1 := nextN_fwd hc
      split at hn
      · simp at hn
      · rename_i hm
        have h2 := lnextFrom_fwd hn h1.2.2
        simp at h2
        omega
    · rename_i h0
      exact absurd (congrArg (fun r => r.2.2) hn) h0
  · simp at e

theorem chain_end {h : ByteArray → Nat → List Int × Int × Int} {s : ByteArray} : ∀ {a b b' : Int} {l : List Item}, chain h s a l b → chain h s a l b' → b = b'
  | _, _, _, [], h1, h2 => by obtain rfl : _ = _ := h1; exact (show _ = _ from h2).symm
  | _, _, _, _ :: _, ⟨_, _, h1⟩, ⟨_, _, h2⟩ => chain_end h1 h2
theorem chain_take {h : ByteArray → Nat → List Int × Int × Int} {s : ByteArray} : ∀ {a b : Int} {l : List Item} (k : Nat) (hk : k < l.length), chain h s a l b →
    ∃ c, chain h s a (l.take k) c ∧ lnextAt h s c = (l[k].2.1, l[k].2.2, 0) ∧ c < l[k].2.2 ∧ chain h s a (l.take (k + 1)) l[k].2.2
  | a, _, x :: r, 0, _, ⟨h0, h1, _⟩ => ⟨a, rfl, h0, h1, h0, h1, by simp; rfl⟩
  | a, _, x :: r, k + 1, hk, ⟨h0, h1, h2⟩ => by
    obtain ⟨c, hc1, hc2, hc3, hc4⟩ := chain_take (l := r) k (by simpa using hk) h2
    exact ⟨c, ⟨h0, h1, hc1⟩, hc2, hc3, h0, h1, hc4⟩
theorem chain_left {h : ByteArray → Nat → List Int × Int × Int} {s : ByteArray} : ∀ {a b : Int} {l r : List Item}, chain h s a (l ++ r) b → ∃ c, chain h s a l c
  | a, _, [], _, _ => ⟨a, rfl⟩
  | _, _, _ :: _, _, ⟨h0, h1, h2⟩ => by obtain ⟨c, hc⟩ := chain_left h2; exact ⟨c, h0, h1, hc⟩

theorem all_any (f0 : Fn) (fi0 ca0 : Array Value) (f1 : Fn) (fi1 ca1 : Array Value) (s : ByteArray) (w : World) :
    Calls Try.prog 18 #[.agg #[.func f0 fi0 ca0, .func f1 fi1 ca1], .string s] w fun e w' => e = .returned (.func (.func 43) #[] #[.pointer (some ⟨w.heap.size, 0, none⟩), .pointer (some ⟨w.heap.size + 1, 0, none⟩)]) ∧
      w' = (w.alloc (.cells #[.func f0 fi0 ca0, .func f1 fi1 ca1] 45)).alloc (.cells #[.string s] 9) := by
  have hmf := @mk_func
  go_enter Try.func18, Try.ntmps18
  go_wp2
  go_ret
  exact ⟨rfl, rfl⟩

theorem SliceFrom.grown {B : Nat} {w w' : World} {v : Value} {l : List Int} (h : SliceFrom B w v l) {row : Option Nat} (hg : w.grownBy w' row) (hr : ∀ r, row = some r → ∃ o : Obj, w.heap[r]? = some o ∧ o.isCells = false) : SliceFrom B w' v l := by
  rcases h with h | ⟨b, off, cap, rfl, hB, hc, C, fr, hb⟩
  · exact .inl h
  · have hb' := (grownBy_keeps_cells hg hr hb rfl).trans hb
    refine .inr ⟨b, off, cap, rfl, hB, fun i hi => ?_, C, fr, hb'⟩
    rw [← hc i hi]
    simp [World.cell?, hb, hb']
theorem allDone_own (B : Nat) (h : ByteArray → Nat → List Int × Int × Int) (s : ByteArray) (n₀ : Nat) : OwnFrom B (AllDone h s n₀) :=
  fun _ _ _ _ hs hg hr => ⟨hs.1, fun x hx => (hs.2 x hx).grown hg (fun r e => (hr r e).2)⟩
theorem allPart_own (B : Nat) (h : ByteArray → Nat → List Int × Int × Int) (s : ByteArray) (n₀ : Nat) : OwnFrom B (AllPart h s n₀) :=
  fun _ _ _ _ hs hg hr => ⟨hs.1, fun x hx => (hs.2 x hx).grown hg (fun r e => (hr r e).2)⟩

/-- The iterator of All keeps the contract of the law on ranges, from the world on in which All has made it. -/
theorem all_seq (n : Nat) (hn : 1 ≤ n) {U w : World} {f0 : Fn} {fi0 ca0 : Array Value} {f1 : Fn} {fi1 ca1 : Array Value} {g : List Int → ByteArray × Int} {h : ByteArray → Nat → List Int × Int × Int} {s : ByteArray}
    (hc : LCodecOk U (.agg #[.func f0 fi0 ca0, .func f1 fi1 ca1]) g h) (hs : s.size ≤ 100) (hmono : ∀ a x m, lnextAt h s a = (x, m, 0) → m ≤ s.size) (hU : Below U.heap.size U w) (b1 b2 : Nat)
    (hr1 : w.heap[b1]? = some (.cells #[.func f0 fi0 ca0, .func f1 fi1 ca1] 45 (0, 0))) (hr2 : w.heap[b2]? = some (.cells #[.string s] 9 (0, 0))) :
    SeqW Fence.wide n Try.prog 43 #[.pointer (some ⟨b1, 0, none⟩), .pointer (some ⟨b2, 0, none⟩)] (fun x : Item => #[x.val]) (KpL U.heap.size) (AllDone h s U.heap.size) (AllPart h s U.heap.size) s.size w := by
  intro l J Jx W hW hJ _ hY h0
  refine all1_in n hn l b1 b2 hc hs hmono J Jx ?_ hY W (hU.trans (hW.mono hU.size)) ((hW.block b1 (lt_of_row hr1)).trans hr1) ((hW.block b2 (lt_of_row hr2)).trans hr2) h0
  intro pre A B hA hb
  exact hJ pre A B none hA ⟨hb.os, hb.tape, hb.output, hb.size, fun k hk _ => hb.block k hk⟩ (fun r e => by cases e)

theorem KpL.grown {n₀ : Nat} {A B : World} {row : Option Nat} (hb : Below n₀ A B) (hg : A.grownBy B row) (hr : ∀ r, row = some r → ∃ C fr, A.heap[r]? = some (.cells C 51 fr)) : KpL n₀ A B :=
  ⟨hb, fun k C t fr h1 h2 h3 => (hg.block k (lt_of_row h3) (fun e => by
    obtain ⟨C', fr', h'⟩ := hr k e.symm
    rw [h3] at h'; cases h'; exact h1 rfl)).trans h3⟩
theorem KpL.box {n₀ : Nat} {A : World} {B : Nat} {v : Value} (v' : Value) (h : Boxed A B 47 v) (hB : n₀ ≤ B) : KpL n₀ A (A.setCell ⟨B, 0, none⟩ v') :=
  ⟨(Below.refl n₀ A).setCell (p := ⟨B, 0, none⟩) hB v', fun k C t fr h1 h2 h3 => by
    have hne : k ≠ B := fun e => by subst e; rw [show A.heap[k]? = _ from h] at h3; cases h3; exact h2 rfl
    rw [← h3]
    simp [World.setCell, Array.getElem?_modify, Ne.symm hne]⟩
theorem KpL.alloc {n₀ : Nat} {A : World} (hn : n₀ ≤ A.heap.size) (o : Obj) : KpL n₀ A (A.alloc o) := KpL.of_below hn ((Below.refl _ _).alloc (Nat.le_refl _) o)
theorem own_row51 {W : World} {base : Nat} {v : Value} {k : Nat} {xs : List Value} (h : W.ownsRow base 51 1 v k xs) : ∀ r, v.ownBlock = some r → base ≤ r ∧ ∃ C fr, W.heap[r]? = some (.cells C 51 fr) := by
  intro r e
  rcases h.2 with ⟨rfl, _⟩ | ⟨g, cap, cur, rfl, hb, hg, _⟩
  · simp [Value.ownBlock] at e
  · obtain rfl : g = r := by simpa [Value.ownBlock] using e
    exact ⟨hb, _, _, hg⟩
/-- The headers that a slice of slices owns, cell for cell. -/
theorem heads_of {W : World} {base : Nat} {v : Value} {zs : List Item} (h : W.ownsRow base 51 1 v zs.length (zs.map Item.val)) :
    ∃ a c, v = .slice a zs.length c ∧ ∀ (k : Nat) (hk : k < zs.length), ∃ g, a = some ⟨g, 0, none⟩ ∧ g < W.heap.size ∧ W.cell? ⟨g, k, none⟩ = some zs[k].val := by
  rcases h.2 with ⟨rfl, h0⟩ | ⟨g, cap, cur, rfl, hB, hg, hn, hm, hs, ht⟩
  · exact ⟨none, 0, by rw [h0], fun k hk => by omega⟩
  · refine ⟨_, cap, rfl, fun k hk => ⟨g, rfl, lt_of_row hg, ?_⟩⟩
    have hc : cur[k]? = some zs[k].val := by
      have := congrArg (fun (x : List Value) => x[k]?) ht
      simp only [List.getElem?_map, Nat.mul_one] at this
      rw [List.getElem?_take_of_lt (by omega)] at this
      rw [← Array.getElem?_toList, this, List.getElem?_eq_getElem hk]
      simp
    simp [World.cell?, hg, hc]
end Go.Proofs.Ytplkodmmedhemaa

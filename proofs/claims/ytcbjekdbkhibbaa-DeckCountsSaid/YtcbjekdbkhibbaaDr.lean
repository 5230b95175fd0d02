/- A deck with some cards more (layer 3): plain facts; a look-up in a map of counts; lists of numbers that are written out. -/
import Derived.Test.YtcbjekdbkhibbaaDq
import Derived.Test.YtcbjekdbkhibbaaApi
namespace Go.Proofs.Ytcbjekdbkhibbaa
open Go.RowKit

set_option maxRecDepth 100000 in
theorem cnt_lookup {w : World} {b n : Nat} {l : List Int} {x : Int} (h : CntMap w b n l) (hx : (Lit.int .i64 x).wf = true) : (Instr.lookup 104 (.map (some b)) (.int .i64 x) false).run Try.prog w = .ok (.int .i64 (l.count x)) w := by
  obtain ⟨D, hown, _, hat, _⟩ := h
  obtain ⟨c, hrun, hc, _⟩ := hown.lookup_int (Maps.int_keyed Try.underlying3) Try.underlying104 Try.underlying3 (Try.zeroValue3 _) (Maps.keyOf_int_mk Try.underlying3 hx)
  have e := hc.symm.trans (hat x hx)
  injection e with e
  injection e with _ e
  rw [hrun, e]
theorem ints_lit (w : World) (l : List Int) : IntsAt (w.alloc (.cells (intsV l).toArray 3)) (.slice (some ⟨w.heap.size, 0, none⟩) l.length l.length) l := by
  refine .inr ⟨w.heap.size, 0, l.length, rfl, by simp, fun i hi => ?_⟩
  rw [Nat.zero_add, cell_of_row _ _ _ _ _ (0, 0) (heap_alloc_new w _)]
  simp [intsV, hi]
theorem own_low {w : World} {base B : Nat} {t : TypeId} {s n : Nat} {v : Value} {xs : List Value} (h : w.ownsRow base t s v n xs) (hB : B ≤ base) : w.ownsRow B t s v n xs := by
  refine ⟨h.1, ?_⟩
  rcases h.2 with h | ⟨g, cap, cur, a1, a2, a3⟩
  · exact .inl h
  · exact .inr ⟨g, cap, cur, a1, Nat.le_trans hB a2, a3⟩
theorem below_own {A w w' : World} {B : Nat} {v : Value} {t : TypeId} {s n : Nat} {xs : List Value} (hg : w.grownBy w' v.ownBlock) (hb : Below B A w) (hB : B ≤ w.heap.size) (ho : w.ownsRow B t s v n xs) : Below B A w' :=
  hb.grown hg hB (fun k e => (ho.lt k e).1)

theorem known_more {t : List CardL} {l : List Int} {n : Int} (h : knownE t l = 0) (hn : inT t.length n = true) (j : Nat) : knownE t (l ++ List.replicate j n) = 0 := by
  unfold knownE at h ⊢
  split at h
  · rename_i h0
    rw [if_pos h0]
    split at h
    · rename_i ha
      rw [if_pos]
      rw [List.all_append, ha]
      simp [hn]
    · exact absurd h (by decide)
  · exact absurd h (by assumption)
theorem deck_parts {t : List CardL} {l : List Int} (h : deckE t l = 0) : knownE t l = 0 ∧ 8 ≤ l.length ∧ l.length ≤ 30 ∧ l.all (okD t l) = true := by
  rw [deckE_ref] at h
  by_cases hk : knownE t l = 0
  · rw [if_neg (fun e => e hk)] at h
    split at h
    · exact absurd h (by decide)
    · rename_i hl
      split at h
      · exact ⟨hk, by omega, by omega, by assumption⟩
      · exact absurd h (by decide)
  · rw [if_pos hk] at h
    exact absurd h hk
theorem deck_bad {t : List CardL} {l : List Int} {x : Int} (hk : knownE t l = 0) (hx : x ∈ l) (hb : okD t l x = false) : deckE t l = 9 := by
  rw [deckE_ref, if_neg (fun e => e hk)]
  split
  · rfl
  · rw [if_neg]
    intro ha
    rw [List.all_eq_true] at ha
    rw [ha x hx] at hb
    exact absurd hb (by decide)
theorem deck_land {t : List CardL} {l : List Int} {n : Int} (h : deckE t l = 0) (hn : inT t.length n = true) (hk : kindAt t n = 1) (j : Nat) : deckE t (l ++ List.replicate j n) = if 30 < l.length + j then 9 else 0 := by
  obtain ⟨h1, h2, h3, h4⟩ := deck_parts h
  rw [deckE_ref, if_neg (fun e => e (known_more h1 hn j)), List.length_append, List.length_replicate]
  by_cases hj : 30 < l.length + j
  · rw [if_pos (by omega), if_pos hj]
  · rw [if_neg (by omega), if_neg hj, if_pos]
    rw [List.all_eq_true] at h4 ⊢
    intro x hx
    by_cases hxn : x = n
    · subst hxn; unfold okD; simp [hk]
    · rcases List.mem_append.1 hx with hx | hx
      · have := h4 x hx
        unfold okD at this ⊢
        rw [List.count_append, List.count_replicate]
        simpa [hxn, Ne.symm hxn] using this
      · exact absurd (List.eq_of_mem_replicate hx) hxn
theorem deck_scheme {t : List CardL} {l : List Int} {n : Int} (h : deckE t l = 0) (hn : inT t.length n = true) (hk : kindAt t n = 4) (j : Nat) (hj : 1 ≤ j) : deckE t (l ++ List.replicate j n) = 9 :=
  deck_bad (known_more (deck_parts h).1 hn j) (List.mem_append_right _ (List.mem_replicate.2 ⟨by omega, rfl⟩)) (by unfold okD; simp [hk])
theorem deck_five {t : List CardL} {l : List Int} {n : Int} (h : deckE t l = 0) (hn : inT t.length n = true) (hk : kindAt t n ≠ 1) : deckE t (l ++ List.replicate 5 n) = 9 :=
  deck_bad (known_more (deck_parts h).1 hn 5) (List.mem_append_right _ (List.mem_replicate.2 ⟨by omega, rfl⟩)) (by
    unfold okD
    rw [List.count_append, List.count_replicate]
    simp [hk])
theorem wf_more {l : List Int} {n : Int} (h : WfI l) (hn : (Lit.int .i64 n).wf = true) (j : Nat) : WfI (l ++ List.replicate j n) := fun x hx => by
  rcases List.mem_append.1 hx with hx | hx
  · exact h x hx
  · rw [List.eq_of_mem_replicate hx]; exact hn
end Go.Proofs.Ytcbjekdbkhibbaa

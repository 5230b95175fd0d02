/- A law's own map of numbers to numbers (layer 17). -/
import Derived.Test.YtjgjhfeopmakaaaGreatYm
namespace Go.Proofs.YtjgjhfeopmakaaaGreat
open Go.RowKit Go.Maps
def SumMap (w : World) (b n : Nat) (f : Int → Int) : Prop :=
  ∃ D : DataW Unit, w.ownsMap Tryz.prog 3 (plainElem Tryz.prog 3) b n D ∧ Maps.Tidy D ∧ ∀ x, (Lit.int .i64 x).wf = true → D.atKey (.int .i64 x) (.lit (.int .i64 0)) = .lit (.int .i64 (f x))
theorem SumMap.lt {w : World} {b n : Nat} {f : Int → Int} (h : SumMap w b n f) : b < w.heap.size := by
  obtain ⟨D, ho, _⟩ := h
  exact ho.lt
theorem SumMap.of {w w' : World} {b n : Nat} {f : Int → Int} (h : SumMap w b n f) (he : w'.heap[b]? = w.heap[b]?) : SumMap w' b n f := by
  obtain ⟨D, ⟨es, clock, hb, rest⟩, r⟩ := h
  exact ⟨D, ⟨es, clock, he.trans hb, rest⟩, r⟩
theorem sum_made (w : World) : SumMap (w.alloc (.map #[] 0)) w.heap.size 0 (fun _ => 0) :=
  ⟨.map [], World.ownsMap_made w Tryz.prog 3 (plainElem (H := Unit) Tryz.prog 3), Maps.tidy_empty, fun _ _ => rfl⟩
theorem SumMap.look {w : World} {b n : Nat} {f : Int → Int} (h : SumMap w b n f) {x : Int} (hx : (Lit.int .i64 x).wf = true) : (Instr.lookup 48 (.map (some b)) (.int .i64 x) false).run Tryz.prog w = .ok (.int .i64 (f x)) w := by
  obtain ⟨D, hown, _, hat⟩ := h
  obtain ⟨v, ps, hrun, hv⟩ := hown.lookup (Maps.int_keyed Tryz.underlying3) Tryz.underlying48 (Tryz.zeroValue3 _) (plainElem_int Tryz.underlying3 (a := 0) (by decide)) (Maps.keyOf_int_mk Tryz.underlying3 hx)
  obtain ⟨c, rfl, hc, _⟩ := plainElem_int_inv Tryz.underlying3 hv
  rw [hat x hx] at hc
  simp only [Prod.mk.injEq, DataW.lit.injEq, Lit.int.injEq] at hc
  rw [hrun, hc.1.2]
theorem SumMap.mono {w : World} {b n m : Nat} {f : Int → Int} (h : SumMap w b n f) (hm : n ≤ m) : SumMap w b m f := by
  obtain ⟨D, ho, r⟩ := h
  exact ⟨D, ho.mono hm, r⟩
theorem SumMap.later {w w' : World} {b n : Nat} {f : Int → Int} (h : SumMap w b n f) (hb : Below w.heap.size w w') : SumMap w' b n f := h.of (hb.block b h.lt)
/-- One more, or another. -/
theorem SumMap.put {w : World} {b n : Nat} {f : Int → Int} (h : SumMap w b n f) (hn : n < maxLen) {x : Int} (hx : (Lit.int .i64 x).wf = true) {u : Int} (hu : (Lit.int .i64 u).wf = true) :
    ∃ w', (Instr.mapUpdate 48 (.map (some b)) (.int .i64 x) (.int .i64 u)).run Tryz.prog w = .ok () w' ∧ SumMap w' b (n + 1) (fun y => if y = x then u else f y) ∧ w.grownBy w' (some b) := by
  obtain ⟨D, hown, htd, hat⟩ := h
  obtain ⟨w', h1, h2, h3⟩ := hown.update (Maps.int_keyed Tryz.underlying3) Tryz.underlying48 hn (Maps.keyOf_int_mk Tryz.underlying3 hx) (plainElem_int Tryz.underlying3 hu)
  refine ⟨w', h1, ⟨_, h2, htd.put (key_lit x) _, fun y hy => ?_⟩, h3⟩
  dsimp only
  by_cases e : y = x
  · subst e
    rw [if_pos rfl, Maps.atKey_put_same htd.isMap (key_lit y)]
  · rw [if_neg e, Maps.atKey_put_other (fun h => e (by injection h))]
    exact hat y hy
end Go.Proofs.YtjgjhfeopmakaaaGreat

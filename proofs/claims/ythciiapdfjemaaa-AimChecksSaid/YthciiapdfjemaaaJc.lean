/- Lands of a seat (layer 7): its lands on the Field that aren't tapped, the least number first. -/
import Derived.Test.YthciiapdfjemaaaJa
import Derived.Test.YthciiapdfjemaaaJb
import Derived.Test.YthciiapdfjemaaaRg
namespace Go.Proofs.Ythciiapdfjemaaa
open Go.RowKit Go.Maps
attribute [local go_sem] Oper.semAt_some

theorem one_int (w : World) (x : Int) : IntsAt (w.alloc (.cells #[.int .i64 x] 3)) (.slice (some ⟨w.heap.size, 0, none⟩) 1 1) [x] :=
  .inr ⟨w.heap.size, 0, 1, rfl, by simp, fun i hi => by
    have : i = 0 := by simp [intsV] at hi; omega
    subst this
    rw [cell_of_row _ _ _ _ _ _ (heap_alloc_new w _)]; rfl⟩
theorem field_mem {S : StoreL} (h : WfS S) (hn : 1 ≤ S.seats) {os : List Int} {x : ObjL} (hx : x ∈ fieldL S os) : ∃ k, ∃ hk : k < S.objs.length, x = S.objs[k] ∧ x.id = (k : Int) + 1 ∧ x.zone = 3 ∧ ∃ n : Nat, x.card = n ∧ n < S.T.length := by
  unfold fieldL selO at hx
  obtain ⟨hx, _⟩ := List.mem_filter.1 hx
  obtain ⟨i, hi, rfl⟩ := List.mem_map.1 hx
  obtain ⟨k, hk, e, ho, hz⟩ := h.onField hn hi
  have hid := h.ids k hk
  rw [ho]
  exact ⟨k, hk, rfl, hid.1, hz, S.objs[k].card.toNat, by omega, by omega⟩
theorem fieldL_len {S : StoreL} (hS : WfS S) (hl : S.objs.length ≤ 1000) (hn : 1 ≤ S.seats) (os : List Int) : (fieldL S os).length ≤ 1000 :=
  Nat.le_trans (selO_len _ _ _) ((hS.short hl).2 0 3 ⟨by omega, by decide, by decide, fun _ => rfl⟩)
end Go.Proofs.Ythciiapdfjemaaa

/- A list of bytes that came in, opened. -/
import Derived.Test.YtdlkdilgjmmlaaaXt
import Derived.Test.YtdlkdilgjmmlaaaAq
import Derived.Test.YtdlkdilgjmmlaaaRm
import Derived.Deep.Slices
import Derived.Deep.Fields
import Derived.ChangeSame
import Derived.Laws.IdiomArrays
namespace Go.Proofs.Ytdlkdilgjmmlaaa
open Go.ChangeShapes Go.WideShapes Go.RowKit Go.Deep
theorem cells8 : Try.prog.cellsOf 5 = 1 := by kernel_rfl
set_option maxRecDepth 100000 in
theorem open_bytes {H : Type} {enc : TypeId × Value → H} {w : World} {base : Nat} {v : Value} {d : DataW H} {p : List MemPlace} (hv : Value.okWide Try.prog w .any base 22 v) (h : DataW.Trod enc Try.prog w 0 (fun _ => true) true 22 v d p) :
    ∃ l : List Int, ValsAt w v (u8sV l) ∧ l.length ≤ maxLen ∧ ∀ x ∈ l, 0 ≤ x ∧ x < 256 := by
  obtain ⟨a0, len0, cap0, rfl⟩ := okWide_slice Try.underlying22 hv
  obtain ⟨fuel, h⟩ := h
  rcases open_ints Try.underlying22 Try.underlying5 cells8 h with ⟨hcs, _⟩ | ⟨ad, len', cap', zs, hcs, _, hl, hm, hz, hx, hcell, hwz⟩
  · exact ⟨[], .inl ⟨_, _, (List.cons.inj hcs).1, rfl⟩, Nat.zero_le _, fun x hx => by cases hx⟩
  · have hv2 : Value.slice a0 len0 cap0 = .slice (some ad) len' cap' := (List.cons.inj hcs).1
    rw [hv2]
    simp only [if_true] at hz
    by_cases h0 : len' = 0
    · subst h0
      exact ⟨[], .inl ⟨_, _, rfl, rfl⟩, Nat.zero_le _, fun x hx => by cases hx⟩
    · have hlen : (zs.take len').length = len' := by rw [List.length_take]; omega
      have hlen8 : ∀ l : List Int, (u8sV l).length = l.length := fun l => by simp [u8sV]
      obtain ⟨b, off, spot⟩ := ad
      have hspot : spot = none := by simpa [Addr.add] using World.cell?_spot (hcell 0 (by omega))
      subst hspot
      refine ⟨zs.take len', .inr ⟨b, off, cap', by rw [hlen8, hlen], ?_, fun i hi => ?_⟩, by rw [hlen]; omega, fun x hx => ?_⟩
      · have := hcell 0 (by omega)
        rw [addr_at2] at this
        exact World.block_lt_of_cell? w _ this
      · rw [hlen8, hlen] at hi
        have := hcell i (by omega)
        rw [addr_at2] at this
        rw [this]
        simp [u8sV, List.getD, show i < zs.length by omega]
      · have := hwz x (List.mem_of_mem_take hx)
        simp [Lit.wf, IntKind.min, IntKind.max, IntKind.signed, IntKind.bits] at this
        omega
end Go.Proofs.Ytdlkdilgjmmlaaa

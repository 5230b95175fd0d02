/- Arguments of the laws of layer 8: a small number, three numbers, a list of sets: opened to what they hold. -/
import Derived.Test.YthciiapdfjemaaaJp
namespace Go.Proofs.Ythciiapdfjemaaa
open Go.ChangeShapes Go.WideShapes Go.RowKit Go.Deep

set_option maxRecDepth 100000 in
theorem open_u8 {H : Type} {enc : TypeId × Value → H} {w : World} {base : Nat} {v : Value} {d : DataW H} {p : List MemPlace} (hv : Value.okWide Try.prog w .any base 5 v) (h : DataW.Trod enc Try.prog w 0 (fun _ => true) true 5 v d p) :
    ∃ n : Nat, v = .int .u8 n ∧ n < 256 := by
  obtain ⟨a, rfl, rfl, rfl, wa⟩ := open_int Try.underlying5 hv h
  simp [Lit.wf, IntKind.min, IntKind.max, IntKind.signed, IntKind.bits] at wa
  refine ⟨a.toNat, ?_, by omega⟩
  rw [Int.toNat_of_nonneg wa.1]
end Go.Proofs.Ythciiapdfjemaaa

/-
  No cell of these rows narrows 'for every input' (looked for: loops, veiled, ifaces, maps, wideKeys, modest, calm, conditions, laid).
  DERIVED. THE GIVEN ROWS OF THIS SEAT. 4 by the template 'for every input the law returns true; each argument reads behind the call as it read before'; 0 by the template 'total and deterministic' (their statements: YtokjghfpdolojaaTotals.lean).
  GIVEN WITH THE SEED: the statements are not yours to turn. If you find one false, say at which input.
  Laid BY PROGRAM, IN A SANDBOX (cutbox-rows.mjs): the forced cells as the released guide's own fill.sh prints them over the translation 1939e8b0feb712e5… (all of the seat's roots in one cut). By AI agents, Wed Nov 11 2026. No macro, syntax, notation, axiom, sorry.
-/
import Derived.Test.YtokjghfpdolojaaChecked
import GoSem.Claim
import GoSem.ClaimJoined
import GoSem.ClaimMapViews
import Derived.JoinedTies
import Derived.KernelRfl
namespace Go.Proofs.Ytokjghfpdolojaa
/- THE CELL 'sum', in the pinned program and in every row, IS THE sha256 OF THE DUMP (.gsa) THAT YtokjghfpdolojaaProg.lean LOADS. Nothing in Lean hashes anything: it is a label: what it is worth is what the hold of that sum in a sandbox is worth. -/
noncomputable def Try.pinned : Pinned := { name := "ytokjghfpdolojaa", sum := "1939e8b0feb712e529e81013a9ebb375d55e69eef864cf619cc4bdd888ed1966", checked := Try.checked }
namespace Rows
def none {H : Type} : Left H := { results := [], args := [] }

/-- 'hydralaw04.DealDraws': WHATEVER THE INPUT: true; the input reads as it did. -/
def dealDrawsSpec : ChangeSpec := { name := "dealDraws", fn := fun _ => fun
  | [d1, d2] => { results := [.lit (.bool true)], args := [d1, d2] }
  | _ => none }
def dealDrawsRow : OpenClaim := { program := "ytokjghfpdolojaa", sum := "1939e8b0feb712e529e81013a9ebb375d55e69eef864cf619cc4bdd888ed1966", func := "hydra/hydralaw04.DealDraws", spec := "dealDraws", apart := false }
def DealDrawsSaid : Prop := dealDrawsRow.holds Try.pinned (OpenSpec.ofChange dealDrawsSpec)

/-- ITS FALSE NEIGHBOUR: 'it returns false'. Refute it at one input. -/
def dealDrawsWrong : ChangeSpec := { name := "dealDraws", fn := fun _ => fun
  | [d1, d2] => { results := [.lit (.bool false)], args := [d1, d2] }
  | _ => none }
def DealDrawsWrongFalsely : Prop := dealDrawsRow.holds Try.pinned (OpenSpec.ofChange dealDrawsWrong)

/-- 'hydralaw04.DealShuffles': WHATEVER THE INPUT: true; the input reads as it did. -/
def dealShufflesSpec : ChangeSpec := { name := "dealShuffles", fn := fun _ => fun
  | [d1, d2] => { results := [.lit (.bool true)], args := [d1, d2] }
  | _ => none }
def dealShufflesRow : OpenClaim := { program := "ytokjghfpdolojaa", sum := "1939e8b0feb712e529e81013a9ebb375d55e69eef864cf619cc4bdd888ed1966", func := "hydra/hydralaw04.DealShuffles", spec := "dealShuffles", apart := false }
def DealShufflesSaid : Prop := dealShufflesRow.holds Try.pinned (OpenSpec.ofChange dealShufflesSpec)

/-- ITS FALSE NEIGHBOUR: 'it returns false'. Refute it at one input. -/
def dealShufflesWrong : ChangeSpec := { name := "dealShuffles", fn := fun _ => fun
  | [d1, d2] => { results := [.lit (.bool false)], args := [d1, d2] }
  | _ => none }
def DealShufflesWrongFalsely : Prop := dealShufflesRow.holds Try.pinned (OpenSpec.ofChange dealShufflesWrong)

/-- 'hydralaw04.DealPerms': WHATEVER THE INPUT: true; the input reads as it did. -/
def dealPermsSpec : ChangeSpec := { name := "dealPerms", fn := fun _ => fun
  | [d1, d2] => { results := [.lit (.bool true)], args := [d1, d2] }
  | _ => none }
def dealPermsRow : OpenClaim := { program := "ytokjghfpdolojaa", sum := "1939e8b0feb712e529e81013a9ebb375d55e69eef864cf619cc4bdd888ed1966", func := "hydra/hydralaw04.DealPerms", spec := "dealPerms", unfollowed := true, recurses := true, apart := false }
def DealPermsSaid : Prop := dealPermsRow.holds Try.pinned (OpenSpec.ofChange dealPermsSpec)

/-- ITS FALSE NEIGHBOUR: 'it returns false'. Refute it at one input. -/
def dealPermsWrong : ChangeSpec := { name := "dealPerms", fn := fun _ => fun
  | [d1, d2] => { results := [.lit (.bool false)], args := [d1, d2] }
  | _ => none }
def DealPermsWrongFalsely : Prop := dealPermsRow.holds Try.pinned (OpenSpec.ofChange dealPermsWrong)

/-- 'hydralaw04.DealApart': WHATEVER THE INPUT: true; the input reads as it did. -/
def dealApartSpec : ChangeSpec := { name := "dealApart", fn := fun _ => fun
  | [d1, d2, d3] => { results := [.lit (.bool true)], args := [d1, d2, d3] }
  | _ => none }
def dealApartRow : OpenClaim := { program := "ytokjghfpdolojaa", sum := "1939e8b0feb712e529e81013a9ebb375d55e69eef864cf619cc4bdd888ed1966", func := "hydra/hydralaw04.DealApart", spec := "dealApart", apart := false }
def DealApartSaid : Prop := dealApartRow.holds Try.pinned (OpenSpec.ofChange dealApartSpec)

/-- ITS FALSE NEIGHBOUR: 'it returns false'. Refute it at one input. -/
def dealApartWrong : ChangeSpec := { name := "dealApart", fn := fun _ => fun
  | [d1, d2, d3] => { results := [.lit (.bool false)], args := [d1, d2, d3] }
  | _ => none }
def DealApartWrongFalsely : Prop := dealApartRow.holds Try.pinned (OpenSpec.ofChange dealApartWrong)

/- THE SECOND FORM. 'bulk': how many values and letters a reading holds, each counted each time it is reached (what is shared counts as often as it is met; a slice's spare places count too). A statement '..UptoSaid' is the law's where the arguments, and the package variables that the reading takes, are together of bulk at most 1048576: NARROWER than '..Said'. Prove '..Said' where nothing that the law and all that it calls make is longer than what came in: it says more and counts as full. Else prove '..UptoSaid'. A law counts once. -/
mutual
def uptoBulk {H : Type} : DataW H → Nat
  | .lit (.string bytes) => bytes.length + 1
  | .lit _ => 1
  | .nil => 1
  | .ptr d => uptoBulk d + 1
  | .slice elems spare => uptoBulkAll elems + uptoBulkAll spare + 1
  | .agg parts => uptoBulkAll parts + 1
  | .iface _ d => uptoBulk d + 1
  | .map entries => uptoBulkEntries entries + 1
  | .held _ => 1
def uptoBulkAll {H : Type} : List (DataW H) → Nat
  | [] => 0
  | d :: r => uptoBulk d + uptoBulkAll r
def uptoBulkEntries {H : Type} : List (Lit × DataW H) → Nat
  | [] => 0
  | x :: r => uptoBulkEntry x + uptoBulkEntries r
def uptoBulkEntry {H : Type} : Lit × DataW H → Nat
  | (.string bytes, d) => bytes.length + uptoBulk d + 1
  | (_, d) => uptoBulk d + 1
 end
def uptoSmall : (H : Type) → List (DataW H) → Bool := fun _ ds => decide (uptoBulkAll ds ≤ 1048576)
def OpenSpec.upto (s : _root_.Go.ChangeSpec) : _root_.Go.OpenSpec := { _root_.Go.OpenSpec.ofChange s with cond := some uptoSmall }

/-- 'hydralaw04.DealDraws', WHERE WHAT IT READS IS OF BULK AT MOST 1048576: true; the input reads as it did. -/
def dealDrawsUptoRow : OpenClaim := { program := "ytokjghfpdolojaa", sum := "1939e8b0feb712e529e81013a9ebb375d55e69eef864cf619cc4bdd888ed1966", func := "hydra/hydralaw04.DealDraws", spec := "dealDraws", apart := false, narrowed := true }
def DealDrawsUptoSaid : Prop := dealDrawsUptoRow.holds Try.pinned (OpenSpec.upto dealDrawsSpec)

/-- 'hydralaw04.DealShuffles', WHERE WHAT IT READS IS OF BULK AT MOST 1048576: true; the input reads as it did. -/
def dealShufflesUptoRow : OpenClaim := { program := "ytokjghfpdolojaa", sum := "1939e8b0feb712e529e81013a9ebb375d55e69eef864cf619cc4bdd888ed1966", func := "hydra/hydralaw04.DealShuffles", spec := "dealShuffles", apart := false, narrowed := true }
def DealShufflesUptoSaid : Prop := dealShufflesUptoRow.holds Try.pinned (OpenSpec.upto dealShufflesSpec)

/-- 'hydralaw04.DealPerms', WHERE WHAT IT READS IS OF BULK AT MOST 1048576: true; the input reads as it did. -/
def dealPermsUptoRow : OpenClaim := { program := "ytokjghfpdolojaa", sum := "1939e8b0feb712e529e81013a9ebb375d55e69eef864cf619cc4bdd888ed1966", func := "hydra/hydralaw04.DealPerms", spec := "dealPerms", unfollowed := true, recurses := true, apart := false, narrowed := true }
def DealPermsUptoSaid : Prop := dealPermsUptoRow.holds Try.pinned (OpenSpec.upto dealPermsSpec)

/-- 'hydralaw04.DealApart', WHERE WHAT IT READS IS OF BULK AT MOST 1048576: true; the input reads as it did. -/
def dealApartUptoRow : OpenClaim := { program := "ytokjghfpdolojaa", sum := "1939e8b0feb712e529e81013a9ebb375d55e69eef864cf619cc4bdd888ed1966", func := "hydra/hydralaw04.DealApart", spec := "dealApart", apart := false, narrowed := true }
def DealApartUptoSaid : Prop := dealApartUptoRow.holds Try.pinned (OpenSpec.upto dealApartSpec)

end Rows
end Go.Proofs.Ytokjghfpdolojaa

/-
  No cell of these rows narrows 'for every input' (looked for: loops, veiled, ifaces, maps, wideKeys, modest, calm, conditions, laid).
  DERIVED. THE GIVEN ROWS OF THIS SEAT. 4 by the template 'for every input the law returns true; each argument reads behind the call as it read before'; 0 by the template 'total and deterministic' (their statements: YtbbbkpadadeolaaTotals.lean).
  GIVEN WITH THE SEED: the statements are not yours to turn. If you find one false, say at which input.
  Laid BY PROGRAM, IN A SANDBOX (cutbox-rows.mjs): the forced cells as the released guide's own fill.sh prints them over the translation 20347d96c97ac869… (all of the seat's roots in one cut). By AI agents, Wed Nov 11 2026. No macro, syntax, notation, axiom, sorry.
-/
import Derived.Test.YtbbbkpadadeolaaChecked
import GoSem.Claim
import GoSem.ClaimJoined
import GoSem.ClaimMapViews
import Derived.JoinedTies
import Derived.KernelRfl
namespace Go.Proofs.Ytbbbkpadadeolaa
/- THE CELL 'sum', in the pinned program and in every row, IS THE sha256 OF THE DUMP (.gsa) THAT YtbbbkpadadeolaaProg.lean LOADS. Nothing in Lean hashes anything: it is a label: what it is worth is what the hold of that sum in a sandbox is worth. -/
noncomputable def Try.pinned : Pinned := { name := "ytbbbkpadadeolaa", sum := "20347d96c97ac869be727b2b96939d04a327e4ba32c2b155002013acc3959e4a", checked := Try.checked }
namespace Rows
def none {H : Type} : Left H := { results := [], args := [] }

/-- 'hydralaw08.StatTells': WHATEVER THE INPUT: true; the input reads as it did. -/
def statTellsSpec : ChangeSpec := { name := "statTells", fn := fun _ => fun
  | [d1, d2, d3] => { results := [.lit (.bool true)], args := [d1, d2, d3] }
  | _ => none }
def statTellsRow : OpenClaim := { program := "ytbbbkpadadeolaa", sum := "20347d96c97ac869be727b2b96939d04a327e4ba32c2b155002013acc3959e4a", func := "hydra/hydralaw08.StatTells", spec := "statTells", inPlace := ["slices.overlaps[int]"], unfollowed := true, recurses := true, plainKeys := false, apart := false }
def StatTellsSaid : Prop := statTellsRow.holds Try.pinned (OpenSpec.ofChange statTellsSpec)

/-- ITS FALSE NEIGHBOUR: 'it returns false'. Refute it at one input. -/
def statTellsWrong : ChangeSpec := { name := "statTells", fn := fun _ => fun
  | [d1, d2, d3] => { results := [.lit (.bool false)], args := [d1, d2, d3] }
  | _ => none }
def StatTellsWrongFalsely : Prop := statTellsRow.holds Try.pinned (OpenSpec.ofChange statTellsWrong)

/-- 'hydralaw08.StatChanges': WHATEVER THE INPUT: true; the input reads as it did. -/
def statChangesSpec : ChangeSpec := { name := "statChanges", fn := fun _ => fun
  | [d1, d2, d3] => { results := [.lit (.bool true)], args := [d1, d2, d3] }
  | _ => none }
def statChangesRow : OpenClaim := { program := "ytbbbkpadadeolaa", sum := "20347d96c97ac869be727b2b96939d04a327e4ba32c2b155002013acc3959e4a", func := "hydra/hydralaw08.StatChanges", spec := "statChanges", inPlace := ["slices.overlaps[int]"], unfollowed := true, recurses := true, plainKeys := false, apart := false }
def StatChangesSaid : Prop := statChangesRow.holds Try.pinned (OpenSpec.ofChange statChangesSpec)

/-- ITS FALSE NEIGHBOUR: 'it returns false'. Refute it at one input. -/
def statChangesWrong : ChangeSpec := { name := "statChanges", fn := fun _ => fun
  | [d1, d2, d3] => { results := [.lit (.bool false)], args := [d1, d2, d3] }
  | _ => none }
def StatChangesWrongFalsely : Prop := statChangesRow.holds Try.pinned (OpenSpec.ofChange statChangesWrong)

/-- 'hydralaw08.StatAdds': WHATEVER THE INPUT: true; the input reads as it did. -/
def statAddsSpec : ChangeSpec := { name := "statAdds", fn := fun _ => fun
  | [d1, d2, d3] => { results := [.lit (.bool true)], args := [d1, d2, d3] }
  | _ => none }
def statAddsRow : OpenClaim := { program := "ytbbbkpadadeolaa", sum := "20347d96c97ac869be727b2b96939d04a327e4ba32c2b155002013acc3959e4a", func := "hydra/hydralaw08.StatAdds", spec := "statAdds", inPlace := ["slices.overlaps[int]"], unfollowed := true, recurses := true, plainKeys := false, apart := false }
def StatAddsSaid : Prop := statAddsRow.holds Try.pinned (OpenSpec.ofChange statAddsSpec)

/-- ITS FALSE NEIGHBOUR: 'it returns false'. Refute it at one input. -/
def statAddsWrong : ChangeSpec := { name := "statAdds", fn := fun _ => fun
  | [d1, d2, d3] => { results := [.lit (.bool false)], args := [d1, d2, d3] }
  | _ => none }
def StatAddsWrongFalsely : Prop := statAddsRow.holds Try.pinned (OpenSpec.ofChange statAddsWrong)

/-- 'hydralaw08.StatLayers': WHATEVER THE INPUT: true; the input reads as it did. -/
def statLayersSpec : ChangeSpec := { name := "statLayers", fn := fun _ => fun
  | [d1, d2, d3] => { results := [.lit (.bool true)], args := [d1, d2, d3] }
  | _ => none }
def statLayersRow : OpenClaim := { program := "ytbbbkpadadeolaa", sum := "20347d96c97ac869be727b2b96939d04a327e4ba32c2b155002013acc3959e4a", func := "hydra/hydralaw08.StatLayers", spec := "statLayers", inPlace := ["slices.overlaps[int]"], unfollowed := true, recurses := true, plainKeys := false, apart := false }
def StatLayersSaid : Prop := statLayersRow.holds Try.pinned (OpenSpec.ofChange statLayersSpec)

/-- ITS FALSE NEIGHBOUR: 'it returns false'. Refute it at one input. -/
def statLayersWrong : ChangeSpec := { name := "statLayers", fn := fun _ => fun
  | [d1, d2, d3] => { results := [.lit (.bool false)], args := [d1, d2, d3] }
  | _ => none }
def StatLayersWrongFalsely : Prop := statLayersRow.holds Try.pinned (OpenSpec.ofChange statLayersWrong)

/- THE SECOND FORM. 'bulk': how many values and letters a reading holds, each counted each time it is reached (what is shared counts as often as it is met; a slice's spare places count too). A statement '..UptoSaid' is the law's where the arguments, and the package variables that the reading takes, are together of bulk at most 1048576: NARROWER than '..Said'. Prove '..Said' where nothing that the law and all that it calls make is longer than what came in: it says more and counts as full. Else prove '..UptoSaid'. A law counts once. -/
mutual
def uptoBulk {H : Type} : DataW H → Nat
  | .lit (.string bytes) => bytes.length + 1
  | .lit _ => 1
  | .nil => 1
  | .ptr d => uptoBulk d + 1
  | .slice elems spare => uptoBulkAll elems + uptoBulkAll spare + 1
  | .agg parts => uptoBulkAll parts + 1
  | .iface _ d => uptoBulk d + 1
  | .map entries => uptoBulkEntries entries + 1
  | .held _ => 1
def uptoBulkAll {H : Type} : List (DataW H) → Nat
  | [] => 0
  | d :: r => uptoBulk d + uptoBulkAll r
def uptoBulkEntries {H : Type} : List (Lit × DataW H) → Nat
  | [] => 0
  | x :: r => uptoBulkEntry x + uptoBulkEntries r
def uptoBulkEntry {H : Type} : Lit × DataW H → Nat
  | (.string bytes, d) => bytes.length + uptoBulk d + 1
  | (_, d) => uptoBulk d + 1
 end
def uptoSmall : (H : Type) → List (DataW H) → Bool := fun _ ds => decide (uptoBulkAll ds ≤ 1048576)
def OpenSpec.upto (s : _root_.Go.ChangeSpec) : _root_.Go.OpenSpec := { _root_.Go.OpenSpec.ofChange s with cond := some uptoSmall }

/-- 'hydralaw08.StatTells', WHERE WHAT IT READS IS OF BULK AT MOST 1048576: true; the input reads as it did. -/
def statTellsUptoRow : OpenClaim := { program := "ytbbbkpadadeolaa", sum := "20347d96c97ac869be727b2b96939d04a327e4ba32c2b155002013acc3959e4a", func := "hydra/hydralaw08.StatTells", spec := "statTells", inPlace := ["slices.overlaps[int]"], unfollowed := true, recurses := true, plainKeys := false, apart := false, narrowed := true }
def StatTellsUptoSaid : Prop := statTellsUptoRow.holds Try.pinned (OpenSpec.upto statTellsSpec)

/-- 'hydralaw08.StatChanges', WHERE WHAT IT READS IS OF BULK AT MOST 1048576: true; the input reads as it did. -/
def statChangesUptoRow : OpenClaim := { program := "ytbbbkpadadeolaa", sum := "20347d96c97ac869be727b2b96939d04a327e4ba32c2b155002013acc3959e4a", func := "hydra/hydralaw08.StatChanges", spec := "statChanges", inPlace := ["slices.overlaps[int]"], unfollowed := true, recurses := true, plainKeys := false, apart := false, narrowed := true }
def StatChangesUptoSaid : Prop := statChangesUptoRow.holds Try.pinned (OpenSpec.upto statChangesSpec)

/-- 'hydralaw08.StatAdds', WHERE WHAT IT READS IS OF BULK AT MOST 1048576: true; the input reads as it did. -/
def statAddsUptoRow : OpenClaim := { program := "ytbbbkpadadeolaa", sum := "20347d96c97ac869be727b2b96939d04a327e4ba32c2b155002013acc3959e4a", func := "hydra/hydralaw08.StatAdds", spec := "statAdds", inPlace := ["slices.overlaps[int]"], unfollowed := true, recurses := true, plainKeys := false, apart := false, narrowed := true }
def StatAddsUptoSaid : Prop := statAddsUptoRow.holds Try.pinned (OpenSpec.upto statAddsSpec)

/-- 'hydralaw08.StatLayers', WHERE WHAT IT READS IS OF BULK AT MOST 1048576: true; the input reads as it did. -/
def statLayersUptoRow : OpenClaim := { program := "ytbbbkpadadeolaa", sum := "20347d96c97ac869be727b2b96939d04a327e4ba32c2b155002013acc3959e4a", func := "hydra/hydralaw08.StatLayers", spec := "statLayers", inPlace := ["slices.overlaps[int]"], unfollowed := true, recurses := true, plainKeys := false, apart := false, narrowed := true }
def StatLayersUptoSaid : Prop := statLayersUptoRow.holds Try.pinned (OpenSpec.upto statLayersSpec)

end Rows
end Go.Proofs.Ytbbbkpadadeolaa

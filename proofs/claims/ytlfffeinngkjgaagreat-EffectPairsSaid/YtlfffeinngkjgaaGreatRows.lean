/-
  No cell of these rows narrows 'for every input' (looked for: loops, veiled, ifaces, maps, wideKeys, modest, calm, conditions, laid).
  DERIVED. THE GIVEN ROWS OF THIS SEAT. 4 by the template 'for every input the law returns true; each argument reads behind the call as it read before'; 0 by the template 'total and deterministic' (their statements: YtlfffeinngkjgaaGreatTotals.lean).
  GIVEN WITH THE SEED: the statements are not yours to turn. If you find one false, say at which input.
  Laid BY PROGRAM, IN A SANDBOX (cutbox-rows.mjs): the forced cells as the released guide's own fill.sh prints them over the translation 3e64d3c3778463ac… (all of the seat's roots in one cut). By AI agents, Wed Nov 11 2026. No macro, syntax, notation, axiom, sorry.
-/
import Derived.Test.YtlfffeinngkjgaaGreatChecked
import GoSem.Claim
import GoSem.ClaimJoined
import GoSem.ClaimMapViews
import Derived.JoinedTies
import Derived.KernelRfl
namespace Go.Proofs.YtlfffeinngkjgaaGreat
/- THE CELL 'sum', in the pinned program and in every row, IS THE sha256 OF THE DUMP (.gsa) THAT YtlfffeinngkjgaaGreatProg.lean LOADS. Nothing in Lean hashes anything: it is a label: what it is worth is what the hold of that sum in a sandbox is worth. -/
noncomputable def Tryz.pinned : Pinned := { name := "ytlfffeinngkjgaagreat", sum := "3e64d3c3778463ac6b9a3a0138d816cda39debbbe31b54ce7fc2d31c489ad1d6", checked := Tryz.checked }
namespace Rows
def none {H : Type} : Left H := { results := [], args := [] }

/-- 'hydralaw11.EffectDoes': WHATEVER THE INPUT: true; the input reads as it did. -/
def effectDoesSpec : ChangeSpec := { name := "effectDoes", fn := fun _ => fun
  | [d1, d2, d3] => { results := [.lit (.bool true)], args := [d1, d2, d3] }
  | _ => none }
def effectDoesRow : OpenClaim := { program := "ytlfffeinngkjgaagreat", sum := "3e64d3c3778463ac6b9a3a0138d816cda39debbbe31b54ce7fc2d31c489ad1d6", func := "hydra/hydralaw11.EffectDoes", spec := "effectDoes", inPlace := ["slices.overlaps[int]"], unfollowed := true, recurses := true, plainKeys := false, apart := false }
def EffectDoesSaid : Prop := effectDoesRow.holds Tryz.pinned (OpenSpec.ofChange effectDoesSpec)

/-- ITS FALSE NEIGHBOUR: 'it returns false'. Refute it at one input. -/
def effectDoesWrong : ChangeSpec := { name := "effectDoes", fn := fun _ => fun
  | [d1, d2, d3] => { results := [.lit (.bool false)], args := [d1, d2, d3] }
  | _ => none }
def EffectDoesWrongFalsely : Prop := effectDoesRow.holds Tryz.pinned (OpenSpec.ofChange effectDoesWrong)

/-- 'hydralaw11.EffectAll': WHATEVER THE INPUT: true; the input reads as it did. -/
def effectAllSpec : ChangeSpec := { name := "effectAll", fn := fun _ => fun
  | [d1, d2, d3] => { results := [.lit (.bool true)], args := [d1, d2, d3] }
  | _ => none }
def effectAllRow : OpenClaim := { program := "ytlfffeinngkjgaagreat", sum := "3e64d3c3778463ac6b9a3a0138d816cda39debbbe31b54ce7fc2d31c489ad1d6", func := "hydra/hydralaw11.EffectAll", spec := "effectAll", inPlace := ["slices.overlaps[int]"], unfollowed := true, recurses := true, plainKeys := false, apart := false }
def EffectAllSaid : Prop := effectAllRow.holds Tryz.pinned (OpenSpec.ofChange effectAllSpec)

/-- ITS FALSE NEIGHBOUR: 'it returns false'. Refute it at one input. -/
def effectAllWrong : ChangeSpec := { name := "effectAll", fn := fun _ => fun
  | [d1, d2, d3] => { results := [.lit (.bool false)], args := [d1, d2, d3] }
  | _ => none }
def EffectAllWrongFalsely : Prop := effectAllRow.holds Tryz.pinned (OpenSpec.ofChange effectAllWrong)

/-- 'hydralaw11.EffectBoards': WHATEVER THE INPUT: true; the input reads as it did. -/
def effectBoardsSpec : ChangeSpec := { name := "effectBoards", fn := fun _ => fun
  | [d1, d2, d3] => { results := [.lit (.bool true)], args := [d1, d2, d3] }
  | _ => none }
def effectBoardsRow : OpenClaim := { program := "ytlfffeinngkjgaagreat", sum := "3e64d3c3778463ac6b9a3a0138d816cda39debbbe31b54ce7fc2d31c489ad1d6", func := "hydra/hydralaw11.EffectBoards", spec := "effectBoards", inPlace := ["slices.overlaps[int]"], unfollowed := true, recurses := true, plainKeys := false, apart := false }
def EffectBoardsSaid : Prop := effectBoardsRow.holds Tryz.pinned (OpenSpec.ofChange effectBoardsSpec)

/-- ITS FALSE NEIGHBOUR: 'it returns false'. Refute it at one input. -/
def effectBoardsWrong : ChangeSpec := { name := "effectBoards", fn := fun _ => fun
  | [d1, d2, d3] => { results := [.lit (.bool false)], args := [d1, d2, d3] }
  | _ => none }
def EffectBoardsWrongFalsely : Prop := effectBoardsRow.holds Tryz.pinned (OpenSpec.ofChange effectBoardsWrong)

/-- 'hydralaw11.EffectPairs': WHATEVER THE INPUT: true; the input reads as it did. -/
def effectPairsSpec : ChangeSpec := { name := "effectPairs", fn := fun _ => fun
  | [d1, d2, d3] => { results := [.lit (.bool true)], args := [d1, d2, d3] }
  | _ => none }
def effectPairsRow : OpenClaim := { program := "ytlfffeinngkjgaagreat", sum := "3e64d3c3778463ac6b9a3a0138d816cda39debbbe31b54ce7fc2d31c489ad1d6", func := "hydra/hydralaw11.EffectPairs", spec := "effectPairs", inPlace := ["slices.overlaps[int]"], unfollowed := true, recurses := true, plainKeys := false, apart := false }
def EffectPairsSaid : Prop := effectPairsRow.holds Tryz.pinned (OpenSpec.ofChange effectPairsSpec)

/-- ITS FALSE NEIGHBOUR: 'it returns false'. Refute it at one input. -/
def effectPairsWrong : ChangeSpec := { name := "effectPairs", fn := fun _ => fun
  | [d1, d2, d3] => { results := [.lit (.bool false)], args := [d1, d2, d3] }
  | _ => none }
def EffectPairsWrongFalsely : Prop := effectPairsRow.holds Tryz.pinned (OpenSpec.ofChange effectPairsWrong)

/- THE SECOND FORM. 'bulk': how many values and letters a reading holds, each counted each time it is reached (what is shared counts as often as it is met; a slice's spare places count too). A statement '..UptoSaid' is the law's where the arguments, and the package variables that the reading takes, are together of bulk at most 1048576: NARROWER than '..Said'. Prove '..Said' where nothing that the law and all that it calls make is longer than what came in: it says more and counts as full. Else prove '..UptoSaid'. A law counts once. -/
mutual
def uptoBulk {H : Type} : DataW H → Nat
  | .lit (.string bytes) => bytes.length + 1
  | .lit _ => 1
  | .nil => 1
  | .ptr d => uptoBulk d + 1
  | .slice elems spare => uptoBulkAll elems + uptoBulkAll spare + 1
  | .agg parts => uptoBulkAll parts + 1
  | .iface _ d => uptoBulk d + 1
  | .map entries => uptoBulkEntries entries + 1
  | .held _ => 1
def uptoBulkAll {H : Type} : List (DataW H) → Nat
  | [] => 0
  | d :: r => uptoBulk d + uptoBulkAll r
def uptoBulkEntries {H : Type} : List (Lit × DataW H) → Nat
  | [] => 0
  | x :: r => uptoBulkEntry x + uptoBulkEntries r
def uptoBulkEntry {H : Type} : Lit × DataW H → Nat
  | (.string bytes, d) => bytes.length + uptoBulk d + 1
  | (_, d) => uptoBulk d + 1
 end
def uptoSmall : (H : Type) → List (DataW H) → Bool := fun _ ds => decide (uptoBulkAll ds ≤ 1048576)
def OpenSpec.upto (s : _root_.Go.ChangeSpec) : _root_.Go.OpenSpec := { _root_.Go.OpenSpec.ofChange s with cond := some uptoSmall }

/-- 'hydralaw11.EffectDoes', WHERE WHAT IT READS IS OF BULK AT MOST 1048576: true; the input reads as it did. -/
def effectDoesUptoRow : OpenClaim := { program := "ytlfffeinngkjgaagreat", sum := "3e64d3c3778463ac6b9a3a0138d816cda39debbbe31b54ce7fc2d31c489ad1d6", func := "hydra/hydralaw11.EffectDoes", spec := "effectDoes", inPlace := ["slices.overlaps[int]"], unfollowed := true, recurses := true, plainKeys := false, apart := false, narrowed := true }
def EffectDoesUptoSaid : Prop := effectDoesUptoRow.holds Tryz.pinned (OpenSpec.upto effectDoesSpec)

/-- 'hydralaw11.EffectAll', WHERE WHAT IT READS IS OF BULK AT MOST 1048576: true; the input reads as it did. -/
def effectAllUptoRow : OpenClaim := { program := "ytlfffeinngkjgaagreat", sum := "3e64d3c3778463ac6b9a3a0138d816cda39debbbe31b54ce7fc2d31c489ad1d6", func := "hydra/hydralaw11.EffectAll", spec := "effectAll", inPlace := ["slices.overlaps[int]"], unfollowed := true, recurses := true, plainKeys := false, apart := false, narrowed := true }
def EffectAllUptoSaid : Prop := effectAllUptoRow.holds Tryz.pinned (OpenSpec.upto effectAllSpec)

/-- 'hydralaw11.EffectBoards', WHERE WHAT IT READS IS OF BULK AT MOST 1048576: true; the input reads as it did. -/
def effectBoardsUptoRow : OpenClaim := { program := "ytlfffeinngkjgaagreat", sum := "3e64d3c3778463ac6b9a3a0138d816cda39debbbe31b54ce7fc2d31c489ad1d6", func := "hydra/hydralaw11.EffectBoards", spec := "effectBoards", inPlace := ["slices.overlaps[int]"], unfollowed := true, recurses := true, plainKeys := false, apart := false, narrowed := true }
def EffectBoardsUptoSaid : Prop := effectBoardsUptoRow.holds Tryz.pinned (OpenSpec.upto effectBoardsSpec)

/-- 'hydralaw11.EffectPairs', WHERE WHAT IT READS IS OF BULK AT MOST 1048576: true; the input reads as it did. -/
def effectPairsUptoRow : OpenClaim := { program := "ytlfffeinngkjgaagreat", sum := "3e64d3c3778463ac6b9a3a0138d816cda39debbbe31b54ce7fc2d31c489ad1d6", func := "hydra/hydralaw11.EffectPairs", spec := "effectPairs", inPlace := ["slices.overlaps[int]"], unfollowed := true, recurses := true, plainKeys := false, apart := false, narrowed := true }
def EffectPairsUptoSaid : Prop := effectPairsUptoRow.holds Tryz.pinned (OpenSpec.upto effectPairsSpec)

end Rows
end Go.Proofs.YtlfffeinngkjgaaGreat

/-
  No cell of these rows narrows 'for every input' (looked for: loops, veiled, ifaces, maps, wideKeys, modest, calm, conditions, laid).
  DERIVED. THE GIVEN ROWS OF THIS SEAT. 5 by the template 'for every input the law returns true; each argument reads behind the call as it read before'; 0 by the template 'total and deterministic' (their statements: YtphcdeppilaceaaTotals.lean).
  GIVEN WITH THE SEED: the statements are not yours to turn. If you find one false, say at which input.
  Laid BY PROGRAM, IN A SANDBOX (cutbox-rows.mjs): the forced cells as the released guide's own fill.sh prints them over the translation 71dc0aa9074e00a8… (all of the seat's roots in one cut). By AI agents, Wed Nov 11 2026. No macro, syntax, notation, axiom, sorry.
-/
import Derived.Test.YtphcdeppilaceaaChecked
import GoSem.Claim
import GoSem.ClaimJoined
import GoSem.ClaimMapViews
import Derived.JoinedTies
import Derived.KernelRfl
namespace Go.Proofs.Ytphcdeppilaceaa
/- THE CELL 'sum', in the pinned program and in every row, IS THE sha256 OF THE DUMP (.gsa) THAT YtphcdeppilaceaaProg.lean LOADS. Nothing in Lean hashes anything: it is a label: what it is worth is what the hold of that sum in a sandbox is worth. -/
noncomputable def Try.pinned : Pinned := { name := "ytphcdeppilaceaa", sum := "71dc0aa9074e00a8c2ac6b7095f14d93e88820bb6f254581dcdb34a7ca44ba08", checked := Try.checked }
namespace Rows
def none {H : Type} : Left H := { results := [], args := [] }

/-- 'hydralaw05.PilePlays': WHATEVER THE INPUT: true; the input reads as it did. -/
def pilePlaysSpec : ChangeSpec := { name := "pilePlays", fn := fun _ => fun
  | [d1, d2] => { results := [.lit (.bool true)], args := [d1, d2] }
  | _ => none }
def pilePlaysRow : OpenClaim := { program := "ytphcdeppilaceaa", sum := "71dc0aa9074e00a8c2ac6b7095f14d93e88820bb6f254581dcdb34a7ca44ba08", func := "hydra/hydralaw05.PilePlays", spec := "pilePlays", inPlace := ["slices.overlaps[int]"], unfollowed := true, recurses := true, apart := false }
def PilePlaysSaid : Prop := pilePlaysRow.holds Try.pinned (OpenSpec.ofChange pilePlaysSpec)

/-- ITS FALSE NEIGHBOUR: 'it returns false'. Refute it at one input. -/
def pilePlaysWrong : ChangeSpec := { name := "pilePlays", fn := fun _ => fun
  | [d1, d2] => { results := [.lit (.bool false)], args := [d1, d2] }
  | _ => none }
def PilePlaysWrongFalsely : Prop := pilePlaysRow.holds Try.pinned (OpenSpec.ofChange pilePlaysWrong)

/-- 'hydralaw05.PileGoes': WHATEVER THE INPUT: true; the input reads as it did. -/
def pileGoesSpec : ChangeSpec := { name := "pileGoes", fn := fun _ => fun
  | [d1, d2, d3] => { results := [.lit (.bool true)], args := [d1, d2, d3] }
  | _ => none }
def pileGoesRow : OpenClaim := { program := "ytphcdeppilaceaa", sum := "71dc0aa9074e00a8c2ac6b7095f14d93e88820bb6f254581dcdb34a7ca44ba08", func := "hydra/hydralaw05.PileGoes", spec := "pileGoes", inPlace := ["slices.overlaps[int]"], unfollowed := true, recurses := true, apart := false }
def PileGoesSaid : Prop := pileGoesRow.holds Try.pinned (OpenSpec.ofChange pileGoesSpec)

/-- ITS FALSE NEIGHBOUR: 'it returns false'. Refute it at one input. -/
def pileGoesWrong : ChangeSpec := { name := "pileGoes", fn := fun _ => fun
  | [d1, d2, d3] => { results := [.lit (.bool false)], args := [d1, d2, d3] }
  | _ => none }
def PileGoesWrongFalsely : Prop := pileGoesRow.holds Try.pinned (OpenSpec.ofChange pileGoesWrong)

/-- 'hydralaw05.PileTexts': WHATEVER THE INPUT: true; the input reads as it did. -/
def pileTextsSpec : ChangeSpec := { name := "pileTexts", fn := fun _ => fun
  | [d1, d2] => { results := [.lit (.bool true)], args := [d1, d2] }
  | _ => none }
def pileTextsRow : OpenClaim := { program := "ytphcdeppilaceaa", sum := "71dc0aa9074e00a8c2ac6b7095f14d93e88820bb6f254581dcdb34a7ca44ba08", func := "hydra/hydralaw05.PileTexts", spec := "pileTexts", inPlace := ["slices.overlaps[int]", "slices.overlaps[string]"], unfollowed := true, recurses := true, apart := false }
def PileTextsSaid : Prop := pileTextsRow.holds Try.pinned (OpenSpec.ofChange pileTextsSpec)

/-- ITS FALSE NEIGHBOUR: 'it returns false'. Refute it at one input. -/
def pileTextsWrong : ChangeSpec := { name := "pileTexts", fn := fun _ => fun
  | [d1, d2] => { results := [.lit (.bool false)], args := [d1, d2] }
  | _ => none }
def PileTextsWrongFalsely : Prop := pileTextsRow.holds Try.pinned (OpenSpec.ofChange pileTextsWrong)

/-- 'hydralaw05.PileTurns': WHATEVER THE INPUT: true; the input reads as it did. -/
def pileTurnsSpec : ChangeSpec := { name := "pileTurns", fn := fun _ => fun
  | [d1, d2] => { results := [.lit (.bool true)], args := [d1, d2] }
  | _ => none }
def pileTurnsRow : OpenClaim := { program := "ytphcdeppilaceaa", sum := "71dc0aa9074e00a8c2ac6b7095f14d93e88820bb6f254581dcdb34a7ca44ba08", func := "hydra/hydralaw05.PileTurns", spec := "pileTurns", inPlace := ["slices.overlaps[int]"], unfollowed := true, recurses := true, apart := false }
def PileTurnsSaid : Prop := pileTurnsRow.holds Try.pinned (OpenSpec.ofChange pileTurnsSpec)

/-- ITS FALSE NEIGHBOUR: 'it returns false'. Refute it at one input. -/
def pileTurnsWrong : ChangeSpec := { name := "pileTurns", fn := fun _ => fun
  | [d1, d2] => { results := [.lit (.bool false)], args := [d1, d2] }
  | _ => none }
def PileTurnsWrongFalsely : Prop := pileTurnsRow.holds Try.pinned (OpenSpec.ofChange pileTurnsWrong)

/-- 'hydralaw05.PileLists': WHATEVER THE INPUT: true; the input reads as it did. -/
def pileListsSpec : ChangeSpec := { name := "pileLists", fn := fun _ => fun
  | [d] => { results := [.lit (.bool true)], args := [d] }
  | _ => none }
def pileListsRow : OpenClaim := { program := "ytphcdeppilaceaa", sum := "71dc0aa9074e00a8c2ac6b7095f14d93e88820bb6f254581dcdb34a7ca44ba08", func := "hydra/hydralaw05.PileLists", spec := "pileLists", inPlace := ["slices.overlaps[int]"], unfollowed := true, recurses := true, apart := false }
def PileListsSaid : Prop := pileListsRow.holds Try.pinned (OpenSpec.ofChange pileListsSpec)

/-- ITS FALSE NEIGHBOUR: 'it returns false'. Refute it at one input. -/
def pileListsWrong : ChangeSpec := { name := "pileLists", fn := fun _ => fun
  | [d] => { results := [.lit (.bool false)], args := [d] }
  | _ => none }
def PileListsWrongFalsely : Prop := pileListsRow.holds Try.pinned (OpenSpec.ofChange pileListsWrong)

/- THE SECOND FORM. 'bulk': how many values and letters a reading holds, each counted each time it is reached (what is shared counts as often as it is met; a slice's spare places count too). A statement '..UptoSaid' is the law's where the arguments, and the package variables that the reading takes, are together of bulk at most 1048576: NARROWER than '..Said'. Prove '..Said' where nothing that the law and all that it calls make is longer than what came in: it says more and counts as full. Else prove '..UptoSaid'. A law counts once. -/
mutual
def uptoBulk {H : Type} : DataW H → Nat
  | .lit (.string bytes) => bytes.length + 1
  | .lit _ => 1
  | .nil => 1
  | .ptr d => uptoBulk d + 1
  | .slice elems spare => uptoBulkAll elems + uptoBulkAll spare + 1
  | .agg parts => uptoBulkAll parts + 1
  | .iface _ d => uptoBulk d + 1
  | .map entries => uptoBulkEntries entries + 1
  | .held _ => 1
def uptoBulkAll {H : Type} : List (DataW H) → Nat
  | [] => 0
  | d :: r => uptoBulk d + uptoBulkAll r
def uptoBulkEntries {H : Type} : List (Lit × DataW H) → Nat
  | [] => 0
  | x :: r => uptoBulkEntry x + uptoBulkEntries r
def uptoBulkEntry {H : Type} : Lit × DataW H → Nat
  | (.string bytes, d) => bytes.length + uptoBulk d + 1
  | (_, d) => uptoBulk d + 1
 end
def uptoSmall : (H : Type) → List (DataW H) → Bool := fun _ ds => decide (uptoBulkAll ds ≤ 1048576)
def OpenSpec.upto (s : _root_.Go.ChangeSpec) : _root_.Go.OpenSpec := { _root_.Go.OpenSpec.ofChange s with cond := some uptoSmall }

/-- 'hydralaw05.PilePlays', WHERE WHAT IT READS IS OF BULK AT MOST 1048576: true; the input reads as it did. -/
def pilePlaysUptoRow : OpenClaim := { program := "ytphcdeppilaceaa", sum := "71dc0aa9074e00a8c2ac6b7095f14d93e88820bb6f254581dcdb34a7ca44ba08", func := "hydra/hydralaw05.PilePlays", spec := "pilePlays", inPlace := ["slices.overlaps[int]"], unfollowed := true, recurses := true, apart := false, narrowed := true }
def PilePlaysUptoSaid : Prop := pilePlaysUptoRow.holds Try.pinned (OpenSpec.upto pilePlaysSpec)

/-- 'hydralaw05.PileGoes', WHERE WHAT IT READS IS OF BULK AT MOST 1048576: true; the input reads as it did. -/
def pileGoesUptoRow : OpenClaim := { program := "ytphcdeppilaceaa", sum := "71dc0aa9074e00a8c2ac6b7095f14d93e88820bb6f254581dcdb34a7ca44ba08", func := "hydra/hydralaw05.PileGoes", spec := "pileGoes", inPlace := ["slices.overlaps[int]"], unfollowed := true, recurses := true, apart := false, narrowed := true }
def PileGoesUptoSaid : Prop := pileGoesUptoRow.holds Try.pinned (OpenSpec.upto pileGoesSpec)

/-- 'hydralaw05.PileTexts', WHERE WHAT IT READS IS OF BULK AT MOST 1048576: true; the input reads as it did. -/
def pileTextsUptoRow : OpenClaim := { program := "ytphcdeppilaceaa", sum := "71dc0aa9074e00a8c2ac6b7095f14d93e88820bb6f254581dcdb34a7ca44ba08", func := "hydra/hydralaw05.PileTexts", spec := "pileTexts", inPlace := ["slices.overlaps[int]", "slices.overlaps[string]"], unfollowed := true, recurses := true, apart := false, narrowed := true }
def PileTextsUptoSaid : Prop := pileTextsUptoRow.holds Try.pinned (OpenSpec.upto pileTextsSpec)

/-- 'hydralaw05.PileTurns', WHERE WHAT IT READS IS OF BULK AT MOST 1048576: true; the input reads as it did. -/
def pileTurnsUptoRow : OpenClaim := { program := "ytphcdeppilaceaa", sum := "71dc0aa9074e00a8c2ac6b7095f14d93e88820bb6f254581dcdb34a7ca44ba08", func := "hydra/hydralaw05.PileTurns", spec := "pileTurns", inPlace := ["slices.overlaps[int]"], unfollowed := true, recurses := true, apart := false, narrowed := true }
def PileTurnsUptoSaid : Prop := pileTurnsUptoRow.holds Try.pinned (OpenSpec.upto pileTurnsSpec)

/-- 'hydralaw05.PileLists', WHERE WHAT IT READS IS OF BULK AT MOST 1048576: true; the input reads as it did. -/
def pileListsUptoRow : OpenClaim := { program := "ytphcdeppilaceaa", sum := "71dc0aa9074e00a8c2ac6b7095f14d93e88820bb6f254581dcdb34a7ca44ba08", func := "hydra/hydralaw05.PileLists", spec := "pileLists", inPlace := ["slices.overlaps[int]"], unfollowed := true, recurses := true, apart := false, narrowed := true }
def PileListsUptoSaid : Prop := pileListsUptoRow.holds Try.pinned (OpenSpec.upto pileListsSpec)

end Rows
end Go.Proofs.Ytphcdeppilaceaa

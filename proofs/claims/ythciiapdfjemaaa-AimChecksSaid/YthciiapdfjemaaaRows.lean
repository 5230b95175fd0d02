/-
  No cell of these rows narrows 'for every input' (looked for: loops, veiled, ifaces, maps, wideKeys, modest, calm, conditions, laid).
  DERIVED. THE GIVEN ROWS OF THIS SEAT. 4 by the template 'for every input the law returns true; each argument reads behind the call as it read before'; 0 by the template 'total and deterministic' (their statements: YthciiapdfjemaaaTotals.lean).
  GIVEN WITH THE SEED: the statements are not yours to turn. If you find one false, say at which input.
  Laid BY PROGRAM, IN A SANDBOX (cutbox-rows.mjs): the forced cells as the released guide's own fill.sh prints them over the translation f4dce110655f0f81… (all of the seat's roots in one cut). By AI agents, Wed Nov 11 2026. No macro, syntax, notation, axiom, sorry.
-/
import Derived.Test.YthciiapdfjemaaaChecked
import GoSem.Claim
import GoSem.ClaimJoined
import GoSem.ClaimMapViews
import Derived.JoinedTies
import Derived.KernelRfl
namespace Go.Proofs.Ythciiapdfjemaaa
/- THE CELL 'sum', in the pinned program and in every row, IS THE sha256 OF THE DUMP (.gsa) THAT YthciiapdfjemaaaProg.lean LOADS. Nothing in Lean hashes anything: it is a label: what it is worth is what the hold of that sum in a sandbox is worth. -/
noncomputable def Try.pinned : Pinned := { name := "ythciiapdfjemaaa", sum := "f4dce110655f0f81bd61a004bb61065f33ad95548e241cf2e0d4a2bb9b96f29f", checked := Try.checked }
namespace Rows
def none {H : Type} : Left H := { results := [], args := [] }

/-- 'hydralaw10.AimChecks': WHATEVER THE INPUT: true; the input reads as it did. -/
def aimChecksSpec : ChangeSpec := { name := "aimChecks", fn := fun _ => fun
  | [d1, d2, d3] => { results := [.lit (.bool true)], args := [d1, d2, d3] }
  | _ => none }
def aimChecksRow : OpenClaim := { program := "ythciiapdfjemaaa", sum := "f4dce110655f0f81bd61a004bb61065f33ad95548e241cf2e0d4a2bb9b96f29f", func := "hydra/hydralaw10.AimChecks", spec := "aimChecks", inPlace := ["slices.overlaps[int]"], unfollowed := true, recurses := true, plainKeys := false, apart := false }
def AimChecksSaid : Prop := aimChecksRow.holds Try.pinned (OpenSpec.ofChange aimChecksSpec)

/-- ITS FALSE NEIGHBOUR: 'it returns false'. Refute it at one input. -/
def aimChecksWrong : ChangeSpec := { name := "aimChecks", fn := fun _ => fun
  | [d1, d2, d3] => { results := [.lit (.bool false)], args := [d1, d2, d3] }
  | _ => none }
def AimChecksWrongFalsely : Prop := aimChecksRow.holds Try.pinned (OpenSpec.ofChange aimChecksWrong)

/-- 'hydralaw10.AimParts': WHATEVER THE INPUT: true; the input reads as it did. -/
def aimPartsSpec : ChangeSpec := { name := "aimParts", fn := fun _ => fun
  | [d1, d2, d3] => { results := [.lit (.bool true)], args := [d1, d2, d3] }
  | _ => none }
def aimPartsRow : OpenClaim := { program := "ythciiapdfjemaaa", sum := "f4dce110655f0f81bd61a004bb61065f33ad95548e241cf2e0d4a2bb9b96f29f", func := "hydra/hydralaw10.AimParts", spec := "aimParts", inPlace := ["slices.overlaps[int]"], unfollowed := true, recurses := true, plainKeys := false, apart := false }
def AimPartsSaid : Prop := aimPartsRow.holds Try.pinned (OpenSpec.ofChange aimPartsSpec)

/-- ITS FALSE NEIGHBOUR: 'it returns false'. Refute it at one input. -/
def aimPartsWrong : ChangeSpec := { name := "aimParts", fn := fun _ => fun
  | [d1, d2, d3] => { results := [.lit (.bool false)], args := [d1, d2, d3] }
  | _ => none }
def AimPartsWrongFalsely : Prop := aimPartsRow.holds Try.pinned (OpenSpec.ofChange aimPartsWrong)

/-- 'hydralaw10.AimFirst': WHATEVER THE INPUT: true; the input reads as it did. -/
def aimFirstSpec : ChangeSpec := { name := "aimFirst", fn := fun _ => fun
  | [d1, d2, d3] => { results := [.lit (.bool true)], args := [d1, d2, d3] }
  | _ => none }
def aimFirstRow : OpenClaim := { program := "ythciiapdfjemaaa", sum := "f4dce110655f0f81bd61a004bb61065f33ad95548e241cf2e0d4a2bb9b96f29f", func := "hydra/hydralaw10.AimFirst", spec := "aimFirst", inPlace := ["slices.overlaps[int]"], unfollowed := true, recurses := true, plainKeys := false, apart := false }
def AimFirstSaid : Prop := aimFirstRow.holds Try.pinned (OpenSpec.ofChange aimFirstSpec)

/-- ITS FALSE NEIGHBOUR: 'it returns false'. Refute it at one input. -/
def aimFirstWrong : ChangeSpec := { name := "aimFirst", fn := fun _ => fun
  | [d1, d2, d3] => { results := [.lit (.bool false)], args := [d1, d2, d3] }
  | _ => none }
def AimFirstWrongFalsely : Prop := aimFirstRow.holds Try.pinned (OpenSpec.ofChange aimFirstWrong)

/-- 'hydralaw10.AimTeams': WHATEVER THE INPUT: true; the input reads as it did. -/
def aimTeamsSpec : ChangeSpec := { name := "aimTeams", fn := fun _ => fun
  | [d1, d2, d3] => { results := [.lit (.bool true)], args := [d1, d2, d3] }
  | _ => none }
def aimTeamsRow : OpenClaim := { program := "ythciiapdfjemaaa", sum := "f4dce110655f0f81bd61a004bb61065f33ad95548e241cf2e0d4a2bb9b96f29f", func := "hydra/hydralaw10.AimTeams", spec := "aimTeams", inPlace := ["slices.overlaps[int]"], unfollowed := true, recurses := true, plainKeys := false, apart := false }
def AimTeamsSaid : Prop := aimTeamsRow.holds Try.pinned (OpenSpec.ofChange aimTeamsSpec)

/-- ITS FALSE NEIGHBOUR: 'it returns false'. Refute it at one input. -/
def aimTeamsWrong : ChangeSpec := { name := "aimTeams", fn := fun _ => fun
  | [d1, d2, d3] => { results := [.lit (.bool false)], args := [d1, d2, d3] }
  | _ => none }
def AimTeamsWrongFalsely : Prop := aimTeamsRow.holds Try.pinned (OpenSpec.ofChange aimTeamsWrong)

/- THE SECOND FORM. 'bulk': how many values and letters a reading holds, each counted each time it is reached (what is shared counts as often as it is met; a slice's spare places count too). A statement '..UptoSaid' is the law's where the arguments, and the package variables that the reading takes, are together of bulk at most 1048576: NARROWER than '..Said'. Prove '..Said' where nothing that the law and all that it calls make is longer than what came in: it says more and counts as full. Else prove '..UptoSaid'. A law counts once. -/
mutual
def uptoBulk {H : Type} : DataW H → Nat
  | .lit (.string bytes) => bytes.length + 1
  | .lit _ => 1
  | .nil => 1
  | .ptr d => uptoBulk d + 1
  | .slice elems spare => uptoBulkAll elems + uptoBulkAll spare + 1
  | .agg parts => uptoBulkAll parts + 1
  | .iface _ d => uptoBulk d + 1
  | .map entries => uptoBulkEntries entries + 1
  | .held _ => 1
def uptoBulkAll {H : Type} : List (DataW H) → Nat
  | [] => 0
  | d :: r => uptoBulk d + uptoBulkAll r
def uptoBulkEntries {H : Type} : List (Lit × DataW H) → Nat
  | [] => 0
  | x :: r => uptoBulkEntry x + uptoBulkEntries r
def uptoBulkEntry {H : Type} : Lit × DataW H → Nat
  | (.string bytes, d) => bytes.length + uptoBulk d + 1
  | (_, d) => uptoBulk d + 1
 end
def uptoSmall : (H : Type) → List (DataW H) → Bool := fun _ ds => decide (uptoBulkAll ds ≤ 1048576)
def OpenSpec.upto (s : _root_.Go.ChangeSpec) : _root_.Go.OpenSpec := { _root_.Go.OpenSpec.ofChange s with cond := some uptoSmall }

/-- 'hydralaw10.AimChecks', WHERE WHAT IT READS IS OF BULK AT MOST 1048576: true; the input reads as it did. -/
def aimChecksUptoRow : OpenClaim := { program := "ythciiapdfjemaaa", sum := "f4dce110655f0f81bd61a004bb61065f33ad95548e241cf2e0d4a2bb9b96f29f", func := "hydra/hydralaw10.AimChecks", spec := "aimChecks", inPlace := ["slices.overlaps[int]"], unfollowed := true, recurses := true, plainKeys := false, apart := false, narrowed := true }
def AimChecksUptoSaid : Prop := aimChecksUptoRow.holds Try.pinned (OpenSpec.upto aimChecksSpec)

/-- 'hydralaw10.AimParts', WHERE WHAT IT READS IS OF BULK AT MOST 1048576: true; the input reads as it did. -/
def aimPartsUptoRow : OpenClaim := { program := "ythciiapdfjemaaa", sum := "f4dce110655f0f81bd61a004bb61065f33ad95548e241cf2e0d4a2bb9b96f29f", func := "hydra/hydralaw10.AimParts", spec := "aimParts", inPlace := ["slices.overlaps[int]"], unfollowed := true, recurses := true, plainKeys := false, apart := false, narrowed := true }
def AimPartsUptoSaid : Prop := aimPartsUptoRow.holds Try.pinned (OpenSpec.upto aimPartsSpec)

/-- 'hydralaw10.AimFirst', WHERE WHAT IT READS IS OF BULK AT MOST 1048576: true; the input reads as it did. -/
def aimFirstUptoRow : OpenClaim := { program := "ythciiapdfjemaaa", sum := "f4dce110655f0f81bd61a004bb61065f33ad95548e241cf2e0d4a2bb9b96f29f", func := "hydra/hydralaw10.AimFirst", spec := "aimFirst", inPlace := ["slices.overlaps[int]"], unfollowed := true, recurses := true, plainKeys := false, apart := false, narrowed := true }
def AimFirstUptoSaid : Prop := aimFirstUptoRow.holds Try.pinned (OpenSpec.upto aimFirstSpec)

/-- 'hydralaw10.AimTeams', WHERE WHAT IT READS IS OF BULK AT MOST 1048576: true; the input reads as it did. -/
def aimTeamsUptoRow : OpenClaim := { program := "ythciiapdfjemaaa", sum := "f4dce110655f0f81bd61a004bb61065f33ad95548e241cf2e0d4a2bb9b96f29f", func := "hydra/hydralaw10.AimTeams", spec := "aimTeams", inPlace := ["slices.overlaps[int]"], unfollowed := true, recurses := true, plainKeys := false, apart := false, narrowed := true }
def AimTeamsUptoSaid : Prop := aimTeamsUptoRow.holds Try.pinned (OpenSpec.upto aimTeamsSpec)

end Rows
end Go.Proofs.Ythciiapdfjemaaa

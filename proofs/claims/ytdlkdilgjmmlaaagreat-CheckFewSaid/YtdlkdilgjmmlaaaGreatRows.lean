/-
  No cell of these rows narrows 'for every input' (looked for: loops, veiled, ifaces, maps, wideKeys, modest, calm, conditions, laid).
  DERIVED. THE GIVEN ROWS OF THIS SEAT. 3 by the template 'for every input the law returns true; each argument reads behind the call as it read before'; 0 by the template 'total and deterministic' (their statements: YtdlkdilgjmmlaaaGreatTotals.lean).
  GIVEN WITH THE SEED: the statements are not yours to turn. If you find one false, say at which input.
  Laid BY PROGRAM, IN A SANDBOX (cutbox-rows.mjs): the forced cells as the released guide's own fill.sh prints them over the translation 93e9c631364c39aa… (all of the seat's roots in one cut). By AI agents, Wed Nov 11 2026. No macro, syntax, notation, axiom, sorry.
-/
import Derived.Test.YtdlkdilgjmmlaaaGreatChecked
import GoSem.Claim
import GoSem.ClaimJoined
import GoSem.ClaimMapViews
import Derived.JoinedTies
import Derived.KernelRfl
namespace Go.Proofs.YtdlkdilgjmmlaaaGreat
/- THE CELL 'sum', in the pinned program and in every row, IS THE sha256 OF THE DUMP (.gsa) THAT YtdlkdilgjmmlaaaGreatProg.lean LOADS. Nothing in Lean hashes anything: it is a label: what it is worth is what the hold of that sum in a sandbox is worth. -/
noncomputable def Tryz.pinned : Pinned := { name := "ytdlkdilgjmmlaaagreat", sum := "93e9c631364c39aaabea31c32755f7d0113907e7d8ce0730af362df9c8e7f6fa", checked := Tryz.checked }
namespace Rows
def none {H : Type} : Left H := { results := [], args := [] }

/-- 'hydralaw14.CheckRuns': WHATEVER THE INPUT: true; the input reads as it did. -/
def checkRunsSpec : ChangeSpec := { name := "checkRuns", fn := fun _ => fun
  | [d1, d2, d3] => { results := [.lit (.bool true)], args := [d1, d2, d3] }
  | _ => none }
def checkRunsRow : OpenClaim := { program := "ytdlkdilgjmmlaaagreat", sum := "93e9c631364c39aaabea31c32755f7d0113907e7d8ce0730af362df9c8e7f6fa", func := "hydra/hydralaw14.CheckRuns", spec := "checkRuns", inPlace := ["slices.overlaps[int]"], unfollowed := true, recurses := true, plainKeys := false, apart := false }
def CheckRunsSaid : Prop := checkRunsRow.holds Tryz.pinned (OpenSpec.ofChange checkRunsSpec)

/-- ITS FALSE NEIGHBOUR: 'it returns false'. Refute it at one input. -/
def checkRunsWrong : ChangeSpec := { name := "checkRuns", fn := fun _ => fun
  | [d1, d2, d3] => { results := [.lit (.bool false)], args := [d1, d2, d3] }
  | _ => none }
def CheckRunsWrongFalsely : Prop := checkRunsRow.holds Tryz.pinned (OpenSpec.ofChange checkRunsWrong)

/-- 'hydralaw14.CheckFew': WHATEVER THE INPUT: true; the input reads as it did. -/
def checkFewSpec : ChangeSpec := { name := "checkFew", fn := fun _ => fun
  | [d1, d2, d3] => { results := [.lit (.bool true)], args := [d1, d2, d3] }
  | _ => none }
def checkFewRow : OpenClaim := { program := "ytdlkdilgjmmlaaagreat", sum := "93e9c631364c39aaabea31c32755f7d0113907e7d8ce0730af362df9c8e7f6fa", func := "hydra/hydralaw14.CheckFew", spec := "checkFew", inPlace := ["slices.overlaps[int]"], unfollowed := true, recurses := true, plainKeys := false, apart := false }
def CheckFewSaid : Prop := checkFewRow.holds Tryz.pinned (OpenSpec.ofChange checkFewSpec)

/-- ITS FALSE NEIGHBOUR: 'it returns false'. Refute it at one input. -/
def checkFewWrong : ChangeSpec := { name := "checkFew", fn := fun _ => fun
  | [d1, d2, d3] => { results := [.lit (.bool false)], args := [d1, d2, d3] }
  | _ => none }
def CheckFewWrongFalsely : Prop := checkFewRow.holds Tryz.pinned (OpenSpec.ofChange checkFewWrong)

/-- 'hydralaw14.CheckTeams': WHATEVER THE INPUT: true; the input reads as it did. -/
def checkTeamsSpec : ChangeSpec := { name := "checkTeams", fn := fun _ => fun
  | [d1, d2] => { results := [.lit (.bool true)], args := [d1, d2] }
  | _ => none }
def checkTeamsRow : OpenClaim := { program := "ytdlkdilgjmmlaaagreat", sum := "93e9c631364c39aaabea31c32755f7d0113907e7d8ce0730af362df9c8e7f6fa", func := "hydra/hydralaw14.CheckTeams", spec := "checkTeams", inPlace := ["slices.overlaps[int]"], unfollowed := true, recurses := true, plainKeys := false, apart := false }
def CheckTeamsSaid : Prop := checkTeamsRow.holds Tryz.pinned (OpenSpec.ofChange checkTeamsSpec)

/-- ITS FALSE NEIGHBOUR: 'it returns false'. Refute it at one input. -/
def checkTeamsWrong : ChangeSpec := { name := "checkTeams", fn := fun _ => fun
  | [d1, d2] => { results := [.lit (.bool false)], args := [d1, d2] }
  | _ => none }
def CheckTeamsWrongFalsely : Prop := checkTeamsRow.holds Tryz.pinned (OpenSpec.ofChange checkTeamsWrong)

/- THE SECOND FORM. 'bulk': how many values and letters a reading holds, each counted each time it is reached (what is shared counts as often as it is met; a slice's spare places count too). A statement '..UptoSaid' is the law's where the arguments, and the package variables that the reading takes, are together of bulk at most 1048576: NARROWER than '..Said'. Prove '..Said' where nothing that the law and all that it calls make is longer than what came in: it says more and counts as full. Else prove '..UptoSaid'. A law counts once. -/
mutual
def uptoBulk {H : Type} : DataW H → Nat
  | .lit (.string bytes) => bytes.length + 1
  | .lit _ => 1
  | .nil => 1
  | .ptr d => uptoBulk d + 1
  | .slice elems spare => uptoBulkAll elems + uptoBulkAll spare + 1
  | .agg parts => uptoBulkAll parts + 1
  | .iface _ d => uptoBulk d + 1
  | .map entries => uptoBulkEntries entries + 1
  | .held _ => 1
def uptoBulkAll {H : Type} : List (DataW H) → Nat
  | [] => 0
  | d :: r => uptoBulk d + uptoBulkAll r
def uptoBulkEntries {H : Type} : List (Lit × DataW H) → Nat
  | [] => 0
  | x :: r => uptoBulkEntry x + uptoBulkEntries r
def uptoBulkEntry {H : Type} : Lit × DataW H → Nat
  | (.string bytes, d) => bytes.length + uptoBulk d + 1
  | (_, d) => uptoBulk d + 1
 end
def uptoSmall : (H : Type) → List (DataW H) → Bool := fun _ ds => decide (uptoBulkAll ds ≤ 1048576)
def OpenSpec.upto (s : _root_.Go.ChangeSpec) : _root_.Go.OpenSpec := { _root_.Go.OpenSpec.ofChange s with cond := some uptoSmall }

/-- 'hydralaw14.CheckRuns', WHERE WHAT IT READS IS OF BULK AT MOST 1048576: true; the input reads as it did. -/
def checkRunsUptoRow : OpenClaim := { program := "ytdlkdilgjmmlaaagreat", sum := "93e9c631364c39aaabea31c32755f7d0113907e7d8ce0730af362df9c8e7f6fa", func := "hydra/hydralaw14.CheckRuns", spec := "checkRuns", inPlace := ["slices.overlaps[int]"], unfollowed := true, recurses := true, plainKeys := false, apart := false, narrowed := true }
def CheckRunsUptoSaid : Prop := checkRunsUptoRow.holds Tryz.pinned (OpenSpec.upto checkRunsSpec)

/-- 'hydralaw14.CheckFew', WHERE WHAT IT READS IS OF BULK AT MOST 1048576: true; the input reads as it did. -/
def checkFewUptoRow : OpenClaim := { program := "ytdlkdilgjmmlaaagreat", sum := "93e9c631364c39aaabea31c32755f7d0113907e7d8ce0730af362df9c8e7f6fa", func := "hydra/hydralaw14.CheckFew", spec := "checkFew", inPlace := ["slices.overlaps[int]"], unfollowed := true, recurses := true, plainKeys := false, apart := false, narrowed := true }
def CheckFewUptoSaid : Prop := checkFewUptoRow.holds Tryz.pinned (OpenSpec.upto checkFewSpec)

/-- 'hydralaw14.CheckTeams', WHERE WHAT IT READS IS OF BULK AT MOST 1048576: true; the input reads as it did. -/
def checkTeamsUptoRow : OpenClaim := { program := "ytdlkdilgjmmlaaagreat", sum := "93e9c631364c39aaabea31c32755f7d0113907e7d8ce0730af362df9c8e7f6fa", func := "hydra/hydralaw14.CheckTeams", spec := "checkTeams", inPlace := ["slices.overlaps[int]"], unfollowed := true, recurses := true, plainKeys := false, apart := false, narrowed := true }
def CheckTeamsUptoSaid : Prop := checkTeamsUptoRow.holds Tryz.pinned (OpenSpec.upto checkTeamsSpec)

end Rows
end Go.Proofs.YtdlkdilgjmmlaaaGreat

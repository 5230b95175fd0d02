/-
  No cell of these rows narrows 'for every input' (looked for: loops, veiled, ifaces, maps, wideKeys, modest, calm, conditions, laid).
  DERIVED. THE GIVEN ROWS OF THIS SEAT. 4 by the template 'for every input the law returns true; each argument reads behind the call as it read before'; 0 by the template 'total and deterministic' (their statements: YtbiomffjmajlgaaTotals.lean).
  GIVEN WITH THE SEED: the statements are not yours to turn. If you find one false, say at which input.
  Laid BY PROGRAM, IN A SANDBOX (cutbox-rows.mjs): the forced cells as the released guide's own fill.sh prints them over the translation 3fa962e1f1b8b783… (all of the seat's roots in one cut). By AI agents, Wed Nov 11 2026. No macro, syntax, notation, axiom, sorry.
-/
import Derived.Test.YtbiomffjmajlgaaChecked
import GoSem.Claim
import GoSem.ClaimJoined
import GoSem.ClaimMapViews
import Derived.JoinedTies
import Derived.KernelRfl
namespace Go.Proofs.Ytbiomffjmajlgaa
/- THE CELL 'sum', in the pinned program and in every row, IS THE sha256 OF THE DUMP (.gsa) THAT YtbiomffjmajlgaaProg.lean LOADS. Nothing in Lean hashes anything: it is a label: what it is worth is what the hold of that sum in a sandbox is worth. -/
noncomputable def Try.pinned : Pinned := { name := "ytbiomffjmajlgaa", sum := "3fa962e1f1b8b7839fbf768da1baad2406ee4549bc09dfaa984fbc81ec3e1f7e", checked := Try.checked }
namespace Rows
def none {H : Type} : Left H := { results := [], args := [] }

/-- 'hydralaw09.TeamSeats': WHATEVER THE INPUT: true; the input reads as it did. -/
def teamSeatsSpec : ChangeSpec := { name := "teamSeats", fn := fun _ => fun
  | [d1, d2, d3] => { results := [.lit (.bool true)], args := [d1, d2, d3] }
  | _ => none }
def teamSeatsRow : OpenClaim := { program := "ytbiomffjmajlgaa", sum := "3fa962e1f1b8b7839fbf768da1baad2406ee4549bc09dfaa984fbc81ec3e1f7e", func := "hydra/hydralaw09.TeamSeats", spec := "teamSeats", unfollowed := true, recurses := true, apart := false }
def TeamSeatsSaid : Prop := teamSeatsRow.holds Try.pinned (OpenSpec.ofChange teamSeatsSpec)

/-- ITS FALSE NEIGHBOUR: 'it returns false'. Refute it at one input. -/
def teamSeatsWrong : ChangeSpec := { name := "teamSeats", fn := fun _ => fun
  | [d1, d2, d3] => { results := [.lit (.bool false)], args := [d1, d2, d3] }
  | _ => none }
def TeamSeatsWrongFalsely : Prop := teamSeatsRow.holds Try.pinned (OpenSpec.ofChange teamSeatsWrong)

/-- 'hydralaw09.TeamPlays': WHATEVER THE INPUT: true; the input reads as it did. -/
def teamPlaysSpec : ChangeSpec := { name := "teamPlays", fn := fun _ => fun
  | [d1, d2, d3] => { results := [.lit (.bool true)], args := [d1, d2, d3] }
  | _ => none }
def teamPlaysRow : OpenClaim := { program := "ytbiomffjmajlgaa", sum := "3fa962e1f1b8b7839fbf768da1baad2406ee4549bc09dfaa984fbc81ec3e1f7e", func := "hydra/hydralaw09.TeamPlays", spec := "teamPlays", unfollowed := true, recurses := true, apart := false }
def TeamPlaysSaid : Prop := teamPlaysRow.holds Try.pinned (OpenSpec.ofChange teamPlaysSpec)

/-- ITS FALSE NEIGHBOUR: 'it returns false'. Refute it at one input. -/
def teamPlaysWrong : ChangeSpec := { name := "teamPlays", fn := fun _ => fun
  | [d1, d2, d3] => { results := [.lit (.bool false)], args := [d1, d2, d3] }
  | _ => none }
def TeamPlaysWrongFalsely : Prop := teamPlaysRow.holds Try.pinned (OpenSpec.ofChange teamPlaysWrong)

/-- 'hydralaw09.TeamCopies': WHATEVER THE INPUT: true; the input reads as it did. -/
def teamCopiesSpec : ChangeSpec := { name := "teamCopies", fn := fun _ => fun
  | [d1, d2, d3] => { results := [.lit (.bool true)], args := [d1, d2, d3] }
  | _ => none }
def teamCopiesRow : OpenClaim := { program := "ytbiomffjmajlgaa", sum := "3fa962e1f1b8b7839fbf768da1baad2406ee4549bc09dfaa984fbc81ec3e1f7e", func := "hydra/hydralaw09.TeamCopies", spec := "teamCopies", unfollowed := true, recurses := true, apart := false }
def TeamCopiesSaid : Prop := teamCopiesRow.holds Try.pinned (OpenSpec.ofChange teamCopiesSpec)

/-- ITS FALSE NEIGHBOUR: 'it returns false'. Refute it at one input. -/
def teamCopiesWrong : ChangeSpec := { name := "teamCopies", fn := fun _ => fun
  | [d1, d2, d3] => { results := [.lit (.bool false)], args := [d1, d2, d3] }
  | _ => none }
def TeamCopiesWrongFalsely : Prop := teamCopiesRow.holds Try.pinned (OpenSpec.ofChange teamCopiesWrong)

/-- 'hydralaw09.TeamRounds': WHATEVER THE INPUT: true; the input reads as it did. -/
def teamRoundsSpec : ChangeSpec := { name := "teamRounds", fn := fun _ => fun
  | [d1, d2] => { results := [.lit (.bool true)], args := [d1, d2] }
  | _ => none }
def teamRoundsRow : OpenClaim := { program := "ytbiomffjmajlgaa", sum := "3fa962e1f1b8b7839fbf768da1baad2406ee4549bc09dfaa984fbc81ec3e1f7e", func := "hydra/hydralaw09.TeamRounds", spec := "teamRounds", unfollowed := true, recurses := true, apart := false }
def TeamRoundsSaid : Prop := teamRoundsRow.holds Try.pinned (OpenSpec.ofChange teamRoundsSpec)

/-- ITS FALSE NEIGHBOUR: 'it returns false'. Refute it at one input. -/
def teamRoundsWrong : ChangeSpec := { name := "teamRounds", fn := fun _ => fun
  | [d1, d2] => { results := [.lit (.bool false)], args := [d1, d2] }
  | _ => none }
def TeamRoundsWrongFalsely : Prop := teamRoundsRow.holds Try.pinned (OpenSpec.ofChange teamRoundsWrong)

/- THE SECOND FORM. 'bulk': how many values and letters a reading holds, each counted each time it is reached (what is shared counts as often as it is met; a slice's spare places count too). A statement '..UptoSaid' is the law's where the arguments, and the package variables that the reading takes, are together of bulk at most 1048576: NARROWER than '..Said'. Prove '..Said' where nothing that the law and all that it calls make is longer than what came in: it says more and counts as full. Else prove '..UptoSaid'. A law counts once. -/
mutual
def uptoBulk {H : Type} : DataW H → Nat
  | .lit (.string bytes) => bytes.length + 1
  | .lit _ => 1
  | .nil => 1
  | .ptr d => uptoBulk d + 1
  | .slice elems spare => uptoBulkAll elems + uptoBulkAll spare + 1
  | .agg parts => uptoBulkAll parts + 1
  | .iface _ d => uptoBulk d + 1
  | .map entries => uptoBulkEntries entries + 1
  | .held _ => 1
def uptoBulkAll {H : Type} : List (DataW H) → Nat
  | [] => 0
  | d :: r => uptoBulk d + uptoBulkAll r
def uptoBulkEntries {H : Type} : List (Lit × DataW H) → Nat
  | [] => 0
  | x :: r => uptoBulkEntry x + uptoBulkEntries r
def uptoBulkEntry {H : Type} : Lit × DataW H → Nat
  | (.string bytes, d) => bytes.length + uptoBulk d + 1
  | (_, d) => uptoBulk d + 1
 end
def uptoSmall : (H : Type) → List (DataW H) → Bool := fun _ ds => decide (uptoBulkAll ds ≤ 1048576)
def OpenSpec.upto (s : _root_.Go.ChangeSpec) : _root_.Go.OpenSpec := { _root_.Go.OpenSpec.ofChange s with cond := some uptoSmall }

/-- 'hydralaw09.TeamSeats', WHERE WHAT IT READS IS OF BULK AT MOST 1048576: true; the input reads as it did. -/
def teamSeatsUptoRow : OpenClaim := { program := "ytbiomffjmajlgaa", sum := "3fa962e1f1b8b7839fbf768da1baad2406ee4549bc09dfaa984fbc81ec3e1f7e", func := "hydra/hydralaw09.TeamSeats", spec := "teamSeats", unfollowed := true, recurses := true, apart := false, narrowed := true }
def TeamSeatsUptoSaid : Prop := teamSeatsUptoRow.holds Try.pinned (OpenSpec.upto teamSeatsSpec)

/-- 'hydralaw09.TeamPlays', WHERE WHAT IT READS IS OF BULK AT MOST 1048576: true; the input reads as it did. -/
def teamPlaysUptoRow : OpenClaim := { program := "ytbiomffjmajlgaa", sum := "3fa962e1f1b8b7839fbf768da1baad2406ee4549bc09dfaa984fbc81ec3e1f7e", func := "hydra/hydralaw09.TeamPlays", spec := "teamPlays", unfollowed := true, recurses := true, apart := false, narrowed := true }
def TeamPlaysUptoSaid : Prop := teamPlaysUptoRow.holds Try.pinned (OpenSpec.upto teamPlaysSpec)

/-- 'hydralaw09.TeamCopies', WHERE WHAT IT READS IS OF BULK AT MOST 1048576: true; the input reads as it did. -/
def teamCopiesUptoRow : OpenClaim := { program := "ytbiomffjmajlgaa", sum := "3fa962e1f1b8b7839fbf768da1baad2406ee4549bc09dfaa984fbc81ec3e1f7e", func := "hydra/hydralaw09.TeamCopies", spec := "teamCopies", unfollowed := true, recurses := true, apart := false, narrowed := true }
def TeamCopiesUptoSaid : Prop := teamCopiesUptoRow.holds Try.pinned (OpenSpec.upto teamCopiesSpec)

/-- 'hydralaw09.TeamRounds', WHERE WHAT IT READS IS OF BULK AT MOST 1048576: true; the input reads as it did. -/
def teamRoundsUptoRow : OpenClaim := { program := "ytbiomffjmajlgaa", sum := "3fa962e1f1b8b7839fbf768da1baad2406ee4549bc09dfaa984fbc81ec3e1f7e", func := "hydra/hydralaw09.TeamRounds", spec := "teamRounds", unfollowed := true, recurses := true, apart := false, narrowed := true }
def TeamRoundsUptoSaid : Prop := teamRoundsUptoRow.holds Try.pinned (OpenSpec.upto teamRoundsSpec)

end Rows
end Go.Proofs.Ytbiomffjmajlgaa

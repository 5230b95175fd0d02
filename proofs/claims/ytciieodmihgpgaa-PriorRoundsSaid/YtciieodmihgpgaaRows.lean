/-
  No cell of these rows narrows 'for every input' (looked for: loops, veiled, ifaces, maps, wideKeys, modest, calm, conditions, laid).
  DERIVED. THE GIVEN ROWS OF THIS SEAT. 3 by the template 'for every input the law returns true; each argument reads behind the call as it read before'; 0 by the template 'total and deterministic' (their statements: YtciieodmihgpgaaTotals.lean).
  GIVEN WITH THE SEED: the statements are not yours to turn. If you find one false, say at which input.
  Laid BY PROGRAM, IN A SANDBOX (cutbox-rows.mjs): the forced cells as the released guide's own fill.sh prints them over the translation efc415d26dc0e8a0… (all of the seat's roots in one cut). By AI agents, Wed Nov 11 2026. No macro, syntax, notation, axiom, sorry.
-/
import Derived.Test.YtciieodmihgpgaaChecked
import GoSem.Claim
import GoSem.ClaimJoined
import GoSem.ClaimMapViews
import Derived.JoinedTies
import Derived.KernelRfl
namespace Go.Proofs.Ytciieodmihgpgaa
/- THE CELL 'sum', in the pinned program and in every row, IS THE sha256 OF THE DUMP (.gsa) THAT YtciieodmihgpgaaProg.lean LOADS. Nothing in Lean hashes anything: it is a label: what it is worth is what the hold of that sum in a sandbox is worth. -/
noncomputable def Try.pinned : Pinned := { name := "ytciieodmihgpgaa", sum := "efc415d26dc0e8a0f832a77a3f33a967ae9fdc59990c176d07303bd433c5b7c5", checked := Try.checked }
namespace Rows
def none {H : Type} : Left H := { results := [], args := [] }

/-- 'hydralaw16.PriorRounds': WHATEVER THE INPUT: true; the input reads as it did. -/
def priorRoundsSpec : ChangeSpec := { name := "priorRounds", fn := fun _ => fun
  | [d1, d2, d3] => { results := [.lit (.bool true)], args := [d1, d2, d3] }
  | _ => none }
def priorRoundsRow : OpenClaim := { program := "ytciieodmihgpgaa", sum := "efc415d26dc0e8a0f832a77a3f33a967ae9fdc59990c176d07303bd433c5b7c5", func := "hydra/hydralaw16.PriorRounds", spec := "priorRounds", unfollowed := true, recurses := true, apart := false }
def PriorRoundsSaid : Prop := priorRoundsRow.holds Try.pinned (OpenSpec.ofChange priorRoundsSpec)

/-- ITS FALSE NEIGHBOUR: 'it returns false'. Refute it at one input. -/
def priorRoundsWrong : ChangeSpec := { name := "priorRounds", fn := fun _ => fun
  | [d1, d2, d3] => { results := [.lit (.bool false)], args := [d1, d2, d3] }
  | _ => none }
def PriorRoundsWrongFalsely : Prop := priorRoundsRow.holds Try.pinned (OpenSpec.ofChange priorRoundsWrong)

/-- 'hydralaw16.PriorNone': WHATEVER THE INPUT: true; the input reads as it did. -/
def priorNoneSpec : ChangeSpec := { name := "priorNone", fn := fun _ => fun
  | [d1, d2, d3] => { results := [.lit (.bool true)], args := [d1, d2, d3] }
  | _ => none }
def priorNoneRow : OpenClaim := { program := "ytciieodmihgpgaa", sum := "efc415d26dc0e8a0f832a77a3f33a967ae9fdc59990c176d07303bd433c5b7c5", func := "hydra/hydralaw16.PriorNone", spec := "priorNone", unfollowed := true, recurses := true, apart := false }
def PriorNoneSaid : Prop := priorNoneRow.holds Try.pinned (OpenSpec.ofChange priorNoneSpec)

/-- ITS FALSE NEIGHBOUR: 'it returns false'. Refute it at one input. -/
def priorNoneWrong : ChangeSpec := { name := "priorNone", fn := fun _ => fun
  | [d1, d2, d3] => { results := [.lit (.bool false)], args := [d1, d2, d3] }
  | _ => none }
def PriorNoneWrongFalsely : Prop := priorNoneRow.holds Try.pinned (OpenSpec.ofChange priorNoneWrong)

/-- 'hydralaw16.PriorActs': WHATEVER THE INPUT: true; the input reads as it did. -/
def priorActsSpec : ChangeSpec := { name := "priorActs", fn := fun _ => fun
  | [d1, d2] => { results := [.lit (.bool true)], args := [d1, d2] }
  | _ => none }
def priorActsRow : OpenClaim := { program := "ytciieodmihgpgaa", sum := "efc415d26dc0e8a0f832a77a3f33a967ae9fdc59990c176d07303bd433c5b7c5", func := "hydra/hydralaw16.PriorActs", spec := "priorActs", unfollowed := true, recurses := true, apart := false }
def PriorActsSaid : Prop := priorActsRow.holds Try.pinned (OpenSpec.ofChange priorActsSpec)

/-- ITS FALSE NEIGHBOUR: 'it returns false'. Refute it at one input. -/
def priorActsWrong : ChangeSpec := { name := "priorActs", fn := fun _ => fun
  | [d1, d2] => { results := [.lit (.bool false)], args := [d1, d2] }
  | _ => none }
def PriorActsWrongFalsely : Prop := priorActsRow.holds Try.pinned (OpenSpec.ofChange priorActsWrong)

/- THE SECOND FORM. 'bulk': how many values and letters a reading holds, each counted each time it is reached (what is shared counts as often as it is met; a slice's spare places count too). A statement '..UptoSaid' is the law's where the arguments, and the package variables that the reading takes, are together of bulk at most 1048576: NARROWER than '..Said'. Prove '..Said' where nothing that the law and all that it calls make is longer than what came in: it says more and counts as full. Else prove '..UptoSaid'. A law counts once. -/
mutual
def uptoBulk {H : Type} : DataW H → Nat
  | .lit (.string bytes) => bytes.length + 1
  | .lit _ => 1
  | .nil => 1
  | .ptr d => uptoBulk d + 1
  | .slice elems spare => uptoBulkAll elems + uptoBulkAll spare + 1
  | .agg parts => uptoBulkAll parts + 1
  | .iface _ d => uptoBulk d + 1
  | .map entries => uptoBulkEntries entries + 1
  | .held _ => 1
def uptoBulkAll {H : Type} : List (DataW H) → Nat
  | [] => 0
  | d :: r => uptoBulk d + uptoBulkAll r
def uptoBulkEntries {H : Type} : List (Lit × DataW H) → Nat
  | [] => 0
  | x :: r => uptoBulkEntry x + uptoBulkEntries r
def uptoBulkEntry {H : Type} : Lit × DataW H → Nat
  | (.string bytes, d) => bytes.length + uptoBulk d + 1
  | (_, d) => uptoBulk d + 1
 end
def uptoSmall : (H : Type) → List (DataW H) → Bool := fun _ ds => decide (uptoBulkAll ds ≤ 1048576)
def OpenSpec.upto (s : _root_.Go.ChangeSpec) : _root_.Go.OpenSpec := { _root_.Go.OpenSpec.ofChange s with cond := some uptoSmall }

/-- 'hydralaw16.PriorRounds', WHERE WHAT IT READS IS OF BULK AT MOST 1048576: true; the input reads as it did. -/
def priorRoundsUptoRow : OpenClaim := { program := "ytciieodmihgpgaa", sum := "efc415d26dc0e8a0f832a77a3f33a967ae9fdc59990c176d07303bd433c5b7c5", func := "hydra/hydralaw16.PriorRounds", spec := "priorRounds", unfollowed := true, recurses := true, apart := false, narrowed := true }
def PriorRoundsUptoSaid : Prop := priorRoundsUptoRow.holds Try.pinned (OpenSpec.upto priorRoundsSpec)

/-- 'hydralaw16.PriorNone', WHERE WHAT IT READS IS OF BULK AT MOST 1048576: true; the input reads as it did. -/
def priorNoneUptoRow : OpenClaim := { program := "ytciieodmihgpgaa", sum := "efc415d26dc0e8a0f832a77a3f33a967ae9fdc59990c176d07303bd433c5b7c5", func := "hydra/hydralaw16.PriorNone", spec := "priorNone", unfollowed := true, recurses := true, apart := false, narrowed := true }
def PriorNoneUptoSaid : Prop := priorNoneUptoRow.holds Try.pinned (OpenSpec.upto priorNoneSpec)

/-- 'hydralaw16.PriorActs', WHERE WHAT IT READS IS OF BULK AT MOST 1048576: true; the input reads as it did. -/
def priorActsUptoRow : OpenClaim := { program := "ytciieodmihgpgaa", sum := "efc415d26dc0e8a0f832a77a3f33a967ae9fdc59990c176d07303bd433c5b7c5", func := "hydra/hydralaw16.PriorActs", spec := "priorActs", unfollowed := true, recurses := true, apart := false, narrowed := true }
def PriorActsUptoSaid : Prop := priorActsUptoRow.holds Try.pinned (OpenSpec.upto priorActsSpec)

end Rows
end Go.Proofs.Ytciieodmihgpgaa

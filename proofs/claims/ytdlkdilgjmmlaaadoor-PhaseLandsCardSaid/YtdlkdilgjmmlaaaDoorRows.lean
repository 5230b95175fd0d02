/-
  NARROWER THAN 'FOR EVERY INPUT', by the rows' own cells (each row's printed sentence says how): PhaseLands: laid.
  DERIVED. THE GIVEN ROWS OF THIS SEAT. 1 by the template 'for every input the law returns true; each argument reads behind the call as it read before'; 0 by the template 'total and deterministic' (their statements: YtdlkdilgjmmlaaaDoorTotals.lean).
  GIVEN WITH THE SEED: the statements are not yours to turn. If you find one false, say at which input.
  Laid BY PROGRAM, IN A SANDBOX (cutbox-rows.mjs): the forced cells as the released guide's own fill.sh prints them over the translation 4912c8bee5cf76a0… (all of the seat's roots in one cut). By AI agents, Wed Nov 11 2026. No macro, syntax, notation, axiom, sorry.
-/
import Derived.Test.YtdlkdilgjmmlaaaDoorChecked
import GoSem.Claim
import GoSem.ClaimJoined
import GoSem.ClaimMapViews
import Derived.JoinedTies
import Derived.KernelRfl
namespace Go.Proofs.YtdlkdilgjmmlaaaDoor
/- THE CELL 'sum', in the pinned program and in every row, IS THE sha256 OF THE DUMP (.gsa) THAT YtdlkdilgjmmlaaaDoorProg.lean LOADS. Nothing in Lean hashes anything: it is a label: what it is worth is what the hold of that sum in a sandbox is worth. -/
noncomputable def Tryd.pinned : Pinned := { name := "ytdlkdilgjmmlaaadoor", sum := "4912c8bee5cf76a0da122f261bd7ae9057e9203d3fc18542e9ef379f826ac551", checked := Tryd.checked }
namespace Rows
def none {H : Type} : Left H := { results := [], args := [] }

/- WHAT THE LISTED PACKAGE-LEVEL VARIABLES READ AS WHEN THE CALL BEGINS. Each datum BY PROGRAM (the guide's laid-datum.mjs) off the statement by which the dump's own 'gosem.cut.vars' lays the variable. In a bare row this is a premise. The card (YtdlkdilgjmmlaaaDoorCards.lean) ties it to the program's text. -/
def laid_hydra_phase_names {H : Type} : DataW H := .agg [.lit (.string []), .lit (.string [87, 97, 107, 101]), .lit (.string [68, 114, 97, 119]), .lit (.string [70, 105, 114, 115, 116]), .lit (.string [83, 116, 114, 105, 107, 101]), .lit (.string [83, 104, 105, 101, 108, 100]), .lit (.string [66, 108, 111, 119]), .lit (.string [83, 101, 99, 111, 110, 100]), .lit (.string [69, 110, 100])]

/-- 'hydralaw15.PhaseLands': WHATEVER THE INPUT: true; the input reads as it did. -/
def phaseLandsSpec : ChangeSpec := { name := "phaseLands", fn := fun _ => fun
  | [d1, d2] => { results := [.lit (.bool true)], args := [d1, d2] }
  | _ => none }
def phaseLandsRow : OpenClaim := { program := "ytdlkdilgjmmlaaadoor", sum := "4912c8bee5cf76a0da122f261bd7ae9057e9203d3fc18542e9ef379f826ac551", func := "hydra/hydralaw15.PhaseLands", spec := "phaseLands", inPlace := ["slices.overlaps[int]"], unfollowed := true, recurses := true, named := ["hydra/phase.names"], plainKeys := false, apart := false, laid := [("hydra/phase.names", laid_hydra_phase_names)] }
def PhaseLandsSaid : Prop := phaseLandsRow.holds Tryd.pinned (OpenSpec.ofChange phaseLandsSpec)

/-- ITS FALSE NEIGHBOUR: 'it returns false'. Refute it at one input. -/
def phaseLandsWrong : ChangeSpec := { name := "phaseLands", fn := fun _ => fun
  | [d1, d2] => { results := [.lit (.bool false)], args := [d1, d2] }
  | _ => none }
def PhaseLandsWrongFalsely : Prop := phaseLandsRow.holds Tryd.pinned (OpenSpec.ofChange phaseLandsWrong)

/- THE SECOND FORM. 'bulk': how many values and letters a reading holds, each counted each time it is reached (what is shared counts as often as it is met; a slice's spare places count too). A statement '..UptoSaid' is the law's where the arguments, and the package variables that the reading takes, are together of bulk at most 1048576: NARROWER than '..Said'. Prove '..Said' where nothing that the law and all that it calls make is longer than what came in: it says more and counts as full. Else prove '..UptoSaid'. A law counts once. -/
mutual
def uptoBulk {H : Type} : DataW H → Nat
  | .lit (.string bytes) => bytes.length + 1
  | .lit _ => 1
  | .nil => 1
  | .ptr d => uptoBulk d + 1
  | .slice elems spare => uptoBulkAll elems + uptoBulkAll spare + 1
  | .agg parts => uptoBulkAll parts + 1
  | .iface _ d => uptoBulk d + 1
  | .map entries => uptoBulkEntries entries + 1
  | .held _ => 1
def uptoBulkAll {H : Type} : List (DataW H) → Nat
  | [] => 0
  | d :: r => uptoBulk d + uptoBulkAll r
def uptoBulkEntries {H : Type} : List (Lit × DataW H) → Nat
  | [] => 0
  | x :: r => uptoBulkEntry x + uptoBulkEntries r
def uptoBulkEntry {H : Type} : Lit × DataW H → Nat
  | (.string bytes, d) => bytes.length + uptoBulk d + 1
  | (_, d) => uptoBulk d + 1
 end
def uptoSmall : (H : Type) → List (DataW H) → Bool := fun _ ds => decide (uptoBulkAll ds ≤ 1048576)
def OpenSpec.upto (s : _root_.Go.ChangeSpec) : _root_.Go.OpenSpec := { _root_.Go.OpenSpec.ofChange s with cond := some uptoSmall }

/-- 'hydralaw15.PhaseLands', WHERE WHAT IT READS IS OF BULK AT MOST 1048576: true; the input reads as it did. -/
def phaseLandsUptoRow : OpenClaim := { program := "ytdlkdilgjmmlaaadoor", sum := "4912c8bee5cf76a0da122f261bd7ae9057e9203d3fc18542e9ef379f826ac551", func := "hydra/hydralaw15.PhaseLands", spec := "phaseLands", inPlace := ["slices.overlaps[int]"], unfollowed := true, recurses := true, named := ["hydra/phase.names"], plainKeys := false, apart := false, laid := [("hydra/phase.names", laid_hydra_phase_names)], narrowed := true }
def PhaseLandsUptoSaid : Prop := phaseLandsUptoRow.holds Tryd.pinned (OpenSpec.upto phaseLandsSpec)

end Rows
end Go.Proofs.YtdlkdilgjmmlaaaDoor

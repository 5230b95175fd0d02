/-
  No cell of these rows narrows 'for every input' (looked for: loops, veiled, ifaces, maps, wideKeys, modest, calm, conditions, laid).
  DERIVED. THE GIVEN ROWS OF THIS SEAT. 3 by the template 'for every input the law returns true; each argument reads behind the call as it read before'; 0 by the template 'total and deterministic' (their statements: YtjgjhfeopmakaaaGreatTotals.lean).
  GIVEN WITH THE SEED: the statements are not yours to turn. If you find one false, say at which input.
  Laid BY PROGRAM, IN A SANDBOX (cutbox-rows.mjs): the forced cells as the released guide's own fill.sh prints them over the translation 59458cad75c119f0… (all of the seat's roots in one cut). By AI agents, Wed Nov 11 2026. No macro, syntax, notation, axiom, sorry.
-/
import Derived.Test.YtjgjhfeopmakaaaGreatChecked
import GoSem.Claim
import GoSem.ClaimJoined
import GoSem.ClaimMapViews
import Derived.JoinedTies
import Derived.KernelRfl
namespace Go.Proofs.YtjgjhfeopmakaaaGreat
/- THE CELL 'sum', in the pinned program and in every row, IS THE sha256 OF THE DUMP (.gsa) THAT YtjgjhfeopmakaaaGreatProg.lean LOADS. Nothing in Lean hashes anything: it is a label: what it is worth is what the hold of that sum in a sandbox is worth. -/
noncomputable def Tryz.pinned : Pinned := { name := "ytjgjhfeopmakaaagreat", sum := "59458cad75c119f04ff688b12d22253ffd3ef1c526ab10467878d63bc2c33b88", checked := Tryz.checked }
namespace Rows
def none {H : Type} : Left H := { results := [], args := [] }

/-- 'hydralaw17.FightMoves': WHATEVER THE INPUT: true; the input reads as it did. -/
def fightMovesSpec : ChangeSpec := { name := "fightMoves", fn := fun _ => fun
  | [d1, d2, d3] => { results := [.lit (.bool true)], args := [d1, d2, d3] }
  | _ => none }
def fightMovesRow : OpenClaim := { program := "ytjgjhfeopmakaaagreat", sum := "59458cad75c119f04ff688b12d22253ffd3ef1c526ab10467878d63bc2c33b88", func := "hydra/hydralaw17.FightMoves", spec := "fightMoves", inPlace := ["slices.overlaps[int]"], unfollowed := true, recurses := true, plainKeys := false, apart := false }
def FightMovesSaid : Prop := fightMovesRow.holds Tryz.pinned (OpenSpec.ofChange fightMovesSpec)

/-- ITS FALSE NEIGHBOUR: 'it returns false'. Refute it at one input. -/
def fightMovesWrong : ChangeSpec := { name := "fightMoves", fn := fun _ => fun
  | [d1, d2, d3] => { results := [.lit (.bool false)], args := [d1, d2, d3] }
  | _ => none }
def FightMovesWrongFalsely : Prop := fightMovesRow.holds Tryz.pinned (OpenSpec.ofChange fightMovesWrong)

/-- 'hydralaw17.FightSums': WHATEVER THE INPUT: true; the input reads as it did. -/
def fightSumsSpec : ChangeSpec := { name := "fightSums", fn := fun _ => fun
  | [d1, d2, d3] => { results := [.lit (.bool true)], args := [d1, d2, d3] }
  | _ => none }
def fightSumsRow : OpenClaim := { program := "ytjgjhfeopmakaaagreat", sum := "59458cad75c119f04ff688b12d22253ffd3ef1c526ab10467878d63bc2c33b88", func := "hydra/hydralaw17.FightSums", spec := "fightSums", inPlace := ["slices.overlaps[int]"], unfollowed := true, recurses := true, plainKeys := false, apart := false }
def FightSumsSaid : Prop := fightSumsRow.holds Tryz.pinned (OpenSpec.ofChange fightSumsSpec)

/-- ITS FALSE NEIGHBOUR: 'it returns false'. Refute it at one input. -/
def fightSumsWrong : ChangeSpec := { name := "fightSums", fn := fun _ => fun
  | [d1, d2, d3] => { results := [.lit (.bool false)], args := [d1, d2, d3] }
  | _ => none }
def FightSumsWrongFalsely : Prop := fightSumsRow.holds Tryz.pinned (OpenSpec.ofChange fightSumsWrong)

/-- 'hydralaw17.FightNobody': WHATEVER THE INPUT: true; the input reads as it did. -/
def fightNobodySpec : ChangeSpec := { name := "fightNobody", fn := fun _ => fun
  | [d1, d2, d3] => { results := [.lit (.bool true)], args := [d1, d2, d3] }
  | _ => none }
def fightNobodyRow : OpenClaim := { program := "ytjgjhfeopmakaaagreat", sum := "59458cad75c119f04ff688b12d22253ffd3ef1c526ab10467878d63bc2c33b88", func := "hydra/hydralaw17.FightNobody", spec := "fightNobody", inPlace := ["slices.overlaps[int]"], unfollowed := true, recurses := true, plainKeys := false, apart := false }
def FightNobodySaid : Prop := fightNobodyRow.holds Tryz.pinned (OpenSpec.ofChange fightNobodySpec)

/-- ITS FALSE NEIGHBOUR: 'it returns false'. Refute it at one input. -/
def fightNobodyWrong : ChangeSpec := { name := "fightNobody", fn := fun _ => fun
  | [d1, d2, d3] => { results := [.lit (.bool false)], args := [d1, d2, d3] }
  | _ => none }
def FightNobodyWrongFalsely : Prop := fightNobodyRow.holds Tryz.pinned (OpenSpec.ofChange fightNobodyWrong)

/- THE SECOND FORM. 'bulk': how many values and letters a reading holds, each counted each time it is reached (what is shared counts as often as it is met; a slice's spare places count too). A statement '..UptoSaid' is the law's where the arguments, and the package variables that the reading takes, are together of bulk at most 1048576: NARROWER than '..Said'. Prove '..Said' where nothing that the law and all that it calls make is longer than what came in: it says more and counts as full. Else prove '..UptoSaid'. A law counts once. -/
mutual
def uptoBulk {H : Type} : DataW H → Nat
  | .lit (.string bytes) => bytes.length + 1
  | .lit _ => 1
  | .nil => 1
  | .ptr d => uptoBulk d + 1
  | .slice elems spare => uptoBulkAll elems + uptoBulkAll spare + 1
  | .agg parts => uptoBulkAll parts + 1
  | .iface _ d => uptoBulk d + 1
  | .map entries => uptoBulkEntries entries + 1
  | .held _ => 1
def uptoBulkAll {H : Type} : List (DataW H) → Nat
  | [] => 0
  | d :: r => uptoBulk d + uptoBulkAll r
def uptoBulkEntries {H : Type} : List (Lit × DataW H) → Nat
  | [] => 0
  | x :: r => uptoBulkEntry x + uptoBulkEntries r
def uptoBulkEntry {H : Type} : Lit × DataW H → Nat
  | (.string bytes, d) => bytes.length + uptoBulk d + 1
  | (_, d) => uptoBulk d + 1
 end
def uptoSmall : (H : Type) → List (DataW H) → Bool := fun _ ds => decide (uptoBulkAll ds ≤ 1048576)
def OpenSpec.upto (s : _root_.Go.ChangeSpec) : _root_.Go.OpenSpec := { _root_.Go.OpenSpec.ofChange s with cond := some uptoSmall }

/-- 'hydralaw17.FightMoves', WHERE WHAT IT READS IS OF BULK AT MOST 1048576: true; the input reads as it did. -/
def fightMovesUptoRow : OpenClaim := { program := "ytjgjhfeopmakaaagreat", sum := "59458cad75c119f04ff688b12d22253ffd3ef1c526ab10467878d63bc2c33b88", func := "hydra/hydralaw17.FightMoves", spec := "fightMoves", inPlace := ["slices.overlaps[int]"], unfollowed := true, recurses := true, plainKeys := false, apart := false, narrowed := true }
def FightMovesUptoSaid : Prop := fightMovesUptoRow.holds Tryz.pinned (OpenSpec.upto fightMovesSpec)

/-- 'hydralaw17.FightSums', WHERE WHAT IT READS IS OF BULK AT MOST 1048576: true; the input reads as it did. -/
def fightSumsUptoRow : OpenClaim := { program := "ytjgjhfeopmakaaagreat", sum := "59458cad75c119f04ff688b12d22253ffd3ef1c526ab10467878d63bc2c33b88", func := "hydra/hydralaw17.FightSums", spec := "fightSums", inPlace := ["slices.overlaps[int]"], unfollowed := true, recurses := true, plainKeys := false, apart := false, narrowed := true }
def FightSumsUptoSaid : Prop := fightSumsUptoRow.holds Tryz.pinned (OpenSpec.upto fightSumsSpec)

/-- 'hydralaw17.FightNobody', WHERE WHAT IT READS IS OF BULK AT MOST 1048576: true; the input reads as it did. -/
def fightNobodyUptoRow : OpenClaim := { program := "ytjgjhfeopmakaaagreat", sum := "59458cad75c119f04ff688b12d22253ffd3ef1c526ab10467878d63bc2c33b88", func := "hydra/hydralaw17.FightNobody", spec := "fightNobody", inPlace := ["slices.overlaps[int]"], unfollowed := true, recurses := true, plainKeys := false, apart := false, narrowed := true }
def FightNobodyUptoSaid : Prop := fightNobodyUptoRow.holds Tryz.pinned (OpenSpec.upto fightNobodySpec)

end Rows
end Go.Proofs.YtjgjhfeopmakaaaGreat

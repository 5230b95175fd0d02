/-
  No cell of these rows narrows 'for every input' (looked for: loops, veiled, ifaces, maps, wideKeys, modest, calm, conditions, laid).
  DERIVED. THE GIVEN ROWS OF THIS SEAT. 7 by the template 'for every input the law returns true; each argument reads behind the call as it read before'; 0 by the template 'total and deterministic' (their statements: YtkhgdfalbmkgcaaTotals.lean).
  GIVEN WITH THE SEED: the statements are not yours to turn. If you find one false, say at which input.
  Laid BY PROGRAM, IN A SANDBOX (cutbox-rows.mjs): the forced cells as the released guide's own fill.sh prints them over the translation d9bf92dc7abd74f7… (all of the seat's roots in one cut). By AI agents, Wed Nov 11 2026. No macro, syntax, notation, axiom, sorry.
-/
import Derived.Test.YtkhgdfalbmkgcaaChecked
import GoSem.Claim
import GoSem.ClaimJoined
import GoSem.ClaimMapViews
import Derived.JoinedTies
import Derived.KernelRfl
namespace Go.Proofs.Ytkhgdfalbmkgcaa
/- THE CELL 'sum', in the pinned program and in every row, IS THE sha256 OF THE DUMP (.gsa) THAT YtkhgdfalbmkgcaaProg.lean LOADS. Nothing in Lean hashes anything: it is a label: what it is worth is what the hold of that sum in a sandbox is worth. -/
noncomputable def Try.pinned : Pinned := { name := "ytkhgdfalbmkgcaa", sum := "d9bf92dc7abd74f77942b55b2545f058e670c7fced3e1baa78966fc2e236be86", checked := Try.checked }
namespace Rows
def none {H : Type} : Left H := { results := [], args := [] }

/-- 'hydralaw06.ObjectGoes': WHATEVER THE INPUT: true; the input reads as it did. -/
def objectGoesSpec : ChangeSpec := { name := "objectGoes", fn := fun _ => fun
  | [d1, d2, d3] => { results := [.lit (.bool true)], args := [d1, d2, d3] }
  | _ => none }
def objectGoesRow : OpenClaim := { program := "ytkhgdfalbmkgcaa", sum := "d9bf92dc7abd74f77942b55b2545f058e670c7fced3e1baa78966fc2e236be86", func := "hydra/hydralaw06.ObjectGoes", spec := "objectGoes", inPlace := ["slices.overlaps[int]"], unfollowed := true, recurses := true, plainKeys := false, apart := false }
def ObjectGoesSaid : Prop := objectGoesRow.holds Try.pinned (OpenSpec.ofChange objectGoesSpec)

/-- ITS FALSE NEIGHBOUR: 'it returns false'. Refute it at one input. -/
def objectGoesWrong : ChangeSpec := { name := "objectGoes", fn := fun _ => fun
  | [d1, d2, d3] => { results := [.lit (.bool false)], args := [d1, d2, d3] }
  | _ => none }
def ObjectGoesWrongFalsely : Prop := objectGoesRow.holds Try.pinned (OpenSpec.ofChange objectGoesWrong)

/-- 'hydralaw06.ObjectMoves': WHATEVER THE INPUT: true; the input reads as it did. -/
def objectMovesSpec : ChangeSpec := { name := "objectMoves", fn := fun _ => fun
  | [d1, d2, d3] => { results := [.lit (.bool true)], args := [d1, d2, d3] }
  | _ => none }
def objectMovesRow : OpenClaim := { program := "ytkhgdfalbmkgcaa", sum := "d9bf92dc7abd74f77942b55b2545f058e670c7fced3e1baa78966fc2e236be86", func := "hydra/hydralaw06.ObjectMoves", spec := "objectMoves", inPlace := ["slices.overlaps[int]"], unfollowed := true, recurses := true, plainKeys := false, apart := false }
def ObjectMovesSaid : Prop := objectMovesRow.holds Try.pinned (OpenSpec.ofChange objectMovesSpec)

/-- ITS FALSE NEIGHBOUR: 'it returns false'. Refute it at one input. -/
def objectMovesWrong : ChangeSpec := { name := "objectMoves", fn := fun _ => fun
  | [d1, d2, d3] => { results := [.lit (.bool false)], args := [d1, d2, d3] }
  | _ => none }
def ObjectMovesWrongFalsely : Prop := objectMovesRow.holds Try.pinned (OpenSpec.ofChange objectMovesWrong)

/-- 'hydralaw06.ObjectTops': WHATEVER THE INPUT: true; the input reads as it did. -/
def objectTopsSpec : ChangeSpec := { name := "objectTops", fn := fun _ => fun
  | [d1, d2] => { results := [.lit (.bool true)], args := [d1, d2] }
  | _ => none }
def objectTopsRow : OpenClaim := { program := "ytkhgdfalbmkgcaa", sum := "d9bf92dc7abd74f77942b55b2545f058e670c7fced3e1baa78966fc2e236be86", func := "hydra/hydralaw06.ObjectTops", spec := "objectTops", inPlace := ["slices.overlaps[int]"], unfollowed := true, recurses := true, plainKeys := false, apart := false }
def ObjectTopsSaid : Prop := objectTopsRow.holds Try.pinned (OpenSpec.ofChange objectTopsSpec)

/-- ITS FALSE NEIGHBOUR: 'it returns false'. Refute it at one input. -/
def objectTopsWrong : ChangeSpec := { name := "objectTops", fn := fun _ => fun
  | [d1, d2] => { results := [.lit (.bool false)], args := [d1, d2] }
  | _ => none }
def ObjectTopsWrongFalsely : Prop := objectTopsRow.holds Try.pinned (OpenSpec.ofChange objectTopsWrong)

/-- 'hydralaw07.ManaPays': WHATEVER THE INPUT: true; the input reads as it did. -/
def manaPaysSpec : ChangeSpec := { name := "manaPays", fn := fun _ => fun
  | [d1, d2, d3] => { results := [.lit (.bool true)], args := [d1, d2, d3] }
  | _ => none }
def manaPaysRow : OpenClaim := { program := "ytkhgdfalbmkgcaa", sum := "d9bf92dc7abd74f77942b55b2545f058e670c7fced3e1baa78966fc2e236be86", func := "hydra/hydralaw07.ManaPays", spec := "manaPays", inPlace := ["slices.overlaps[int]"], unfollowed := true, recurses := true, plainKeys := false, apart := false }
def ManaPaysSaid : Prop := manaPaysRow.holds Try.pinned (OpenSpec.ofChange manaPaysSpec)

/-- ITS FALSE NEIGHBOUR: 'it returns false'. Refute it at one input. -/
def manaPaysWrong : ChangeSpec := { name := "manaPays", fn := fun _ => fun
  | [d1, d2, d3] => { results := [.lit (.bool false)], args := [d1, d2, d3] }
  | _ => none }
def ManaPaysWrongFalsely : Prop := manaPaysRow.holds Try.pinned (OpenSpec.ofChange manaPaysWrong)

/-- 'hydralaw07.ManaUntaps': WHATEVER THE INPUT: true; the input reads as it did. -/
def manaUntapsSpec : ChangeSpec := { name := "manaUntaps", fn := fun _ => fun
  | [d1, d2, d3] => { results := [.lit (.bool true)], args := [d1, d2, d3] }
  | _ => none }
def manaUntapsRow : OpenClaim := { program := "ytkhgdfalbmkgcaa", sum := "d9bf92dc7abd74f77942b55b2545f058e670c7fced3e1baa78966fc2e236be86", func := "hydra/hydralaw07.ManaUntaps", spec := "manaUntaps", inPlace := ["slices.overlaps[int]"], unfollowed := true, recurses := true, plainKeys := false, apart := false }
def ManaUntapsSaid : Prop := manaUntapsRow.holds Try.pinned (OpenSpec.ofChange manaUntapsSpec)

/-- ITS FALSE NEIGHBOUR: 'it returns false'. Refute it at one input. -/
def manaUntapsWrong : ChangeSpec := { name := "manaUntaps", fn := fun _ => fun
  | [d1, d2, d3] => { results := [.lit (.bool false)], args := [d1, d2, d3] }
  | _ => none }
def ManaUntapsWrongFalsely : Prop := manaUntapsRow.holds Try.pinned (OpenSpec.ofChange manaUntapsWrong)

/-- 'hydralaw07.ManaTwice': WHATEVER THE INPUT: true; the input reads as it did. -/
def manaTwiceSpec : ChangeSpec := { name := "manaTwice", fn := fun _ => fun
  | [d1, d2, d3] => { results := [.lit (.bool true)], args := [d1, d2, d3] }
  | _ => none }
def manaTwiceRow : OpenClaim := { program := "ytkhgdfalbmkgcaa", sum := "d9bf92dc7abd74f77942b55b2545f058e670c7fced3e1baa78966fc2e236be86", func := "hydra/hydralaw07.ManaTwice", spec := "manaTwice", inPlace := ["slices.overlaps[int]"], unfollowed := true, recurses := true, plainKeys := false, apart := false }
def ManaTwiceSaid : Prop := manaTwiceRow.holds Try.pinned (OpenSpec.ofChange manaTwiceSpec)

/-- ITS FALSE NEIGHBOUR: 'it returns false'. Refute it at one input. -/
def manaTwiceWrong : ChangeSpec := { name := "manaTwice", fn := fun _ => fun
  | [d1, d2, d3] => { results := [.lit (.bool false)], args := [d1, d2, d3] }
  | _ => none }
def ManaTwiceWrongFalsely : Prop := manaTwiceRow.holds Try.pinned (OpenSpec.ofChange manaTwiceWrong)

/-- 'hydralaw07.ManaSeats': WHATEVER THE INPUT: true; the input reads as it did. -/
def manaSeatsSpec : ChangeSpec := { name := "manaSeats", fn := fun _ => fun
  | [d1, d2] => { results := [.lit (.bool true)], args := [d1, d2] }
  | _ => none }
def manaSeatsRow : OpenClaim := { program := "ytkhgdfalbmkgcaa", sum := "d9bf92dc7abd74f77942b55b2545f058e670c7fced3e1baa78966fc2e236be86", func := "hydra/hydralaw07.ManaSeats", spec := "manaSeats", inPlace := ["slices.overlaps[int]"], unfollowed := true, recurses := true, plainKeys := false, apart := false }
def ManaSeatsSaid : Prop := manaSeatsRow.holds Try.pinned (OpenSpec.ofChange manaSeatsSpec)

/-- ITS FALSE NEIGHBOUR: 'it returns false'. Refute it at one input. -/
def manaSeatsWrong : ChangeSpec := { name := "manaSeats", fn := fun _ => fun
  | [d1, d2] => { results := [.lit (.bool false)], args := [d1, d2] }
  | _ => none }
def ManaSeatsWrongFalsely : Prop := manaSeatsRow.holds Try.pinned (OpenSpec.ofChange manaSeatsWrong)

/- THE SECOND FORM. 'bulk': how many values and letters a reading holds, each counted each time it is reached (what is shared counts as often as it is met; a slice's spare places count too). A statement '..UptoSaid' is the law's where the arguments, and the package variables that the reading takes, are together of bulk at most 1048576: NARROWER than '..Said'. Prove '..Said' where nothing that the law and all that it calls make is longer than what came in: it says more and counts as full. Else prove '..UptoSaid'. A law counts once. -/
mutual
def uptoBulk {H : Type} : DataW H → Nat
  | .lit (.string bytes) => bytes.length + 1
  | .lit _ => 1
  | .nil => 1
  | .ptr d => uptoBulk d + 1
  | .slice elems spare => uptoBulkAll elems + uptoBulkAll spare + 1
  | .agg parts => uptoBulkAll parts + 1
  | .iface _ d => uptoBulk d + 1
  | .map entries => uptoBulkEntries entries + 1
  | .held _ => 1
def uptoBulkAll {H : Type} : List (DataW H) → Nat
  | [] => 0
  | d :: r => uptoBulk d + uptoBulkAll r
def uptoBulkEntries {H : Type} : List (Lit × DataW H) → Nat
  | [] => 0
  | x :: r => uptoBulkEntry x + uptoBulkEntries r
def uptoBulkEntry {H : Type} : Lit × DataW H → Nat
  | (.string bytes, d) => bytes.length + uptoBulk d + 1
  | (_, d) => uptoBulk d + 1
 end
def uptoSmall : (H : Type) → List (DataW H) → Bool := fun _ ds => decide (uptoBulkAll ds ≤ 1048576)
def OpenSpec.upto (s : _root_.Go.ChangeSpec) : _root_.Go.OpenSpec := { _root_.Go.OpenSpec.ofChange s with cond := some uptoSmall }

/-- 'hydralaw06.ObjectGoes', WHERE WHAT IT READS IS OF BULK AT MOST 1048576: true; the input reads as it did. -/
def objectGoesUptoRow : OpenClaim := { program := "ytkhgdfalbmkgcaa", sum := "d9bf92dc7abd74f77942b55b2545f058e670c7fced3e1baa78966fc2e236be86", func := "hydra/hydralaw06.ObjectGoes", spec := "objectGoes", inPlace := ["slices.overlaps[int]"], unfollowed := true, recurses := true, plainKeys := false, apart := false, narrowed := true }
def ObjectGoesUptoSaid : Prop := objectGoesUptoRow.holds Try.pinned (OpenSpec.upto objectGoesSpec)

/-- 'hydralaw06.ObjectMoves', WHERE WHAT IT READS IS OF BULK AT MOST 1048576: true; the input reads as it did. -/
def objectMovesUptoRow : OpenClaim := { program := "ytkhgdfalbmkgcaa", sum := "d9bf92dc7abd74f77942b55b2545f058e670c7fced3e1baa78966fc2e236be86", func := "hydra/hydralaw06.ObjectMoves", spec := "objectMoves", inPlace := ["slices.overlaps[int]"], unfollowed := true, recurses := true, plainKeys := false, apart := false, narrowed := true }
def ObjectMovesUptoSaid : Prop := objectMovesUptoRow.holds Try.pinned (OpenSpec.upto objectMovesSpec)

/-- 'hydralaw06.ObjectTops', WHERE WHAT IT READS IS OF BULK AT MOST 1048576: true; the input reads as it did. -/
def objectTopsUptoRow : OpenClaim := { program := "ytkhgdfalbmkgcaa", sum := "d9bf92dc7abd74f77942b55b2545f058e670c7fced3e1baa78966fc2e236be86", func := "hydra/hydralaw06.ObjectTops", spec := "objectTops", inPlace := ["slices.overlaps[int]"], unfollowed := true, recurses := true, plainKeys := false, apart := false, narrowed := true }
def ObjectTopsUptoSaid : Prop := objectTopsUptoRow.holds Try.pinned (OpenSpec.upto objectTopsSpec)

/-- 'hydralaw07.ManaPays', WHERE WHAT IT READS IS OF BULK AT MOST 1048576: true; the input reads as it did. -/
def manaPaysUptoRow : OpenClaim := { program := "ytkhgdfalbmkgcaa", sum := "d9bf92dc7abd74f77942b55b2545f058e670c7fced3e1baa78966fc2e236be86", func := "hydra/hydralaw07.ManaPays", spec := "manaPays", inPlace := ["slices.overlaps[int]"], unfollowed := true, recurses := true, plainKeys := false, apart := false, narrowed := true }
def ManaPaysUptoSaid : Prop := manaPaysUptoRow.holds Try.pinned (OpenSpec.upto manaPaysSpec)

/-- 'hydralaw07.ManaUntaps', WHERE WHAT IT READS IS OF BULK AT MOST 1048576: true; the input reads as it did. -/
def manaUntapsUptoRow : OpenClaim := { program := "ytkhgdfalbmkgcaa", sum := "d9bf92dc7abd74f77942b55b2545f058e670c7fced3e1baa78966fc2e236be86", func := "hydra/hydralaw07.ManaUntaps", spec := "manaUntaps", inPlace := ["slices.overlaps[int]"], unfollowed := true, recurses := true, plainKeys := false, apart := false, narrowed := true }
def ManaUntapsUptoSaid : Prop := manaUntapsUptoRow.holds Try.pinned (OpenSpec.upto manaUntapsSpec)

/-- 'hydralaw07.ManaTwice', WHERE WHAT IT READS IS OF BULK AT MOST 1048576: true; the input reads as it did. -/
def manaTwiceUptoRow : OpenClaim := { program := "ytkhgdfalbmkgcaa", sum := "d9bf92dc7abd74f77942b55b2545f058e670c7fced3e1baa78966fc2e236be86", func := "hydra/hydralaw07.ManaTwice", spec := "manaTwice", inPlace := ["slices.overlaps[int]"], unfollowed := true, recurses := true, plainKeys := false, apart := false, narrowed := true }
def ManaTwiceUptoSaid : Prop := manaTwiceUptoRow.holds Try.pinned (OpenSpec.upto manaTwiceSpec)

/-- 'hydralaw07.ManaSeats', WHERE WHAT IT READS IS OF BULK AT MOST 1048576: true; the input reads as it did. -/
def manaSeatsUptoRow : OpenClaim := { program := "ytkhgdfalbmkgcaa", sum := "d9bf92dc7abd74f77942b55b2545f058e670c7fced3e1baa78966fc2e236be86", func := "hydra/hydralaw07.ManaSeats", spec := "manaSeats", inPlace := ["slices.overlaps[int]"], unfollowed := true, recurses := true, plainKeys := false, apart := false, narrowed := true }
def ManaSeatsUptoSaid : Prop := manaSeatsUptoRow.holds Try.pinned (OpenSpec.upto manaSeatsSpec)

end Rows
end Go.Proofs.Ytkhgdfalbmkgcaa

/-
  No cell of these rows narrows 'for every input' (looked for: loops, veiled, ifaces, maps, wideKeys, modest, calm, conditions, laid).
  DERIVED. THE GIVEN ROWS OF THIS SEAT. 4 by the template 'for every input the law returns true; each argument reads behind the call as it read before'; 0 by the template 'total and deterministic' (their statements: YtookicopjphmnaaGreatTotals.lean).
  GIVEN WITH THE SEED: the statements are not yours to turn. If you find one false, say at which input.
  Laid BY PROGRAM, IN A SANDBOX (cutbox-rows.mjs): the forced cells as the released guide's own fill.sh prints them over the translation a5284eb296d02085… (all of the seat's roots in one cut). By AI agents, Wed Nov 11 2026. No macro, syntax, notation, axiom, sorry.
-/
import Derived.Test.YtookicopjphmnaaGreatChecked
import GoSem.Claim
import GoSem.ClaimJoined
import GoSem.ClaimMapViews
import Derived.JoinedTies
import Derived.KernelRfl
namespace Go.Proofs.YtookicopjphmnaaGreat
/- THE CELL 'sum', in the pinned program and in every row, IS THE sha256 OF THE DUMP (.gsa) THAT YtookicopjphmnaaGreatProg.lean LOADS. Nothing in Lean hashes anything: it is a label: what it is worth is what the hold of that sum in a sandbox is worth. -/
noncomputable def Tryz.pinned : Pinned := { name := "ytookicopjphmnaagreat", sum := "a5284eb296d02085257b339b70fa185d9ec1a658d6bc9d72baeb20c092300a81", checked := Tryz.checked }
namespace Rows
def none {H : Type} : Left H := { results := [], args := [] }

/-- 'hydralaw13.TrigOrders': WHATEVER THE INPUT: true; the input reads as it did. -/
def trigOrdersSpec : ChangeSpec := { name := "trigOrders", fn := fun _ => fun
  | [d1, d2, d3] => { results := [.lit (.bool true)], args := [d1, d2, d3] }
  | _ => none }
def trigOrdersRow : OpenClaim := { program := "ytookicopjphmnaagreat", sum := "a5284eb296d02085257b339b70fa185d9ec1a658d6bc9d72baeb20c092300a81", func := "hydra/hydralaw13.TrigOrders", spec := "trigOrders", inPlace := ["slices.overlaps[int]"], unfollowed := true, recurses := true, plainKeys := false, apart := false }
def TrigOrdersSaid : Prop := trigOrdersRow.holds Tryz.pinned (OpenSpec.ofChange trigOrdersSpec)

/-- ITS FALSE NEIGHBOUR: 'it returns false'. Refute it at one input. -/
def trigOrdersWrong : ChangeSpec := { name := "trigOrders", fn := fun _ => fun
  | [d1, d2, d3] => { results := [.lit (.bool false)], args := [d1, d2, d3] }
  | _ => none }
def TrigOrdersWrongFalsely : Prop := trigOrdersRow.holds Tryz.pinned (OpenSpec.ofChange trigOrdersWrong)

/-- 'hydralaw13.TrigFires': WHATEVER THE INPUT: true; the input reads as it did. -/
def trigFiresSpec : ChangeSpec := { name := "trigFires", fn := fun _ => fun
  | [d1, d2, d3] => { results := [.lit (.bool true)], args := [d1, d2, d3] }
  | _ => none }
def trigFiresRow : OpenClaim := { program := "ytookicopjphmnaagreat", sum := "a5284eb296d02085257b339b70fa185d9ec1a658d6bc9d72baeb20c092300a81", func := "hydra/hydralaw13.TrigFires", spec := "trigFires", inPlace := ["slices.overlaps[int]"], unfollowed := true, recurses := true, plainKeys := false, apart := false }
def TrigFiresSaid : Prop := trigFiresRow.holds Tryz.pinned (OpenSpec.ofChange trigFiresSpec)

/-- ITS FALSE NEIGHBOUR: 'it returns false'. Refute it at one input. -/
def trigFiresWrong : ChangeSpec := { name := "trigFires", fn := fun _ => fun
  | [d1, d2, d3] => { results := [.lit (.bool false)], args := [d1, d2, d3] }
  | _ => none }
def TrigFiresWrongFalsely : Prop := trigFiresRow.holds Tryz.pinned (OpenSpec.ofChange trigFiresWrong)

/-- 'hydralaw13.TrigDone': WHATEVER THE INPUT: true; the input reads as it did. -/
def trigDoneSpec : ChangeSpec := { name := "trigDone", fn := fun _ => fun
  | [d1, d2, d3] => { results := [.lit (.bool true)], args := [d1, d2, d3] }
  | _ => none }
def trigDoneRow : OpenClaim := { program := "ytookicopjphmnaagreat", sum := "a5284eb296d02085257b339b70fa185d9ec1a658d6bc9d72baeb20c092300a81", func := "hydra/hydralaw13.TrigDone", spec := "trigDone", inPlace := ["slices.overlaps[int]"], unfollowed := true, recurses := true, plainKeys := false, apart := false }
def TrigDoneSaid : Prop := trigDoneRow.holds Tryz.pinned (OpenSpec.ofChange trigDoneSpec)

/-- ITS FALSE NEIGHBOUR: 'it returns false'. Refute it at one input. -/
def trigDoneWrong : ChangeSpec := { name := "trigDone", fn := fun _ => fun
  | [d1, d2, d3] => { results := [.lit (.bool false)], args := [d1, d2, d3] }
  | _ => none }
def TrigDoneWrongFalsely : Prop := trigDoneRow.holds Tryz.pinned (OpenSpec.ofChange trigDoneWrong)

/-- 'hydralaw13.TrigRoom': WHATEVER THE INPUT: true; the input reads as it did. -/
def trigRoomSpec : ChangeSpec := { name := "trigRoom", fn := fun _ => fun
  | [d1, d2, d3] => { results := [.lit (.bool true)], args := [d1, d2, d3] }
  | _ => none }
def trigRoomRow : OpenClaim := { program := "ytookicopjphmnaagreat", sum := "a5284eb296d02085257b339b70fa185d9ec1a658d6bc9d72baeb20c092300a81", func := "hydra/hydralaw13.TrigRoom", spec := "trigRoom", inPlace := ["slices.overlaps[int]"], unfollowed := true, recurses := true, plainKeys := false, apart := false }
def TrigRoomSaid : Prop := trigRoomRow.holds Tryz.pinned (OpenSpec.ofChange trigRoomSpec)

/-- ITS FALSE NEIGHBOUR: 'it returns false'. Refute it at one input. -/
def trigRoomWrong : ChangeSpec := { name := "trigRoom", fn := fun _ => fun
  | [d1, d2, d3] => { results := [.lit (.bool false)], args := [d1, d2, d3] }
  | _ => none }
def TrigRoomWrongFalsely : Prop := trigRoomRow.holds Tryz.pinned (OpenSpec.ofChange trigRoomWrong)

/- THE SECOND FORM. 'bulk': how many values and letters a reading holds, each counted each time it is reached (what is shared counts as often as it is met; a slice's spare places count too). A statement '..UptoSaid' is the law's where the arguments, and the package variables that the reading takes, are together of bulk at most 1048576: NARROWER than '..Said'. Prove '..Said' where nothing that the law and all that it calls make is longer than what came in: it says more and counts as full. Else prove '..UptoSaid'. A law counts once. -/
mutual
def uptoBulk {H : Type} : DataW H → Nat
  | .lit (.string bytes) => bytes.length + 1
  | .lit _ => 1
  | .nil => 1
  | .ptr d => uptoBulk d + 1
  | .slice elems spare => uptoBulkAll elems + uptoBulkAll spare + 1
  | .agg parts => uptoBulkAll parts + 1
  | .iface _ d => uptoBulk d + 1
  | .map entries => uptoBulkEntries entries + 1
  | .held _ => 1
def uptoBulkAll {H : Type} : List (DataW H) → Nat
  | [] => 0
  | d :: r => uptoBulk d + uptoBulkAll r
def uptoBulkEntries {H : Type} : List (Lit × DataW H) → Nat
  | [] => 0
  | x :: r => uptoBulkEntry x + uptoBulkEntries r
def uptoBulkEntry {H : Type} : Lit × DataW H → Nat
  | (.string bytes, d) => bytes.length + uptoBulk d + 1
  | (_, d) => uptoBulk d + 1
 end
def uptoSmall : (H : Type) → List (DataW H) → Bool := fun _ ds => decide (uptoBulkAll ds ≤ 1048576)
def OpenSpec.upto (s : _root_.Go.ChangeSpec) : _root_.Go.OpenSpec := { _root_.Go.OpenSpec.ofChange s with cond := some uptoSmall }

/-- 'hydralaw13.TrigOrders', WHERE WHAT IT READS IS OF BULK AT MOST 1048576: true; the input reads as it did. -/
def trigOrdersUptoRow : OpenClaim := { program := "ytookicopjphmnaagreat", sum := "a5284eb296d02085257b339b70fa185d9ec1a658d6bc9d72baeb20c092300a81", func := "hydra/hydralaw13.TrigOrders", spec := "trigOrders", inPlace := ["slices.overlaps[int]"], unfollowed := true, recurses := true, plainKeys := false, apart := false, narrowed := true }
def TrigOrdersUptoSaid : Prop := trigOrdersUptoRow.holds Tryz.pinned (OpenSpec.upto trigOrdersSpec)

/-- 'hydralaw13.TrigFires', WHERE WHAT IT READS IS OF BULK AT MOST 1048576: true; the input reads as it did. -/
def trigFiresUptoRow : OpenClaim := { program := "ytookicopjphmnaagreat", sum := "a5284eb296d02085257b339b70fa185d9ec1a658d6bc9d72baeb20c092300a81", func := "hydra/hydralaw13.TrigFires", spec := "trigFires", inPlace := ["slices.overlaps[int]"], unfollowed := true, recurses := true, plainKeys := false, apart := false, narrowed := true }
def TrigFiresUptoSaid : Prop := trigFiresUptoRow.holds Tryz.pinned (OpenSpec.upto trigFiresSpec)

/-- 'hydralaw13.TrigDone', WHERE WHAT IT READS IS OF BULK AT MOST 1048576: true; the input reads as it did. -/
def trigDoneUptoRow : OpenClaim := { program := "ytookicopjphmnaagreat", sum := "a5284eb296d02085257b339b70fa185d9ec1a658d6bc9d72baeb20c092300a81", func := "hydra/hydralaw13.TrigDone", spec := "trigDone", inPlace := ["slices.overlaps[int]"], unfollowed := true, recurses := true, plainKeys := false, apart := false, narrowed := true }
def TrigDoneUptoSaid : Prop := trigDoneUptoRow.holds Tryz.pinned (OpenSpec.upto trigDoneSpec)

/-- 'hydralaw13.TrigRoom', WHERE WHAT IT READS IS OF BULK AT MOST 1048576: true; the input reads as it did. -/
def trigRoomUptoRow : OpenClaim := { program := "ytookicopjphmnaagreat", sum := "a5284eb296d02085257b339b70fa185d9ec1a658d6bc9d72baeb20c092300a81", func := "hydra/hydralaw13.TrigRoom", spec := "trigRoom", inPlace := ["slices.overlaps[int]"], unfollowed := true, recurses := true, plainKeys := false, apart := false, narrowed := true }
def TrigRoomUptoSaid : Prop := trigRoomUptoRow.holds Tryz.pinned (OpenSpec.upto trigRoomSpec)

end Rows
end Go.Proofs.YtookicopjphmnaaGreat

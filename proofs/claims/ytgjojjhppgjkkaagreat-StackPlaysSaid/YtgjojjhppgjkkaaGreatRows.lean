/-
  No cell of these rows narrows 'for every input' (looked for: loops, veiled, ifaces, maps, wideKeys, modest, calm, conditions, laid).
  DERIVED. THE GIVEN ROWS OF THIS SEAT. 5 by the template 'for every input the law returns true; each argument reads behind the call as it read before'; 0 by the template 'total and deterministic' (their statements: YtgjojjhppgjkkaaGreatTotals.lean).
  GIVEN WITH THE SEED: the statements are not yours to turn. If you find one false, say at which input.
  Laid BY PROGRAM, IN A SANDBOX (cutbox-rows.mjs): the forced cells as the released guide's own fill.sh prints them over the translation e6917cbacc77e7de… (all of the seat's roots in one cut). By AI agents, Wed Nov 11 2026. No macro, syntax, notation, axiom, sorry.
-/
import Derived.Test.YtgjojjhppgjkkaaGreatChecked
import GoSem.Claim
import GoSem.ClaimJoined
import GoSem.ClaimMapViews
import Derived.JoinedTies
import Derived.KernelRfl
namespace Go.Proofs.YtgjojjhppgjkkaaGreat
/- THE CELL 'sum', in the pinned program and in every row, IS THE sha256 OF THE DUMP (.gsa) THAT YtgjojjhppgjkkaaGreatProg.lean LOADS. Nothing in Lean hashes anything: it is a label: what it is worth is what the hold of that sum in a sandbox is worth. -/
noncomputable def Tryz.pinned : Pinned := { name := "ytgjojjhppgjkkaagreat", sum := "e6917cbacc77e7defcc2642d297c023fbca436e6d22d020ae332c5d959d4a885", checked := Tryz.checked }
namespace Rows
def none {H : Type} : Left H := { results := [], args := [] }

/-- 'hydralaw11.EffectDoes': WHATEVER THE INPUT: true; the input reads as it did. -/
def effectDoesSpec : ChangeSpec := { name := "effectDoes", fn := fun _ => fun
  | [d1, d2, d3] => { results := [.lit (.bool true)], args := [d1, d2, d3] }
  | _ => none }
def effectDoesRow : OpenClaim := { program := "ytgjojjhppgjkkaagreat", sum := "e6917cbacc77e7defcc2642d297c023fbca436e6d22d020ae332c5d959d4a885", func := "hydra/hydralaw11.EffectDoes", spec := "effectDoes", inPlace := ["slices.overlaps[int]"], unfollowed := true, recurses := true, plainKeys := false, apart := false }
def EffectDoesSaid : Prop := effectDoesRow.holds Tryz.pinned (OpenSpec.ofChange effectDoesSpec)

/-- ITS FALSE NEIGHBOUR: 'it returns false'. Refute it at one input. -/
def effectDoesWrong : ChangeSpec := { name := "effectDoes", fn := fun _ => fun
  | [d1, d2, d3] => { results := [.lit (.bool false)], args := [d1, d2, d3] }
  | _ => none }
def EffectDoesWrongFalsely : Prop := effectDoesRow.holds Tryz.pinned (OpenSpec.ofChange effectDoesWrong)

/-- 'hydralaw12.StackPlays': WHATEVER THE INPUT: true; the input reads as it did. -/
def stackPlaysSpec : ChangeSpec := { name := "stackPlays", fn := fun _ => fun
  | [d] => { results := [.lit (.bool true)], args := [d] }
  | _ => none }
def stackPlaysRow : OpenClaim := { program := "ytgjojjhppgjkkaagreat", sum := "e6917cbacc77e7defcc2642d297c023fbca436e6d22d020ae332c5d959d4a885", func := "hydra/hydralaw12.StackPlays", spec := "stackPlays", inPlace := ["slices.overlaps[int]"], unfollowed := true, recurses := true, plainKeys := false, apart := false }
def StackPlaysSaid : Prop := stackPlaysRow.holds Tryz.pinned (OpenSpec.ofChange stackPlaysSpec)

/-- ITS FALSE NEIGHBOUR: 'it returns false'. Refute it at one input. -/
def stackPlaysWrong : ChangeSpec := { name := "stackPlays", fn := fun _ => fun
  | [d] => { results := [.lit (.bool false)], args := [d] }
  | _ => none }
def StackPlaysWrongFalsely : Prop := stackPlaysRow.holds Tryz.pinned (OpenSpec.ofChange stackPlaysWrong)

/-- 'hydralaw12.StackResolves': WHATEVER THE INPUT: true; the input reads as it did. -/
def stackResolvesSpec : ChangeSpec := { name := "stackResolves", fn := fun _ => fun
  | [d1, d2, d3] => { results := [.lit (.bool true)], args := [d1, d2, d3] }
  | _ => none }
def stackResolvesRow : OpenClaim := { program := "ytgjojjhppgjkkaagreat", sum := "e6917cbacc77e7defcc2642d297c023fbca436e6d22d020ae332c5d959d4a885", func := "hydra/hydralaw12.StackResolves", spec := "stackResolves", inPlace := ["slices.overlaps[int]"], unfollowed := true, recurses := true, plainKeys := false, apart := false }
def StackResolvesSaid : Prop := stackResolvesRow.holds Tryz.pinned (OpenSpec.ofChange stackResolvesSpec)

/-- ITS FALSE NEIGHBOUR: 'it returns false'. Refute it at one input. -/
def stackResolvesWrong : ChangeSpec := { name := "stackResolves", fn := fun _ => fun
  | [d1, d2, d3] => { results := [.lit (.bool false)], args := [d1, d2, d3] }
  | _ => none }
def StackResolvesWrongFalsely : Prop := stackResolvesRow.holds Tryz.pinned (OpenSpec.ofChange stackResolvesWrong)

/-- 'hydralaw12.StackNone': WHATEVER THE INPUT: true; the input reads as it did. -/
def stackNoneSpec : ChangeSpec := { name := "stackNone", fn := fun _ => fun
  | [d1, d2] => { results := [.lit (.bool true)], args := [d1, d2] }
  | _ => none }
def stackNoneRow : OpenClaim := { program := "ytgjojjhppgjkkaagreat", sum := "e6917cbacc77e7defcc2642d297c023fbca436e6d22d020ae332c5d959d4a885", func := "hydra/hydralaw12.StackNone", spec := "stackNone", inPlace := ["slices.overlaps[int]"], unfollowed := true, recurses := true, plainKeys := false, apart := false }
def StackNoneSaid : Prop := stackNoneRow.holds Tryz.pinned (OpenSpec.ofChange stackNoneSpec)

/-- ITS FALSE NEIGHBOUR: 'it returns false'. Refute it at one input. -/
def stackNoneWrong : ChangeSpec := { name := "stackNone", fn := fun _ => fun
  | [d1, d2] => { results := [.lit (.bool false)], args := [d1, d2] }
  | _ => none }
def StackNoneWrongFalsely : Prop := stackNoneRow.holds Tryz.pinned (OpenSpec.ofChange stackNoneWrong)

/-- 'hydralaw12.StackOrder': WHATEVER THE INPUT: true; the input reads as it did. -/
def stackOrderSpec : ChangeSpec := { name := "stackOrder", fn := fun _ => fun
  | [d1, d2] => { results := [.lit (.bool true)], args := [d1, d2] }
  | _ => none }
def stackOrderRow : OpenClaim := { program := "ytgjojjhppgjkkaagreat", sum := "e6917cbacc77e7defcc2642d297c023fbca436e6d22d020ae332c5d959d4a885", func := "hydra/hydralaw12.StackOrder", spec := "stackOrder", inPlace := ["slices.overlaps[int]"], unfollowed := true, recurses := true, plainKeys := false, apart := false }
def StackOrderSaid : Prop := stackOrderRow.holds Tryz.pinned (OpenSpec.ofChange stackOrderSpec)

/-- ITS FALSE NEIGHBOUR: 'it returns false'. Refute it at one input. -/
def stackOrderWrong : ChangeSpec := { name := "stackOrder", fn := fun _ => fun
  | [d1, d2] => { results := [.lit (.bool false)], args := [d1, d2] }
  | _ => none }
def StackOrderWrongFalsely : Prop := stackOrderRow.holds Tryz.pinned (OpenSpec.ofChange stackOrderWrong)

/- THE SECOND FORM. 'bulk': how many values and letters a reading holds, each counted each time it is reached (what is shared counts as often as it is met; a slice's spare places count too). A statement '..UptoSaid' is the law's where the arguments, and the package variables that the reading takes, are together of bulk at most 1048576: NARROWER than '..Said'. Prove '..Said' where nothing that the law and all that it calls make is longer than what came in: it says more and counts as full. Else prove '..UptoSaid'. A law counts once. -/
mutual
def uptoBulk {H : Type} : DataW H → Nat
  | .lit (.string bytes) => bytes.length + 1
  | .lit _ => 1
  | .nil => 1
  | .ptr d => uptoBulk d + 1
  | .slice elems spare => uptoBulkAll elems + uptoBulkAll spare + 1
  | .agg parts => uptoBulkAll parts + 1
  | .iface _ d => uptoBulk d + 1
  | .map entries => uptoBulkEntries entries + 1
  | .held _ => 1
def uptoBulkAll {H : Type} : List (DataW H) → Nat
  | [] => 0
  | d :: r => uptoBulk d + uptoBulkAll r
def uptoBulkEntries {H : Type} : List (Lit × DataW H) → Nat
  | [] => 0
  | x :: r => uptoBulkEntry x + uptoBulkEntries r
def uptoBulkEntry {H : Type} : Lit × DataW H → Nat
  | (.string bytes, d) => bytes.length + uptoBulk d + 1
  | (_, d) => uptoBulk d + 1
 end
def uptoSmall : (H : Type) → List (DataW H) → Bool := fun _ ds => decide (uptoBulkAll ds ≤ 1048576)
def OpenSpec.upto (s : _root_.Go.ChangeSpec) : _root_.Go.OpenSpec := { _root_.Go.OpenSpec.ofChange s with cond := some uptoSmall }

/-- 'hydralaw11.EffectDoes', WHERE WHAT IT READS IS OF BULK AT MOST 1048576: true; the input reads as it did. -/
def effectDoesUptoRow : OpenClaim := { program := "ytgjojjhppgjkkaagreat", sum := "e6917cbacc77e7defcc2642d297c023fbca436e6d22d020ae332c5d959d4a885", func := "hydra/hydralaw11.EffectDoes", spec := "effectDoes", inPlace := ["slices.overlaps[int]"], unfollowed := true, recurses := true, plainKeys := false, apart := false, narrowed := true }
def EffectDoesUptoSaid : Prop := effectDoesUptoRow.holds Tryz.pinned (OpenSpec.upto effectDoesSpec)

/-- 'hydralaw12.StackPlays', WHERE WHAT IT READS IS OF BULK AT MOST 1048576: true; the input reads as it did. -/
def stackPlaysUptoRow : OpenClaim := { program := "ytgjojjhppgjkkaagreat", sum := "e6917cbacc77e7defcc2642d297c023fbca436e6d22d020ae332c5d959d4a885", func := "hydra/hydralaw12.StackPlays", spec := "stackPlays", inPlace := ["slices.overlaps[int]"], unfollowed := true, recurses := true, plainKeys := false, apart := false, narrowed := true }
def StackPlaysUptoSaid : Prop := stackPlaysUptoRow.holds Tryz.pinned (OpenSpec.upto stackPlaysSpec)

/-- 'hydralaw12.StackResolves', WHERE WHAT IT READS IS OF BULK AT MOST 1048576: true; the input reads as it did. -/
def stackResolvesUptoRow : OpenClaim := { program := "ytgjojjhppgjkkaagreat", sum := "e6917cbacc77e7defcc2642d297c023fbca436e6d22d020ae332c5d959d4a885", func := "hydra/hydralaw12.StackResolves", spec := "stackResolves", inPlace := ["slices.overlaps[int]"], unfollowed := true, recurses := true, plainKeys := false, apart := false, narrowed := true }
def StackResolvesUptoSaid : Prop := stackResolvesUptoRow.holds Tryz.pinned (OpenSpec.upto stackResolvesSpec)

/-- 'hydralaw12.StackNone', WHERE WHAT IT READS IS OF BULK AT MOST 1048576: true; the input reads as it did. -/
def stackNoneUptoRow : OpenClaim := { program := "ytgjojjhppgjkkaagreat", sum := "e6917cbacc77e7defcc2642d297c023fbca436e6d22d020ae332c5d959d4a885", func := "hydra/hydralaw12.StackNone", spec := "stackNone", inPlace := ["slices.overlaps[int]"], unfollowed := true, recurses := true, plainKeys := false, apart := false, narrowed := true }
def StackNoneUptoSaid : Prop := stackNoneUptoRow.holds Tryz.pinned (OpenSpec.upto stackNoneSpec)

/-- 'hydralaw12.StackOrder', WHERE WHAT IT READS IS OF BULK AT MOST 1048576: true; the input reads as it did. -/
def stackOrderUptoRow : OpenClaim := { program := "ytgjojjhppgjkkaagreat", sum := "e6917cbacc77e7defcc2642d297c023fbca436e6d22d020ae332c5d959d4a885", func := "hydra/hydralaw12.StackOrder", spec := "stackOrder", inPlace := ["slices.overlaps[int]"], unfollowed := true, recurses := true, plainKeys := false, apart := false, narrowed := true }
def StackOrderUptoSaid : Prop := stackOrderUptoRow.holds Tryz.pinned (OpenSpec.upto stackOrderSpec)

end Rows
end Go.Proofs.YtgjojjhppgjkkaaGreat

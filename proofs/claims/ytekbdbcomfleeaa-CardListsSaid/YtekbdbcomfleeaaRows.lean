/-
  No cell of these rows narrows 'for every input' (looked for: loops, veiled, ifaces, maps, wideKeys, modest, calm, conditions, laid).
  DERIVED. THE GIVEN ROWS OF THIS SEAT. 5 by the template 'for every input the law returns true; each argument reads behind the call as it read before'; 0 by the template 'total and deterministic' (their statements: YtekbdbcomfleeaaTotals.lean).
  GIVEN WITH THE SEED: the statements are not yours to turn. If you find one false, say at which input.
  Laid BY PROGRAM, IN A SANDBOX (cutbox-rows.mjs): the forced cells as the released guide's own fill.sh prints them over the translation f45087a3dae315ea… (all of the seat's roots in one cut). By AI agents, Wed Nov 11 2026. No macro, syntax, notation, axiom, sorry.
-/
import Derived.Test.YtekbdbcomfleeaaChecked
import GoSem.Claim
import GoSem.ClaimJoined
import GoSem.ClaimMapViews
import Derived.JoinedTies
import Derived.KernelRfl
namespace Go.Proofs.Ytekbdbcomfleeaa
/- THE CELL 'sum', in the pinned program and in every row, IS THE sha256 OF THE DUMP (.gsa) THAT YtekbdbcomfleeaaProg.lean LOADS. Nothing in Lean hashes anything: it is a label: what it is worth is what the hold of that sum in a sandbox is worth. -/
noncomputable def Try.pinned : Pinned := { name := "ytekbdbcomfleeaa", sum := "f45087a3dae315eaa6be00d48959cb4545a575238abbf0ab14cfd08dd2a12490", checked := Try.checked }
namespace Rows
def none {H : Type} : Left H := { results := [], args := [] }

/-- 'hydralaw02.CardPuts': WHATEVER THE INPUT: true; the input reads as it did. -/
def cardPutsSpec : ChangeSpec := { name := "cardPuts", fn := fun _ => fun
  | [d1, d2, d3] => { results := [.lit (.bool true)], args := [d1, d2, d3] }
  | _ => none }
def cardPutsRow : OpenClaim := { program := "ytekbdbcomfleeaa", sum := "f45087a3dae315eaa6be00d48959cb4545a575238abbf0ab14cfd08dd2a12490", func := "hydra/hydralaw02.CardPuts", spec := "cardPuts", inPlace := ["internal/abi.NoEscape"], unfollowed := true, recurses := true, apart := false }
def CardPutsSaid : Prop := cardPutsRow.holds Try.pinned (OpenSpec.ofChange cardPutsSpec)

/-- ITS FALSE NEIGHBOUR: 'it returns false'. Refute it at one input. -/
def cardPutsWrong : ChangeSpec := { name := "cardPuts", fn := fun _ => fun
  | [d1, d2, d3] => { results := [.lit (.bool false)], args := [d1, d2, d3] }
  | _ => none }
def CardPutsWrongFalsely : Prop := cardPutsRow.holds Try.pinned (OpenSpec.ofChange cardPutsWrong)

/-- 'hydralaw02.CardGets': WHATEVER THE INPUT: true; the input reads as it did. -/
def cardGetsSpec : ChangeSpec := { name := "cardGets", fn := fun _ => fun
  | [d] => { results := [.lit (.bool true)], args := [d] }
  | _ => none }
def cardGetsRow : OpenClaim := { program := "ytekbdbcomfleeaa", sum := "f45087a3dae315eaa6be00d48959cb4545a575238abbf0ab14cfd08dd2a12490", func := "hydra/hydralaw02.CardGets", spec := "cardGets", inPlace := ["internal/abi.NoEscape"], unfollowed := true, recurses := true, apart := false }
def CardGetsSaid : Prop := cardGetsRow.holds Try.pinned (OpenSpec.ofChange cardGetsSpec)

/-- ITS FALSE NEIGHBOUR: 'it returns false'. Refute it at one input. -/
def cardGetsWrong : ChangeSpec := { name := "cardGets", fn := fun _ => fun
  | [d] => { results := [.lit (.bool false)], args := [d] }
  | _ => none }
def CardGetsWrongFalsely : Prop := cardGetsRow.holds Try.pinned (OpenSpec.ofChange cardGetsWrong)

/-- 'hydralaw02.CardSame': WHATEVER THE INPUT: true; the input reads as it did. -/
def cardSameSpec : ChangeSpec := { name := "cardSame", fn := fun _ => fun
  | [d1, d2] => { results := [.lit (.bool true)], args := [d1, d2] }
  | _ => none }
def cardSameRow : OpenClaim := { program := "ytekbdbcomfleeaa", sum := "f45087a3dae315eaa6be00d48959cb4545a575238abbf0ab14cfd08dd2a12490", func := "hydra/hydralaw02.CardSame", spec := "cardSame", inPlace := ["internal/abi.NoEscape"], unfollowed := true, recurses := true, apart := false }
def CardSameSaid : Prop := cardSameRow.holds Try.pinned (OpenSpec.ofChange cardSameSpec)

/-- ITS FALSE NEIGHBOUR: 'it returns false'. Refute it at one input. -/
def cardSameWrong : ChangeSpec := { name := "cardSame", fn := fun _ => fun
  | [d1, d2] => { results := [.lit (.bool false)], args := [d1, d2] }
  | _ => none }
def CardSameWrongFalsely : Prop := cardSameRow.holds Try.pinned (OpenSpec.ofChange cardSameWrong)

/-- 'hydralaw02.CardKinds': WHATEVER THE INPUT: true; the input reads as it did. -/
def cardKindsSpec : ChangeSpec := { name := "cardKinds", fn := fun _ => fun
  | [d] => { results := [.lit (.bool true)], args := [d] }
  | _ => none }
def cardKindsRow : OpenClaim := { program := "ytekbdbcomfleeaa", sum := "f45087a3dae315eaa6be00d48959cb4545a575238abbf0ab14cfd08dd2a12490", func := "hydra/hydralaw02.CardKinds", spec := "cardKinds", inPlace := ["internal/abi.NoEscape"], unfollowed := true, recurses := true, apart := false }
def CardKindsSaid : Prop := cardKindsRow.holds Try.pinned (OpenSpec.ofChange cardKindsSpec)

/-- ITS FALSE NEIGHBOUR: 'it returns false'. Refute it at one input. -/
def cardKindsWrong : ChangeSpec := { name := "cardKinds", fn := fun _ => fun
  | [d] => { results := [.lit (.bool false)], args := [d] }
  | _ => none }
def CardKindsWrongFalsely : Prop := cardKindsRow.holds Try.pinned (OpenSpec.ofChange cardKindsWrong)

/-- 'hydralaw02.CardLists': WHATEVER THE INPUT: true; the input reads as it did. -/
def cardListsSpec : ChangeSpec := { name := "cardLists", fn := fun _ => fun
  | [d1, d2] => { results := [.lit (.bool true)], args := [d1, d2] }
  | _ => none }
def cardListsRow : OpenClaim := { program := "ytekbdbcomfleeaa", sum := "f45087a3dae315eaa6be00d48959cb4545a575238abbf0ab14cfd08dd2a12490", func := "hydra/hydralaw02.CardLists", spec := "cardLists", inPlace := ["internal/abi.NoEscape"], unfollowed := true, recurses := true, apart := false }
def CardListsSaid : Prop := cardListsRow.holds Try.pinned (OpenSpec.ofChange cardListsSpec)

/-- ITS FALSE NEIGHBOUR: 'it returns false'. Refute it at one input. -/
def cardListsWrong : ChangeSpec := { name := "cardLists", fn := fun _ => fun
  | [d1, d2] => { results := [.lit (.bool false)], args := [d1, d2] }
  | _ => none }
def CardListsWrongFalsely : Prop := cardListsRow.holds Try.pinned (OpenSpec.ofChange cardListsWrong)

/- THE SECOND FORM. 'bulk': how many values and letters a reading holds, each counted each time it is reached (what is shared counts as often as it is met; a slice's spare places count too). A statement '..UptoSaid' is the law's where the arguments, and the package variables that the reading takes, are together of bulk at most 1048576: NARROWER than '..Said'. Prove '..Said' where nothing that the law and all that it calls make is longer than what came in: it says more and counts as full. Else prove '..UptoSaid'. A law counts once. -/
mutual
def uptoBulk {H : Type} : DataW H → Nat
  | .lit (.string bytes) => bytes.length + 1
  | .lit _ => 1
  | .nil => 1
  | .ptr d => uptoBulk d + 1
  | .slice elems spare => uptoBulkAll elems + uptoBulkAll spare + 1
  | .agg parts => uptoBulkAll parts + 1
  | .iface _ d => uptoBulk d + 1
  | .map entries => uptoBulkEntries entries + 1
  | .held _ => 1
def uptoBulkAll {H : Type} : List (DataW H) → Nat
  | [] => 0
  | d :: r => uptoBulk d + uptoBulkAll r
def uptoBulkEntries {H : Type} : List (Lit × DataW H) → Nat
  | [] => 0
  | x :: r => uptoBulkEntry x + uptoBulkEntries r
def uptoBulkEntry {H : Type} : Lit × DataW H → Nat
  | (.string bytes, d) => bytes.length + uptoBulk d + 1
  | (_, d) => uptoBulk d + 1
 end
def uptoSmall : (H : Type) → List (DataW H) → Bool := fun _ ds => decide (uptoBulkAll ds ≤ 1048576)
def OpenSpec.upto (s : _root_.Go.ChangeSpec) : _root_.Go.OpenSpec := { _root_.Go.OpenSpec.ofChange s with cond := some uptoSmall }

/-- 'hydralaw02.CardPuts', WHERE WHAT IT READS IS OF BULK AT MOST 1048576: true; the input reads as it did. -/
def cardPutsUptoRow : OpenClaim := { program := "ytekbdbcomfleeaa", sum := "f45087a3dae315eaa6be00d48959cb4545a575238abbf0ab14cfd08dd2a12490", func := "hydra/hydralaw02.CardPuts", spec := "cardPuts", inPlace := ["internal/abi.NoEscape"], unfollowed := true, recurses := true, apart := false, narrowed := true }
def CardPutsUptoSaid : Prop := cardPutsUptoRow.holds Try.pinned (OpenSpec.upto cardPutsSpec)

/-- 'hydralaw02.CardGets', WHERE WHAT IT READS IS OF BULK AT MOST 1048576: true; the input reads as it did. -/
def cardGetsUptoRow : OpenClaim := { program := "ytekbdbcomfleeaa", sum := "f45087a3dae315eaa6be00d48959cb4545a575238abbf0ab14cfd08dd2a12490", func := "hydra/hydralaw02.CardGets", spec := "cardGets", inPlace := ["internal/abi.NoEscape"], unfollowed := true, recurses := true, apart := false, narrowed := true }
def CardGetsUptoSaid : Prop := cardGetsUptoRow.holds Try.pinned (OpenSpec.upto cardGetsSpec)

/-- 'hydralaw02.CardSame', WHERE WHAT IT READS IS OF BULK AT MOST 1048576: true; the input reads as it did. -/
def cardSameUptoRow : OpenClaim := { program := "ytekbdbcomfleeaa", sum := "f45087a3dae315eaa6be00d48959cb4545a575238abbf0ab14cfd08dd2a12490", func := "hydra/hydralaw02.CardSame", spec := "cardSame", inPlace := ["internal/abi.NoEscape"], unfollowed := true, recurses := true, apart := false, narrowed := true }
def CardSameUptoSaid : Prop := cardSameUptoRow.holds Try.pinned (OpenSpec.upto cardSameSpec)

/-- 'hydralaw02.CardKinds', WHERE WHAT IT READS IS OF BULK AT MOST 1048576: true; the input reads as it did. -/
def cardKindsUptoRow : OpenClaim := { program := "ytekbdbcomfleeaa", sum := "f45087a3dae315eaa6be00d48959cb4545a575238abbf0ab14cfd08dd2a12490", func := "hydra/hydralaw02.CardKinds", spec := "cardKinds", inPlace := ["internal/abi.NoEscape"], unfollowed := true, recurses := true, apart := false, narrowed := true }
def CardKindsUptoSaid : Prop := cardKindsUptoRow.holds Try.pinned (OpenSpec.upto cardKindsSpec)

/-- 'hydralaw02.CardLists', WHERE WHAT IT READS IS OF BULK AT MOST 1048576: true; the input reads as it did. -/
def cardListsUptoRow : OpenClaim := { program := "ytekbdbcomfleeaa", sum := "f45087a3dae315eaa6be00d48959cb4545a575238abbf0ab14cfd08dd2a12490", func := "hydra/hydralaw02.CardLists", spec := "cardLists", inPlace := ["internal/abi.NoEscape"], unfollowed := true, recurses := true, apart := false, narrowed := true }
def CardListsUptoSaid : Prop := cardListsUptoRow.holds Try.pinned (OpenSpec.upto cardListsSpec)

end Rows
end Go.Proofs.Ytekbdbcomfleeaa

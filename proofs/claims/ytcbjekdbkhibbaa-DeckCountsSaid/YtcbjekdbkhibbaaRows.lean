/-
  No cell of these rows narrows 'for every input' (looked for: loops, veiled, ifaces, maps, wideKeys, modest, calm, conditions, laid).
  DERIVED. THE GIVEN ROWS OF THIS SEAT. 14 by the template 'for every input the law returns true; each argument reads behind the call as it read before'; 0 by the template 'total and deterministic' (their statements: YtcbjekdbkhibbaaTotals.lean).
  GIVEN WITH THE SEED: the statements are not yours to turn. If you find one false, say at which input.
  Laid BY PROGRAM, IN A SANDBOX (cutbox-rows.mjs): the forced cells as the released guide's own fill.sh prints them over the translation 2aac015b062c94fe… (all of the seat's roots in one cut). By AI agents, Wed Nov 11 2026. No macro, syntax, notation, axiom, sorry.
-/
import Derived.Test.YtcbjekdbkhibbaaChecked
import GoSem.Claim
import GoSem.ClaimJoined
import GoSem.ClaimMapViews
import Derived.JoinedTies
import Derived.KernelRfl
namespace Go.Proofs.Ytcbjekdbkhibbaa
/- THE CELL 'sum', in the pinned program and in every row, IS THE sha256 OF THE DUMP (.gsa) THAT YtcbjekdbkhibbaaProg.lean LOADS. Nothing in Lean hashes anything: it is a label: what it is worth is what the hold of that sum in a sandbox is worth. -/
noncomputable def Try.pinned : Pinned := { name := "ytcbjekdbkhibbaa", sum := "2aac015b062c94feb16d31ad2873775a287080fb1670d88adca47577257ccc47", checked := Try.checked }
namespace Rows
def none {H : Type} : Left H := { results := [], args := [] }

/-- 'hydralaw01.OctetNums': WHATEVER THE INPUT: true; the input reads as it did. -/
def octetNumsSpec : ChangeSpec := { name := "octetNums", fn := fun _ => fun
  | [d1, d2, d3] => { results := [.lit (.bool true)], args := [d1, d2, d3] }
  | _ => none }
def octetNumsRow : OpenClaim := { program := "ytcbjekdbkhibbaa", sum := "2aac015b062c94feb16d31ad2873775a287080fb1670d88adca47577257ccc47", func := "hydra/hydralaw01.OctetNums", spec := "octetNums", inPlace := ["internal/abi.NoEscape"], unfollowed := true, recurses := true, apart := false }
def OctetNumsSaid : Prop := octetNumsRow.holds Try.pinned (OpenSpec.ofChange octetNumsSpec)

/-- ITS FALSE NEIGHBOUR: 'it returns false'. Refute it at one input. -/
def octetNumsWrong : ChangeSpec := { name := "octetNums", fn := fun _ => fun
  | [d1, d2, d3] => { results := [.lit (.bool false)], args := [d1, d2, d3] }
  | _ => none }
def OctetNumsWrongFalsely : Prop := octetNumsRow.holds Try.pinned (OpenSpec.ofChange octetNumsWrong)

/-- 'hydralaw01.OctetAll': WHATEVER THE INPUT: true; the input reads as it did. -/
def octetAllSpec : ChangeSpec := { name := "octetAll", fn := fun _ => fun
  | [d1, d2, d3] => { results := [.lit (.bool true)], args := [d1, d2, d3] }
  | _ => none }
def octetAllRow : OpenClaim := { program := "ytcbjekdbkhibbaa", sum := "2aac015b062c94feb16d31ad2873775a287080fb1670d88adca47577257ccc47", func := "hydra/hydralaw01.OctetAll", spec := "octetAll", inPlace := ["internal/abi.NoEscape"], unfollowed := true, recurses := true, apart := false }
def OctetAllSaid : Prop := octetAllRow.holds Try.pinned (OpenSpec.ofChange octetAllSpec)

/-- ITS FALSE NEIGHBOUR: 'it returns false'. Refute it at one input. -/
def octetAllWrong : ChangeSpec := { name := "octetAll", fn := fun _ => fun
  | [d1, d2, d3] => { results := [.lit (.bool false)], args := [d1, d2, d3] }
  | _ => none }
def OctetAllWrongFalsely : Prop := octetAllRow.holds Try.pinned (OpenSpec.ofChange octetAllWrong)

/-- 'hydralaw01.OctetCuts': WHATEVER THE INPUT: true; the input reads as it did. -/
def octetCutsSpec : ChangeSpec := { name := "octetCuts", fn := fun _ => fun
  | [d1, d2, d3] => { results := [.lit (.bool true)], args := [d1, d2, d3] }
  | _ => none }
def octetCutsRow : OpenClaim := { program := "ytcbjekdbkhibbaa", sum := "2aac015b062c94feb16d31ad2873775a287080fb1670d88adca47577257ccc47", func := "hydra/hydralaw01.OctetCuts", spec := "octetCuts", inPlace := ["internal/abi.NoEscape"], unfollowed := true, recurses := true, apart := false }
def OctetCutsSaid : Prop := octetCutsRow.holds Try.pinned (OpenSpec.ofChange octetCutsSpec)

/-- ITS FALSE NEIGHBOUR: 'it returns false'. Refute it at one input. -/
def octetCutsWrong : ChangeSpec := { name := "octetCuts", fn := fun _ => fun
  | [d1, d2, d3] => { results := [.lit (.bool false)], args := [d1, d2, d3] }
  | _ => none }
def OctetCutsWrongFalsely : Prop := octetCutsRow.holds Try.pinned (OpenSpec.ofChange octetCutsWrong)

/-- 'hydralaw01.OctetMaps': WHATEVER THE INPUT: true; the input reads as it did. -/
def octetMapsSpec : ChangeSpec := { name := "octetMaps", fn := fun _ => fun
  | [d1, d2, d3] => { results := [.lit (.bool true)], args := [d1, d2, d3] }
  | _ => none }
def octetMapsRow : OpenClaim := { program := "ytcbjekdbkhibbaa", sum := "2aac015b062c94feb16d31ad2873775a287080fb1670d88adca47577257ccc47", func := "hydra/hydralaw01.OctetMaps", spec := "octetMaps", inPlace := ["internal/abi.NoEscape"], unfollowed := true, recurses := true, apart := false }
def OctetMapsSaid : Prop := octetMapsRow.holds Try.pinned (OpenSpec.ofChange octetMapsSpec)

/-- ITS FALSE NEIGHBOUR: 'it returns false'. Refute it at one input. -/
def octetMapsWrong : ChangeSpec := { name := "octetMaps", fn := fun _ => fun
  | [d1, d2, d3] => { results := [.lit (.bool false)], args := [d1, d2, d3] }
  | _ => none }
def OctetMapsWrongFalsely : Prop := octetMapsRow.holds Try.pinned (OpenSpec.ofChange octetMapsWrong)

/-- 'hydralaw02.CardPuts': WHATEVER THE INPUT: true; the input reads as it did. -/
def cardPutsSpec : ChangeSpec := { name := "cardPuts", fn := fun _ => fun
  | [d1, d2, d3] => { results := [.lit (.bool true)], args := [d1, d2, d3] }
  | _ => none }
def cardPutsRow : OpenClaim := { program := "ytcbjekdbkhibbaa", sum := "2aac015b062c94feb16d31ad2873775a287080fb1670d88adca47577257ccc47", func := "hydra/hydralaw02.CardPuts", spec := "cardPuts", inPlace := ["internal/abi.NoEscape"], unfollowed := true, recurses := true, apart := false }
def CardPutsSaid : Prop := cardPutsRow.holds Try.pinned (OpenSpec.ofChange cardPutsSpec)

/-- ITS FALSE NEIGHBOUR: 'it returns false'. Refute it at one input. -/
def cardPutsWrong : ChangeSpec := { name := "cardPuts", fn := fun _ => fun
  | [d1, d2, d3] => { results := [.lit (.bool false)], args := [d1, d2, d3] }
  | _ => none }
def CardPutsWrongFalsely : Prop := cardPutsRow.holds Try.pinned (OpenSpec.ofChange cardPutsWrong)

/-- 'hydralaw02.CardGets': WHATEVER THE INPUT: true; the input reads as it did. -/
def cardGetsSpec : ChangeSpec := { name := "cardGets", fn := fun _ => fun
  | [d] => { results := [.lit (.bool true)], args := [d] }
  | _ => none }
def cardGetsRow : OpenClaim := { program := "ytcbjekdbkhibbaa", sum := "2aac015b062c94feb16d31ad2873775a287080fb1670d88adca47577257ccc47", func := "hydra/hydralaw02.CardGets", spec := "cardGets", inPlace := ["internal/abi.NoEscape"], unfollowed := true, recurses := true, apart := false }
def CardGetsSaid : Prop := cardGetsRow.holds Try.pinned (OpenSpec.ofChange cardGetsSpec)

/-- ITS FALSE NEIGHBOUR: 'it returns false'. Refute it at one input. -/
def cardGetsWrong : ChangeSpec := { name := "cardGets", fn := fun _ => fun
  | [d] => { results := [.lit (.bool false)], args := [d] }
  | _ => none }
def CardGetsWrongFalsely : Prop := cardGetsRow.holds Try.pinned (OpenSpec.ofChange cardGetsWrong)

/-- 'hydralaw02.CardSame': WHATEVER THE INPUT: true; the input reads as it did. -/
def cardSameSpec : ChangeSpec := { name := "cardSame", fn := fun _ => fun
  | [d1, d2] => { results := [.lit (.bool true)], args := [d1, d2] }
  | _ => none }
def cardSameRow : OpenClaim := { program := "ytcbjekdbkhibbaa", sum := "2aac015b062c94feb16d31ad2873775a287080fb1670d88adca47577257ccc47", func := "hydra/hydralaw02.CardSame", spec := "cardSame", inPlace := ["internal/abi.NoEscape"], unfollowed := true, recurses := true, apart := false }
def CardSameSaid : Prop := cardSameRow.holds Try.pinned (OpenSpec.ofChange cardSameSpec)

/-- ITS FALSE NEIGHBOUR: 'it returns false'. Refute it at one input. -/
def cardSameWrong : ChangeSpec := { name := "cardSame", fn := fun _ => fun
  | [d1, d2] => { results := [.lit (.bool false)], args := [d1, d2] }
  | _ => none }
def CardSameWrongFalsely : Prop := cardSameRow.holds Try.pinned (OpenSpec.ofChange cardSameWrong)

/-- 'hydralaw02.CardKinds': WHATEVER THE INPUT: true; the input reads as it did. -/
def cardKindsSpec : ChangeSpec := { name := "cardKinds", fn := fun _ => fun
  | [d] => { results := [.lit (.bool true)], args := [d] }
  | _ => none }
def cardKindsRow : OpenClaim := { program := "ytcbjekdbkhibbaa", sum := "2aac015b062c94feb16d31ad2873775a287080fb1670d88adca47577257ccc47", func := "hydra/hydralaw02.CardKinds", spec := "cardKinds", inPlace := ["internal/abi.NoEscape"], unfollowed := true, recurses := true, apart := false }
def CardKindsSaid : Prop := cardKindsRow.holds Try.pinned (OpenSpec.ofChange cardKindsSpec)

/-- ITS FALSE NEIGHBOUR: 'it returns false'. Refute it at one input. -/
def cardKindsWrong : ChangeSpec := { name := "cardKinds", fn := fun _ => fun
  | [d] => { results := [.lit (.bool false)], args := [d] }
  | _ => none }
def CardKindsWrongFalsely : Prop := cardKindsRow.holds Try.pinned (OpenSpec.ofChange cardKindsWrong)

/-- 'hydralaw02.CardLists': WHATEVER THE INPUT: true; the input reads as it did. -/
def cardListsSpec : ChangeSpec := { name := "cardLists", fn := fun _ => fun
  | [d1, d2] => { results := [.lit (.bool true)], args := [d1, d2] }
  | _ => none }
def cardListsRow : OpenClaim := { program := "ytcbjekdbkhibbaa", sum := "2aac015b062c94feb16d31ad2873775a287080fb1670d88adca47577257ccc47", func := "hydra/hydralaw02.CardLists", spec := "cardLists", inPlace := ["internal/abi.NoEscape"], unfollowed := true, recurses := true, apart := false }
def CardListsSaid : Prop := cardListsRow.holds Try.pinned (OpenSpec.ofChange cardListsSpec)

/-- ITS FALSE NEIGHBOUR: 'it returns false'. Refute it at one input. -/
def cardListsWrong : ChangeSpec := { name := "cardLists", fn := fun _ => fun
  | [d1, d2] => { results := [.lit (.bool false)], args := [d1, d2] }
  | _ => none }
def CardListsWrongFalsely : Prop := cardListsRow.holds Try.pinned (OpenSpec.ofChange cardListsWrong)

/-- 'hydralaw03.DeckChecks': WHATEVER THE INPUT: true; the input reads as it did. -/
def deckChecksSpec : ChangeSpec := { name := "deckChecks", fn := fun _ => fun
  | [d1, d2] => { results := [.lit (.bool true)], args := [d1, d2] }
  | _ => none }
def deckChecksRow : OpenClaim := { program := "ytcbjekdbkhibbaa", sum := "2aac015b062c94feb16d31ad2873775a287080fb1670d88adca47577257ccc47", func := "hydra/hydralaw03.DeckChecks", spec := "deckChecks", unfollowed := true, recurses := true, apart := false }
def DeckChecksSaid : Prop := deckChecksRow.holds Try.pinned (OpenSpec.ofChange deckChecksSpec)

/-- ITS FALSE NEIGHBOUR: 'it returns false'. Refute it at one input. -/
def deckChecksWrong : ChangeSpec := { name := "deckChecks", fn := fun _ => fun
  | [d1, d2] => { results := [.lit (.bool false)], args := [d1, d2] }
  | _ => none }
def DeckChecksWrongFalsely : Prop := deckChecksRow.holds Try.pinned (OpenSpec.ofChange deckChecksWrong)

/-- 'hydralaw03.DeckOrder': WHATEVER THE INPUT: true; the input reads as it did. -/
def deckOrderSpec : ChangeSpec := { name := "deckOrder", fn := fun _ => fun
  | [d1, d2, d3] => { results := [.lit (.bool true)], args := [d1, d2, d3] }
  | _ => none }
def deckOrderRow : OpenClaim := { program := "ytcbjekdbkhibbaa", sum := "2aac015b062c94feb16d31ad2873775a287080fb1670d88adca47577257ccc47", func := "hydra/hydralaw03.DeckOrder", spec := "deckOrder", unfollowed := true, recurses := true, apart := false }
def DeckOrderSaid : Prop := deckOrderRow.holds Try.pinned (OpenSpec.ofChange deckOrderSpec)

/-- ITS FALSE NEIGHBOUR: 'it returns false'. Refute it at one input. -/
def deckOrderWrong : ChangeSpec := { name := "deckOrder", fn := fun _ => fun
  | [d1, d2, d3] => { results := [.lit (.bool false)], args := [d1, d2, d3] }
  | _ => none }
def DeckOrderWrongFalsely : Prop := deckOrderRow.holds Try.pinned (OpenSpec.ofChange deckOrderWrong)

/-- 'hydralaw03.DeckCounts': WHATEVER THE INPUT: true; the input reads as it did. -/
def deckCountsSpec : ChangeSpec := { name := "deckCounts", fn := fun _ => fun
  | [d1, d2] => { results := [.lit (.bool true)], args := [d1, d2] }
  | _ => none }
def deckCountsRow : OpenClaim := { program := "ytcbjekdbkhibbaa", sum := "2aac015b062c94feb16d31ad2873775a287080fb1670d88adca47577257ccc47", func := "hydra/hydralaw03.DeckCounts", spec := "deckCounts", unfollowed := true, recurses := true, apart := false }
def DeckCountsSaid : Prop := deckCountsRow.holds Try.pinned (OpenSpec.ofChange deckCountsSpec)

/-- ITS FALSE NEIGHBOUR: 'it returns false'. Refute it at one input. -/
def deckCountsWrong : ChangeSpec := { name := "deckCounts", fn := fun _ => fun
  | [d1, d2] => { results := [.lit (.bool false)], args := [d1, d2] }
  | _ => none }
def DeckCountsWrongFalsely : Prop := deckCountsRow.holds Try.pinned (OpenSpec.ofChange deckCountsWrong)

/-- 'hydralaw03.DeckCopies': WHATEVER THE INPUT: true; the input reads as it did. -/
def deckCopiesSpec : ChangeSpec := { name := "deckCopies", fn := fun _ => fun
  | [d1, d2, d3] => { results := [.lit (.bool true)], args := [d1, d2, d3] }
  | _ => none }
def deckCopiesRow : OpenClaim := { program := "ytcbjekdbkhibbaa", sum := "2aac015b062c94feb16d31ad2873775a287080fb1670d88adca47577257ccc47", func := "hydra/hydralaw03.DeckCopies", spec := "deckCopies", unfollowed := true, recurses := true, apart := false }
def DeckCopiesSaid : Prop := deckCopiesRow.holds Try.pinned (OpenSpec.ofChange deckCopiesSpec)

/-- ITS FALSE NEIGHBOUR: 'it returns false'. Refute it at one input. -/
def deckCopiesWrong : ChangeSpec := { name := "deckCopies", fn := fun _ => fun
  | [d1, d2, d3] => { results := [.lit (.bool false)], args := [d1, d2, d3] }
  | _ => none }
def DeckCopiesWrongFalsely : Prop := deckCopiesRow.holds Try.pinned (OpenSpec.ofChange deckCopiesWrong)

/-- 'hydralaw03.DeckKinds': WHATEVER THE INPUT: true; the input reads as it did. -/
def deckKindsSpec : ChangeSpec := { name := "deckKinds", fn := fun _ => fun
  | [d1, d2] => { results := [.lit (.bool true)], args := [d1, d2] }
  | _ => none }
def deckKindsRow : OpenClaim := { program := "ytcbjekdbkhibbaa", sum := "2aac015b062c94feb16d31ad2873775a287080fb1670d88adca47577257ccc47", func := "hydra/hydralaw03.DeckKinds", spec := "deckKinds", unfollowed := true, recurses := true, apart := false }
def DeckKindsSaid : Prop := deckKindsRow.holds Try.pinned (OpenSpec.ofChange deckKindsSpec)

/-- ITS FALSE NEIGHBOUR: 'it returns false'. Refute it at one input. -/
def deckKindsWrong : ChangeSpec := { name := "deckKinds", fn := fun _ => fun
  | [d1, d2] => { results := [.lit (.bool false)], args := [d1, d2] }
  | _ => none }
def DeckKindsWrongFalsely : Prop := deckKindsRow.holds Try.pinned (OpenSpec.ofChange deckKindsWrong)

/- THE SECOND FORM. 'bulk': how many values and letters a reading holds, each counted each time it is reached (what is shared counts as often as it is met; a slice's spare places count too). A statement '..UptoSaid' is the law's where the arguments, and the package variables that the reading takes, are together of bulk at most 1048576: NARROWER than '..Said'. Prove '..Said' where nothing that the law and all that it calls make is longer than what came in: it says more and counts as full. Else prove '..UptoSaid'. A law counts once. -/
mutual
def uptoBulk {H : Type} : DataW H → Nat
  | .lit (.string bytes) => bytes.length + 1
  | .lit _ => 1
  | .nil => 1
  | .ptr d => uptoBulk d + 1
  | .slice elems spare => uptoBulkAll elems + uptoBulkAll spare + 1
  | .agg parts => uptoBulkAll parts + 1
  | .iface _ d => uptoBulk d + 1
  | .map entries => uptoBulkEntries entries + 1
  | .held _ => 1
def uptoBulkAll {H : Type} : List (DataW H) → Nat
  | [] => 0
  | d :: r => uptoBulk d + uptoBulkAll r
def uptoBulkEntries {H : Type} : List (Lit × DataW H) → Nat
  | [] => 0
  | x :: r => uptoBulkEntry x + uptoBulkEntries r
def uptoBulkEntry {H : Type} : Lit × DataW H → Nat
  | (.string bytes, d) => bytes.length + uptoBulk d + 1
  | (_, d) => uptoBulk d + 1
 end
def uptoSmall : (H : Type) → List (DataW H) → Bool := fun _ ds => decide (uptoBulkAll ds ≤ 1048576)
def OpenSpec.upto (s : _root_.Go.ChangeSpec) : _root_.Go.OpenSpec := { _root_.Go.OpenSpec.ofChange s with cond := some uptoSmall }

/-- 'hydralaw01.OctetNums', WHERE WHAT IT READS IS OF BULK AT MOST 1048576: true; the input reads as it did. -/
def octetNumsUptoRow : OpenClaim := { program := "ytcbjekdbkhibbaa", sum := "2aac015b062c94feb16d31ad2873775a287080fb1670d88adca47577257ccc47", func := "hydra/hydralaw01.OctetNums", spec := "octetNums", inPlace := ["internal/abi.NoEscape"], unfollowed := true, recurses := true, apart := false, narrowed := true }
def OctetNumsUptoSaid : Prop := octetNumsUptoRow.holds Try.pinned (OpenSpec.upto octetNumsSpec)

/-- 'hydralaw01.OctetAll', WHERE WHAT IT READS IS OF BULK AT MOST 1048576: true; the input reads as it did. -/
def octetAllUptoRow : OpenClaim := { program := "ytcbjekdbkhibbaa", sum := "2aac015b062c94feb16d31ad2873775a287080fb1670d88adca47577257ccc47", func := "hydra/hydralaw01.OctetAll", spec := "octetAll", inPlace := ["internal/abi.NoEscape"], unfollowed := true, recurses := true, apart := false, narrowed := true }
def OctetAllUptoSaid : Prop := octetAllUptoRow.holds Try.pinned (OpenSpec.upto octetAllSpec)

/-- 'hydralaw01.OctetCuts', WHERE WHAT IT READS IS OF BULK AT MOST 1048576: true; the input reads as it did. -/
def octetCutsUptoRow : OpenClaim := { program := "ytcbjekdbkhibbaa", sum := "2aac015b062c94feb16d31ad2873775a287080fb1670d88adca47577257ccc47", func := "hydra/hydralaw01.OctetCuts", spec := "octetCuts", inPlace := ["internal/abi.NoEscape"], unfollowed := true, recurses := true, apart := false, narrowed := true }
def OctetCutsUptoSaid : Prop := octetCutsUptoRow.holds Try.pinned (OpenSpec.upto octetCutsSpec)

/-- 'hydralaw01.OctetMaps', WHERE WHAT IT READS IS OF BULK AT MOST 1048576: true; the input reads as it did. -/
def octetMapsUptoRow : OpenClaim := { program := "ytcbjekdbkhibbaa", sum := "2aac015b062c94feb16d31ad2873775a287080fb1670d88adca47577257ccc47", func := "hydra/hydralaw01.OctetMaps", spec := "octetMaps", inPlace := ["internal/abi.NoEscape"], unfollowed := true, recurses := true, apart := false, narrowed := true }
def OctetMapsUptoSaid : Prop := octetMapsUptoRow.holds Try.pinned (OpenSpec.upto octetMapsSpec)

/-- 'hydralaw02.CardPuts', WHERE WHAT IT READS IS OF BULK AT MOST 1048576: true; the input reads as it did. -/
def cardPutsUptoRow : OpenClaim := { program := "ytcbjekdbkhibbaa", sum := "2aac015b062c94feb16d31ad2873775a287080fb1670d88adca47577257ccc47", func := "hydra/hydralaw02.CardPuts", spec := "cardPuts", inPlace := ["internal/abi.NoEscape"], unfollowed := true, recurses := true, apart := false, narrowed := true }
def CardPutsUptoSaid : Prop := cardPutsUptoRow.holds Try.pinned (OpenSpec.upto cardPutsSpec)

/-- 'hydralaw02.CardGets', WHERE WHAT IT READS IS OF BULK AT MOST 1048576: true; the input reads as it did. -/
def cardGetsUptoRow : OpenClaim := { program := "ytcbjekdbkhibbaa", sum := "2aac015b062c94feb16d31ad2873775a287080fb1670d88adca47577257ccc47", func := "hydra/hydralaw02.CardGets", spec := "cardGets", inPlace := ["internal/abi.NoEscape"], unfollowed := true, recurses := true, apart := false, narrowed := true }
def CardGetsUptoSaid : Prop := cardGetsUptoRow.holds Try.pinned (OpenSpec.upto cardGetsSpec)

/-- 'hydralaw02.CardSame', WHERE WHAT IT READS IS OF BULK AT MOST 1048576: true; the input reads as it did. -/
def cardSameUptoRow : OpenClaim := { program := "ytcbjekdbkhibbaa", sum := "2aac015b062c94feb16d31ad2873775a287080fb1670d88adca47577257ccc47", func := "hydra/hydralaw02.CardSame", spec := "cardSame", inPlace := ["internal/abi.NoEscape"], unfollowed := true, recurses := true, apart := false, narrowed := true }
def CardSameUptoSaid : Prop := cardSameUptoRow.holds Try.pinned (OpenSpec.upto cardSameSpec)

/-- 'hydralaw02.CardKinds', WHERE WHAT IT READS IS OF BULK AT MOST 1048576: true; the input reads as it did. -/
def cardKindsUptoRow : OpenClaim := { program := "ytcbjekdbkhibbaa", sum := "2aac015b062c94feb16d31ad2873775a287080fb1670d88adca47577257ccc47", func := "hydra/hydralaw02.CardKinds", spec := "cardKinds", inPlace := ["internal/abi.NoEscape"], unfollowed := true, recurses := true, apart := false, narrowed := true }
def CardKindsUptoSaid : Prop := cardKindsUptoRow.holds Try.pinned (OpenSpec.upto cardKindsSpec)

/-- 'hydralaw02.CardLists', WHERE WHAT IT READS IS OF BULK AT MOST 1048576: true; the input reads as it did. -/
def cardListsUptoRow : OpenClaim := { program := "ytcbjekdbkhibbaa", sum := "2aac015b062c94feb16d31ad2873775a287080fb1670d88adca47577257ccc47", func := "hydra/hydralaw02.CardLists", spec := "cardLists", inPlace := ["internal/abi.NoEscape"], unfollowed := true, recurses := true, apart := false, narrowed := true }
def CardListsUptoSaid : Prop := cardListsUptoRow.holds Try.pinned (OpenSpec.upto cardListsSpec)

/-- 'hydralaw03.DeckChecks', WHERE WHAT IT READS IS OF BULK AT MOST 1048576: true; the input reads as it did. -/
def deckChecksUptoRow : OpenClaim := { program := "ytcbjekdbkhibbaa", sum := "2aac015b062c94feb16d31ad2873775a287080fb1670d88adca47577257ccc47", func := "hydra/hydralaw03.DeckChecks", spec := "deckChecks", unfollowed := true, recurses := true, apart := false, narrowed := true }
def DeckChecksUptoSaid : Prop := deckChecksUptoRow.holds Try.pinned (OpenSpec.upto deckChecksSpec)

/-- 'hydralaw03.DeckOrder', WHERE WHAT IT READS IS OF BULK AT MOST 1048576: true; the input reads as it did. -/
def deckOrderUptoRow : OpenClaim := { program := "ytcbjekdbkhibbaa", sum := "2aac015b062c94feb16d31ad2873775a287080fb1670d88adca47577257ccc47", func := "hydra/hydralaw03.DeckOrder", spec := "deckOrder", unfollowed := true, recurses := true, apart := false, narrowed := true }
def DeckOrderUptoSaid : Prop := deckOrderUptoRow.holds Try.pinned (OpenSpec.upto deckOrderSpec)

/-- 'hydralaw03.DeckCounts', WHERE WHAT IT READS IS OF BULK AT MOST 1048576: true; the input reads as it did. -/
def deckCountsUptoRow : OpenClaim := { program := "ytcbjekdbkhibbaa", sum := "2aac015b062c94feb16d31ad2873775a287080fb1670d88adca47577257ccc47", func := "hydra/hydralaw03.DeckCounts", spec := "deckCounts", unfollowed := true, recurses := true, apart := false, narrowed := true }
def DeckCountsUptoSaid : Prop := deckCountsUptoRow.holds Try.pinned (OpenSpec.upto deckCountsSpec)

/-- 'hydralaw03.DeckCopies', WHERE WHAT IT READS IS OF BULK AT MOST 1048576: true; the input reads as it did. -/
def deckCopiesUptoRow : OpenClaim := { program := "ytcbjekdbkhibbaa", sum := "2aac015b062c94feb16d31ad2873775a287080fb1670d88adca47577257ccc47", func := "hydra/hydralaw03.DeckCopies", spec := "deckCopies", unfollowed := true, recurses := true, apart := false, narrowed := true }
def DeckCopiesUptoSaid : Prop := deckCopiesUptoRow.holds Try.pinned (OpenSpec.upto deckCopiesSpec)

/-- 'hydralaw03.DeckKinds', WHERE WHAT IT READS IS OF BULK AT MOST 1048576: true; the input reads as it did. -/
def deckKindsUptoRow : OpenClaim := { program := "ytcbjekdbkhibbaa", sum := "2aac015b062c94feb16d31ad2873775a287080fb1670d88adca47577257ccc47", func := "hydra/hydralaw03.DeckKinds", spec := "deckKinds", unfollowed := true, recurses := true, apart := false, narrowed := true }
def DeckKindsUptoSaid : Prop := deckKindsUptoRow.holds Try.pinned (OpenSpec.upto deckKindsSpec)

end Rows
end Go.Proofs.Ytcbjekdbkhibbaa

/- Resolve (layer 12). The document's example (layer 12). -/
import Derived.Test.YtookicopjphmnaaGreatKf
namespace Go.Proofs.YtookicopjphmnaaGreat
open Go.RowKit Go.Maps
attribute [local go_sem] Oper.semAt_some

/-- From one world to another blocks of one owner alone were changed, and it has new ones. -/
structure TurnedO (w w' : World) (own own' : Nat → Prop) : Prop where
  os : w'.os = w.os
  tape : w'.tape = w.tape
  output : w'.output = w.output
  size : w.heap.size ≤ w'.heap.size
  block : ∀ k, k < w.heap.size → ¬own k → w'.heap[k]? = w.heap[k]?
  own : ∀ k, k < w.heap.size → own' k → own k
theorem TurnedB.o {w w' : World} {g g' : GhostB} (h : TurnedB w w' g g') : TurnedO w w' g.own g'.own := ⟨h.os, h.tape, h.output, h.size, h.block, h.own⟩
theorem TurnedO.of_below {w w' : World} {own : Nat → Prop} (hb : Below w.heap.size w w') : TurnedO w w' own own := ⟨hb.os, hb.tape, hb.output, hb.size, fun k hk _ => hb.block k hk, fun _ _ h => h⟩
theorem TurnedO.trans {w w1 w2 : World} {a b c : Nat → Prop} (h : TurnedO w w1 a b) (k : TurnedO w1 w2 b c) : TurnedO w w2 a c :=
  ⟨k.os.trans h.os, k.tape.trans h.tape, k.output.trans h.output, Nat.le_trans h.size k.size,
    fun i hi ht => (k.block i (Nat.lt_of_lt_of_le hi h.size) (fun e => ht (h.own i hi e))).trans (h.block i hi ht),
    fun i hi e => h.own i hi (k.own i (Nat.lt_of_lt_of_le hi h.size) e)⟩
theorem TurnedO.below {A w w' : World} {a b : Nat → Prop} (h : TurnedO w w' a b) (hA : Below A.heap.size A w) (hlo : ∀ k, a k → A.heap.size ≤ k) : Below A.heap.size A w' :=
  ⟨h.os.trans hA.os, h.tape.trans hA.tape, h.output.trans hA.output, Nat.le_trans hA.size h.size, fun k hk =>
    (h.block k (Nat.lt_of_lt_of_le hk hA.size) (fun hn => by have := hlo k hn; omega)).trans (hA.block k hk)⟩
theorem TurnedO.left {w w' : World} {a b c : Nat → Prop} (h : TurnedO w w' a b) : TurnedO w w' (fun k => a k ∨ c k) (fun k => b k ∨ c k) :=
  ⟨h.os, h.tape, h.output, h.size, fun k hk hn => h.block k hk (fun e => hn (.inl e)), fun k hk e => e.imp (h.own k hk) id⟩
theorem TurnedO.right {w w' : World} {a b c : Nat → Prop} (h : TurnedO w w' a b) : TurnedO w w' (fun k => c k ∨ a k) (fun k => c k ∨ b k) :=
  ⟨h.os, h.tape, h.output, h.size, fun k hk hn => h.block k hk (fun e => hn (.inr e)), fun k hk e => e.imp id (h.own k hk)⟩
/-- A stack's blocks. -/
def ownK (b : Nat) (g : Option Nat) (k : Nat) : Prop := k = b ∨ g = some k
theorem StackAt.ownLt {w : World} {lo b k : Nat} {g : Option Nat} {L : List EntL} (h : StackAt w lo b g L) (hk : ownK b g k) : k < w.heap.size := by
  rcases hk with rfl | hk
  · exact h.lt
  · exact (h.row k hk).2.1
theorem StackAt.ownLo {w : World} {lo b k : Nat} {g : Option Nat} {L : List EntL} (h : StackAt w lo b g L) (hk : ownK b g k) : lo ≤ k := by
  rcases hk with rfl | hk
  · exact h.lo
  · exact (h.row k hk).1
theorem chg_o {w w' : World} {b : Nat} {g g' : Option Nat} (h : Chg w w' b g) (hn : Newer w g g') : TurnedO w w' (ownK b g) (ownK b g') :=
  ⟨h.os, h.tape, h.output, h.size, fun k hk hn => h.block k hk (fun e => hn (.inl e)) (fun e => hn (.inr e)), fun k hk e => by
    rcases e with e | e
    · exact .inl e
    · rcases hn with h2 | ⟨r, h2, h3⟩
      · exact .inr (by rw [← h2]; exact e)
      · rw [h2] at e; injection e with e; omega⟩
theorem StackAt.farO {w w' : World} {lo b : Nat} {g : Option Nat} {L : List EntL} {a a' : Nat → Prop} (h : StackAt w lo b g L) (ht : TurnedO w w' a a') (ha : ∀ k, a k → ¬ownK b g k) : StackAt w' lo b g L :=
  h.kept (ht.block b h.lt (fun e => ha b e (.inl rfl))) fun k hk => ht.block k (h.row k hk).2.1 (fun e => ha k e (.inr hk))
theorem BoardAt.farO {w w' : World} {lo : Nat} {g : GhostB} {B : BoardL} {a a' : Nat → Prop} (h : BoardAt w lo g B) (ht : TurnedO w w' a a') (ha : ∀ k, a k → ¬g.own k) : BoardAt w' lo g B :=
  h.kept ht.size fun k hk => ht.block k (h.ownLt hk) (fun e => ha k e hk)
/-- Two owners stay apart, where one alone is changed. -/
theorem apart_o {w w' : World} {a a' c : Nat → Prop} (ht : TurnedO w w' a a') (ha : ∀ k, a k → ¬c k) (hc : ∀ k, c k → k < w.heap.size) : ∀ k, a' k → ¬c k := fun k h1 h2 => ha k (ht.own k (hc k h2) h1) h2
/-- What Resolve ends with. -/
def RetRes (w : World) (lo lo' : Nat) (g : GhostB) (b : Nat) (gk : Option Nat) (x : EntL) (n : Nat) (B : BoardL) (L : List EntL) (e : Ending) (w' : World) : Prop :=
  e = .returned (.tuple #[entV x, .int .i64 n, .bool true]) ∧ ∃ g' gk', BoardAt w' lo g' B ∧ g'.q = g.q ∧ StackAt w' lo' b gk' L ∧ (∀ k, g'.own k → ¬ownK b gk' k) ∧ TurnedO w w' (fun k => g.own k ∨ ownK b gk k) (fun k => g'.own k ∨ ownK b gk' k)
theorem res_results {W : World} {q : Nat} {x0 x1 x2 : Int} {x3 t : Bool} {n : Int} {T : TypeId} {tmps : Array Value} (e4 : tmps.getD 4 undef = .pointer (some ⟨q, 0, none⟩)) (e5 : tmps.getD 5 undef = .int .i64 n) (e6 : tmps.getD 6 undef = .bool t) (h2 : W.heap[q]? = some (.cells #[.int .i64 x0, .int .i64 x1, .int .i64 x2, .bool x3] T (0, 0))) :
    (results Tryz.f27 tmps).run Tryz.prog W = .ok (.tuple #[.agg #[.int .i64 x0, .int .i64 x1, .int .i64 x2, .bool x3], .int .i64 n, .bool t]) W := by
  have m0 : W.cell? ⟨q, 0, none⟩ = some (.int .i64 x0) := cell_of_row W q 0 _ _ _ h2
  have m1 : W.cell? ⟨q, 1, none⟩ = some (.int .i64 x1) := cell_of_row W q 1 _ _ _ h2
  have m2 : W.cell? ⟨q, 2, none⟩ = some (.int .i64 x2) := cell_of_row W q 2 _ _ _ h2
  have m3 : W.cell? ⟨q, 3, none⟩ = some (.bool x3) := cell_of_row W q 3 _ _ _ h2
  simp only [Array.getD_eq_getD_getElem?] at e4 e5 e6
  simp [results, Tryz.results27, go_sem, e4, e5, e6, m0, m1, m2, m3]
set_option maxRecDepth 100000 in
set_option maxHeartbeats 8000000 in
theorem resolve_ok {w : World} {lo lo' b : Nat} {g : GhostB} {gk : Option Nat} {B : BoardL} {L : List EntL} (x : EntL) (hB : BoardAt w lo g B) (hS : StackAt w lo' b gk (L ++ [x])) (ha : ∀ k, g.own k → ¬ownK b gk k) (hL : L.length ≤ 999) :
    Calls Tryz.prog 27 #[.pointer (some ⟨b, 0, none⟩), .pointer (some ⟨g.q, 0, none⟩)] w (RetRes w lo lo' g b gk x (workE B x).2 (workE B x).1 L) := by
  have hb0 := below_new w (.cells #[.int .i64 0, .int .i64 0, .int .i64 0, .bool false] 49)
  have hrow := heap_alloc_new w (.cells #[.int .i64 0, .int .i64 0, .int .i64 0, .bool false] 49)
  have HSZ := Lib.hid (show (w.alloc (.cells #[.int .i64 0, .int .i64 0, .int .i64 0, .bool false] 49)).heap.size = w.heap.size + 1 from World.size_alloc _ _)
  obtain ⟨W0, hW0⟩ : ∃ W0, w.alloc (.cells #[.int .i64 0, .int .i64 0, .int .i64 0, .bool false] 49) = W0 := ⟨_, rfl⟩
  obtain ⟨q4, hq4⟩ : ∃ q4, w.heap.size = q4 := ⟨_, rfl⟩
  rw [hW0] at hb0 hrow HSZ
  rw [hq4] at hrow
  have HW0 := Lib.hid hW0
  have HQ4 := Lib.hid hq4
  have HB0 := Lib.hid hb0
  have HP := Lib.hid (pop_ok x (hS.later hb0) hL)
  have HBD := Lib.hid (hB.later hb0)
  have HAP := Lib.hid ha
  have HOL := Lib.hid (And.intro (fun k (hk : g.own k) => hB.ownLt hk) (fun k (hk : ownK b gk k) => hS.ownLt hk))
  have HROW := Lib.hid hrow
  obtain ⟨x0, x1, x2, x3⟩ := x
  unfold entV at HP
  dsimp only at HP
  have hptr := fun W => (by kernel_rfl : (binOp .eql 26 (.pointer (some ⟨g.q, 0, none⟩)) (.pointer none)).run Tryz.prog W = .ok (.bool false) W)
  clear hb0 hrow hW0 hq4 hB hS ha hL
  go_enter Tryz.func27, Tryz.ntmps27
  go_wp2_with fail
  rw [HW0.out]
  simp only [HQ4.out]
  refine HP.out.mono ?_
  rintro e w1 ⟨gk', rfl, hs1, hc1, hn1⟩
  have ht1 := chg_o hc1 hn1
  have hlt0 : ∀ k, g.own k → k < W0.heap.size := fun k hk => Nat.lt_of_lt_of_le (HOL.out.1 k hk) HB0.out.size
  have hb1 := HBD.out.farO ht1 (fun k h1 h2 => HAP.out k h2 h1)
  have HAP1 : Hid (∀ k, g.own k → ¬ownK b gk' k) := Lib.hid (fun k h1 h2 => apart_o ht1 (fun k h3 h4 => HAP.out k h4 h3) hlt0 k h2 h1)
  have HT1 := Lib.hid ht1
  have hrow1 := (ht1.block q4 (by have := HSZ.out; have := HQ4.out; omega) (fun ho => by have := HOL.out.2 q4 ho; have := HQ4.out; omega)).trans HROW.out
  have hb2 := below_new w1 (.cells #[.int .i64 x0, .int .i64 x1, .int .i64 x2, .bool x3] 49)
  have h7 := heap_alloc_new w1 (.cells #[.int .i64 x0, .int .i64 x1, .int .i64 x2, .bool x3] 49)
  have hsz7 : (w1.alloc (.cells #[.int .i64 x0, .int .i64 x1, .int .i64 x2, .bool x3] 49)).heap.size = w1.heap.size + 1 := World.size_alloc _ _
  have h4 := (hb2.block q4 (Crd.lt_of_row hrow1)).trans hrow1
  obtain ⟨W2, hW2⟩ : ∃ W2, w1.alloc (.cells #[.int .i64 x0, .int .i64 x1, .int .i64 x2, .bool x3] 49) = W2 := ⟨_, rfl⟩
  obtain ⟨q7, hq7⟩ : ∃ q7, w1.heap.size = q7 := ⟨_, rfl⟩
  rw [hW2] at hb2 h7 h4 hsz7
  rw [hq7] at h7
  have HW2 := Lib.hid hW2
  have HQ7 := Lib.hid hq7
  have HR7 := Lib.hid h7
  have HR4 := Lib.hid h4
  have HB2 := Lib.hid (hb1.later hb2)
  have HS2 := Lib.hid (hs1.later hb2)
  have HBL2 := Lib.hid hb2
  have hnq7 : ¬g.own q7 := fun h => by have := hb1.ownLt h; omega
  have hnq4 : ¬g.own q4 := fun h => by have := HOL.out.1 q4 h; have := HQ4.out; omega
  have HL7 := Lib.hid (show q7 < W2.drew.heap.size ∧ ¬g.own q7 from ⟨Crd.lt_of_row h7, hnq7⟩)
  have HL4 := Lib.hid (show q4 < W2.drew.heap.size ∧ ¬g.own q4 from ⟨Crd.lt_of_row h4, hnq4⟩)
  have HKQ4 : Hid (¬ownK b gk' q4) := Lib.hid (fun h => by have h2 := HOL.out.2 q4 (HT1.out.own q4 (by have := HSZ.out; have := HQ4.out; omega) h); have := HQ4.out; omega)
  have HSLT := Lib.hid (show ∀ k, ownK b gk' k → k < w1.heap.size from fun k hk => hs1.ownLt hk)
  have HC := Lib.hid (work_entry (HB2.out.later ((Below.refl W2.heap.size W2).drew)) ⟨x0, x1, x2, x3⟩)
  obtain ⟨R, hR⟩ : ∃ R, workE B ⟨x0, x1, x2, x3⟩ = R := ⟨_, rfl⟩
  rw [hR] at HC
  have HRQ := Lib.hid hR
  obtain ⟨RB, rn⟩ := R
  unfold entV at HC
  dsimp only at HC
  have e0 : W2.drew.cell? ⟨q7, 0, none⟩ = some (.int .i64 x0) := cell_of_row W2.drew q7 0 _ _ _ h7
  have e1 : W2.drew.cell? ⟨q7, 1, none⟩ = some (.int .i64 x1) := cell_of_row W2.drew q7 1 _ _ _ h7
  have e2 : W2.drew.cell? ⟨q7, 2, none⟩ = some (.int .i64 x2) := cell_of_row W2.drew q7 2 _ _ _ h7
  have e3 : W2.drew.cell? ⟨q7, 3, none⟩ = some (.bool x3) := cell_of_row W2.drew q7 3 _ _ _ h7
  clear ht1 hlt0 hb1 hrow1 hb2 h7 h4 hsz7 hW2 hq7 hs1 hc1 hn1 hnq7 hnq4 hR HP
  dsimp only
  go_upto_region 6 with fail
  rw [HW2.out]
  simp only [HQ7.out]
  refine wp_region_noPanic ?_
  refine (wpIn_wide (n := 9)).1 ?_
  refine wpIn_region_any (by kernel_rfl) ?_
  change wpAnyIn _ _ _ _ _ _ _ _ _ (World.drew _)
  refine anyC.any (c := 4) (S := fun w' => w'.cell? ⟨q7, 0, none⟩ = some (.int .i64 x0) ∧ w'.cell? ⟨q7, 1, none⟩ = some (.int .i64 x1) ∧ w'.cell? ⟨q7, 2, none⟩ = some (.int .i64 x2) ∧ w'.cell? ⟨q7, 3, none⟩ = some (.bool x3)) ?_
  refine anyC_take [4] (i := 0) (v := ?_) (by decide) (by decide) (by kernel_rfl) (by kernel_rfl) (by kernel_rfl) (by kernel_rfl) rfl (by kernel_rfl) (by kernel_rfl) (by kernel_rfl) (fun _ _ _ h => h) (by rfl) (fun _ => rfl) ?_ ?_
  rotate_left
  · intro w' hS
    obtain ⟨s0, s1, s2, s3⟩ := hS
    go_simp
    try with_reducible rfl
  refine anyC_take [3, 4] (i := 1) (v := ?_) (by decide) (by decide) (by kernel_rfl) (by kernel_rfl) (by kernel_rfl) (by kernel_rfl) rfl (by kernel_rfl) (by kernel_rfl) (by kernel_rfl) (fun _ _ _ h => h) (by rfl) (fun _ => rfl) ?_ ?_
  rotate_left
  · intro w' hS
    go_simp
    try with_reducible rfl
  refine anyC_take [3, 4] (i := 2) (v := ?_) (by decide) (by decide) (by kernel_rfl) (by kernel_rfl) (by kernel_rfl) (by kernel_rfl) rfl (by kernel_rfl) (by kernel_rfl) (by kernel_rfl) (fun _ _ _ h => h) (by rfl) (fun _ => rfl) ?_ ?_
  rotate_left
  · intro w' hS
    obtain ⟨s0, s1, s2, s3⟩ := hS
    go_simp
    try with_reducible rfl
  refine anyC_one (i := 3) (by kernel_rfl) rfl (fun _ => ⟨e0, e1, e2, e3⟩) (fun K hK => ?_)
  go_simp
  gi_wp2_with ((refine ⟨trivial, ?_⟩; gi_at_call 59; refine CallsIn.mono (F := Fence.wide) (callsIn_wide.2 HC.out) ?_; rintro e w3 hr; obtain ⟨rfl, g3, hb3, ht3, hq3⟩ := hr; have HB3 := Lib.hid hb3; have HT3 := Lib.hid ht3; have HQ3 := Lib.hid hq3; clear hb3 ht3 hq3; dsimp only))
  have h37 := (HT3.out.block q7 HL7.out.1 HL7.out.2).trans HR7.out
  have h34 := (HT3.out.block q4 HL4.out.1 HL4.out.2).trans HR4.out
  have HR34 := Lib.hid h34
  have f4 := fun j => frozen_of_row w3 q4 j _ _ h34
  have m0 : w3.cell? ⟨q4, 0, none⟩ = some (.int .i64 0) := cell_of_row w3 q4 0 _ _ _ h34
  have m1 : w3.cell? ⟨q4, 1, none⟩ = some (.int .i64 0) := cell_of_row w3 q4 1 _ _ _ h34
  have m2 : w3.cell? ⟨q4, 2, none⟩ = some (.int .i64 0) := cell_of_row w3 q4 2 _ _ _ h34
  have m3 : w3.cell? ⟨q4, 3, none⟩ = some (.bool false) := cell_of_row w3 q4 3 _ _ _ h34
  have g0 : w3.cell? ⟨q7, 0, none⟩ = some (.int .i64 x0) := cell_of_row w3 q7 0 _ _ _ h37
  have g1 : w3.cell? ⟨q7, 1, none⟩ = some (.int .i64 x1) := cell_of_row w3 q7 1 _ _ _ h37
  have g2 : w3.cell? ⟨q7, 2, none⟩ = some (.int .i64 x2) := cell_of_row w3 q7 2 _ _ _ h37
  have g3' : w3.cell? ⟨q7, 3, none⟩ = some (.bool x3) := cell_of_row w3 q7 3 _ _ _ h37
  clear h34 h37
  refine anyC_one (i := 4) (by kernel_rfl) rfl (fun _ => ⟨g0, g1, g2, g3'⟩) (fun K hK => ?_)
  go_simp
  refine hK _ _ ?_
  clear hK K
  refine anyC_one (i := 5) (by kernel_rfl) rfl (fun h => absurd ((show Array.getD _ 4 true = true by kernel_rfl).symm.trans h) (by decide)) (fun K hK => ?_)
  go_simp
  refine hK _ _ ?_
  clear hK K
  refine anyC_one (i := 6) (by kernel_rfl) rfl (fun h => absurd ((show Array.getD _ 4 true = true by kernel_rfl).symm.trans h) (by decide)) (fun K hK => ?_)
  go_simp
  refine hK _ _ ?_
  clear hK K
  refine anyC_done (by kernel_rfl) (fun h => absurd ((show Array.getD _ 4 true = true by kernel_rfl).symm.trans h) (by decide)) ?_ _
  refine NoPanic.normal ?_
  go_wp2
  have HT3o := HT3.out.o
  have hdr := (Below.refl W2.heap.size W2).drew
  have hn4 : ¬g3.own q4 := fun h => HL4.out.2 (HT3.out.own q4 HL4.out.1 h)
  have hs3 := (HS2.out.later hdr).farO HT3o HAP1.out
  have T0 : TurnedO w w3 (fun k => g.own k ∨ ownK b gk k) (fun k => g3.own k ∨ ownK b gk' k) :=
    ((((TurnedO.of_below HB0.out).trans (TurnedO.right HT1.out)).trans (TurnedO.of_below HBL2.out)).trans (TurnedO.of_below hdr)).trans (TurnedO.left HT3o)
  refine bodyPost_ret (res_results rfl rfl rfl (set4E x0 x1 x2 x3 HR34.out rfl)) rfl ?_
  rw [HRQ.out]
  refine ⟨rfl, g3, gk', HB3.out.kept (by simp) (fun k hk => other4E _ _ _ _ (fun e => hn4 (e ▸ hk))), HQ3.out, hs3.kept (other4E _ _ _ _ (fun e => HKQ4.out (.inl e.symm))) (fun k hk => other4E _ _ _ _ (fun e => HKQ4.out (.inr (e ▸ hk)))),
    apart_o HT3o HAP1.out (fun k hk => Nat.lt_of_lt_of_le (HSLT.out k hk) HBL2.out.size), ?_⟩
  exact ⟨T0.os, T0.tape, T0.output, by simpa using T0.size, fun k hk hn => (other4E _ _ _ _ (by have := HQ4.out; omega)).trans (T0.block k hk hn), T0.own⟩
set_option maxRecDepth 100000 in
set_option maxHeartbeats 4000000 in
/-- Where there is no entry, or no stack: nothing is done. -/
theorem resolve_none {w : World} {p : Option Addr} {q : Nat} (hp : ∀ w' : World, Below w.heap.size w w' → Calls Tryz.prog 58 #[.pointer p] w' (RetV w' (.tuple #[entV zeroE, .bool false]))) :
    Calls Tryz.prog 27 #[.pointer p, .pointer (some ⟨q, 0, none⟩)] w (RetV w (.tuple #[entV zeroE, .int .i64 0, .bool false])) := by
  have hb0 := below_new w (.cells #[.int .i64 0, .int .i64 0, .int .i64 0, .bool false] 49)
  have HP := Lib.hid (hp _ hb0)
  have hrow := heap_alloc_new w (.cells #[.int .i64 0, .int .i64 0, .int .i64 0, .bool false] 49)
  have HSZ := Lib.hid (show (w.alloc (.cells #[.int .i64 0, .int .i64 0, .int .i64 0, .bool false] 49)).heap.size = w.heap.size + 1 from World.size_alloc _ _)
  obtain ⟨W0, hW0⟩ : ∃ W0, w.alloc (.cells #[.int .i64 0, .int .i64 0, .int .i64 0, .bool false] 49) = W0 := ⟨_, rfl⟩
  rw [hW0] at hb0 hrow HSZ HP
  have HW0 := Lib.hid hW0
  have HB0 := Lib.hid hb0
  have HROW := Lib.hid hrow
  unfold entV zeroE at HP
  dsimp only at HP
  have hptr := fun W => (by kernel_rfl : (binOp .eql 26 (.pointer (some ⟨q, 0, none⟩)) (.pointer none)).run Tryz.prog W = .ok (.bool false) W)
  clear hb0 hrow hW0 hp
  go_enter Tryz.func27, Tryz.ntmps27
  go_wp2_with fail
  rw [HW0.out]
  refine HP.out.mono ?_
  rintro e w1 ⟨rfl, hb1⟩
  have hb2 := below_new w1 (.cells #[.int .i64 0, .int .i64 0, .int .i64 0, .bool false] 49)
  have h4 := (hb2.block w.heap.size (by have := HSZ.out; have := hb1.size; omega)).trans ((hb1.block w.heap.size (by have := HSZ.out; omega)).trans HROW.out)
  obtain ⟨W2, hW2⟩ : ∃ W2, w1.alloc (.cells #[.int .i64 0, .int .i64 0, .int .i64 0, .bool false] 49) = W2 := ⟨_, rfl⟩
  have HB2 := Lib.hid (stepB (stepB HB0.out hb1) hb2)
  rw [hW2] at h4 HB2
  have HW2 := Lib.hid hW2
  have HR4 := Lib.hid h4
  have f4 := fun j => frozen_of_row W2 w.heap.size j _ _ h4
  have m0 : W2.cell? ⟨w.heap.size, 0, none⟩ = some (.int .i64 0) := cell_of_row W2 _ 0 _ _ _ h4
  have m1 : W2.cell? ⟨w.heap.size, 1, none⟩ = some (.int .i64 0) := cell_of_row W2 _ 1 _ _ _ h4
  have m2 : W2.cell? ⟨w.heap.size, 2, none⟩ = some (.int .i64 0) := cell_of_row W2 _ 2 _ _ _ h4
  have m3 : W2.cell? ⟨w.heap.size, 3, none⟩ = some (.bool false) := cell_of_row W2 _ 3 _ _ _ h4
  clear hb1 hb2 h4 hW2 HP
  dsimp only
  go_upto_region 4 with fail
  rw [HW2.out]
  go_wp2
  refine bodyPost_ret (res_results rfl rfl rfl (set4E 0 0 0 false HR4.out rfl)) rfl ?_
  exact ⟨rfl, ((((HB2.out).setCell (Nat.le_refl _) _).setCell (Nat.le_refl _) _).setCell (Nat.le_refl _) _).setCell (Nat.le_refl _) _⟩
theorem resolve_empty {w : World} {lo b q : Nat} {g : Option Nat} (h : StackAt w lo b g []) : Calls Tryz.prog 27 #[.pointer (some ⟨b, 0, none⟩), .pointer (some ⟨q, 0, none⟩)] w (RetV w (.tuple #[entV zeroE, .int .i64 0, .bool false])) :=
  resolve_none fun _ hb => pop_empty (h.later hb)
set_option maxRecDepth 100000 in
set_option maxHeartbeats 4000000 in
theorem resolve_nil (p : Option Addr) (w : World) : Calls Tryz.prog 27 #[.pointer p, .pointer none] w (RetV w (.tuple #[entV zeroE, .int .i64 0, .bool false])) := by
  have hrow := heap_alloc_new w (.cells #[.int .i64 0, .int .i64 0, .int .i64 0, .bool false] 49)
  have HROW := Lib.hid hrow
  have HB0 := Lib.hid (below_new w (.cells #[.int .i64 0, .int .i64 0, .int .i64 0, .bool false] 49))
  clear hrow
  go_enter Tryz.func27, Tryz.ntmps27
  go_wp2
  obtain ⟨W0, hW0⟩ : ∃ W0, w.alloc (.cells #[.int .i64 0, .int .i64 0, .int .i64 0, .bool false] 49) = W0 := ⟨_, rfl⟩
  rw [hW0] at HROW HB0 ⊢
  refine bodyPost_ret (res_results rfl rfl rfl HROW.out) rfl ?_
  exact ⟨rfl, HB0.out⟩
end Go.Proofs.YtookicopjphmnaaGreat
namespace Go.Proofs.YtookicopjphmnaaGreat
open Go.RowKit Go.Maps
attribute [local go_sem] Oper.semAt_some

def two12 : List ThingL := [⟨3, 0, 4, false, false⟩, ⟨1, 2, 3, false, false⟩]
def ent12 : EntL := ⟨0, 1, 2, false⟩
set_option maxRecDepth 100000 in
theorem two12_play : playT two12 := ⟨by decide, by decide⟩
set_option maxRecDepth 100000 in
theorem work12 : (workE (boardL two12 0) ent12).2 = 1 ∧ (objI (workE (boardL two12 0) ent12).1.S 2).hurt = 2 ∧ (objI (workE (boardL two12 0) ent12).1.S 1).zone = 5 ∧ errI (workE (boardL two12 0) ent12).1.S 2 = 0 ∧ errI (workE (boardL two12 0) ent12).1.S 1 = 0 := by decide +kernel
end Go.Proofs.YtookicopjphmnaaGreat

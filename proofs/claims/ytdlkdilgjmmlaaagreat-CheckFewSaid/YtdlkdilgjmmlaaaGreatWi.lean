/- What the board of layer 14's laws keeps; the document's example (hydralaw14.awake). -/
import Derived.Test.YtdlkdilgjmmlaaaGreatWh
namespace Go.Proofs.YtdlkdilgjmmlaaaGreat
open Go.RowKit Go.Maps
attribute [local go_sem] Oper.semAt_some

theorem foldK_keeps {f : StoreL → Nat → Int → StoreL} (hf : ∀ S k y, KeepsO S (f S k y)) (S : StoreL) (l : List Int) : ∀ k, KeepsO S (foldK f S l k)
  | 0 => KeepsO.refl S
  | k + 1 => (foldK_keeps hf S l k).trans (hf _ _ _)
theorem hurtF_keeps (S : StoreL) (k : Nat) (y : Int) : KeepsO S (hurtF S k y) := by
  unfold hurtF hurtS
  split
  · exact keeps_set _ _ _
  · exact KeepsO.refl S
theorem countF_keeps (S : StoreL) (k : Nat) (y : Int) : KeepsO S (countF S k y) := by
  unfold countF countS
  split
  · exact keeps_set _ _ _
  · exact KeepsO.refl S
theorem S2x_keeps (l : List TriL) (x : StL) : KeepsO (made13 l) (S2x l x) := (foldK_keeps hurtF_keeps _ _ _).trans (foldK_keeps countF_keeps _ _ _)
theorem b14_keeps (l : List TriL) (n : Nat) (x : StL) : KeepsO (made13 l) (board14 l n x).S := by
  unfold board14
  split
  · exact (S2x_keeps l x).trans (keeps_draw _ _ _)
  · exact S2x_keeps l x
theorem b14_seats {l : List TriL} (hok : l.all okTri = true) (n : Nat) (x : StL) : (board14 l n x).S.seats = 4 := (b14_keeps l n x).seats.trans (made13_fold l hok).seats
theorem b14_len {l : List TriL} (hok : l.all okTri = true) (n : Nat) (x : StL) : (board14 l n x).S.objs.length = l.length := (b14_keeps l n x).len.trans (made13_fold l hok).len
/-- A board of its own, and a new stack. -/
theorem both_new {w w' : World} {lo b : Nat} {g : GhostB} {gk : Option Nat} {B : BoardL} {L : List EntL} (h : BoardAt w lo g B) (hb : Below w.heap.size w w') (hs : StackAt w' w.heap.size b gk L) : BothAt w' lo w.heap.size g b gk B L :=
  ⟨h.later hb, hs, fun k h1 h2 => by have h3 := h.ownLt h1; have h4 := hs.ownLo h2; omega⟩
def one14 : List TriL := [⟨5, 0, 3⟩]
def st14 : StL := ⟨[2], [], [], [], -1⟩
theorem play_one : play14 one14 st14 := ⟨⟨by decide, by decide⟩, by decide, by decide, by decide, by decide⟩
set_option maxRecDepth 100000 in
theorem one_facts : stableT (board14 one14 0 st14) = false ∧ diesL (board14 one14 0 st14).S = [1] := by decide +kernel
set_option maxRecDepth 100000 in
set_option maxHeartbeats 4000000 in
theorem awake14_any (w : World) : Calls Tryz.prog 6 #[] w (RetV w (.bool true)) := by
  have HM := Lib.hid (fun (w' : World) (v u : Value) (hv : TrisAt w' v one14) (hu : StAt w' u st14) => board14_any hv (by intro x hx; simp [one14] at hx; rcases hx with rfl; exact ⟨⟨by decide, by decide⟩, ⟨by decide, by decide⟩⟩) (by simp [one14]) 0 (by decide) hu)
  have HNK := Lib.hid (fun (w' : World) => new_stk (w := w') (v := .slice none 0 0) (l := []) (.inl ⟨none, 0, rfl, rfl⟩) (by decide))
  obtain ⟨hf1, hf2⟩ := one_facts
  have hln : (board14 one14 0 st14).S.objs.length ≤ 800 := by rw [b14_len (by decide)]; decide
  obtain ⟨B, hB⟩ : ∃ B, board14 one14 0 st14 = B := ⟨_, rfl⟩
  have HBB := Lib.hid hB
  rw [hB] at hf1 hf2 hln
  have HF := Lib.hid (And.intro hf1 (And.intro hf2 hln))
  clear hf1 hf2 hln hB
  go_enter Tryz.func6, Tryz.ntmps6
  go_wp2_with fail
  have b1 := below_alloc2 (below_new w (.cells #[.int .i64 5, .int .i64 0, .int .i64 3] 64)) (.cells #[.int .i64 2] 3)
  have HB1 := Lib.hid b1
  refine (HM.out _ _ _ ?hv ?hu).mono ?_
  case hv =>
    have h0 := (below_new (w.alloc (.cells #[.int .i64 5, .int .i64 0, .int .i64 3] 64)) (.cells #[.int .i64 2] 3)).block w.heap.size (by simp)
    have hc := fun j => cell_of_row _ w.heap.size j _ _ _ (h0.trans (heap_alloc_new w (.cells #[.int .i64 5, .int .i64 0, .int .i64 3] 64)))
    refine .inr ⟨w.heap.size, 0, 1, rfl, by simp; omega, fun i hi => ?_⟩
    match i, hi with
    | 0, _ => exact ⟨hc 0, hc 1, hc 2⟩
  case hu =>
    refine ⟨_, _, _, _, rfl, ?_, .inl ⟨none, 0, rfl, rfl⟩, .inl ⟨none, 0, rfl, rfl⟩, .inl ⟨none, 0, rfl, rfl⟩⟩
    have h1 := one_int (w.alloc (.cells #[.int .i64 5, .int .i64 0, .int .i64 3] 64)) 2
    rw [World.size_alloc] at h1
    exact h1
  rintro e w1 (⟨_, lo, g, rfl, hb, hlo, hb1⟩ | ⟨hn, _, _⟩)
  case inr => exact absurd play_one hn
  rw [HBB.out] at hb
  have HBD := Lib.hid hb
  have HB2 := Lib.hid (stepB HB1.out hb1)
  have HSB := Lib.hid (stable_any hb)
  rw [HF.out.1] at HSB
  have HLO := Lib.hid (show ∀ k, g.own k → w.heap.size ≤ k from fun k hk => Nat.le_trans (Nat.le_trans b1.size hlo) (hb.ownLo hk))
  clear hb hlo hb1 HM b1
  obtain ⟨q, hq⟩ : ∃ q, g.q = q := ⟨_, rfl⟩
  have HQ := Lib.hid hq
  rw [hq] at HSB ⊢
  clear hq
  dsimp only
  go_wp2_with fail
  refine HSB.out.mono ?_
  rintro e w2 ⟨rfl, hb2⟩
  have HBD2 := Lib.hid (HBD.out.later hb2)
  have HB3 := Lib.hid (stepB HB2.out hb2)
  clear hb2
  go_wp2_with fail
  refine (HNK.out _).mono ?_
  rintro e w3 ⟨b, gk, rfl, hs, hb3⟩
  rw [show List.take 8 ([] : List EntL) = [] from rfl] at hs
  have HBO := Lib.hid (both_new HBD2.out hb3 hs)
  have HB4 := Lib.hid (stepB HB3.out hb3)
  have HRN := Lib.hid (run_any HBO.out HF.out.2.2 (by decide) 0)
  rw [HQ.out] at HRN
  have HOW := Lib.hid (show ∀ k, own2 g b gk k → w.heap.size ≤ k from fun k hk => by
    rcases hk with hk | hk
    · exact HLO.out k hk
    · exact Nat.le_trans HB3.out.size (hs.ownLo hk))
  clear hs hb3
  dsimp only
  go_wp2_with fail
  refine HRN.out.mono ?_
  rintro e w4 ⟨v1, v2, g4, gk4, rfl, hbo4, hq4, ht4, hd4, hx4⟩
  have HB5 := Lib.hid (ht4.below HB4.out HOW.out)
  have hst := stable_round HBD2.out.wf HBD2.out.st.n1
  unfold runB at hbo4
  unfold runD at hd4
  unfold runN
  rw [HF.out.1] at hbo4 hd4 ⊢
  rw [if_neg (by decide)] at hbo4 hd4 ⊢
  rw [HF.out.2.1] at hd4
  have HBD4 := Lib.hid hbo4.bd
  have HI4 := Lib.hid (own_ints hd4.row)
  have HSR := Lib.hid hst
  have HQ4 := Lib.hid (hq4.trans HQ.out)
  obtain ⟨va, vc, rfl⟩ := own_form1 hd4.row
  obtain ⟨ua, uc, rfl⟩ := own_form1 hx4.row
  clear hbo4 hq4 ht4 hd4 hx4 hst HRN
  dsimp only
  go_wp2_with fail
  have b5 := below_new w4 (.cells #[.slice va 1 vc, .slice ua (runX B).length uc, .int .i64 1] 54)
  have b6 := below_new (w4.alloc (.cells #[.slice va 1 vc, .slice ua (runX B).length uc, .int .i64 1] 54)) (.cells #[.int .i64 1] 3)
  have hi := one_int (w4.alloc (.cells #[.slice va 1 vc, .slice ua (runX B).length uc, .int .i64 1] 54)) 1
  rw [World.size_alloc] at hi
  have c2 := cell_stays b6 (cell_of_row _ w4.heap.size 2 _ _ (0, 0) (heap_alloc_new w4 (.cells #[.slice va 1 vc, .slice ua (runX B).length uc, .int .i64 1] 54)))
  refine (ints_no_at (HI4.out.later (stepB b5 b6)) hi (by decide) rfl).mono ?_
  rintro e w7 ⟨rfl, hb7⟩
  have c2' : w7.cell? ⟨w4.heap.size, 2, none⟩ = some (.int .i64 1) := cell_stays hb7 c2
  have HS7 := Lib.hid (stable_any (HBD4.out.later (stepB (stepB b5 b6) hb7)))
  rw [HSR.out, HQ4.out] at HS7
  have HB7 := Lib.hid (stepB HB5.out (stepB (stepB b5 b6) hb7))
  clear b5 b6 hi c2 hb7
  go_wp2_with fail
  refine HS7.out.mono ?_
  rintro e w8 ⟨rfl, hb8⟩
  have HB8 := Lib.hid (stepB HB7.out hb8)
  clear hb8
  go_wp2
  go_ret
  exact ⟨rfl, HB8.out⟩
end Go.Proofs.YtdlkdilgjmmlaaaGreat

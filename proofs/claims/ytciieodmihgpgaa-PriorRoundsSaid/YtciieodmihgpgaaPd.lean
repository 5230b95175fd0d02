/- How many teams are left (layer 16): a range over Foes that counts in a box. -/
import Derived.Test.YtciieodmihgpgaaPc
namespace Go.Proofs.Ytciieodmihgpgaa
open Go.RowKit
attribute [local go_sem] Oper.semAt_some

theorem kpP_set {E H : Nat → Prop} {W : World} {s : Nat} {u v' : Value} (h : HdAt W s u) (hs : H s) (hn : Newer W u.ownBlock v'.ownBlock) : KpP E H W (W.setCell ⟨s, 0, none⟩ v') := by
  refine ⟨by simp, fun k ob ho _ hO => ?_, fun b x hb hx => ?_⟩
  · have hks : k ≠ s := by
      cases hx : ob.isCells with
      | true => exact fun e => (hO hx).1 (by rw [e]; exact hs)
      | false =>
        intro e
        obtain ⟨t, h⟩ := h
        rw [e, h] at ho
        injection ho with ho
        rw [← ho] at hx
        simp [Obj.isCells] at hx
    rw [heap_setCell_other W ⟨s, 0, none⟩ k v' hks]
    exact ho
  · by_cases hbs : b = s
    · subst hbs
      exact ⟨v', HdAt.set h v', by rw [hx.one h]; exact hn⟩
    · exact ⟨x, hx.other hbs v', .inl rfl⟩
/-- What a range over Foes counts, in a box. -/
def CntI (q : Nat) (A Wr : World) (pre : List Int) (W : World) : Prop :=
  HdAt W q (.int .i64 (1 + (pre.length : Int))) ∧ KpP (fun _ => False) (fun k => k = q) Wr W ∧ Below A.heap.size A W
theorem cntI_own {q B : Nat} {A Wr : World} (hA : A.heap.size ≤ B) (hB : Wr.heap.size ≤ B) : OwnFrom B (CntI q A Wr) := by
  rintro s X Y row ⟨h1, h2, h3⟩ hg hr
  exact ⟨h1.grown hg fun r e => (hr r e).2, kpP_own (β := Unit) hB () X Y row h2 hg hr, ownFrom_below (β := Unit) (Nat.le_refl _) hA () X Y row h3 hg hr⟩
def leftN (T : TeamL) (k : Int) : Int := 1 + ((foesT T k).length : Int)
theorem foes_few {w : World} {lo b s r : Nat} {T : TeamL} (h : TeamAt w lo b s r T) (k : Int) : (foesT T k).length ≤ 4 := Nat.le_trans (upTo_len _ _) h.n2
set_option maxRecDepth 100000 in
set_option maxHeartbeats 16000000 in
theorem left_in {w : World} {lo b s r t : Nat} {T : TeamL} {P : PriL} (h : TeamAt w lo b s r T) (hp : PriAt w t P) :
    CallsIn Fence.wide 9 Try.prog 30 #[.pointer (some ⟨t, 0, none⟩), .pointer (some ⟨b, 0, none⟩)] w (RetV w (.int .i64 (leftN T P.team))) := by
  have HF4 := Lib.hid (foes_few h P.team)
  have hb1 := below_new w (.cells #[.int .i64 1] 3)
  have HT := Lib.hid (h.later hb1)
  have HQ := Lib.hid (HdAt.new w (.int .i64 1) 3)
  have HB1 := Lib.hid hb1
  have c0 := (hp.later hb1).cells.1
  obtain ⟨tm, ht⟩ : ∃ tm, P.team = tm := ⟨_, rfl⟩
  rw [ht] at c0 HF4 ⊢
  have HLT := Lib.hid (show b < w.heap.size ∧ s < w.heap.size ∧ r < w.heap.size from ⟨h.lt, h.sd.1, h.ltr⟩)
  clear h hp hb1 ht
  obtain ⟨A, hA⟩ : ∃ A, w = A := ⟨_, rfl⟩
  have HFO := Lib.hid (foes_any (some ⟨b, 0, none⟩) tm (w.alloc (.cells #[.int .i64 1] 3)))
  clear hA
  refine callsIn_of_wp_marks Try.func30 rfl trivial ?_ rfl
  simp only [Try.ntmps30, List.size_toArray, List.length_cons, List.length_nil, Nat.reduceAdd, Nat.reduceSub, Array.replicate_succ, Array.replicate_zero, List.push_toArray, List.append_toArray, List.nil_append, List.cons_append]
  gi_wp2_with fail
  refine ⟨trivial, (callsIn_wide.2 HFO.out).mono ?_⟩
  rintro e w5 ⟨rfl, hd1, hd2, hb5, hs5⟩
  have HT5 := Lib.hid (HT.out.later hb5)
  have HQ5 := Lib.hid (HQ.out.later hb5)
  have HB5 := Lib.hid (HB1.out.trans (hb5.mono HB1.out.size))
  have hsz : w5.heap.size = w.heap.size + 3 := by rw [hs5]; simp
  simp only [World.size_alloc] at hd1 hd2
  have hoff : ∀ x, x = b ∨ x = s ∨ x = r ∨ x = w.heap.size + 1 ∨ x = w.heap.size + 1 + 1 → ¬False ∧ Off (fun k => k = w.heap.size) w5 x := fun x hx => by
    have h1 := HLT.out.1
    have h2 := HLT.out.2.1
    have h3 := HLT.out.2.2
    exact ⟨fun e => e, fun e => by rcases hx with h | h | h | h | h <;> omega, fun c hc => by subst hc; exact ⟨_, HQ5.out, by intro e; cases e⟩⟩
  have HSEQ := Lib.hid (foes_seq 8 (by omega) (fun _ => False) (fun k => k = w.heap.size) hd1 hd2 HT5.out hoff)
  have HI0 : Hid (CntI w.heap.size w w5 [] w5) := Lib.hid ⟨HQ5.out, KpP.refl _ _ _, HB5.out⟩
  clear hd1 hd2 hb5 hs5 hoff hsz HT HQ HFO HT5 HQ5 c0
  dsimp only
  simp only [World.size_alloc]
  gi_wp2_with fail
  refine range_world3 rfl (by omega) (I := CntI w.heap.size w w5) (Ix := fun _ _ _ => False) (gf := 36) (lb := _) rfl trivial (fun _ _ => by kernel_rfl) HSEQ.out KpP.trans (fun W' o o' ho hc _ => KpP.put o' (.inr rfl) ho hc) (fun W W' hb => KpP.of_below _ _ hb) (Below.refl _ _) (fun _ => rfl)
    (cntI_own HB5.out.size (Nat.le_refl _)) (fun c s A B row hs hg hr => hs) (fun s A B row hs hg hr => hs) (fun s A B row hs hg hr => hs) HI0.out ?round ?done ?stop
  case stop =>
    rintro D c pre W hD hS hI hK
    exact hI.elim
  case round =>
    rintro pre x W K hI hT hsz hK
    have HPL := Lib.hid (show pre.length + 1 ≤ 4 from by
      have h1 := hT.length_le
      simp at h1
      have := HF4.out
      omega)
    have HK := Lib.hid hK
    clear hK hT hI
    simp only [encF]
    simp
    gi_wp2
    refine HK.out _ _ (Below.refl _ _) ?_
    clear HK
    intro Wb hsz2 hrest hkw ⟨l0, k0, b0⟩
    have cl := l0.cell
    have fl := l0.frozen
    obtain ⟨c, hc⟩ : ∃ c : Int, 1 + (pre.length : Int) = c := ⟨_, rfl⟩
    rw [hc] at cl l0
    have hcw : IntKind.i64.wrap (c + 1) = c + 1 := by have := HPL.out; rw [IntKind.wrap_i64]; omega
    have HC := Lib.hid hc
    have HL1 := Lib.hid (HdAt.set l0 (.int .i64 (c + 1)))
    have HK1 := Lib.hid (kpP_set (E := fun _ => False) (H := fun k => k = w.heap.size) l0 rfl (v' := .int .i64 (c + 1)) (.inl rfl))
    have HK0 := Lib.hid k0
    have HKB := Lib.hid hkw
    have HB7 := Lib.hid (show Below w.heap.size w (Wb.setCell ⟨w.heap.size, 0, none⟩ (.int .i64 (c + 1))) from b0.setCell (Nat.le_refl _) (.int .i64 (c + 1)))
    clear hsz2 hrest hkw l0 k0 b0 hc
    gi_wp2
    exact ⟨HK1.out.from (fun k e => e.elim), HKB.out.trans (HK1.out.mono (fun k e => e.elim)), by rw [List.length_append, show (1 + ((pre.length + [x].length : Nat) : Int)) = c + 1 from by have := HC.out; simp; omega]; exact HL1.out, HK0.out.trans HK1.out, HB7.out⟩
  case done =>
    rintro D ys W hD hS ⟨l0, k0, b0⟩ hK
    subst hS
    have cl := l0.cell
    have HB0 := Lib.hid b0
    clear l0 k0 b0
    gi_wp2
    refine ⟨by simp, .inl ⟨_, _, rfl, run_takeDeferred hK, ?_⟩⟩
    refine ⟨.int .i64 (leftN T tm), by simp [results, leftN], rfl, ?_⟩
    exact HB0.out.grown (grownBy_putObj' W D (.deferred none)) HB0.out.size (fun k e => by cases e; have := HB5.out.size; omega)
theorem left_any {w : World} {lo b s r t : Nat} {T : TeamL} {P : PriL} (h : TeamAt w lo b s r T) (hp : PriAt w t P) :
    Calls Try.prog 30 #[.pointer (some ⟨t, 0, none⟩), .pointer (some ⟨b, 0, none⟩)] w (RetV w (.int .i64 (leftN T P.team))) := (callsIn_wide (n := 9)).1 (left_in h hp)
end Go.Proofs.Ytciieodmihgpgaa

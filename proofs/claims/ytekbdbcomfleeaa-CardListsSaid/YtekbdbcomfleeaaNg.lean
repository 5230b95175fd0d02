/- The contracts of List's second function, of Next and of Get of the codec of lists of cards (layers 1 and 2), for a string that holds the put cards. The iterator of All (layer 1) at the codec of cards: what it hands to its rounds, told by the world in which a round begins. -/
import Derived.Test.YtekbdbcomfleeaaNd
import Derived.Test.YtekbdbcomfleeaaRt
namespace Go.Proofs.Ytekbdbcomfleeaa
open Go.RowKit Go.Lib

theorem cput_may (c : CardL) (h : mayB c = true) : cput c = (⟨(cardBytes c).toArray⟩, 0) := by
  obtain ⟨h1, h2, h3⟩ := may_fits h
  unfold cput
  rw [if_pos h1, if_neg (by omega), if_pos h3]
theorem aput_may (l : List CardL) (hm : ∀ c ∈ l, mayB c = true) (hl : l.length ≤ 20) : aput cput 20 l = (⟨(UInt8.ofNat l.length :: joined l).toArray⟩, 0) := by
  have key : ∀ (l : List CardL) (acc : List UInt8), (∀ c ∈ l, mayB c = true) → aputFrom cput acc l = (⟨(acc ++ joined l).toArray⟩, 0) := by
    intro l
    induction l with
    | nil => intro acc _; simp [aputFrom, joined]
    | cons c l ih =>
      intro acc hc
      unfold aputFrom
      rw [nrm2_cput, cput_may c (hc c (by simp)), if_pos rfl, ih _ (fun x hx => hc x (by simp [hx]))]
      simp [joined]
  unfold aput
  rw [if_neg (by omega), key l _ hm]
  simp

set_option maxRecDepth 100000 in
set_option maxHeartbeats 800000 in
theorem list2_d {r p q : Nat} (s : ByteArray) (a : Nat) (l : List CardL) {w : World} (hh : DHas w r p q) (hs : s.size ≤ maxLen) (hl : l.length ≤ 20) (hm : ∀ c ∈ l, mayB c = true) (hr : ReadsAt s a (UInt8.ofNat l.length :: joined l)) :
    Calls Try.prog 49 #[.string s, .int .i64 a, .pointer (some ⟨p, 0, none⟩), .pointer (some ⟨q, 0, none⟩)] w (Post_d w l ((a : Int) + 1 + (joined l).length) 0) := by
  have HP := Lib.hid (nextList_d s a l w hh.2.2.2 hs hl hm hr)
  obtain ⟨c1, c2, c3, _⟩ := hh
  unfold dP at c1
  unfold dN at c2
  unfold cAgg at HP
  clear hr
  go_enter Try.func49, Try.ntmps49
  go_wp2_with fail
  refine HP.out.mono ?_
  rintro e w2 ⟨xa, xn, xc, m, rfl, hsl, hb⟩
  unfold Val_d
  have HSL := Lib.hid hsl
  clear hsl
  go_wp2
  go_ret3
  exact ⟨xa, xn, xc, m, rfl, fun _ => HSL.out trivial, hb⟩

theorem next_d {r p q : Nat} (s : ByteArray) (a : Nat) (l : List CardL) {w : World} (hh : DHas w r p q) (hs : s.size ≤ maxLen) (hl : l.length ≤ 20) (hm : ∀ c ∈ l, mayB c = true) (hr : ReadsAt s a (UInt8.ofNat l.length :: joined l)) :
    Calls Try.prog 53 #[dAgg p q, .string s, .int .i64 a] w (Ret_d w l ((a : Int) + 1 + (joined l).length) 0) := by
  have ha : a ≤ s.size := by have := hr.1; omega
  exact nexty_d 49 enters_dn #[] #[_, _] _ _ _ s a _ _ w ha hs fun w1 h1 => list2_d s a l (hh.later h1) hs hl hm hr

set_option maxRecDepth 100000 in
set_option maxHeartbeats 1600000 in
theorem get_d {r p q : Nat} (s : ByteArray) (l : List CardL) {w : World} (hh : DHas w r p q) (hs : s.size ≤ maxLen) (hl : l.length ≤ 20) (hm : ∀ c ∈ l, mayB c = true) (hr : ReadsAt s 0 (UInt8.ofNat l.length :: joined l)) (hz : s.size = 1 + (joined l).length) :
    Calls Try.prog 24 #[dAgg p q, .string s] w fun e w' => ∃ xa xn xc, e = .returned (.tuple #[.slice xa xn xc, .int .i64 0]) ∧ CardsFrom w.heap.size w' (.slice xa xn xc) l ∧ Below w.heap.size w w' := by
  have HN := fun W hb => Lib.hid (next_d (w := W) s 0 l (hh.later hb) hs hl hm hr)
  obtain ⟨m, hmm⟩ : ∃ m : Int, ((0 : Nat) : Int) + 1 + (joined l).length = m := ⟨_, rfl⟩
  rw [hmm] at HN
  have hms : (m != (s.size : Int)) = false := by rw [← hmm, hz]; simp
  have HNN := Lib.hid HN
  clear HN hh hm hr hmm hz hs
  unfold dAgg
  go_enter Try.func24, Try.ntmps24
  go_wp2_with fail
  refine ((HNN.out _ (below_alloc1 w _)).out).mono ?_
  rintro e w2 ⟨xa, xn, xc, rfl, hc, hb⟩
  unfold Val_d
  have HC := Lib.hid (hc.mono (B' := w.heap.size) (by simp))
  have HB := Lib.hid ((below_alloc1 w _).trans (hb.mono (by simp)))
  clear hc hb
  go_wp2
  go_ret2
  exact ⟨xa, xn, xc, rfl, HC.out, HB.out⟩
end Go.Proofs.Ytekbdbcomfleeaa
namespace Go.Proofs.Ytekbdbcomfleeaa
open Go.RowKit
attribute [local go_sem] Oper.semAt_some

/-- What a round keeps: all but the blocks E and the loop's own record; of cells all but E. -/
def KpQ (E : Nat → Prop) (l : Nat) (W W' : World) : Prop := W.heap.size ≤ W'.heap.size ∧ ∀ k o, W.heap[k]? = some o → ¬E k → (o.isCells = true ∨ k ≠ l) → W'.heap[k]? = some o
theorem KpQ.trans {E : Nat → Prop} {l : Nat} {A B C : World} (h : KpQ E l A B) (k : KpQ E l B C) : KpQ E l A C := ⟨Nat.le_trans h.1 k.1, fun i o ho hE hc => k.2 i o (h.2 i o ho hE hc) hE hc⟩
theorem KpQ.put {E : Nat → Prop} {l : Nat} (W : World) (o o' : Obj) (ho : W.heap[l]? = some o) (hc : o.isCells = false) : KpQ E l W (W.putObj l o') :=
  ⟨by simp, fun k _ hk _ hor => (World.putObj_heap_other (fun e => by
    subst e
    rw [ho] at hk; injection hk with hk
    rcases hor with h | h
    · rw [← hk, hc] at h; cases h
    · exact h rfl)).trans hk⟩
theorem KpQ.below {E : Nat → Prop} {l : Nat} {W W' : World} (h : Below W.heap.size W W') : KpQ E l W W' := ⟨h.size, fun k _ ho _ _ => (h.block k (Array.getElem?_eq_some_iff.1 ho).1).trans ho⟩
theorem KpQ.row {E : Nat → Prop} {l : Nat} {W W' : World} (h : KpQ E l W W') {b : Nat} {C : Array Value} {T : TypeId} {fr : Nat × Nat} (hb : W.heap[b]? = some (.cells C T fr)) (hE : ¬E b) : W'.heap[b]? = some (.cells C T fr) := h.2 b _ hb hE (.inl rfl)

/-- A card that has been read: the card, the place behind it, and where its terms lie. -/
abbrev ItemC := CardL × Int × (Option Addr × Nat × Nat)
def encC (x : ItemC) : Array Value := #[Val_c x.1.kind x.1.cost x.1.power x.1.tough x.1.keys x.1.whn x.2.2.1 x.2.2.2.1 x.2.2.2.2]
/-- The cards stand one behind the other, as Next tells them, from one place to another. -/
def chainC (s : ByteArray) : Int → List ItemC → Int → Prop
  | a, [], a' => a' = a
  | a, x :: r, a' => cnextAt s a = (x.1, x.2.1, 0) ∧ a < x.2.1 ∧ chainC s x.2.1 r a'
theorem chainC_snoc {s : ByteArray} {x : ItemC} {b : Int} : ∀ {a : Int} {pre : List ItemC}, chainC s a pre b → cnextAt s b = (x.1, x.2.1, 0) → b < x.2.1 → chainC s a (pre ++ [x]) x.2.1
  | _, [], hc, h1, h2 => by obtain rfl : _ = _ := hc; exact ⟨h1, h2, rfl⟩
  | _, _ :: _, ⟨h0, h0', hr⟩, h1, h2 => ⟨h0, h0', chainC_snoc hr h1 h2⟩
/-- Which card comes next, and that its terms lie in memory. -/
def TC (s : ByteArray) (B : Nat) (pre : List ItemC) (x : ItemC) (W : World) : Prop :=
  ∃ a, chainC s 0 pre a ∧ cnextAt s a = (x.1, x.2.1, 0) ∧ a < x.2.1 ∧ TermsFrom B W (.slice x.2.2.1 x.2.2.2.1 x.2.2.2.2) x.1.terms
def SC (s : ByteArray) (xs : List ItemC) (_ : World) : Prop := ∃ b, chainC s 0 xs b ∧ ((cnextAt s b).2.2 ≠ 0 ∨ (cnextAt s b).2.1 ≤ b)
def SpC (s : ByteArray) (pre : List ItemC) (_ : World) : Prop := ∃ b, chainC s 0 pre b
theorem cnextAt_le {s : ByteArray} {a m : Int} {c : CardL} (h : cnextAt s a = (c, m, 0)) : m ≤ s.size := by
  unfold cnextAt at h
  split at h
  · split at h
    · rename_i he
      obtain ⟨_, _, h3⟩ := cerr_may s a.toNat he
      have := congrArg (fun (r : CardL × Int × Int) => r.2.1) h
      simp only [lenCard] at this
      omega
    · rename_i he
      exact absurd (congrArg (fun (r : CardL × Int × Int) => r.2.2) h) he
  · have := congrArg (fun (r : CardL × Int × Int) => r.2.2) h
    simp at this

theorem cells_of_cell {w : World} {b j : Nat} {v : Value} (h : w.cell? ⟨b, j, none⟩ = some v) : ∃ o, w.heap[b]? = some o ∧ o.isCells = true := by
  unfold World.cell? at h
  cases ho : w.heap[b]? with
  | none => simp [ho] at h
  | some o => cases o <;> simp_all [Obj.isCells]
theorem KpQ.cell {E : Nat → Prop} {l : Nat} {W W' : World} (h : KpQ E l W W') {b j : Nat} {v : Value} (hE : ¬E b) (hc : W.cell? ⟨b, j, none⟩ = some v) : W'.cell? ⟨b, j, none⟩ = some v := by
  obtain ⟨o, ho, hi⟩ := cells_of_cell hc
  have h2 := h.2 b o ho hE (.inl hi)
  rw [World.cell?_of_block (w := W) (a := ⟨b, j, none⟩) (h2.trans ho.symm)]
  exact hc
theorem TermsFrom.kept {E : Nat → Prop} {l B : Nat} {W W' : World} {v : Value} {t : List TermL} (h : TermsFrom B W v t) (hk : KpQ E l W W') (hE : ∀ k, E k → k < B) : TermsFrom B W' v t := by
  rcases h with h | ⟨b, off, cap, rfl, hB, hlt, hc⟩
  · exact .inl h
  · have hb : ¬E b := fun e => by have := hE b e; omega
    exact .inr ⟨b, off, cap, rfl, hB, Nat.lt_of_lt_of_le hlt hk.1, fun i hi => ⟨hk.cell hb (hc i hi).1, hk.cell hb (hc i hi).2.1, hk.cell hb (hc i hi).2.2⟩⟩
/-- The codec's functions and what they hold, none of it in the blocks E. -/
def CHasE (E : Nat → Prop) (w : World) (r : Nat) : Prop := ∃ p q, ¬E r ∧ ¬E p ∧ ¬E q ∧ w.cell? ⟨r, 0, none⟩ = some (lP p q) ∧ w.cell? ⟨r, 1, none⟩ = some (lN p q) ∧ LHas w p q
theorem CHasE.has {E : Nat → Prop} {w : World} {r : Nat} (h : CHasE E w r) : CHas w r := by obtain ⟨p, q, _, _, _, h0, h1, h2⟩ := h; exact ⟨p, q, h0, h1, h2⟩
theorem CHasE.kept {E : Nat → Prop} {l : Nat} {w w' : World} {r : Nat} (h : CHasE E w r) (hk : KpQ E l w w') : CHasE E w' r := by
  obtain ⟨p, q, er, ep, eq, h0, h1, h2, h3, h4⟩ := h
  exact ⟨p, q, er, ep, eq, hk.cell er h0, hk.cell er h1, hk.cell ep h2, hk.cell ep h3, hk.cell eq h4⟩
theorem CHasE.later {E : Nat → Prop} {w w' : World} {r : Nat} (h : CHasE E w r) (hb : Below w.heap.size w w') : CHasE E w' r := by
  obtain ⟨p, q, er, ep, eq, h0, h1, h2⟩ := h
  exact ⟨p, q, er, ep, eq, cell_stays hb h0, cell_stays hb h1, h2.later hb⟩
theorem CHas.off {E : Nat → Prop} {w : World} {r : Nat} (h : CHas w r) (hE : ∀ k, E k → ∃ v, w.cell? ⟨k, 0, none⟩ = some v ∧ (∀ p q, v ≠ lP p q) ∧ v ≠ tP ∧ v ≠ .int .i64 (4 : Nat)) : CHasE E w r := by
  obtain ⟨p, q, h0, h1, h2, h3, h4⟩ := h
  refine ⟨p, q, fun e => ?_, fun e => ?_, fun e => ?_, h0, h1, h2, h3, h4⟩
  · obtain ⟨v, hv, n1, _, _⟩ := hE _ e; rw [h0] at hv; injection hv with hv; exact n1 p q hv.symm
  · obtain ⟨v, hv, _, n2, _⟩ := hE _ e; rw [h2] at hv; injection hv with hv; exact n2 hv.symm
  · obtain ⟨v, hv, _, _, n3⟩ := hE _ e; rw [h4] at hv; injection hv with hv; exact n3 hv.symm
theorem OwnFrom.later {β : Type} {B : Nat} {J : β → World → Prop} (h : OwnFrom B J) {s : β} {W W' : World} (hs : J s W) (hb : Below W.heap.size W W') : J s W' := h s W W' none hs ⟨hb.os, hb.tape, hb.output, hb.size, fun k hk _ => hb.block k hk⟩ (fun r e => by cases e)

set_option maxRecDepth 100000 in
set_option maxHeartbeats 4000000 in
theorem call1_in (n l b1 b2 r B : Nat) (E : Nat → Prop) (s : ByteArray) (W : World) (hs : s.size ≤ maxLen) (hB : B ≤ W.heap.size) (hE : ∀ k, E k → k ≠ b1 ∧ k ≠ b2) (hh : CHasE E W r)
    (h1 : W.heap[b1]? = some (.cells #[.func (.func 29) #[] #[.pointer (some ⟨r, 0, none⟩)], .func (.func 31) #[] #[.pointer (some ⟨r, 0, none⟩)]] 31 (0, 0))) (h2 : W.heap[b2]? = some (.cells #[.string s] 9 (0, 0)))
    (J Jx : List ItemC → World → Prop) (hJ : OwnFrom W.heap.size J)
    (hY : ∀ pre (x : ItemC) W1, J pre W1 → TC s B pre x W1 → YieldAt Fence.wide (n - 1) Try.prog l (encC x) W1 fun e W' =>
      (e = .returned (.bool true) ∧ J (pre ++ [x]) W' ∧ KpQ E l W1 W') ∨ (e = .returned (.bool false) ∧ Jx (pre ++ [x]) W' ∧ KpQ E l W1 W'))
    (h0 : J [] W) (hn : 1 ≤ n) :
    CallsIn Fence.wide n Try.prog 54 #[.func (.yield l) #[] #[], .pointer (some ⟨b1, 0, none⟩), .pointer (some ⟨b2, 0, none⟩)] W fun e W' => (∃ v, e = .returned v) ∧
      ((∃ xs, SC s xs W' ∧ J xs W') ∨ (∃ pre, SpC s pre W' ∧ Jx pre W')) := by
  have HJ := Lib.hid hJ
  have HY := Lib.hid hY
  have HSZ := Lib.hid hs
  have HE := Lib.hid hE
  have H0 := Lib.hid h0
  have HH := Lib.hid hh
  have HR1 := Lib.hid h1
  have HR2 := Lib.hid h2
  have HBB := Lib.hid hB
  clear hJ hY hE h0 hh h1 h2 hs hB
  refine callsIn_of_wp Try.func54 rfl trivial ?_ rfl
  simp only [Try.ntmps54, List.size_toArray, List.length_cons, List.length_nil, Nat.reduceAdd, Nat.reduceSub, Array.replicate_succ, Array.replicate_zero, List.push_toArray, List.append_toArray, List.nil_append, List.cons_append]
  gi_wp2
  gi_loopw [4] (fun at_ wr => ∃ (pre : List ItemC) (a : Int), at_ = .int .i64 a ∧ Hid (0 ≤ a ∧ a ≤ s.size) ∧ Hid (chainC s 0 pre a) ∧ Hid (J pre wr) ∧ Hid (CHasE E wr r) ∧ Hid (B ≤ wr.heap.size) ∧
      Hid (wr.heap[b1]? = some (.cells #[.func (.func 29) #[] #[.pointer (some ⟨r, 0, none⟩)], .func (.func 31) #[] #[.pointer (some ⟨r, 0, none⟩)]] 31 (0, 0))) ∧ Hid (wr.heap[b2]? = some (.cells #[.string s] 9 (0, 0))))
    (fun at_ _ => s.size + 1 - (RowKit.intOf at_).toNat)
  case atStart => exact ⟨[], 0, rfl, Lib.hid ⟨by omega, by omega⟩, Lib.hid rfl, H0, HH, HBB, HR1, HR2⟩
  case round =>
    obtain ⟨pre, a, rfl, HA, HCH, HJR, HHR, HBR, HS1, HS2⟩ := hrel
    have c0 : wr.cell? ⟨b1, 0, none⟩ = some (.func (.func 29) #[] #[.pointer (some ⟨r, 0, none⟩)]) := by simp [World.cell?, HS1.out]
    have c1 : wr.cell? ⟨b1, 1, none⟩ = some (.func (.func 31) #[] #[.pointer (some ⟨r, 0, none⟩)]) := by simp [World.cell?, HS1.out]
    have c2 : wr.cell? ⟨b2, 0, none⟩ = some (.string s) := by simp [World.cell?, HS2.out]
    obtain ⟨x, m, e0, hr⟩ : ∃ x m e0, cnextAt s a = (x, m, e0) := ⟨_, _, _, rfl⟩
    have HR := Lib.hid hr
    clear hr
    gi_wp2_with fail
    refine ⟨trivial, (callsIn_wide.2 (next_c s a HHR.out.has HSZ.out)).mono ?_⟩
    rw [HR.out]
    rintro e w5 ⟨x0, x1, x2, x3, x4, x5, xa, xn, xc, rfl, ⟨rfl, rfl, rfl, rfl, rfl, rfl, ht⟩, hb5⟩
    unfold Val_c
    have hb6 := hb5.trans ((below_alloc1 w5 (.cells #[.int .i64 x.kind, .int .i64 x.cost, .int .i64 x.power, .int .i64 x.tough, .int .i64 x.keys, .int .i64 x.whn, .slice xa xn xc] 24)).mono hb5.size)
    have HT6 := Lib.hid ((ht.later (below_alloc1 w5 (.cells #[.int .i64 x.kind, .int .i64 x.cost, .int .i64 x.power, .int .i64 x.tough, .int .i64 x.keys, .int .i64 x.whn, .slice xa xn xc] 24))).mono HBR.out)
    have HJ6 := Lib.hid (OwnFrom.later HJ.out HJR.out hb6)
    have HH6 := Lib.hid (HHR.out.later hb6)
    have HB6 := Lib.hid hb6
    clear ht hb5 hb6 c0 c1 c2
    by_cases he : e0 = 0
    · subst he
      by_cases hm : m ≤ a
      · have hm' : decide (m ≤ a) = true := by simpa using hm
        gi_wp2
        refine ⟨fun _ h => (by cases h), ?_⟩
        gi_wp2
        refine bodyPost_ret (results_none rfl _ _ _) rfl ?_
        exact ⟨⟨_, rfl⟩, .inl ⟨pre, ⟨a, HCH.out, .inr (by rw [HR.out]; exact hm)⟩, HJ6.out⟩⟩
      · have hm' : decide (m ≤ a) = false := by simpa using hm
        have hlt : a < m := by omega
        have hms := cnextAt_le HR.out
        have ha0 := HA.out.1
        have HCH2 : Hid (chainC s 0 (pre ++ [(x, m, (xa, xn, xc))]) m) := Lib.hid (chainC_snoc (x := (x, m, (xa, xn, xc))) HCH.out HR.out hlt)
        obtain ⟨fn, tmps, assign, body, hy, hR⟩ := HY.out pre (x, m, (xa, xn, xc)) _ HJ6.out ⟨a, HCH.out, HR.out, hlt, HT6.out⟩
        simp only [encC, Val_c] at hy
        gi_wp2
        refine hR.mono ?_
        rintro e W3 (⟨rfl, hJ3, hk3⟩ | ⟨rfl, hJx3, hk3⟩)
        · have HJ3 := Lib.hid hJ3
          have HS13 := Lib.hid (hk3.row ((HB6.out.block b1 (lt_of_row HS1.out)).trans HS1.out) (fun e => (HE.out b1 e).1 rfl))
          have HS23 := Lib.hid (hk3.row ((HB6.out.block b2 (lt_of_row HS2.out)).trans HS2.out) (fun e => (HE.out b2 e).2 rfl))
          have HB3 := Lib.hid (Nat.le_trans HBR.out (Nat.le_trans HB6.out.size hk3.1))
          have HH3 := Lib.hid (HH6.out.kept hk3)
          clear hJ3 hk3 hy hR
          gi_wp2
          go_roundw
          case rel => exact ⟨pre ++ [(x, m, (xa, xn, xc))], m, rfl, Lib.hid ⟨by omega, hms⟩, HCH2, HJ3, HH3, HB3, HS13, HS23⟩
          case measure => simp [RowKit.intOf]; omega
        · have HJ3 := Lib.hid hJx3
          clear hJx3 hk3 hy hR
          gi_wp2
          refine bodyPost_ret (results_none rfl _ _ _) rfl ?_
          exact ⟨⟨_, rfl⟩, .inr ⟨pre ++ [(x, m, (xa, xn, xc))], ⟨m, HCH2.out⟩, HJ3.out⟩⟩
    · have he' : (e0 != 0) = true := by simpa using he
      have HEE := Lib.hid he
      clear he
      gi_wp2
      refine ⟨fun _ h => (by cases h), ?_⟩
      gi_wp2
      refine bodyPost_ret (results_none rfl _ _ _) rfl ?_
      exact ⟨⟨_, rfl⟩, .inl ⟨pre, ⟨a, HCH.out, .inl (by rw [HR.out]; exact HEE.out)⟩, HJ6.out⟩⟩
theorem all_c (r : Nat) (s : ByteArray) (w : World) :
    Calls Try.prog 25 #[cAgg r, .string s] w fun e w' => e = .returned (.func (.func 54) #[] #[.pointer (some ⟨w.heap.size, 0, none⟩), .pointer (some ⟨w.heap.size + 1, 0, none⟩)]) ∧
      w' = (w.alloc (.cells #[.func (.func 29) #[] #[.pointer (some ⟨r, 0, none⟩)], .func (.func 31) #[] #[.pointer (some ⟨r, 0, none⟩)]] 31)).alloc (.cells #[.string s] 9) := by
  have hmf := @mk_func
  unfold cAgg
  go_enter Try.func25, Try.ntmps25
  go_wp2
  go_ret
  exact ⟨rfl, rfl⟩
/-- The function value that All returns keeps the contract of the law on ranges. -/
theorem call_seq (n : Nat) (hn : 1 ≤ n) {w : World} {b1 b2 r : Nat} (E : Nat → Prop) (s : ByteArray) (hs : s.size ≤ maxLen) (hE : ∀ k, E k → k ≠ b1 ∧ k ≠ b2) (hh : CHasE E w r)
    (h1 : w.heap[b1]? = some (.cells #[.func (.func 29) #[] #[.pointer (some ⟨r, 0, none⟩)], .func (.func 31) #[] #[.pointer (some ⟨r, 0, none⟩)]] 31 (0, 0))) (h2 : w.heap[b2]? = some (.cells #[.string s] 9 (0, 0))) :
    SeqT Fence.wide n Try.prog 54 #[.pointer (some ⟨b1, 0, none⟩), .pointer (some ⟨b2, 0, none⟩)] encC (KpQ E) (TC s w.heap.size) (SC s) (SpC s) w := by
  intro l J Jx W hW hl1 hl2 hJ _ hY h0
  exact call1_in n l b1 b2 r w.heap.size E s W hs hW.size hE (hh.later hW) ((hW.block b1 (lt_of_row h1)).trans h1) ((hW.block b2 (lt_of_row h2)).trans h2) J Jx hJ hY h0 hn
end Go.Proofs.Ytekbdbcomfleeaa

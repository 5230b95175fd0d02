/- The iterator of All (layer 1, octet), at any codec of lists: what it hands to its rounds, and what lies in memory when it ends. -/
import Derived.Test.YtplkodmmedhemaaO
import Derived.Test.YtplkodmmedhemaaRf
namespace Go.Proofs.Ytplkodmmedhemaa
open Go.RowKit
attribute [local go_sem] Oper.semAt_some

/-- An item: a slice's header; what it holds, and the place behind it. -/
abbrev Item := (Option Addr × Nat × Nat) × (List Int × Int)
def Item.val (x : Item) : Value := .slice x.1.1 x.1.2.1 x.1.2.2

/-- The items stand one behind the other, as Next tells them, from one place to another. -/
def chain (h : ByteArray → Nat → List Int × Int × Int) (s : ByteArray) : Int → List Item → Int → Prop
  | a, [], a' => a' = a
  | a, x :: r, a' => lnextAt h s a = (x.2.1, x.2.2, 0) ∧ a < x.2.2 ∧ chain h s x.2.2 r a'
theorem chain_snoc {h : ByteArray → Nat → List Int × Int × Int} {s : ByteArray} {x : Item} {b : Int} : ∀ {a : Int} {pre : List Item}, chain h s a pre b → lnextAt h s b = (x.2.1, x.2.2, 0) → b < x.2.2 → chain h s a (pre ++ [x]) x.2.2
  | _, [], hc, h1, h2 => by obtain rfl : _ = _ := hc; exact ⟨h1, h2, rfl⟩
  | _, _ :: _, ⟨h0, h0', hr⟩, h1, h2 => ⟨h0, h0', chain_snoc hr h1 h2⟩
theorem chain_len {h : ByteArray → Nat → List Int × Int × Int} {s : ByteArray} : ∀ {a b : Int} {pre : List Item}, chain h s a pre b → a + pre.length ≤ b
  | _, _, [], hc => by obtain rfl : _ = _ := hc; simp
  | _, _, _ :: _, ⟨_, h0', hr⟩ => by have := chain_len hr; simp; omega

/-- What a round keeps: all that lay below n₀, and every row of cells but those of lists of lists. -/
def KpL (n₀ : Nat) (A B : World) : Prop := Below n₀ A B ∧ ∀ (k : Nat) (C : Array Value) (t : TypeId) (fr : Nat × Nat), t ≠ 51 → t ≠ 47 → A.heap[k]? = some (Obj.cells C t fr) → B.heap[k]? = some (Obj.cells C t fr)
theorem KpL.trans {n₀ : Nat} {A B C : World} (h : KpL n₀ A B) (k : KpL n₀ B C) : KpL n₀ A C := ⟨h.1.trans k.1, fun j c t fr h1 h2 h3 => k.2 j c t fr h1 h2 (h.2 j c t fr h1 h2 h3)⟩
theorem KpL.of_below {n₀ : Nat} {A B : World} (hn : n₀ ≤ A.heap.size) (h : Below A.heap.size A B) : KpL n₀ A B := ⟨h.mono hn, fun _ _ _ _ _ _ h3 => (h.block _ (lt_of_row h3)).trans h3⟩
theorem KpL.putObj {n₀ : Nat} {w : World} (hn : n₀ ≤ w.heap.size) (W : World) (l : Nat) (o o' : Obj) (hl : w.heap.size ≤ l) (h : W.heap[l]? = some o) (hc : o.isCells = false) (hw : o.isWalk = false) : KpL n₀ W (W.putObj l o') :=
  ⟨belowK_b hn W l o o' hl h hc hw, fun k c t fr _ _ h3 => by
    have hne : k ≠ l := fun e => by subst e; rw [h] at h3; cases h3; simp [Obj.isCells] at hc
    exact (World.putObj_heap_other hne).trans h3⟩
theorem SliceFrom.keeps {B n₀ : Nat} {w w' : World} {v : Value} {l : List Int} (h : SliceFrom B w v l) (hk : KpL n₀ w w') : SliceFrom B w' v l := by
  rcases h with h | ⟨b, off, cap, rfl, hB, hc, C, fr, hr⟩
  · exact .inl h
  · have hr' := hk.2 b C 3 fr (by decide) (by decide) hr
    refine .inr ⟨b, off, cap, rfl, hB, fun i hi => ?_, C, fr, hr'⟩
    rw [← hc i hi]
    simp [World.cell?, hr, hr']

/-- Each item's slice holds its list. -/
def Held (n₀ : Nat) (W : World) (xs : List Item) : Prop := ∀ x ∈ xs, SliceFrom n₀ W x.val x.2.1
theorem Held.keeps {n₀ : Nat} {w w' : World} {xs : List Item} (h : Held n₀ w xs) (hk : KpL n₀ w w') : Held n₀ w' xs := fun x hx => (h x hx).keeps hk
theorem Held.snoc {n₀ : Nat} {w : World} {xs : List Item} {x : Item} (h : Held n₀ w xs) (hx : SliceFrom n₀ w x.val x.2.1) : Held n₀ w (xs ++ [x]) := fun y hy => by
  rcases List.mem_append.1 hy with hy | hy
  · exact h y hy
  · simp at hy; subst hy; exact hx

theorem below_step' {A w w' : World} (h : Below A.heap.size A w) (hb : Below w.heap.size w w') : Below A.heap.size A w' := h.trans (hb.mono h.size)

def AllDone (h : ByteArray → Nat → List Int × Int × Int) (s : ByteArray) (n₀ : Nat) (xs : List Item) (W : World) : Prop :=
  (∃ b, chain h s 0 xs b ∧ ((lnextAt h s b).2.2 ≠ 0 ∨ (lnextAt h s b).2.1 ≤ b)) ∧ Held n₀ W xs
def AllPart (h : ByteArray → Nat → List Int × Int × Int) (s : ByteArray) (n₀ : Nat) (xs : List Item) (W : World) : Prop :=
  (∃ b, chain h s 0 xs b) ∧ Held n₀ W xs

set_option maxRecDepth 100000 in
set_option maxHeartbeats 2000000 in
theorem all1_in (n : Nat) (hn : 1 ≤ n) (l b1 b2 : Nat) {U : World} {f0 : Fn} {fi0 ca0 : Array Value} {f1 : Fn} {fi1 ca1 : Array Value} {g : List Int → ByteArray × Int} {h : ByteArray → Nat → List Int × Int × Int} {s : ByteArray}
    (hc : LCodecOk U (.agg #[.func f0 fi0 ca0, .func f1 fi1 ca1]) g h) (hs : s.size ≤ 100) (hmono : ∀ a x m, lnextAt h s a = (x, m, 0) → m ≤ s.size)
    (J Jx : List Item → World → Prop) (hJ : ∀ pre W W', J pre W → Below W.heap.size W W' → J pre W')
    (hY : ∀ pre (x : Item) W, J pre W → pre.length < s.size → YieldAt Fence.wide (n - 1) Try.prog l #[x.val] W fun e W' =>
      (e = .returned (.bool true) ∧ J (pre ++ [x]) W' ∧ KpL U.heap.size W W') ∨ (e = .returned (.bool false) ∧ Jx (pre ++ [x]) W' ∧ KpL U.heap.size W W'))
    (W : World) (hU : Below U.heap.size U W) (hr1 : W.heap[b1]? = some (.cells #[.func f0 fi0 ca0, .func f1 fi1 ca1] 45 (0, 0))) (hr2 : W.heap[b2]? = some (.cells #[.string s] 9 (0, 0))) (h0 : J [] W) :
    CallsIn Fence.wide n Try.prog 43 #[.func (.yield l) #[] #[], .pointer (some ⟨b1, 0, none⟩), .pointer (some ⟨b2, 0, none⟩)] W fun e W' => (∃ v, e = .returned v) ∧
      ((∃ xs, AllDone h s U.heap.size xs W' ∧ J xs W') ∨ (∃ pre, AllPart h s U.heap.size pre W' ∧ Jx pre W')) := by
  refine callsIn_of_wp Try.func43 rfl trivial ?_ rfl
  simp only [Try.ntmps43, List.size_toArray, List.length_cons, List.length_nil, Nat.reduceAdd, Nat.reduceSub, Array.replicate_succ, Array.replicate_zero, List.push_toArray, List.append_toArray, List.nil_append, List.cons_append]
  gi_wp2
  gi_loopw [4] (fun at_ wr => ∃ (pre : List Item) (a : Int), at_ = .int .i64 a ∧ Hid (chain h s 0 pre a) ∧ Hid (Held U.heap.size wr pre) ∧ Hid (J pre wr) ∧ Hid (Below U.heap.size U wr) ∧
      Hid (wr.heap[b1]? = some (.cells #[.func f0 fi0 ca0, .func f1 fi1 ca1] 45 (0, 0))) ∧ Hid (wr.heap[b2]? = some (.cells #[.string s] 9 (0, 0))))
    (fun at_ _ => s.size + 1 - (RowKit.intOf at_).toNat)
  case atStart => exact ⟨[], 0, rfl, Lib.hid rfl, Lib.hid (fun x hx => by cases hx), Lib.hid h0, Lib.hid hU, Lib.hid hr1, Lib.hid hr2⟩
  case round =>
    obtain ⟨pre, a, rfl, HCH, HELD, HJ, HU, HR1, HR2⟩ := hrel
    have c0 : wr.cell? ⟨b1, 0, none⟩ = some (.func f0 fi0 ca0) := by simp [World.cell?, HR1.out]
    have c1 : wr.cell? ⟨b1, 1, none⟩ = some (.func f1 fi1 ca1) := by simp [World.cell?, HR1.out]
    have c2 : wr.cell? ⟨b2, 0, none⟩ = some (.string s) := by simp [World.cell?, HR2.out]
    have HSZ := Lib.hid (show s.size ≤ maxLen by unfold maxLen; omega)
    have hlen := chain_len HCH.out
    obtain ⟨x, m, e0, hr⟩ : ∃ x m e0, lnextAt h s a = (x, m, e0) := ⟨_, _, _, rfl⟩
    have HR := Lib.hid hr
    clear hr
    gi_wp2_with fail
    refine ⟨trivial, (callsIn_wide.2 (lnext_codec hc HU.out s a HSZ.out)).mono ?_⟩
    rw [HR.out]
    rintro e w5 ⟨xa, xn, xc, rfl, hsl, hb5⟩
    unfold ret3s
    have HB5 := Lib.hid hb5
    have HSL := Lib.hid (hsl.mono (B' := U.heap.size) HU.out.size)
    have HJ5 := Lib.hid (hJ _ _ _ HJ.out hb5)
    have HELD5 := Lib.hid (HELD.out.keeps (KpL.of_below HU.out.size hb5))
    clear hsl hb5 c0 c1 c2
    by_cases he : e0 = 0
    · subst he
      by_cases hm : m ≤ a
      · have hm' : decide (m ≤ a) = true := by simpa using hm
        gi_wp2
        refine ⟨fun _ h => (by cases h), ?_⟩
        gi_wp2
        refine bodyPost_ret (results_none rfl _ _ _) rfl ?_
        exact ⟨⟨_, rfl⟩, .inl ⟨pre, ⟨⟨a, HCH.out, .inr (by rw [HR.out]; exact hm)⟩, HELD5.out⟩, HJ5.out⟩⟩
      · have hm' : decide (m ≤ a) = false := by simpa using hm
        have hms := hmono a x m HR.out
        have HHELD : Hid (SliceFrom U.heap.size w5 (Item.val ((xa, xn, xc), (x, m))) x) := HSL
        have HCH2 : Hid (chain h s 0 (pre ++ [((xa, xn, xc), (x, m))]) m) := Lib.hid (chain_snoc (x := ((xa, xn, xc), (x, m))) HCH.out HR.out (by simpa using hm))
        obtain ⟨fn, tmps, assign, body, hy, hR⟩ := hY pre ((xa, xn, xc), (x, m)) w5 HJ5.out (by omega)
        simp only [Item.val] at hy
        gi_wp2
        refine hR.mono ?_
        rintro e W3 (⟨rfl, hJ3, hk3⟩ | ⟨rfl, hJx3, hk3⟩)
        · have HK3 := Lib.hid hk3
          have HJ3 := Lib.hid hJ3
          have HR13 : Hid (W3.heap[b1]? = some (.cells #[.func f0 fi0 ca0, .func f1 fi1 ca1] 45 (0, 0))) := Lib.hid (hk3.2 _ _ _ _ (by decide) (by decide) ((HB5.out.block b1 (lt_of_row HR1.out)).trans HR1.out))
          have HR23 : Hid (W3.heap[b2]? = some (.cells #[.string s] 9 (0, 0))) := Lib.hid (hk3.2 _ _ _ _ (by decide) (by decide) ((HB5.out.block b2 (lt_of_row HR2.out)).trans HR2.out))
          have HU3 := Lib.hid ((below_step' HU.out HB5.out).trans hk3.1)
          clear hJ3 hk3
          gi_wp2
          go_roundw
          case rel => exact ⟨pre ++ [((xa, xn, xc), (x, m))], m, rfl, HCH2, Lib.hid ((HELD5.out.snoc HHELD.out).keeps HK3.out), HJ3, HU3, HR13, HR23⟩
          case measure => simp [RowKit.intOf]; omega
        · have HK3 := Lib.hid hk3
          have HJ3 := Lib.hid hJx3
          clear hJx3 hk3
          gi_wp2
          refine bodyPost_ret (results_none rfl _ _ _) rfl ?_
          exact ⟨⟨_, rfl⟩, .inr ⟨pre ++ [((xa, xn, xc), (x, m))], ⟨⟨m, HCH2.out⟩, (HELD5.out.snoc HHELD.out).keeps HK3.out⟩, HJ3.out⟩⟩
    · have he' : (e0 != 0) = true := by simpa using he
      have HE := Lib.hid he
      clear he
      gi_wp2
      refine ⟨fun _ h => (by cases h), ?_⟩
      gi_wp2
      refine bodyPost_ret (results_none rfl _ _ _) rfl ?_
      exact ⟨⟨_, rfl⟩, .inl ⟨pre, ⟨⟨a, HCH.out, .inl (by rw [HR.out]; exact HE.out)⟩, HELD5.out⟩, HJ5.out⟩⟩
end Go.Proofs.Ytplkodmmedhemaa

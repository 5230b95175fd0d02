/- The iterator of Perms (layer 4): it hands all orders to its rounds, one behind the other, as ordersL tells them; and what lies in memory when it ends. -/
import Derived.Test.YtokjghfpdolojaaEr
import Derived.Test.YtokjghfpdolojaaRf
namespace Go.Proofs.Ytokjghfpdolojaa
open Go.RowKit

theorem room_first {w : World} {g : Nat} {p : List Int} (h : RowAt w g 3 (intsV p)) : RoomAt w (.slice (some ⟨g, 0, none⟩) p.length p.length) p :=
  ⟨⟨g, 0, p.length, rfl, Nat.le_refl _⟩, by have := h.vals p.length; rwa [intsV_len] at this, g, 0, p.length, p.length, _, _, rfl, h⟩

/-- What a round keeps: all that lay below n₀ but one box, and every row of cells but those of lists and of lists of lists. -/
def KpP (n₀ s : Nat) (A B : World) : Prop := A.heap.size ≤ B.heap.size ∧ (∀ k, k < n₀ → k ≠ s → B.heap[k]? = A.heap[k]?) ∧ ∀ (k : Nat) (C : Array Value) (fr : Nat × Nat), A.heap[k]? = some (Obj.cells C 3 fr) → B.heap[k]? = some (Obj.cells C 3 fr)
theorem KpP.refl (n₀ s : Nat) (A : World) : KpP n₀ s A A := ⟨Nat.le_refl _, fun _ _ _ => rfl, fun _ _ _ h => h⟩
theorem KpP.trans {n₀ s : Nat} {A B C : World} (h : KpP n₀ s A B) (k : KpP n₀ s B C) : KpP n₀ s A C := ⟨Nat.le_trans h.1 k.1, fun i hi hs => (k.2.1 i hi hs).trans (h.2.1 i hi hs), fun i c fr h1 => k.2.2 i c fr (h.2.2 i c fr h1)⟩
theorem KpP.put {n₀ s : Nat} {w : World} (hn : n₀ ≤ w.heap.size) (W : World) (l : Nat) (o o' : Obj) (hl : w.heap.size ≤ l) (h : W.heap[l]? = some o) (hc : o.isCells = false) (_ : o.isWalk = false) : KpP n₀ s W (W.putObj l o') :=
  ⟨by simp, fun k hk _ => World.putObj_heap_other (by omega), fun k c fr h3 => by
    have hne : k ≠ l := fun e => by subst e; rw [h] at h3; cases h3; simp [Obj.isCells] at hc
    exact (World.putObj_heap_other hne).trans h3⟩
theorem KpP.of_below {n₀ s : Nat} {A B : World} (hn : n₀ ≤ A.heap.size) (h : Below A.heap.size A B) : KpP n₀ s A B := ⟨h.size, fun k hk _ => h.block k (by omega), fun k c fr h3 => (h.block k (Array.getElem?_eq_some_iff.1 h3).1).trans h3⟩
theorem RoomAt.kept {n₀ s : Nat} {A B : World} {v : Value} {p : List Int} (h : RoomAt A v p) (hk : KpP n₀ s A B) : RoomAt B v p := by
  obtain ⟨h1, h2, b, off, n, cap, C, fr, rfl, h3⟩ := h
  have h4 := hk.2.2 b C fr h3
  refine ⟨h1, ?_, b, off, n, cap, C, fr, rfl, h4⟩
  rcases h2 with h2 | ⟨b', off', cap', e, hb, hc⟩
  · exact .inl h2
  · refine .inr ⟨b', off', cap', e, Nat.lt_of_lt_of_le hb hk.1, fun i hi => ?_⟩
    injection e with e _ _
    injection e with e
    injection e with e _
    subst e
    rw [← hc i hi]
    exact World.cell?_of_block (a := ⟨b, off' + i, none⟩) (h4.trans h3.symm)
theorem RoomAt.later {A B : World} {v : Value} {p : List Int} (h : RoomAt A v p) (hb : Below A.heap.size A B) : RoomAt B v p := h.kept (n₀ := 0) (s := 0) (KpP.of_below (Nat.zero_le _) hb)

/-- An item: a slice, and what it shows. -/
abbrev PItem := (Option Addr × Nat × Nat) × List Int
def PItem.val (x : PItem) : Value := .slice x.1.1 x.1.2.1 x.1.2.2
def HeldP (W : World) (xs : List PItem) : Prop := ∀ x ∈ xs, RoomAt W x.val x.2
theorem HeldP.kept {n₀ s : Nat} {A B : World} {xs : List PItem} (h : HeldP A xs) (hk : KpP n₀ s A B) : HeldP B xs := fun x hx => (h x hx).kept hk
theorem HeldP.later {A B : World} {xs : List PItem} (h : HeldP A xs) (hb : Below A.heap.size A B) : HeldP B xs := fun x hx => (h x hx).later hb
theorem HeldP.snoc {w : World} {xs : List PItem} {x : PItem} (h : HeldP w xs) (hx : RoomAt w x.val x.2) : HeldP w (xs ++ [x]) := fun y hy => by
  rcases List.mem_append.1 hy with hy | hy
  · exact h y hy
  · simp at hy; subst hy; exact hx

def PermsDone (l : List Int) (n : Nat) (xs : List PItem) (W : World) : Prop := xs.map (·.2) = (ordersL n).map (atL l) ∧ HeldP W xs
def PermsPart (l : List Int) (n : Nat) (xs : List PItem) (W : World) : Prop := xs.map (·.2) <+: (ordersL n).map (atL l) ∧ HeldP W xs

theorem chain_at : ∀ {A B : List (List Int)} {p q : List Int}, chainB (A ++ p :: q :: B) = true → stepB1 p q = true
  | [], _, _, _, h => by simp [chainB] at h; exact h.1
  | [a], _, _, _, h => by
    simp only [List.cons_append, List.nil_append] at h
    rw [chainB, Bool.and_eq_true] at h
    exact chain_at (A := []) h.2
  | a :: b :: A, _, _, _, h => by
    simp only [List.cons_append] at h
    rw [chainB, Bool.and_eq_true] at h
    exact chain_at (A := b :: A) h.2
theorem chain_end : ∀ {A : List (List Int)} {p : List Int}, chainB (A ++ [p]) = true → fallsB p 0 = true
  | [], _, h => by simpa [chainB] using h
  | [a], _, h => by
    simp only [List.cons_append, List.nil_append] at h
    rw [chainB, Bool.and_eq_true] at h
    exact chain_end (A := []) h.2
  | a :: b :: A, _, h => by
    simp only [List.cons_append] at h
    rw [chainB, Bool.and_eq_true] at h
    exact chain_end (A := b :: A) h.2
theorem orders_first : ∀ n, n < 6 → (ordersL n).head? = some (placesL n) := by decide +kernel
theorem orders_in : ∀ n, n < 6 → (ordersL n).all (fun p => decide (p.length = n) && p.all fun i => decide (0 ≤ i) && decide (i < n)) = true := by decide +kernel
theorem order_bd {n : Nat} (hn : n < 6) {p : List Int} (hp : p ∈ ordersL n) : p.length = n ∧ ∀ i ∈ p, 0 ≤ i ∧ i < n := by
  have h := List.all_eq_true.1 (orders_in n hn) p hp
  simp only [Bool.and_eq_true, decide_eq_true_eq, List.all_eq_true] at h
  exact h

theorem orders_idx : ∀ n, n < 6 → ((List.range (ordersL n).length).all fun i => (ordersL n).idxOf ((ordersL n).getD i []) == i) = true := by decide +kernel
theorem order_idx {n : Nat} (hn : n < 6) {A B : List (List Int)} {p : List Int} (h : ordersL n = A ++ p :: B) : (ordersL n).idxOf p = A.length := by
  have h1 := List.all_eq_true.1 (orders_idx n hn) A.length (List.mem_range.2 (by rw [h]; simp))
  have h2 : (ordersL n).getD A.length [] = p := by rw [h]; simp [List.getD]
  rw [h2] at h1
  simpa using h1
/-- The numbers that a slice shows, read off the world. -/
def readI (w : World) : Value → List Int
  | .slice (some a) n _ => (List.range n).map fun i => match w.cell? ⟨a.block, a.off + i, none⟩ with
    | some (.int _ x) => x
    | _ => 0
  | _ => []
theorem read_room {w : World} {v : Value} {p : List Int} (h : RoomAt w v p) : readI w v = p := by
  obtain ⟨⟨b, off, cap, rfl, _⟩, hi, _⟩ := h
  refine List.ext_getElem (by simp [readI]) fun k h1 h2 => ?_
  obtain ⟨b', off', e, _, hc⟩ := IntsAt.at hi k h2
  injection e with e
  injection e with e1 e2
  subst e1 e2
  simp [readI, hc]
def muP (n : Nat) (w : World) (v : Value) : Value → Nat
  | .bool true => (ordersL n).length - (ordersL n).idxOf (readI w v)
  | _ => 0
theorem mu_room {n : Nat} (hn : n < 6) {w : World} {v : Value} {A B : List (List Int)} {p : List Int} (h : RoomAt w v p) (ho : ordersL n = A ++ p :: B) : muP n w v (.bool true) = B.length + 1 := by
  show (ordersL n).length - (ordersL n).idxOf (readI w v) = B.length + 1
  rw [read_room h, order_idx hn ho, ho, List.length_append, List.length_cons]
  omega

set_option maxRecDepth 100000 in
set_option maxHeartbeats 2000000 in
theorem perms1_in (n : Nat) (hn : 1 ≤ n) (l b s n₀ : Nat) (L : List Int) (hL : L.length < 6) (hbs : b ≠ s) (hb : b < n₀) {lv : Value} (J Jx : List PItem → World → Prop) (hJ : ∀ pre W W', J pre W → Below W.heap.size W W' → J pre W')
    (hY : ∀ pre (x : PItem) W, J pre W → pre.length < (ordersL L.length).length → YieldAt Fence.wide (n - 1) Try.prog l #[x.val] W fun e W' =>
      (e = .returned (.bool true) ∧ J (pre ++ [x]) W' ∧ KpP n₀ s W W') ∨ (e = .returned (.bool false) ∧ Jx (pre ++ [x]) W' ∧ KpP n₀ s W W'))
    (W : World) (hU : n₀ ≤ W.heap.size) (hr : W.cell? ⟨b, 0, none⟩ = some lv) (hl : RoomAt W lv L) (h0 : J [] W) :
    CallsIn Fence.wide n Try.prog 24 #[.func (.yield l) #[] #[], .pointer (some ⟨b, 0, none⟩)] W fun e W' => (∃ v, e = .returned v) ∧
      ((∃ xs, PermsDone L L.length xs W' ∧ J xs W') ∨ (∃ pre, PermsPart L L.length pre W' ∧ Jx pre W')) := by
  obtain ⟨⟨lb, lo, lc, rfl, _⟩, _⟩ := id hl
  have HL := Lib.hid hl
  have HR := Lib.hid hr
  have HJ := Lib.hid hJ
  have HY := Lib.hid hY
  have HCH := Lib.hid (orders_chain L.length hL)
  have HF := Lib.hid (orders_first L.length hL)
  have HLL := Lib.hid hL
  clear hl hJ hY
  refine callsIn_of_wp Try.func24 rfl trivial ?_ rfl
  simp only [Try.ntmps24, List.size_toArray, List.length_cons, List.length_nil, Nat.reduceAdd, Nat.reduceSub, Array.replicate_succ, Array.replicate_zero, List.push_toArray, List.append_toArray, List.nil_append, List.cons_append]
  gi_wp2_with fail
  refine ⟨trivial, (callsIn_wide.2 (first_any L.length (by omega) _)).mono ?_⟩
  rintro e w1 ⟨rfl, hp1, hb1⟩
  obtain ⟨P0, hP0⟩ : ∃ P0, placesL L.length = P0 := ⟨_, rfl⟩
  have hP0l : P0.length = L.length := by rw [← hP0]; exact placesL_len _
  have HO0 : Hid (∃ B, ordersL L.length = P0 :: B) := Lib.hid (by
    have h := HF.out
    rw [hP0] at h
    cases ho : ordersL L.length with
    | nil => rw [ho] at h; cases h
    | cons q B => rw [ho] at h; injection h with h; exact ⟨B, by rw [h]⟩)
  rw [hP0] at hp1 ⊢
  have hrm := room_first hp1
  rw [hP0l] at hrm ⊢
  have HP1 := Lib.hid hrm
  have HK1 := Lib.hid (KpP.of_below (s := s) hU hb1)
  have HJ1 := Lib.hid (HJ.out _ _ _ h0 hb1)
  clear hp1 hb1 h0 hP0 hP0l hrm
  gi_wp2
  gi_loopw [3, 4] (fun pl mo wr => ∃ pre : List PItem, Hid (J pre wr) ∧ Hid (HeldP wr pre) ∧ Hid (KpP n₀ s W wr) ∧
      ((∃ A p B, mo = .bool true ∧ Hid (ordersL L.length = A ++ p :: B) ∧ Hid (pre.map (·.2) = A.map (atL L)) ∧ Hid (RoomAt wr pl p)) ∨ (mo = .bool false ∧ Hid (pre.map (·.2) = (ordersL L.length).map (atL L)))))
    (fun pl mo wr => muP L.length wr pl mo)
  case atStart =>
    obtain ⟨B, hB⟩ := HO0.out
    exact ⟨[], HJ1, Lib.hid (fun x hx => by cases hx), HK1, .inl ⟨[], P0, B, rfl, Lib.hid hB, Lib.hid rfl, HP1⟩⟩
  case round =>
    obtain ⟨pre, HJP, HH, HK, ⟨A, p, B, rfl, HO, HM, HPW⟩ | ⟨rfl, HM⟩⟩ := hrel
    · have HBD := Lib.hid (order_bd HLL.out (p := p) (by rw [HO.out]; simp))
      have hpl := HBD.out.1
      have HPL := Lib.hid (show pre.length = A.length by have := congrArg List.length HM.out; simpa using this)
      have HMU := Lib.hid (mu_room HLL.out HPW.out HO.out)
      have hpw := HPW.out
      clear HPW
      obtain ⟨⟨pb, po, pc, rfl, _⟩, _⟩ := id hpw
      rw [hpl] at HMU hpw ⊢
      have HPW := Lib.hid hpw
      clear hpw hpl
      have c0 : wr.cell? ⟨b, 0, none⟩ = some (.slice (some ⟨lb, lo, none⟩) L.length lc) := (World.cell?_of_block (a := ⟨b, 0, none⟩) (HK.out.2.1 b hb hbs)).trans HR.out
      have HLW := Lib.hid (HL.out.kept HK.out)
      gi_wp2_with fail
      refine ⟨trivial, (callsIn_wide.2 (at_any HLW.out.2.1 HPW.out.2.1 (by have := HBD.out.1; have := HLL.out; omega) HBD.out.2)).mono ?_⟩
      rintro e w2 ⟨rfl, ha2, hb2⟩
      obtain ⟨X, hX⟩ : ∃ X, atL L p = X := ⟨_, rfl⟩
      rw [hX] at ha2 ⊢
      have HX := Lib.hid hX
      have HA2 := Lib.hid (room_first ha2)
      have HB2 := Lib.hid hb2
      have HH2 := Lib.hid (HH.out.later hb2)
      have HP2 := Lib.hid (HPW.out.later hb2)
      have HJ2 := Lib.hid (HJ.out _ _ _ HJP.out hb2)
      have HK2 := Lib.hid (HK.out.trans (KpP.of_below (Nat.le_trans hU HK.out.1) hb2))
      clear hX ha2 hb2 c0
      obtain ⟨fn, tmps, assign, body, hy, hR⟩ := HY.out pre ((some ⟨wr.heap.size, 0, none⟩, X.length, X.length), X) w2 HJ2.out (by rw [HPL.out, HO.out]; simp)
      simp only [PItem.val] at hy
      gi_wp2
      refine hR.mono ?_
      rintro e w3 (⟨rfl, hJ3, hk3⟩ | ⟨rfl, hJ3, hk3⟩)
      · have HJ3 := Lib.hid hJ3
        have HK3 := Lib.hid (HK2.out.trans hk3)
        have HP3 := Lib.hid (HP2.out.kept hk3)
        have HH3 := Lib.hid ((HH2.out.snoc (x := ((some ⟨wr.heap.size, 0, none⟩, X.length, X.length), X)) HA2.out).kept hk3)
        have HM3 : Hid ((pre ++ [(((some ⟨wr.heap.size, 0, none⟩, X.length, X.length), X) : PItem)]).map (·.2) = (A ++ [p]).map (atL L)) := Lib.hid (by rw [List.map_append, List.map_append, HM.out]; simp [HX.out])
        clear hJ3 hk3
        cases B with
        | nil =>
          have HC := Lib.hid (falls_of (chain_end (by have := HCH.out; rwa [HO.out] at this)))
          gi_wp2_with fail
          refine ⟨trivial, (callsIn_wide.2 (next_none HP3.out.2.1 (by have := HBD.out.1; have := HLL.out; omega) HC.out)).mono ?_⟩
          rintro e w4 ⟨rfl, nd, rfl⟩
          have HB4 := Lib.hid (below_drewN (Below.refl w3.heap.size w3) nd)
          gi_wp2
          go_roundw
          case rel => exact ⟨_, Lib.hid (HJ.out _ _ _ HJ3.out HB4.out), Lib.hid (HH3.out.later HB4.out), Lib.hid (HK3.out.trans (KpP.of_below (Nat.le_trans hU HK3.out.1) HB4.out)), .inr ⟨rfl, Lib.hid (by rw [HM3.out, HO.out])⟩⟩
          case measure => rw [HMU.out]; exact Nat.succ_pos _
        | cons q B =>
          have HC := Lib.hid (chain_at (by have := HCH.out; rwa [HO.out] at this))
          gi_wp2_with fail
          refine ⟨trivial, (callsIn_wide.2 (step_any HP3.out (by have := HBD.out.1; have := HLL.out; omega) HC.out)).mono ?_⟩
          rintro e w4 ⟨v4, rfl, hr4, hb4⟩
          have HR4 := Lib.hid hr4
          have HB4 := Lib.hid hb4
          clear hr4 hb4
          gi_wp2
          go_roundw
          case rel => exact ⟨_, Lib.hid (HJ.out _ _ _ HJ3.out HB4.out), Lib.hid (HH3.out.later HB4.out), Lib.hid (HK3.out.trans (KpP.of_below (Nat.le_trans hU HK3.out.1) HB4.out)), .inl ⟨A ++ [p], q, B, rfl, Lib.hid (by rw [HO.out]; simp), HM3, HR4⟩⟩
          case measure => rw [HMU.out, mu_room HLL.out HR4.out (A := A ++ [p]) (B := B) (by rw [HO.out]; simp)]; simp
      · have HJ3 := Lib.hid hJ3
        have HH3 := Lib.hid ((HH2.out.snoc (x := ((some ⟨wr.heap.size, 0, none⟩, X.length, X.length), X)) HA2.out).kept hk3)
        have HM3 : Hid ((pre ++ [(((some ⟨wr.heap.size, 0, none⟩, X.length, X.length), X) : PItem)]).map (·.2) <+: (ordersL L.length).map (atL L)) := Lib.hid ⟨B.map (atL L), by rw [HO.out, List.map_append, List.map_append, HM.out]; simp [HX.out]⟩
        clear hJ3 hk3
        gi_wp2
        refine bodyPost_ret (results_none rfl _ _ _) rfl ?_
        exact ⟨⟨_, rfl⟩, .inr ⟨_, ⟨HM3.out, HH3.out⟩, HJ3.out⟩⟩
    · gi_wp2
      go_end0
      exact ⟨⟨_, rfl⟩, .inl ⟨_, ⟨HM.out, HH.out⟩, HJP.out⟩⟩
end Go.Proofs.Ytokjghfpdolojaa

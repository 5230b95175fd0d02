/- Drawing cards (layer 11): what it comes to in a store, and the contract of Draw. -/
import Derived.Test.YtgjojjhppgjkkaaGreatBb
namespace Go.Proofs.YtgjojjhppgjkkaaGreat
open Go.RowKit Go.Maps
attribute [local go_sem] Oper.semAt_some

def moveI (S : StoreL) (i : Int) (zone : Nat) : StoreL := moveL S (i - 1).toNat (objOf S i) zone false
def draw1 (S : StoreL) (k : Nat) : StoreL := match S.pl k 1 with
  | [] => S
  | i :: _ => moveI S i 2
def drawS (S : StoreL) (k : Nat) : Nat → StoreL
  | 0 => S
  | n + 1 => draw1 (drawS S k n) k
theorem okK_lib {n k : Nat} (hk : k < n) : okK n k 1 := ⟨hk, by omega, by omega, by omega⟩
theorem okK_hand {n k : Nat} (hk : k < n) : okK n k 2 := ⟨hk, by omega, by omega, by omega⟩
theorem moveI_at {S : StoreL} {j : Nat} (hj : j < S.objs.length) (zone : Nat) : moveI S ((j : Int) + 1) zone = moveL S j S.objs[j] zone false := by
  unfold moveI
  rw [objOf_at hj, show ((j : Int) + 1 - 1).toNat = j by omega]
/-- The top card of a Library goes on top of the hand. -/
theorem draw_one {S : StoreL} (h : WfS S) {k : Nat} (hk : k < S.seats) {i : Int} {L : List Int} (e : S.pl k 1 = i :: L) :
    ∃ j, ∃ hj : j < S.objs.length, i = (j : Int) + 1 ∧ moveI S i 2 = moveL S j S.objs[j] 2 false ∧ (moveI S i 2).pl = upd (upd S.pl k 1 L) k 2 (i :: S.pl k 2) ∧ WfS (moveI S i 2) ∧ (moveI S i 2).objs.length = S.objs.length ∧ (moveI S i 2).seats = S.seats ∧ S.objs[j].zone = 1 ∧ S.objs[j].owner = k := by
  obtain ⟨j, hj, rfl, hkey, hz⟩ := (h.mem k 1 (okK_lib hk) i).1 (by rw [e]; simp)
  obtain ⟨_, _, _, ho, ho2, hz1, hz7⟩ := h.ids j hj
  have hz' : S.objs[j].zone = 1 := by omega
  have hown : S.objs[j].owner.toNat = k := by
    unfold keyS canN at hkey
    rw [if_neg (by omega)] at hkey
    exact hkey
  have hm := moveI_at hj 2
  have hpl := moveL_pl h hj (zone := 2) (by omega) (by omega) false
  have hc : canN S.objs[j].owner.toNat 2 = k := by unfold canN; rw [if_neg (by omega)]; exact hown
  rw [hkey, hz, hc, e, List.erase_cons_head, upd_other _ _ (by omega)] at hpl
  refine ⟨j, hj, rfl, hm, by rw [hm, hpl]; exact congrArg _ (insL_top _ _), by rw [hm]; exact h.move hj (by omega) (by omega) false, by rw [hm]; simp [moveL], by rw [hm]; rfl, hz', by omega⟩
/-- What drawing leaves of a store. -/
structure DrawnS (S : StoreL) (k c : Nat) (S' : StoreL) : Prop where
  wf : WfS S'
  len : S'.objs.length = S.objs.length
  seats : S'.seats = S.seats
  lib : S'.pl k 1 = (S.pl k 1).drop c
  hand : S'.pl k 2 = ((S.pl k 1).take c).reverse ++ S.pl k 2
theorem drawS_wf {S : StoreL} (h : WfS S) {k : Nat} (hk : k < S.seats) : ∀ c, c ≤ (S.pl k 1).length → DrawnS S k c (drawS S k c)
  | 0, _ => ⟨h, rfl, rfl, by simp [drawS], by simp [drawS]⟩
  | c + 1, hc => by
    have ih := drawS_wf h hk c (by omega)
    have e : (drawS S k c).pl k 1 = (S.pl k 1)[c] :: (S.pl k 1).drop (c + 1) := by rw [ih.lib]; exact List.drop_eq_getElem_cons hc
    obtain ⟨j, hj, _, _, hpl, hw, hl, hs, _⟩ := draw_one ih.wf (by rw [ih.seats]; exact hk) e
    have ed : drawS S k (c + 1) = moveI (drawS S k c) (S.pl k 1)[c] 2 := by
      show draw1 (drawS S k c) k = _
      unfold draw1
      rw [e]
    rw [ed]
    refine ⟨hw, hl.trans ih.len, hs.trans ih.seats, ?_, ?_⟩
    · rw [hpl, upd_other _ _ (by omega), upd_same]
    · rw [hpl, upd_same, ih.hand, List.take_succ_eq_append_getElem hc, List.reverse_append]
      rfl
theorem drawS_next {S : StoreL} (h : WfS S) {k : Nat} (hk : k < S.seats) {c : Nat} (hc : c < (S.pl k 1).length) : drawS S k (c + 1) = moveI (drawS S k c) (S.pl k 1)[c] 2 := by
  have ih := drawS_wf h hk c (by omega)
  show draw1 (drawS S k c) k = _
  unfold draw1
  rw [ih.lib, List.drop_eq_getElem_cons hc]
/-- How many cards are to be drawn, and are. -/
def askN (n : Int) : Nat := (min n 100).toNat
def drawnN (S : StoreL) (k : Nat) (n : Int) : Nat := min (askN n) (S.pl k 1).length
def drawB (B : BoardL) (k : Nat) (n : Int) : BoardL := ⟨drawS B.S k (drawnN B.S k n), B.T, if (B.S.pl k 1).length < askN n then B.D.put k else B.D⟩
theorem BoardAt.putD {w : World} {lo : Nat} {g : GhostB} {B : BoardL} (h : BoardAt w lo g B) {k : Nat} (hk : k < 4) : BoardAt (w.setCell ⟨g.q, 2 + k, none⟩ (.bool true)) lo g { B with D := B.D.put k } ∧ TurnedB w (w.setCell ⟨g.q, 2 + k, none⟩ (.bool true)) g g := by
  have hr : RowAt w g.q 42 (bcells g B.D) := h.hd
  have hs := hr.set (2 + k) (.bool true)
  refine h.withD ?_ (grown_set _ _ _ _)
  refine Eq.trans hs ?_
  rcases (show k = 0 ∨ k = 1 ∨ k = 2 ∨ k = 3 by omega) with rfl | rfl | rfl | rfl <;> rfl
theorem BoardAt.free {w : World} {lo : Nat} {g : GhostB} {B : BoardL} (h : BoardAt w lo g B) (j : Nat) : w.frozen? ⟨g.q, j, none⟩ = false := frozen_of_row w g.q j _ _ h.hd
/-- A card is drawn on a board. -/
theorem draw_step {w : World} {lo : Nat} {g : GhostB} {B : BoardL} (h : BoardAt w lo g B) {k : Nat} {i : Int} {L : List Int} (hk : k < B.S.seats) (e : B.S.pl k 1 = i :: L) :
    Calls Tryz.prog 32 #[.pointer (some ⟨g.b, 0, none⟩), .int .i64 i, .int .i64 2, .bool false] w (fun e w' => e = .returned (.int .i64 0) ∧ ∃ g', BoardAt w' lo g' ⟨moveI B.S i 2, B.T, B.D⟩ ∧ TurnedB w w' g g' ∧ g'.q = g.q) := by
  obtain ⟨j, hj, rfl, hm, _, hw, hl, hs, _⟩ := draw_one h.wf hk e
  refine (move_ok h.st h.wf h.len j 2 hj (by omega) (by omega) false).mono ?_
  rintro e w' ⟨rfl, G', h1, h2⟩
  rw [← hm] at h1
  obtain ⟨b1, t1⟩ := h.withS h1 h2 hw (by rw [hl]; exact h.len) hs
  exact ⟨rfl, _, b1, t1, rfl⟩
set_option maxRecDepth 100000 in
set_option maxHeartbeats 8000000 in
theorem draw_any {w : World} {lo : Nat} {g : GhostB} {B : BoardL} (h : BoardAt w lo g B) (k : Nat) (hk : k < B.S.seats) (n : Int) :
    Calls Tryz.prog 33 #[.pointer (some ⟨g.q, 0, none⟩), .int .i64 k, .int .i64 n] w (RetBd w lo g (drawB B k n) (.int .i64 (drawnN B.S k n))) := by
  have hn4 := h.st.n4
  have HH := Lib.hid (show Calls Tryz.prog 44 #[.pointer (some ⟨g.q, 0, none⟩), .int .i64 k] w (Same w (.bool true)) from by
    have := has11_any h k
    rwa [show hasT B k = true from decide_eq_true (by omega)] at this)
  have HB := Lib.hid h
  obtain ⟨L, hL⟩ : ∃ L, B.S.pl k 1 = L := ⟨_, rfl⟩
  obtain ⟨m, hm⟩ : ∃ m, min n 100 = m := ⟨_, rfl⟩
  have hm100 : m ≤ 100 := by omega
  unfold RetBd drawB drawnN askN
  rw [hL, hm]
  obtain ⟨M, hM⟩ : ∃ M, m.toNat = M := ⟨_, rfl⟩
  rw [hM]
  have HMM := Lib.hid hM
  have HWF := Lib.hid (show ∀ c, c ≤ L.length → WfS (drawS B.S k c) ∧ (drawS B.S k c).seats = B.S.seats ∧ (drawS B.S k c).pl k 1 = L.drop c from fun c hc => by
    subst hL
    have d := drawS_wf h.wf hk c hc
    exact ⟨d.wf, d.seats, d.lib⟩)
  have HNX := Lib.hid (show ∀ c (hc : c < L.length), drawS B.S k (c + 1) = moveI (drawS B.S k c) L[c] 2 from fun c hc => by
    subst hL
    exact drawS_next h.wf hk hc)
  have HM := Lib.hid hm
  obtain ⟨cN, hcN⟩ : ∃ c, min M L.length = c := ⟨_, rfl⟩
  obtain ⟨DN, hDN⟩ : ∃ d, (if L.length < M then B.D.put k else B.D) = d := ⟨_, rfl⟩
  rw [hcN, hDN]
  have HCN := Lib.hid hcN
  have HDN := Lib.hid hDN
  clear hcN hDN
  clear h hL hm hM
  go_enter Tryz.func33, Tryz.ntmps33
  go_wp2_with fail
  refine HH.out.mono ?_
  rintro e w1 ⟨rfl, rfl⟩
  clear HH
  go_wp2
  try rw [HM.out]
  go_loopw [7, 16] (fun d i wr => ∃ (c : Nat) (g' : GhostB), c ≤ L.length ∧ c ≤ M ∧ d = .int .i64 (c : Int) ∧ i = .int .i64 (c : Int) ∧ Hid (BoardAt wr lo g' ⟨drawS B.S k c, B.T, B.D⟩) ∧ Hid (TurnedB w1 wr g g') ∧ g'.q = g.q) (fun _ i _ => M - (intOf i).toNat)
  case atStart => exact ⟨0, g, Nat.zero_le _, Nat.zero_le _, rfl, rfl, HB, Lib.hid (TurnedB.of_below (Below.refl _ _)), rfl⟩
  case round =>
    obtain ⟨c, g', hcl, hcm, rfl, rfl, HB', HT', hq⟩ := hrel
    by_cases hlt : (c : Int) < m
    · have d0 : decide ((c : Int) < m) = true := decide_eq_true hlt
      obtain ⟨c0, -⟩ := HB'.out.cells
      rw [hq] at c0
      obtain ⟨hw, hs, hpl⟩ := HWF.out c hcl
      have HTOP := Lib.hid (top_any HB'.out.st (s := k) (z := 1) ⟨by omega, by omega⟩ ⟨by decide, by decide⟩)
      unfold topL inL at HTOP
      rw [show canS (k : Int) 1 = k by unfold canS; rw [if_neg (by decide)], if_pos (by rw [hs]; exact okI_nat.2 (okK_lib hk))] at HTOP
      rw [show (drawS B.S k c).pl (k : Int).toNat (1 : Int).toNat = L.drop c from hpl] at HTOP
      by_cases hcl2 : c < L.length
      · have hmv := draw_step HB'.out (k := k) (i := L[c]) (L := L.drop (c + 1)) (by rw [hs]; exact hk) (by rw [hpl]; exact List.drop_eq_getElem_cons hcl2)
        have HMV := Lib.hid (fun (w' : World) (hb : Below wr.heap.size wr w') => draw_step (HB'.out.later hb) (k := k) (i := L[c]) (L := L.drop (c + 1)) (by rw [hs]; exact hk) (by rw [hpl]; exact List.drop_eq_getElem_cons hcl2))
        rw [← HNX.out c hcl2] at HMV
        rw [List.drop_eq_getElem_cons hcl2] at HTOP
        rw [show decide (0 < (L[c] :: L.drop (c + 1)).length) = true from decide_eq_true (Nat.succ_pos _)] at HTOP
        obtain ⟨x, hx⟩ : ∃ x, L[c] = x := ⟨_, rfl⟩
        rw [hx] at HTOP HMV
        unfold List.headD at HTOP
        dsimp only at HTOP HMV
        clear hmv hpl hw hs hx
        go_wp2_with fail
        refine HTOP.out.mono ?_
        rintro e w2 ⟨rfl, hb2⟩
        have c2 := cell_stays hb2 c0
        have HB2 := Lib.hid hb2
        clear hb2 c0 HTOP
        dsimp only
        go_wp2_with fail
        refine (HMV.out _ HB2.out).mono ?_
        rintro e w3 ⟨rfl, g3, hb3, ht3, hq3⟩
        have HB3 := Lib.hid hb3
        have HT3 := Lib.hid (HT'.out.trans ((TurnedB.of_below HB2.out).trans ht3))
        have hq3' := hq3.trans hq
        clear hb3 ht3 hq3 c2 HMV
        dsimp only
        go_wp2
        go_roundw
        case rel => exact ⟨c + 1, g3, by omega, by have := HMM.out; omega, by go_num, by go_num, HB3, HT3, hq3'⟩
        case measure => have := HMM.out; simp [intOf]; omega
      · obtain rfl : c = L.length := by omega
        have e0 : decide (0 < (List.drop L.length L).length) = false := by simp
        rw [e0] at HTOP
        obtain ⟨x, hx⟩ : ∃ x, (List.drop L.length L).headD 0 = x := ⟨_, rfl⟩
        rw [hx] at HTOP
        clear hpl hw hs hx hcl2 e0
        go_wp2_with fail
        refine HTOP.out.mono ?_
        rintro e w2 ⟨rfl, hb2⟩
        have HB2 := Lib.hid (HB'.out.later hb2)
        have HT2 := Lib.hid (HT'.out.trans (TurnedB.of_below hb2))
        have hf := fun j => HB2.out.free j
        rw [hq] at hf
        obtain ⟨-, -, f2, f3, f4, f5⟩ := HB2.out.cells
        rw [hq] at f2 f3 f4 f5
        dsimp only at f2 f3 f4 f5
        have hk4 : (k : Int) < 4 := by omega
        have hk0 : (0 : Int) ≤ k := by omega
        clear hb2 c0 HTOP
        dsimp only
        have HMIN := Lib.hid (show min M L.length = L.length ∧ L.length < M from by have := HMM.out; omega)
        have HPUT := Lib.hid (fun (_ : Unit) => HB2.out.putD (k := k) (by omega))
        rw [hq] at HPUT
        rcases (show k = 0 ∨ k = 1 ∨ k = 2 ∨ k = 3 by omega) with rfl | rfl | rfl | rfl
        all_goals
          go_wp2
          go_ret
          rw [← HCN.out, ← HDN.out, HMIN.out.1, if_pos HMIN.out.2]
          exact ⟨rfl, g', (HPUT.out ()).1, HT2.out.trans (HPUT.out ()).2, hq⟩
    · have d0 : decide ((c : Int) < m) = false := decide_eq_false hlt
      have HMIN := Lib.hid (show min M L.length = c ∧ ¬ L.length < M from by have := HMM.out; omega)
      go_wp2
      go_ret
      rw [← HCN.out, ← HDN.out, HMIN.out.1, if_neg HMIN.out.2]
      exact ⟨rfl, g', HB'.out, HT'.out, hq⟩
end Go.Proofs.YtgjojjhppgjkkaaGreat

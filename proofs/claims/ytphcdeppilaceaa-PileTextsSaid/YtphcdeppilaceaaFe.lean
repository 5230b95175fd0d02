/- The contracts of a pile's Pop and Drop at numbers, and of New (layer 5). -/
import Derived.Test.YtphcdeppilaceaaFd
namespace Go.Proofs.Ytphcdeppilaceaa
open Go.RowKit

theorem grown_drewN {w w' : World} {q : Nat} {r : Option Nat} (h : (w.drewN q).grownBy w' r) : w.grownBy w' r := ⟨h.os, h.tape, h.output, h.size, h.block⟩
theorem delete_own {w : World} {lo k : Nat} {v : Value} {L : List Int} (h : w.ownsRow lo 3 1 v L.length (intsV L)) (hk : k < L.length) :
    Calls Try.prog 51 #[v, .int .i64 (k : Int), .int .i64 ((k : Int) + 1)] w fun e w' =>
      ∃ v', e = .returned v' ∧ w'.ownsRow lo 3 1 v' (L.eraseIdx k).length (intsV (L.eraseIdx k)) ∧ w.grownBy w' v.ownBlock ∧ v'.ownBlock = v.ownBlock := by
  rcases h.2 with ⟨rfl, h0⟩ | ⟨g, cap, cur, rfl, hb, hg, hn, hm, hs, ht⟩
  · omega
  · have hm' := hm
    unfold maxLen at hm
    rw [Nat.mul_one] at ht
    have hcell : ∀ j, j < L.length → w.cell? ⟨g, 0 + j, none⟩ = some (.int .i64 (L.getD j 0)) := fun j hj => by
      rw [Nat.zero_add, cell_of_row w g j _ _ _ hg, ← Array.getElem?_toList]
      have h1 : (cur.toList.take L.length)[j]? = (intsV L)[j]? := by rw [ht]
      rw [List.getElem?_take, if_pos hj] at h1
      rw [h1]
      simp [intsV, List.getD, hj]
    refine (Try.slices_Delete_int_cells g 0 L.length cap k (k + 1) L w (Nat.le_refl _) hn (by omega) (by omega) (by omega) hcell (fun j _ => frozen_of_row w g _ _ _ hg)).mono ?_
    rintro e w' ⟨rfl, q, rfl⟩
    rw [List.take_length, show k + 1 - k = 1 by omega]
    have hsz : cur.toList.length = cap := by simp; omega
    have hel : (L.eraseIdx k).length = L.length - 1 := List.length_eraseIdx_of_lt hk
    have hM : ((L.take k ++ L.drop (k + 1) ++ List.replicate 1 0).map (Value.int .i64)) = intsV (L.eraseIdx k) ++ [.int .i64 0] := by
      rw [List.eraseIdx_eq_take_drop_succ]; simp [intsV]
    rw [hM]
    have hMl : (intsV (L.eraseIdx k) ++ [Value.int .i64 0]).length = L.length := by rw [List.length_append, intsV_len, hel]; simp; omega
    have g1 := heap_setCells_same (g := g) (intsV (L.eraseIdx k) ++ [.int .i64 0]) 0 (w := w.drewN q) hg (by rw [hMl]; simp at hsz; omega)
    refine ⟨_, rfl, ⟨by rw [intsV_len]; omega, .inr ⟨g, cap, _, by rw [hel], hb, g1, by omega, hm', ?_, ?_⟩⟩, grown_drewN (grown_setCells g _ _ _), rfl⟩
    · rw [← Array.length_toList, List.toList_toArray, length_splice _ _ _ (by rw [hMl, hsz]; omega), hsz, Nat.mul_one]
    · rw [Nat.mul_one]
      unfold splice
      simp only [List.take_zero, List.nil_append]
      rw [List.append_assoc]
      exact List.take_left' (intsV_len _)

def RetOff (w : World) (lo b : Nat) (g : Option Nat) (v : Value) (L : List Int) (e : Ending) (w' : World) : Prop := e = .returned v ∧ PileAt w' lo b g L ∧ Chg w w' b g
set_option maxRecDepth 100000 in
set_option maxHeartbeats 2000000 in
theorem take_off {w : World} {lo b k : Nat} {g : Option Nat} {L : List Int} (h : PileAt w lo b g L) (hk : k < L.length) (hL : L.length ≤ 1000) :
    Calls Try.prog 38 #[.pointer (some ⟨b, 0, none⟩), .int .i64 (k : Int)] w (RetOff w lo b g (.tuple #[]) (L.eraseIdx k)) := by
  have hrow := h.row
  obtain ⟨v, hbl, hg, hlo, hown⟩ := h
  have c0 : w.cell? ⟨b, 0, none⟩ = some v := by rw [cell_of_row w b 0 _ _ _ hbl]; rfl
  have HD := Lib.hid (delete_own hown hk)
  have HB := Lib.hid hbl
  have HN := Lib.hid (And.intro hg (And.intro hlo hrow))
  have d1 : (k : Int) + 1 ≤ 1001 := by omega
  clear hbl hg hlo hown hrow
  go_enter Try.func38, Try.ntmps38
  go_wp2_with fail
  refine HD.out.mono ?_
  rintro e w2 ⟨v', rfl, hown', hgr, hsame⟩
  obtain ⟨ya, yc, rfl⟩ := (own_ints hown').form
  obtain ⟨v', hv'⟩ : ∃ v', Value.slice ya (L.eraseIdx k).length yc = v' := ⟨_, rfl⟩
  rw [hv'] at hown' hsame
  have hgb : v.ownBlock ≠ some b := fun e => by rw [HN.out.1] at e; exact (HN.out.2.2 b e).2.2 rfl
  have hnb : v'.ownBlock ≠ some b := by rw [hsame]; exact hgb
  have hput := pile_put HB.out HN.out.2.1 (Below.refl w.heap.size w) hgr hgb hown' hnb
  have hblk : w2.heap[b]? = some (.cells #[v] 64 (0, 0)) := (hgr.block b (Array.getElem?_eq_some_iff.1 HB.out).1 (Ne.symm hgb)).trans HB.out
  have c1 : (w2.cell? ⟨b, 0, none⟩) = some v := by rw [cell_of_row w2 b 0 _ _ _ hblk]; rfl
  have f1 : w2.frozen? ⟨b, 0, none⟩ = false := frozen_of_row w2 b 0 _ _ hblk
  rw [hsame, HN.out.1] at hput
  have HR := Lib.hid hput
  subst hv'
  clear hown' hgr hsame hgb hnb hblk hput
  go_wp2
  go_end0
  exact ⟨rfl, HR.out⟩

set_option maxRecDepth 100000 in
theorem pop_any {w : World} {lo b : Nat} {g : Option Nat} {L : List Int} (h : PileAt w lo b g L) (hL : L.length ≤ 1000) :
    Calls Try.prog 13 #[.pointer (some ⟨b, 0, none⟩)] w (RetOff w lo b g (.tuple #[.int .i64 (L.headD 0), .bool (decide (0 < L.length))]) L.tail) := by
  cases L with
  | nil =>
    have HP := Lib.hid h
    have HA := Lib.hid (at_out 0 h (by simp))
    clear h
    go_enter Try.func13, Try.ntmps13
    go_wp2_with fail
    refine HA.out.mono ?_
    rintro e w1 ⟨rfl, rfl⟩
    go_wp2
    go_ret2
    exact ⟨rfl, HP.out, .of_below (Below.refl _ _)⟩
  | cons x L =>
    have HA := Lib.hid (at_in (k := 0) h (by simp))
    have HT := Lib.hid (take_off (k := 0) h (by simp) hL)
    clear h
    go_enter Try.func13, Try.ntmps13
    go_wp2_with fail
    refine HA.out.mono ?_
    rintro e w1 ⟨rfl, rfl⟩
    go_wp2_with fail
    refine HT.out.mono ?_
    rintro e w2 ⟨rfl, hr⟩
    have HR := Lib.hid hr
    clear hr
    go_wp2
    go_ret2
    exact ⟨by simp, HR.out⟩

theorem erase_idx : ∀ (L : List Int) (x : Int), x ∈ L → L.erase x = L.eraseIdx (L.idxOf x)
  | [], _, h => by cases h
  | a :: l, x, h => by
    by_cases ha : a = x
    · subst ha; simp
    · have hl : x ∈ l := by rcases List.mem_cons.1 h with e | e
                            · exact absurd e.symm ha
                            · exact e
      have hb : (a == x) = false := beq_eq_false_iff_ne.2 ha
      rw [List.erase_cons, hb, List.idxOf_cons, hb]
      simp [erase_idx l x hl]
set_option maxRecDepth 100000 in
theorem drop_any {w : World} {lo b : Nat} {g : Option Nat} {L : List Int} (x : Int) (h : PileAt w lo b g L) (hL : L.length ≤ 1000) :
    Calls Try.prog 14 #[.pointer (some ⟨b, 0, none⟩), .int .i64 x] w (RetOff w lo b g (.bool (decide (x ∈ L))) (L.erase x)) := by
  have HP := Lib.hid h
  have HA := Lib.hid (place_any x h hL)
  by_cases hx : x ∈ L
  · have hk := List.idxOf_lt_length_iff.2 hx
    obtain ⟨k, hke⟩ : ∃ k, L.idxOf x = k := ⟨_, rfl⟩
    have hp : placeL L x = (k : Int) := by unfold placeL; rw [if_pos hx, hke]
    rw [hp] at HA
    rw [decide_eq_true hx, erase_idx L x hx, hke]
    rw [hke] at hk
    have d0 : decide ((k : Int) < 0) = false := decide_eq_false (by omega)
    clear h hx hke hp
    go_enter Try.func14, Try.ntmps14
    go_wp2_with fail
    refine HA.out.mono ?_
    rintro e w1 ⟨rfl, hb1⟩
    have HT := Lib.hid (take_off (HP.out.later hb1) hk hL)
    have HB1 := Lib.hid hb1
    clear hb1
    go_wp2_with fail
    refine HT.out.mono ?_
    rintro e w2 ⟨rfl, hp2, hc2⟩
    have HP2 := Lib.hid hp2
    have HC2 := Lib.hid (Chg.ahead HB1.out hc2)
    clear hp2 hc2
    go_wp2
    go_ret
    exact ⟨rfl, HP2.out, HC2.out⟩
  · have hp : placeL L x = -1 := by unfold placeL; rw [if_neg hx]
    rw [hp] at HA
    rw [decide_eq_false hx, List.erase_of_not_mem hx]
    clear h hx hp
    go_enter Try.func14, Try.ntmps14
    go_wp2_with fail
    refine HA.out.mono ?_
    rintro e w1 ⟨rfl, hb1⟩
    go_wp2
    go_ret
    exact ⟨rfl, HP.out.later hb1, .of_below hb1⟩

/-- A list's things, each once, in the order in which they first come. -/
def onceL (l : List Int) : List Int := l.foldl (fun L x => layL L L.length x) []
theorem onceL_snoc (l : List Int) (x : Int) : onceL (l ++ [x]) = layL (onceL l) (onceL l).length x := by simp [onceL, List.foldl_append]
theorem layL_len (L : List Int) (i : Nat) (x : Int) : (layL L i x).length ≤ L.length + 1 := by
  unfold layL; split
  · omega
  · rw [insL_len]; exact Nat.le_refl _
theorem onceL_len (l : List Int) : ∀ k, (onceL (l.take k)).length ≤ k := by
  intro k
  induction k with
  | zero => simp [onceL]
  | succ k ih =>
    by_cases hk : k < l.length
    · rw [take_last l k hk, onceL_snoc]
      exact Nat.le_trans (layL_len _ _ _) (by omega)
    · rw [List.take_of_length_le (by omega)] at ih ⊢
      omega
def RetNew (w : World) (L : List Int) (e : Ending) (w' : World) : Prop := ∃ b g, e = .returned (.pointer (some ⟨b, 0, none⟩)) ∧ PileAt w' w.heap.size b g L ∧ Below w.heap.size w w'
set_option maxRecDepth 100000 in
set_option maxHeartbeats 2000000 in
theorem new_any {v : Value} {l : List Int} {w : World} (hv : IntsAt w v l) (hl : l.length ≤ 1000) : Calls Try.prog 9 #[v] w (RetNew w (onceL l)) := by
  obtain ⟨xa, xc, rfl⟩ := hv.form
  have HV := Lib.hid hv
  clear hv
  go_enter Try.func9, Try.ntmps9
  go_wp2
  go_loopw [9] (fun i wr => ∃ (k : Nat) (g : Option Nat), k ≤ l.length ∧ i = .int .i64 k ∧ Hid (PileAt wr w.heap.size w.heap.size g (onceL (l.take k))) ∧ Hid (Below w.heap.size w wr)) (fun i _ => l.length - (intOf i).toNat)
  case atStart =>
    refine ⟨0, none, Nat.zero_le _, rfl, Lib.hid ⟨.slice none 0 0, heap_alloc_new w _, rfl, Nat.le_refl _, World.ownsRow_nil _ _ _ _⟩, Lib.hid (below_new w _)⟩
  case round =>
    obtain ⟨k, g, hk, rfl, HP, HB⟩ := hrel
    by_cases hlt : k < l.length
    · obtain ⟨r, off, hxa, _, c0⟩ := (HV.out.later HB.out).at k hlt
      have htk := take_last l k hlt
      obtain ⟨x, hx⟩ : ∃ x, l[k] = x := ⟨_, rfl⟩
      rw [hx] at c0 htk
      have HTK := Lib.hid (show onceL (l.take (k + 1)) = layL (onceL (l.take k)) (onceL (l.take k)).length x by rw [htk, onceL_snoc])
      have HU := Lib.hid (under_any x HP.out (by have := onceL_len l k; omega))
      subst hxa
      clear hx htk
      go_wp2_with fail
      refine HU.out.mono ?_
      rintro e w1 ⟨g', rfl, hp1, hc1, hn1⟩
      have HP1 := Lib.hid hp1
      have HB1 := Lib.hid (hc1.below HB.out (Nat.le_refl _) (fun k hk => (HP.out.row k hk).1))
      clear hp1 hc1 hn1
      go_wp2
      go_roundw
      case rel => exact ⟨k + 1, g', by omega, by go_num, Lib.hid (by rw [HTK.out]; exact HP1.out), HB1⟩
      case measure => simp [intOf]; omega
    · obtain rfl : k = l.length := by omega
      have HP1 := Lib.hid (show PileAt wr w.heap.size w.heap.size g (onceL l) by have h := HP.out; rwa [List.take_length] at h)
      go_wp2
      go_ret
      exact ⟨w.heap.size, g, rfl, HP1.out, HB.out⟩
end Go.Proofs.Ytphcdeppilaceaa

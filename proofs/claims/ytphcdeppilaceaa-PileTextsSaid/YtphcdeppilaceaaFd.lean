/- The contracts of what changes a pile at numbers (layer 5): Push, Under, Pop, Drop, New. -/
import Derived.Test.YtphcdeppilaceaaFc
namespace Go.Proofs.Ytphcdeppilaceaa
open Go.RowKit

theorem own_set {w : World} {base b j n : Nat} {t : TypeId} {v u : Value} {xs : List Value} (h : w.ownsRow base t 1 v n xs) (hne : v.ownBlock ≠ some b) : (w.setCell ⟨b, j, none⟩ u).ownsRow base t 1 v n xs := by
  refine ⟨h.1, ?_⟩
  rcases h.2 with h2 | ⟨g, cap, cur, e, hb2, hg, r⟩
  · exact .inl h2
  · refine .inr ⟨g, cap, cur, e, hb2, (heap_setCell_other w ⟨b, j, none⟩ g u (fun e2 => hne (by rw [e]; show some g = some b; rw [e2]))).trans hg, r⟩
/-- A pile's header laid anew, behind a change of its row. -/
theorem pile_put {w w1 w2 : World} {lo b : Nat} {g : Option Nat} {v v' : Value} {L : List Int} (hbl : w1.heap[b]? = some (.cells #[v] 64 (0, 0))) (hlo : lo ≤ b) (hb1 : Below w.heap.size w w1)
    (hg : w1.grownBy w2 g) (hgb : g ≠ some b) (hown : w2.ownsRow lo 3 1 v' L.length (intsV L)) (hnb : v'.ownBlock ≠ some b) :
    PileAt (w2.setCell ⟨b, 0, none⟩ v') lo b v'.ownBlock L ∧ Chg w (w2.setCell ⟨b, 0, none⟩ v') b g := by
  have h2 : w2.heap[b]? = some (.cells #[v] 64 (0, 0)) := (hg.block b (Array.getElem?_eq_some_iff.1 hbl).1 (Ne.symm hgb)).trans hbl
  refine ⟨⟨v', ?_, rfl, hlo, own_set hown hnb⟩, ⟨hg.os.trans hb1.os, hg.tape.trans hb1.tape, hg.output.trans hb1.output, ?_, ?_⟩⟩
  · rw [heap_setCell_same w2 b 0 _ _ v' h2]; rfl
  · have := hb1.size; have := hg.size; simp; omega
  · intro k hk hkb hkg
    rw [heap_setCell_other w2 ⟨b, 0, none⟩ k v' hkb, hg.block k (Nat.lt_of_lt_of_le hk hb1.size) (Ne.symm hkg), hb1.block k hk]

def Newer (w : World) (g g' : Option Nat) : Prop := g' = g ∨ ∃ r, g' = some r ∧ w.heap.size ≤ r
/-- What a change of a pile ends with: what it returns, the pile behind it, and all else as it was. -/
def RetPile (w : World) (lo b : Nat) (g : Option Nat) (v : Value) (L : List Int) (e : Ending) (w' : World) : Prop := ∃ g', e = .returned v ∧ PileAt w' lo b g' L ∧ Chg w w' b g ∧ Newer w g g'
def layL (L : List Int) (i : Nat) (x : Int) : List Int := if x ∈ L then L else insL L i x

set_option maxRecDepth 100000 in
set_option maxHeartbeats 2000000 in
theorem lay_any {w : World} {lo b i : Nat} {g : Option Nat} {L : List Int} (x : Int) (h : PileAt w lo b g L) (hi : i ≤ L.length) (hL : L.length ≤ 1000) :
    Calls Try.prog 37 #[.pointer (some ⟨b, 0, none⟩), .int .i64 (i : Int), .int .i64 x] w (RetPile w lo b g (.bool (!decide (x ∈ L))) (layL L i x)) := by
  have HH := Lib.hid (has_any x h hL)
  have HP := Lib.hid h
  by_cases hx : x ∈ L
  · have hd : decide (x ∈ L) = true := decide_eq_true hx
    rw [hd] at HH
    have hlay : layL L i x = L := if_pos hx
    rw [hd, hlay]
    clear h hx hd hlay
    go_enter Try.func37, Try.ntmps37
    go_wp2_with fail
    refine HH.out.mono ?_
    rintro e w1 ⟨rfl, hb1⟩
    go_wp2
    go_ret
    exact ⟨g, rfl, HP.out.later hb1, .of_below hb1, .inl rfl⟩
  · have hd : decide (x ∈ L) = false := decide_eq_false hx
    rw [hd] at HH
    have hlay : layL L i x = insL L i x := if_neg hx
    rw [hd, hlay]
    clear h hx hd hlay
    go_enter Try.func37, Try.ntmps37
    go_wp2_with fail
    refine HH.out.mono ?_
    rintro e w1 ⟨rfl, hb1⟩
    have hbw := HP.out.lt
    have hrow := (HP.out.later hb1).row
    obtain ⟨v, hbl, hg, hlo, hown⟩ := HP.out.later hb1
    have c0 : (w1.cell? ⟨b, 0, none⟩) = some v := by rw [cell_of_row w1 b 0 _ _ _ hbl]; rfl
    have hvn : v.ownBlock ≠ some w1.heap.size := fun e => by rw [hg] at e; have := hrow _ e; omega
    have HB2 := Lib.hid ((below_new w1 (.cells #[.int .i64 x] 3)).block b (by have := hb1.size; omega) |>.trans hbl)
    have HI := Lib.hid (insert_int (vb := w1.heap.size) x (own_later hown (below_new w1 (.cells #[.int .i64 x] 3))) hi hL (by simp; have := hb1.size; omega) (heap_alloc_new w1 _) hvn)
    have HN := Lib.hid (And.intro hg (And.intro hlo (And.intro hbw hrow)))
    have HB1 := Lib.hid (below_alloc2 hb1 (.cells #[.int .i64 x] 3))
    clear hb1 hbl hg hlo hown hvn hbw hrow
    go_wp2_with fail
    refine HI.out.mono ?_
    rintro e w2 ⟨v', rfl, hown', hgr, hnew⟩
    obtain ⟨ya, yc, rfl⟩ := (own_ints hown').form
    rw [insL_len] at hown' hnew ⊢
    obtain ⟨v', hv'⟩ : ∃ v', Value.slice ya (L.length + 1) yc = v' := ⟨_, rfl⟩
    rw [hv'] at hown' hnew
    have hgb : v.ownBlock ≠ some b := fun e => by rw [HN.out.1] at e; exact (HN.out.2.2.2 b e).2.2 rfl
    have hnb : v'.ownBlock ≠ some b := by
      rcases hnew with h | ⟨r, h, hr⟩
      · rw [h]; exact hgb
      · rw [h]; intro e; injection e with e; have := HN.out.2.2.1; have := HB1.out.size; omega
    rw [← insL_len (x := x) L i] at hown'
    have HR := Lib.hid (pile_put HB2.out HN.out.2.1 HB1.out hgr hgb hown' hnb)
    have hblk : w2.heap[b]? = some (.cells #[v] 64 (0, 0)) := (hgr.block b (Array.getElem?_eq_some_iff.1 HB2.out).1 (Ne.symm hgb)).trans HB2.out
    have c1 : (w2.cell? ⟨b, 0, none⟩) = some v := by rw [cell_of_row w2 b 0 _ _ _ hblk]; rfl
    have f1 : w2.frozen? ⟨b, 0, none⟩ = false := frozen_of_row w2 b 0 _ _ hblk
    have HW := Lib.hid (show Newer w v.ownBlock v'.ownBlock from by
      rcases hnew with h | ⟨r, h, hr⟩
      · exact .inl h
      · exact .inr ⟨r, h, Nat.le_trans HB1.out.size hr⟩)
    subst hv'
    clear hown' hgr hnew hgb hnb hblk
    go_wp2
    go_ret
    have hgg := HN.out.1
    exact ⟨_, rfl, HR.out.1, by rw [← hgg]; exact HR.out.2, by rw [← hgg]; exact HW.out⟩

set_option maxRecDepth 100000 in
theorem push_any {w : World} {lo b : Nat} {g : Option Nat} {L : List Int} (x : Int) (h : PileAt w lo b g L) (hL : L.length ≤ 1000) :
    Calls Try.prog 11 #[.pointer (some ⟨b, 0, none⟩), .int .i64 x] w (RetPile w lo b g (.bool (!decide (x ∈ L))) (layL L 0 x)) := by
  have HL := Lib.hid (lay_any x h (Nat.zero_le _) hL)
  clear h
  go_enter Try.func11, Try.ntmps11
  go_wp2_with fail
  refine HL.out.mono ?_
  rintro e w1 ⟨g', rfl, hr⟩
  go_wp2
  go_ret
  exact ⟨g', rfl, hr⟩
set_option maxRecDepth 100000 in
theorem under_any {w : World} {lo b : Nat} {g : Option Nat} {L : List Int} (x : Int) (h : PileAt w lo b g L) (hL : L.length ≤ 1000) :
    Calls Try.prog 12 #[.pointer (some ⟨b, 0, none⟩), .int .i64 x] w (RetPile w lo b g (.bool (!decide (x ∈ L))) (layL L L.length x)) := by
  have HL := Lib.hid (lay_any x h (Nat.le_refl _) hL)
  have HN := Lib.hid (len_any h)
  clear h
  go_enter Try.func12, Try.ntmps12
  go_wp2_with fail
  refine HN.out.mono ?_
  rintro e w1 ⟨rfl, rfl⟩
  go_wp2_with fail
  refine HL.out.mono ?_
  rintro e w1 ⟨g', rfl, hr⟩
  go_wp2
  go_ret
  exact ⟨g', rfl, hr⟩
end Go.Proofs.Ytphcdeppilaceaa

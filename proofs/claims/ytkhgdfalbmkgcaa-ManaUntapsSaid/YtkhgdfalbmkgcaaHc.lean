/- What a store tells and doesn't change (layer 6): placeOf, pileAt, In, Top, Len, Seats, Get. -/
import Derived.Test.YtkhgdfalbmkgcaaHb
import Derived.Deep.RegionHeld3
import Derived.Deep.RegionLaw
namespace Go.Proofs.Ytkhgdfalbmkgcaa
open Go.RowKit Go.Maps

def canS (s z : Int) : Int := if z = 3 ∨ z = 4 then 0 else s
theorem canS_wf {s z : Int} (hs : Wf s) : Wf (canS s z) := by
  unfold canS
  split
  · exact ⟨by decide, by decide⟩
  · exact hs
set_option maxRecDepth 100000 in
set_option maxHeartbeats 2000000 in
theorem placeOf_any (s z : Int) (w : World) : Calls Try.prog 56 #[.int .i64 s, .int .i64 z] w (RetV w (kv (canS s z) z)) := by
  by_cases h3 : z = 3
  · subst h3
    go_enter Try.func56, Try.ntmps56
    go_wp2
    refine bodyPost_ret (by simp [results, Try.results56, go_sem]; rfl) rfl ⟨rfl, ?_⟩
    exact below_new w _
  · by_cases h4 : z = 4
    · subst h4
      go_enter Try.func56, Try.ntmps56
      go_wp2
      refine bodyPost_ret (by simp [results, Try.results56, go_sem]; rfl) rfl ⟨rfl, ?_⟩
      exact below_new w _
    · have e3 : (z == 3) = false := beq_eq_false_iff_ne.2 h3
      have e4 : (z == 4) = false := beq_eq_false_iff_ne.2 h4
      have hc : canS s z = s := if_neg (by omega)
      rw [hc]
      go_enter Try.func56, Try.ntmps56
      go_wp2
      refine bodyPost_ret (by simp [results, Try.results56, go_sem]; rfl) rfl ⟨rfl, ?_⟩
      exact below_new w _
set_option maxRecDepth 100000 in
theorem pileAt_none (s z : Int) (w : World) : Calls Try.prog 42 #[.pointer none, .int .i64 s, .int .i64 z] w (Same w (.pointer none)) := by
  go_enter Try.func42, Try.ntmps42
  go_wp2
  go_ret
  exact ⟨rfl, rfl⟩
set_option maxRecDepth 100000 in
set_option maxHeartbeats 2000000 in
theorem pileAt_any {w : World} {lo b : Nat} {G : Ghost} {S : StoreL} (h : StoreAt w lo b G S) {s z : Int} (hs : Wf s) (hz : Wf z) :
    Calls Try.prog 42 #[.pointer (some ⟨b, 0, none⟩), .int .i64 s, .int .i64 z] w (RetV w (ptrOf S.seats G.pb (canS s z) z)) := by
  have c3 : w.cell? ⟨b, 3, none⟩ = some (.map (some G.mb)) := by rw [cell_of_row w b 3 _ _ _ h.hd]; rfl
  have HM := Lib.hid (fun (w' : World) (hb : Below w.heap.size w w') => (h.mp.kept (hb.block _ h.mp.lt)).look (canS_wf (z := z) hs) hz)
  have HH := Lib.hid h
  clear h
  go_enter Try.func42, Try.ntmps42
  go_wp2
  go_region_with ((go_at_call 56; refine (placeOf_any s z _).mono ?_; rintro e w1 ⟨rfl, hb1⟩; have hb1' := stepB (below_drewN (Below.refl w.heap.size w) _) hb1; have hl := HM.out w1 hb1'; have c3' := cell_stays hb1' c3))
  all_goals (go_wp2; go_ret; exact ⟨rfl, by assumption⟩)
/-- A list of its own. -/
theorem okK_of {n : Nat} {s z : Int} (h : okI n s z) : okK n s.toNat z.toNat := h.2.2
def inL (S : StoreL) (s z : Int) : List Int := if okI S.seats (canS s z) z then S.pl (canS s z).toNat z.toNat else []
def ShortS (S : StoreL) : Prop := S.objs.length ≤ 1000 ∧ ∀ s z, okK S.seats s z → (S.pl s z).length ≤ 1000
theorem listNil_any (w : World) : Calls Try.prog 43 #[.pointer none] w (Same w (.slice none 0 0)) := by
  go_enter Try.func43, Try.ntmps43
  go_wp2
  go_ret
  exact ⟨rfl, rfl⟩
set_option maxRecDepth 100000 in
theorem in_none (s z : Int) (w : World) : Calls Try.prog 16 #[.pointer none, .int .i64 s, .int .i64 z] w (Same w (.slice none 0 0)) := by
  go_enter Try.func16, Try.ntmps16
  go_wp2_with fail
  refine (pileAt_none s z _).mono ?_
  rintro e w1 ⟨rfl, rfl⟩
  go_wp2_with fail
  refine (listNil_any _).mono ?_
  rintro e w2 ⟨rfl, rfl⟩
  go_wp2
  go_ret
  exact ⟨rfl, rfl⟩
theorem list_ptr {w : World} {lo b : Nat} {G : Ghost} {S : StoreL} (h : StoreAt w lo b G S) (hS : ShortS S) (s z : Int) :
    Calls Try.prog 43 #[ptrOf S.seats G.pb (canS s z) z] w (RetList w (inL S s z)) := by
  unfold ptrOf inL
  by_cases hk : okI S.seats (canS s z) z
  · rw [if_pos hk, if_pos hk]
    exact list_any (h.pi _ _ hk.2.2) (hS.2 _ _ hk.2.2)
  · rw [if_neg hk, if_neg hk]
    refine (listNil_any w).mono ?_
    rintro e w' ⟨rfl, rfl⟩
    exact ⟨_, rfl, World.ownsRow_nil _ _ _ _, Below.refl _ _⟩
set_option maxRecDepth 100000 in
set_option maxHeartbeats 2000000 in
theorem in_any {w : World} {lo b : Nat} {G : Ghost} {S : StoreL} (h : StoreAt w lo b G S) (hS : ShortS S) {s z : Int} (hs : Wf s) (hz : Wf z) :
    Calls Try.prog 16 #[.pointer (some ⟨b, 0, none⟩), .int .i64 s, .int .i64 z] w (RetList w (inL S s z)) := by
  have HP := Lib.hid (pileAt_any h hs hz)
  have HL := Lib.hid (fun (w' : World) (hb : Below w.heap.size w w') => list_ptr (h.later hb) hS s z)
  clear h
  go_enter Try.func16, Try.ntmps16
  go_wp2_with fail
  refine HP.out.mono ?_
  rintro e w1 ⟨rfl, hb1⟩
  go_wp2_with fail
  refine (HL.out w1 hb1).mono ?_
  rintro e w2 ⟨v, rfl, ho, hb2⟩
  go_wp2
  go_ret
  refine ⟨v, rfl, ⟨ho.1, ?_⟩, stepB hb1 hb2⟩
  rcases ho.2 with h0 | ⟨g, cap, cur, e, hb, r⟩
  · exact .inl h0
  · exact .inr ⟨g, cap, cur, e, Nat.le_trans hb1.size hb, r⟩
/-- The first one, if there is one. -/
theorem lenNil_any (w : World) : Calls Try.prog 71 #[.pointer none] w (Same w (.int .i64 0)) := by
  go_enter Try.func71, Try.ntmps71
  go_wp2
  go_ret
  exact ⟨rfl, rfl⟩
set_option maxRecDepth 100000 in
theorem atNil_any (w : World) : Calls Try.prog 52 #[.pointer none, .int .i64 0] w (Same w (.tuple #[.int .i64 0, .bool false])) := by
  go_enter Try.func52, Try.ntmps52
  go_wp2_with fail
  refine (lenNil_any _).mono ?_
  rintro e w1 ⟨rfl, rfl⟩
  go_wp2
  go_ret2
  exact ⟨rfl, rfl⟩
theorem at_zero {w : World} {lo b : Nat} {g : Option Nat} {L : List Int} (h : PileAt w lo b g L) :
    Calls Try.prog 52 #[.pointer (some ⟨b, 0, none⟩), .int .i64 0] w (Same w (.tuple #[.int .i64 (L.headD 0), .bool (decide (0 < L.length))])) := by
  cases L with
  | nil => exact at_out 0 h (.inr (by simp))
  | cons x L => exact at_in (k := 0) h (by simp)
def topL (S : StoreL) (s z : Int) : Value := .tuple #[.int .i64 ((inL S s z).headD 0), .bool (decide (0 < (inL S s z).length))]
set_option maxRecDepth 100000 in
set_option maxHeartbeats 2000000 in
theorem top_any {w : World} {lo b : Nat} {G : Ghost} {S : StoreL} (h : StoreAt w lo b G S) {s z : Int} (hs : Wf s) (hz : Wf z) :
    Calls Try.prog 22 #[.pointer (some ⟨b, 0, none⟩), .int .i64 s, .int .i64 z] w (RetV w (topL S s z)) := by
  have HP := Lib.hid (pileAt_any h hs hz)
  have HL : Hid (∀ w', Below w.heap.size w w' → Calls Try.prog 52 #[ptrOf S.seats G.pb (canS s z) z, .int .i64 0] w' (Same w' (.tuple #[.int .i64 ((inL S s z).headD 0), .bool (decide (0 < (inL S s z).length))]))) := Lib.hid (by
    intro w' hb
    unfold ptrOf inL
    by_cases hk : okI S.seats (canS s z) z
    · rw [if_pos hk, if_pos hk]; exact at_zero ((h.later hb).pi _ _ hk.2.2)
    · rw [if_neg hk, if_neg hk]; exact atNil_any w')
  unfold topL
  obtain ⟨x, hx⟩ : ∃ x, (inL S s z).headD 0 = x := ⟨_, rfl⟩
  obtain ⟨y, hy⟩ : ∃ y, decide (0 < (inL S s z).length) = y := ⟨_, rfl⟩
  rw [hx, hy] at HL ⊢
  clear h hx hy
  go_enter Try.func22, Try.ntmps22
  go_wp2_with fail
  refine HP.out.mono ?_
  rintro e w1 ⟨rfl, hb1⟩
  go_wp2_with fail
  refine (HL.out w1 hb1).mono ?_
  rintro e w2 ⟨rfl, rfl⟩
  go_wp2
  go_ret2
  exact ⟨rfl, hb1⟩
set_option maxRecDepth 100000 in
theorem len_store {w : World} {lo b : Nat} {G : Ghost} {S : StoreL} (h : StoreAt w lo b G S) (hS : ShortS S) :
    Calls Try.prog 14 #[.pointer (some ⟨b, 0, none⟩)] w (Same w (.int .i64 S.objs.length)) := by
  have hv : ∃ xa xc, G.ov = .slice xa S.objs.length xc := by
    rcases h.ob.2 with ⟨e, e2⟩ | ⟨g, cap, cur, e, _⟩
    · exact ⟨none, 0, by rw [e, e2]⟩
    · exact ⟨_, _, e⟩
  obtain ⟨xa, xc, hv⟩ := hv
  have c2 : w.cell? ⟨b, 2, none⟩ = some (.slice xa S.objs.length xc) := by rw [cell_of_row w b 2 _ _ _ h.hd, ← hv]; rfl
  have hl := hS.1
  clear h hv
  go_enter Try.func14, Try.ntmps14
  go_wp2
  go_ret
  exact ⟨rfl, rfl⟩
end Go.Proofs.Ytkhgdfalbmkgcaa

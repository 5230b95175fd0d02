/- The contracts of New and Copy (layer 4): draws of the call's own. -/
import Derived.Test.YtokjghfpdolojaaEd
import Derived.Deep.RegionHeld3
namespace Go.Proofs.Ytokjghfpdolojaa
open Go.RowKit

def RetNums (w : World) (l : List Int) (e : Ending) (w' : World) : Prop :=
  e = .returned (.slice (some ⟨w.heap.size, 0, none⟩) l.length l.length) ∧ RowAt w' w.heap.size 3 (intsV l) ∧ Below w.heap.size w w'
theorem own_nums {v : Value} {l : List Int} {w : World} (h : IntsAt w v l) (hl : l.length ≤ 1000) : Calls Try.prog 22 #[v] w (RetNums w l) := by
  refine (own_int h (intsV_one l) (by rw [intsV_len]; exact hl)).mono ?_
  rintro e w1 ⟨rfl, hr, hb⟩
  exact ⟨by rw [intsV_len], hr, hb⟩
def RetDraws (w : World) (m : List Int) (k : Nat) (e : Ending) (w' : World) : Prop :=
  ∃ c, e = .returned (.pointer (some ⟨c, 0, none⟩)) ∧ DrawsAt w' w.heap.size c m k ∧ w.heap.size ≤ c ∧ Below w.heap.size w w'
theorem row_rest {w w' : World} {lo g b : Nat} {m : List Int} (h : RowAt w g 3 (intsV m)) (hb : Below w.heap.size w w') (h0 : lo ≤ g) (h1 : g < b) : RestAt w' lo b (.slice (some ⟨g, 0, none⟩) m.length m.length) m :=
  .inr ⟨g, 0, h0, h1, Nat.lt_of_lt_of_le h.lt hb.size, rfl, fun i hi => by
    rw [Nat.zero_add]
    have := (h.later hb).cell i (by rw [intsV_len]; exact hi)
    rw [this]; simp [intsV]⟩
theorem boxed_draws {w w1 : World} {g : Nat} {m : List Int} {k : Nat} (h : RowAt w1 g 3 (intsV m)) (hb : Below w.heap.size w w1) (h0 : w.heap.size ≤ g) :
    RetDraws w m k (.returned (.pointer (some ⟨w1.heap.size, 0, none⟩))) (w1.alloc (.cells #[.slice (some ⟨g, 0, none⟩) m.length m.length, .int .i64 k] 49)) :=
  ⟨w1.heap.size, rfl, ⟨hb.size, _, RowAt.new w1 _ [.slice (some ⟨g, 0, none⟩) m.length m.length, .int .i64 k], row_rest h (below_new w1 _) h0 h.lt⟩, hb.size, below_alloc2 hb _⟩
set_option maxRecDepth 100000 in
set_option maxHeartbeats 4000000 in
theorem new_any {v : Value} {l : List Int} {w : World} (h : IntsAt w v l) (hl : l.length ≤ 1000) :
    Calls Try.prog 8 #[v] w (RetDraws w l 0) := by
  obtain ⟨xa, xc, rfl⟩ := h.form
  have H := Lib.hid h
  clear h
  go_enter Try.func8, Try.ntmps8
  go_wp2_with fail
  refine (own_nums H.out hl).mono ?_
  rintro e w1 ⟨rfl, hr, hb⟩
  have HR := Lib.hid hr
  have HB := Lib.hid hb
  clear hr hb
  go_wp2
  go_ret
  exact boxed_draws (k := 0) HR.out HB.out (Nat.le_refl _)

theorem keepD {A w1 w2 : World} {b : Nat} {v0 v1 : Value} (hb : Below w1.heap.size w1 w2) (h : Below A.heap.size A w1 ∧ w1.cell? ⟨b, 0, none⟩ = some v0 ∧ w1.cell? ⟨b, 1, none⟩ = some v1) :
    Below A.heap.size A w2 ∧ w2.cell? ⟨b, 0, none⟩ = some v0 ∧ w2.cell? ⟨b, 1, none⟩ = some v1 := ⟨h.1.trans (hb.mono h.1.size), cell_stays hb h.2.1, cell_stays hb h.2.2⟩
set_option maxRecDepth 100000 in
set_option maxHeartbeats 4000000 in
theorem copy_any {w : World} {lo b k : Nat} {m : List Int} (h : DrawsAt w lo b m k) (hm : m.length ≤ 1000) :
    Calls Try.prog 9 #[.pointer (some ⟨b, 0, none⟩)] w (RetDraws w m k) := by
  obtain ⟨h0, v, hr, hv⟩ := h
  obtain ⟨xa, xc, rfl⟩ := hv.form
  have c0 := hr.cell 0 (by simp)
  have c1 := hr.cell 1 (by simp)
  simp only [List.getElem_cons_zero, List.getElem_cons_succ] at c0 c1
  have H := Lib.hid hv.ints
  have hbl := hr.lt
  clear h0 hr hv
  go_enter Try.func9, Try.ntmps9
  go_wp2
  go_region_held3 (fun w' => Below w.heap.size w w' ∧ w'.cell? ⟨b, 0, none⟩ = some (.slice xa m.length xc) ∧ w'.cell? ⟨b, 1, none⟩ = some (.int .i64 (k : Int)))
    (first | exact ⟨(Below.refl _ _).drew, c0, c1⟩ | exact keepD (by assumption) (by assumption) | exact keepD (below_new _ _) (by assumption))
    ((go_at_call 22; refine (own_nums (H.out.later (And.left (by assumption))) hm).mono ?_; rintro e w1 ⟨rfl, hr1, hb1⟩))
  have HR1 := Lib.hid hr1
  have HB1 := Lib.hid hb1
  clear hr1 hb1 c0 c1
  go_wp2
  go_ret
  exact boxed_draws HR1.out (((Below.refl w.heap.size w).drew).trans HB1.out) (Nat.le_refl _)
end Go.Proofs.Ytokjghfpdolojaa

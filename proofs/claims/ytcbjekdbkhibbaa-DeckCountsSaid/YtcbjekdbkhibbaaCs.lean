/- The contracts of Is and of awake, the document's example (layer 2, card). -/
import Derived.Test.YtcbjekdbkhibbaaCr
namespace Go.Proofs.Ytcbjekdbkhibbaa
open Go.RowKit

set_option maxRecDepth 100000 in
set_option maxHeartbeats 1600000 in
theorem is_any (c : CardL) (xa : Option Addr) (xn xc : Nat) (v : Value) (l : List Int) (w : World) (hl : l.length ≤ 9223372036854775807) (h : NumsAt w v l) :
    Calls Try.prog 49 #[cagg c (.slice xa xn xc), v] w (RetB w (l.contains c.kind)) := by
  have HN : ∀ o, NumsAt (w.alloc o) v l := fun o => by
    rcases h with h | ⟨b, off, cap, e, hb, hc⟩
    · exact .inl h
    · exact .inr ⟨b, off, cap, e, by simp; omega, fun i hi => cell_stays (below_alloc1 w o) (hc i hi)⟩
  have HNN := Lib.hid HN
  have HL := Lib.hid hl
  clear HN h hl
  unfold cagg
  go_enter Try.func49, Try.ntmps49
  go_wp2_with fail
  refine (contains_any v l c.kind _ HL.out (HNN.out _)).mono ?_
  rintro e w2 ⟨rfl, rfl⟩
  go_wp2
  go_ret
  exact ⟨ret_bool (by simp), below_alloc1 w _⟩

def exCard : CardL := ⟨2, 2, 2, 2, 0, 0, []⟩
theorem ex_may : mayB exCard = true := by decide
theorem ex_put : cput exCard = (⟨#[2, 2, 2, 2, 0, 0, 0]⟩, 0) := by kernel_rfl
theorem zero_may : mayB zeroC = false := by decide

theorem keep7 {A w1 w2 : World} {b : Nat} {v0 v1 v2 v3 v4 v5 v6 : Value} (hb : Below w1.heap.size w1 w2)
    (h : Below A.heap.size A w1 ∧ w1.cell? ⟨b, 0, none⟩ = some v0 ∧ w1.cell? ⟨b, 1, none⟩ = some v1 ∧ w1.cell? ⟨b, 2, none⟩ = some v2 ∧ w1.cell? ⟨b, 3, none⟩ = some v3 ∧ w1.cell? ⟨b, 4, none⟩ = some v4 ∧ w1.cell? ⟨b, 5, none⟩ = some v5 ∧ w1.cell? ⟨b, 6, none⟩ = some v6) :
    Below A.heap.size A w2 ∧ w2.cell? ⟨b, 0, none⟩ = some v0 ∧ w2.cell? ⟨b, 1, none⟩ = some v1 ∧ w2.cell? ⟨b, 2, none⟩ = some v2 ∧ w2.cell? ⟨b, 3, none⟩ = some v3 ∧ w2.cell? ⟨b, 4, none⟩ = some v4 ∧ w2.cell? ⟨b, 5, none⟩ = some v5 ∧ w2.cell? ⟨b, 6, none⟩ = some v6 :=
  ⟨h.1.trans (hb.mono h.1.size), cell_stays hb h.2.1, cell_stays hb h.2.2.1, cell_stays hb h.2.2.2.1, cell_stays hb h.2.2.2.2.1, cell_stays hb h.2.2.2.2.2.1, cell_stays hb h.2.2.2.2.2.2.1, cell_stays hb h.2.2.2.2.2.2.2⟩

set_option maxRecDepth 100000 in
set_option maxHeartbeats 3200000 in
theorem awake2_any (w : World) : Calls Try.prog 37 #[] w (RetB w true) := by
  have hex : ∀ W : World, CardIs W (cagg exCard (.slice none 0 0)) exCard := fun W => ⟨none, 0, 0, rfl, .inl ⟨none, 0, rfl, rfl⟩⟩
  have HEX := Lib.hid hex
  clear hex
  go_enter Try.func37, Try.ntmps37
  go_wp2
  go_region_held3 (fun w' => Below w.heap.size w w' ∧ w'.cell? ⟨w.heap.size, 0, none⟩ = some (.int .i64 2) ∧ w'.cell? ⟨w.heap.size, 1, none⟩ = some (.int .i64 2) ∧ w'.cell? ⟨w.heap.size, 2, none⟩ = some (.int .i64 2) ∧ w'.cell? ⟨w.heap.size, 3, none⟩ = some (.int .i64 2) ∧ w'.cell? ⟨w.heap.size, 4, none⟩ = some (.int .i64 0) ∧ w'.cell? ⟨w.heap.size, 5, none⟩ = some (.int .i64 0) ∧ w'.cell? ⟨w.heap.size, 6, none⟩ = some (.slice none 0 0))
    (first | assumption | exact ⟨((Below.refl _ _).alloc (Nat.le_refl _) _).drew, by simp [go_sem], by simp [go_sem], by simp [go_sem], by simp [go_sem], by simp [go_sem], by simp [go_sem], by simp [go_sem]⟩ | exact keep7 (by assumption) (by assumption))
    (first
      | (go_at_call 38; refine (codec_any _).mono ?_; rintro e w1 ⟨r, rfl, hcod, hb1⟩)
      | (go_at_call 39; refine (put_c (by assumption) (HEX.out _) (by decide)).mono ?_; rw [ex_put]; unfold ret2; rintro e w3 ⟨rfl, hb3⟩))
  have hS : Below w.heap.size w w3 ∧ w3.cell? ⟨w.heap.size, 0, none⟩ = some (.int .i64 2) ∧ w3.cell? ⟨w.heap.size, 1, none⟩ = some (.int .i64 2) ∧ w3.cell? ⟨w.heap.size, 2, none⟩ = some (.int .i64 2) ∧ w3.cell? ⟨w.heap.size, 3, none⟩ = some (.int .i64 2) ∧ w3.cell? ⟨w.heap.size, 4, none⟩ = some (.int .i64 0) ∧ w3.cell? ⟨w.heap.size, 5, none⟩ = some (.int .i64 0) ∧ w3.cell? ⟨w.heap.size, 6, none⟩ = some (.slice none 0 0) := by assumption
  have HS := Lib.hid hS
  obtain ⟨_, k0, k1, k2, k3, k4, k5, k6⟩ := hS
  go_wp2_with fail
  refine (check_any (HEX.out _) (by decide)).mono ?_
  rw [ex_may]
  rintro e w4 ⟨rfl, hb4⟩
  have HS4 := Lib.hid (keep7 hb4 HS.out)
  clear hb4 k0 k1 k2 k3 k4 k5 k6
  go_wp2_with fail
  refine (check_any (c := zeroC) ⟨none, 0, 0, rfl, .inl ⟨none, 0, rfl, rfl⟩⟩ (by decide)).mono ?_
  rw [zero_may]
  rintro e w5 ⟨rfl, hb5⟩
  have HS5 := Lib.hid (keep7 hb5 HS4.out)
  obtain ⟨_, k0, k1, k2, k3, k4, k5, k6⟩ := HS5.out
  clear hb5
  go_wp2_with fail
  refine (is_any exCard none 0 0 _ [1, 2] _ (by decide) (nums2 _ _ _)).mono ?_
  rintro e w6 ⟨rfl, hb6⟩
  go_wp2
  go_ret
  exact ⟨rfl, stepB (below_alloc2 HS5.out.1 _) hb6⟩
end Go.Proofs.Ytcbjekdbkhibbaa

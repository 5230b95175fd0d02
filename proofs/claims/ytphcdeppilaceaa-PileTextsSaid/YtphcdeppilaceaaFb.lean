/- The contracts of a pile's Len, Place, Has, At and List at numbers (layer 5): they change nothing. -/
import Derived.Test.YtphcdeppilaceaaFa
import Derived.Recover
import Derived.Carry
namespace Go.Proofs.Ytphcdeppilaceaa
open Go.RowKit

/-- Where something is in a list; -1, if it isn't there. -/
def placeL (L : List Int) (x : Int) : Int := if x ∈ L then ((L.idxOf x : Nat) : Int) else -1
theorem idx_place (L : List Int) (x : Int) : Lib.idxOf L x = placeL L x := by
  unfold placeL
  have ht : L.take L.length = L := List.take_length
  by_cases h : x ∈ L
  · rw [if_pos h]
    have hk := List.idxOf_lt_length_iff.2 h
    have h1 : L.getD (L.idxOf x) 0 = x := by
      rw [List.getD_eq_getElem?_getD, List.getElem?_eq_getElem hk]
      exact List.getElem_idxOf hk
    have := Lib.idxOf_hit L L.length (L.idxOf x) x hk (Nat.le_refl _) h1 (fun j hj => by
      have hjl : j < L.length := by omega
      rw [List.getD_eq_getElem?_getD, List.getElem?_eq_getElem hjl]
      intro e
      have h2 := List.not_of_lt_findIdx (p := fun y => y == x) (xs := L) (i := j) hj
      simp at h2
      exact h2 e)
    rwa [ht] at this
  · rw [if_neg h]
    have := Lib.idxOf_miss L L.length x (fun j hj => by
      rw [List.getD_eq_getElem?_getD, List.getElem?_eq_getElem hj]
      intro e
      exact h (by rw [← e]; exact List.getElem_mem hj))
    rwa [ht] at this
theorem place_nonneg (L : List Int) (x : Int) : decide (0 ≤ placeL L x) = decide (x ∈ L) := by
  unfold placeL
  by_cases h : x ∈ L
  · simp [h]
  · simp [h]
theorem place_bd (L : List Int) (x : Int) : -1 ≤ placeL L x ∧ placeL L x < L.length ∨ (L = [] ∧ placeL L x = -1) := by
  unfold placeL
  by_cases h : x ∈ L
  · rw [if_pos h]
    have hk := List.idxOf_lt_length_iff.2 h
    left; omega
  · rw [if_neg h]
    cases L with
    | nil => right; exact ⟨rfl, rfl⟩
    | cons a l => left; simp; omega

theorem index_own {w : World} {base : Nat} {v : Value} {L : List Int} (x : Int) (h : w.ownsRow base 3 1 v L.length (intsV L)) (hL : L.length ≤ 1000) :
    Calls Try.prog 41 #[v, .int .i64 x] w (Same w (.int .i64 (placeL L x))) := by
  have hv := own_ints h
  rcases hv with ⟨xa, xc, rfl, h0⟩ | ⟨b, off, cap, rfl, hlt, hc⟩
  · have : L = [] := by simpa [intsV] using h0
    subst this
    refine (Try.slices_Index_int_empty xa xc x w).mono ?_
    rintro e w' ⟨rfl, rfl⟩
    exact ⟨by rw [idx_place], rfl⟩
  · rw [intsV_len]
    refine (Try.slices_Index_int b off L.length cap L x w (Nat.le_refl _) (by omega) (fun j hj => ?_)).mono ?_
    · rw [hc j (by rw [intsV_len]; exact hj)]
      simp [intsV, List.getD, hj]
    · rintro e w' ⟨rfl, rfl⟩
      exact ⟨by rw [List.take_length, idx_place], rfl⟩

theorem cd_place (p : Option Addr) (w : World) :
    CallsD Try.prog 40 #[.pointer p] .returning w fun e u' w' => e = .returned (.tuple #[]) ∧ u' = .returning ∧ w' = w := by
  refine callsD_of_wpS Try.func40 rfl fun c₀ cs hu => ?_
  apply wpS_seq
  apply wpS_region
  simp [wpOpsS, go_sem, recoverD, hu, Try.ntmps40, Exit.thenS]
  refine wpS_cond (t := false) (by simp [Act.eval, Array.replicate]) ?_
  simp only [Bool.false_eq_true, if_false]
  refine wpS_of_wp (wp_skip ?_)
  cases c₀
  simp_all [bodyPostS, results, Try.results40]

set_option maxRecDepth 100000 in
set_option maxHeartbeats 2000000 in
theorem place_any {w : World} {lo b : Nat} {g : Option Nat} {L : List Int} (x : Int) (h : PileAt w lo b g L) (hL : L.length ≤ 1000) :
    Calls Try.prog 22 #[.pointer (some ⟨b, 0, none⟩), .int .i64 x] w (RetV w (.int .i64 (placeL L x))) := by
  obtain ⟨v, hb, hg, hlo, hown⟩ := h
  have hmf := @mk_func
  have hbl := (Array.getElem?_eq_some_iff.1 hb).1
  have c0 : (w.alloc (.cells #[.int .i64 0] 3)).cell? ⟨b, 0, none⟩ = some v := cell_stays (below_new w _) (by rw [cell_of_row w b 0 _ _ _ hb]; rfl)
  have HO := Lib.hid (own_later hown (below_new w (.cells #[.int .i64 0] 3)))
  clear hb hg hown
  go_enter_defers Try.func22, Try.ntmps22
  go_wp2_with fail
  refine (index_own x HO.out hL).mono ?_
  rintro e w1 ⟨rfl, rfl⟩
  go_wp2
  refine leaves_cons (f := 40) (args := #[.pointer (some ⟨w.heap.size, 0, none⟩)]) (by simp) (by simp [go_sem]) ?_
  refine (cd_place _ _).mono ?_
  rintro e u' w'' ⟨rfl, rfl, rfl⟩
  simp [Leaves, settle, results, Try.results22, go_sem]
  exact ⟨rfl, below_new w _⟩

set_option maxRecDepth 100000 in
theorem has_any {w : World} {lo b : Nat} {g : Option Nat} {L : List Int} (x : Int) (h : PileAt w lo b g L) (hL : L.length ≤ 1000) :
    Calls Try.prog 20 #[.pointer (some ⟨b, 0, none⟩), .int .i64 x] w (RetV w (.bool (decide (x ∈ L)))) := by
  have HP := Lib.hid (place_any x h hL)
  clear h
  go_enter Try.func20, Try.ntmps20
  go_wp2_with fail
  refine HP.out.mono ?_
  rintro e w1 ⟨rfl, hb1⟩
  have hn := place_nonneg L x
  go_wp2
  go_ret
  exact ⟨rfl, hb1⟩

set_option maxRecDepth 100000 in
theorem len_any {w : World} {lo b : Nat} {g : Option Nat} {L : List Int} (h : PileAt w lo b g L) :
    Calls Try.prog 19 #[.pointer (some ⟨b, 0, none⟩)] w (Same w (.int .i64 L.length)) := by
  obtain ⟨v, hb, hg, hlo, hown⟩ := h
  have c0 : w.cell? ⟨b, 0, none⟩ = some v := by rw [cell_of_row w b 0 _ _ _ hb]; rfl
  obtain ⟨xa, xc, rfl⟩ := (own_ints hown).form
  clear hb hg hown hlo
  go_enter Try.func19, Try.ntmps19
  go_wp2
  go_ret
  exact ⟨rfl, rfl⟩

set_option maxRecDepth 100000 in
theorem at_in {w : World} {lo b k : Nat} {g : Option Nat} {L : List Int} (h : PileAt w lo b g L) (hk : k < L.length) :
    Calls Try.prog 21 #[.pointer (some ⟨b, 0, none⟩), .int .i64 (k : Int)] w (Same w (.tuple #[.int .i64 L[k], .bool true])) := by
  have HLN := Lib.hid (len_any h)
  obtain ⟨v, hb, hg, hlo, hown⟩ := h
  have c0 : w.cell? ⟨b, 0, none⟩ = some v := by rw [cell_of_row w b 0 _ _ _ hb]; rfl
  have hi := own_ints hown
  obtain ⟨xa, xc, rfl⟩ := hi.form
  obtain ⟨r, off, rfl, hr, c1⟩ := hi.at k hk
  obtain ⟨x, hx⟩ : ∃ x, L[k] = x := ⟨_, rfl⟩
  rw [hx] at c1 ⊢
  have d0 : decide ((k : Int) < 0) = false := decide_eq_false (by omega)
  have d1 : decide ((L.length : Int) ≤ (k : Int)) = false := decide_eq_false (by omega)
  have d2 : decide (L.length ≤ k) = false := decide_eq_false (by omega)
  clear hb hg hown hlo hi hx
  go_enter Try.func21, Try.ntmps21
  go_wp2_with fail
  refine HLN.out.mono ?_
  rintro e w1 ⟨rfl, rfl⟩
  go_wp2
  go_ret2
  exact ⟨rfl, rfl⟩

set_option maxRecDepth 100000 in
theorem at_out {w : World} {lo b : Nat} {g : Option Nat} {L : List Int} (i : Int) (h : PileAt w lo b g L) (hi : i < 0 ∨ (L.length : Int) ≤ i) :
    Calls Try.prog 21 #[.pointer (some ⟨b, 0, none⟩), .int .i64 i] w (Same w (.tuple #[.int .i64 0, .bool false])) := by
  have HLN := Lib.hid (len_any h)
  clear h
  by_cases h0 : i < 0
  · go_enter Try.func21, Try.ntmps21
    go_wp2
    go_ret2
    exact ⟨rfl, rfl⟩
  · have h1 : (L.length : Int) ≤ i := by omega
    go_enter Try.func21, Try.ntmps21
    go_wp2_with fail
    refine HLN.out.mono ?_
    rintro e w1 ⟨rfl, rfl⟩
    go_wp2
    go_ret2
    exact ⟨rfl, rfl⟩

def RetList (w : World) (L : List Int) (e : Ending) (w' : World) : Prop := ∃ v, e = .returned v ∧ w'.ownsRow w.heap.size 3 1 v L.length (intsV L) ∧ Below w.heap.size w w'
theorem clone_own {w : World} {base : Nat} {v : Value} {L : List Int} (h : w.ownsRow base 3 1 v L.length (intsV L)) (hL : L.length ≤ 1000) :
    Calls Try.prog 39 #[v] w (RetList w L) := by
  rcases h.2 with ⟨rfl, h0⟩ | ⟨g, cap, cur, rfl, hb, hg, hn, hm, hs, ht⟩
  · have : L = [] := List.eq_nil_of_length_eq_zero h0
    subst this
    refine (Try.slices_Clone_int_nil 0 0 w).mono ?_
    rintro e w' ⟨rfl, rfl⟩
    exact ⟨_, rfl, World.ownsRow_nil _ _ _ _, Below.refl _ _⟩
  · have hi := own_ints h
    rcases hi with ⟨xa, xc, he, h0⟩ | ⟨b, off, cap', he, hlt, hc⟩
    · have : L = [] := by simpa [intsV] using h0
      subst this
      refine (Try.slices_Clone_int_zero ⟨g, 0, none⟩ cap w).mono ?_
      rintro e w' ⟨v', rfl, ho, _, hb'⟩
      exact ⟨_, rfl, ho, hb'⟩
    · injection he with he h1 h2
      injection he with he
      injection he with he1 he2
      subst he1 he2 h2
      refine (Try.slices_Clone_int g 0 L.length cap L w (Nat.le_refl _) (by omega) (fun j hj => ?_)).mono ?_
      · rw [hc j (by rw [intsV_len]; exact hj)]
        simp [intsV, List.getD, hj]
      · rintro e w' ⟨v', rfl, ho, _, hb'⟩
        rw [List.take_length] at ho
        exact ⟨_, rfl, ho, hb'⟩
set_option maxRecDepth 100000 in
theorem list_any {w : World} {lo b : Nat} {g : Option Nat} {L : List Int} (h : PileAt w lo b g L) (hL : L.length ≤ 1000) :
    Calls Try.prog 18 #[.pointer (some ⟨b, 0, none⟩)] w (RetList w L) := by
  obtain ⟨v, hb, hg, hlo, hown⟩ := h
  have c0 : w.cell? ⟨b, 0, none⟩ = some v := by rw [cell_of_row w b 0 _ _ _ hb]; rfl
  have HC := Lib.hid (clone_own hown hL)
  clear hb hg hown hlo
  go_enter Try.func18, Try.ntmps18
  go_wp2_with fail
  refine HC.out.mono ?_
  rintro e w1 ⟨v', rfl, ho, hb1⟩
  have HO := Lib.hid ho
  clear ho
  go_wp2
  go_ret
  exact ⟨_, rfl, HO.out, hb1⟩
end Go.Proofs.Ytphcdeppilaceaa

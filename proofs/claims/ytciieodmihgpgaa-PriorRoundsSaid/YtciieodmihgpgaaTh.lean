/- Same of teams; which sides may be teams: fits, the document's answer; New (layer 9). -/
import Derived.Test.YtciieodmihgpgaaTg
import Derived.Test.YtciieodmihgpgaaOs
import Derived.Deep.Cut
import Derived.Deep.CutBlock
namespace Go.Proofs.Ytciieodmihgpgaa
open Go.RowKit

def sameT (T U : TeamL) : Bool := decide (T.sides = U.sides) && decide (T.sh = U.sh)
theorem TeamAt.ints {w : World} {lo b s r c1 : Nat} {T : TeamL} (h : TeamAt w lo b s r T) : IntsAt w (.slice (some ⟨s, 0, none⟩) T.sides.length c1) T.sides :=
  .inr ⟨s, 0, c1, by rw [intsV_len], h.sd.1, fun k hk => by rw [Nat.zero_add, h.sd.2 k (by rwa [intsV_len] at hk)]; simp [intsV]⟩
theorem TeamAt.shAt {w : World} {lo b s r : Nat} {T : TeamL} (h : TeamAt w lo b s r T) : ShAt w r T.sh := fun n hn => h.cells n hn
theorem drew_below (w : World) (n : Nat) : Below w.heap.size w (w.drewN n) := below_drewN (Below.refl _ _) n
theorem keep5 {A w w' : World} {a1 a2 a3 a4 : Addr} {v1 v2 v3 v4 : Value} (hb : Below w.heap.size w w') (h : Below A.heap.size A w ∧ w.cell? a1 = some v1 ∧ w.cell? a2 = some v2 ∧ w.cell? a3 = some v3 ∧ w.cell? a4 = some v4) :
    Below A.heap.size A w' ∧ w'.cell? a1 = some v1 ∧ w'.cell? a2 = some v2 ∧ w'.cell? a3 = some v3 ∧ w'.cell? a4 = some v4 :=
  ⟨stepB h.1 hb, cell_stays hb h.2.1, cell_stays hb h.2.2.1, cell_stays hb h.2.2.2.1, cell_stays hb h.2.2.2.2⟩
theorem index_at {w : World} {v : Value} {L : List Int} (x : Int) (hv : IntsAt w v L) (hL : L.length ≤ 1000) :
    Calls Try.prog 35 #[v, .int .i64 x] w (Same w (.int .i64 (placeL L x))) := by
  rcases hv with ⟨xa, xc, rfl, h0⟩ | ⟨b, off, cap, rfl, hlt, hc⟩
  · have : L = [] := by simpa [intsV] using h0
    subst this
    refine (Try.slices_Index_int_empty xa xc x w).mono ?_
    rintro e w' ⟨rfl, rfl⟩
    exact ⟨by rw [idx_place], rfl⟩
  · rw [intsV_len]
    refine (Try.slices_Index_int b off L.length cap L x w (Nat.le_refl _) (by omega) (fun j hj => ?_)).mono ?_
    · rw [hc j (by rw [intsV_len]; exact hj)]
      simp [intsV, List.getD, hj]
    · rintro e w' ⟨rfl, rfl⟩
      exact ⟨by rw [List.take_length, idx_place], rfl⟩
set_option maxRecDepth 100000 in
theorem contains_at {w : World} {v : Value} {L : List Int} (x : Int) (hv : IntsAt w v L) (hL : L.length ≤ 1000) :
    Calls Try.prog 33 #[v, .int .i64 x] w (Same w (.bool (decide (x ∈ L)))) := by
  have HI := Lib.hid (index_at x hv hL)
  have e := place_nonneg L x
  obtain ⟨p, hp⟩ : ∃ p, placeL L x = p := ⟨_, rfl⟩
  rw [hp] at HI e
  rw [← e]
  clear hv hp e
  go_enter Try.func33, Try.ntmps33
  go_wp2_with fail
  refine HI.out.mono ?_
  rintro e w1 ⟨rfl, rfl⟩
  go_wp2
  go_ret
  exact ⟨rfl, rfl⟩
def FitP (S : List Int) (n : Nat) : Prop := (∀ k (h : k < S.length), 0 ≤ S[k] ∧ S[k] < n) ∧ ∀ i < n, (i : Int) ∈ S
set_option maxRecDepth 100000 in
set_option maxHeartbeats 4000000 in
theorem fits_any {w : World} {v : Value} {S : List Int} {n : Nat} {z : Bool} (hv : IntsAt w v S) (hL : S.length ≤ 1000) (hn : n ≤ 1000000) (hz : z = true ↔ FitP S n) :
    Calls Try.prog 27 #[v, .int .i64 n] w (Same w (.bool z)) := by
  obtain ⟨xa, xc, rfl⟩ := hv.form
  have HV := Lib.hid hv
  have HZ := Lib.hid hz
  clear hv hz
  go_enter Try.func27, Try.ntmps27
  go_wp2
  go_loop [10] (fun i => ∃ k : Nat, k ≤ S.length ∧ i = .int .i64 k ∧ Hid (∀ j (_ : j < k) (h : j < S.length), 0 ≤ S[j] ∧ S[j] < n)) (fun i => S.length - (intOf i).toNat)
  case atStart => exact ⟨0, Nat.zero_le _, rfl, Lib.hid (fun j hj => by omega)⟩
  case round =>
    obtain ⟨k, hk, rfl, HK⟩ := hrel
    by_cases hlt : k < S.length
    · obtain ⟨b1, o1, rfl, _, x0⟩ := HV.out.at k hlt
      obtain ⟨x, hx⟩ : ∃ x, S[k] = x := ⟨_, rfl⟩
      rw [hx] at x0
      have d0 : (0 : Int) ≤ k := by omega
      have d1 : (k : Int) < S.length := by omega
      by_cases h1 : 0 ≤ x ∧ x < n
      · have HN : Hid (∀ j (_ : j < k + 1) (h : j < S.length), 0 ≤ S[j] ∧ S[j] < n) := Lib.hid fun j hj h => by
          by_cases hjk : j < k
          · exact HK.out j hjk h
          · obtain rfl : j = k := by omega
            rw [hx]; exact h1
        have e1 : decide (x < 0) = false := decide_eq_false (by omega)
        have e2 : decide ((n : Int) ≤ x) = false := decide_eq_false (by omega)
        clear hx h1
        go_wp2
        go_round
        case rel => exact ⟨k + 1, by omega, by go_num, HN⟩
        case measure => simp [intOf]; omega
      · have HF := Lib.hid (show z = false from by
          cases z with
          | false => rfl
          | true => exact absurd (by have := (HZ.out.1 rfl).1 k hlt; rwa [hx] at this) h1)
        by_cases h2 : x < 0
        · have e1 : decide (x < 0) = true := decide_eq_true h2
          clear hx h1
          go_wp2
          go_ret
          exact ⟨by rw [HF.out]; rfl, rfl⟩
        · have e1 : decide (x < 0) = false := decide_eq_false h2
          have e2 : decide ((n : Int) ≤ x) = true := decide_eq_true (by omega)
          clear hx h1
          go_wp2
          go_ret
          exact ⟨by rw [HF.out]; rfl, rfl⟩
    · obtain rfl : k = S.length := by omega
      have HC := Lib.hid (fun x : Int => contains_at x HV.out hL)
      go_wp2
      go_loop [23] (fun i => ∃ k : Nat, k ≤ n ∧ i = .int .i64 k ∧ Hid (∀ j < k, (j : Int) ∈ S)) (fun i => n - (intOf i).toNat)
      case atStart => exact ⟨0, Nat.zero_le _, rfl, Lib.hid (fun j hj => by omega)⟩
      case round =>
        obtain ⟨k, hk, rfl, HM⟩ := hrel
        by_cases hlt : k < n
        · have d0 : decide ((k : Int) < n) = true := decide_eq_true (by omega)
          by_cases h1 : (k : Int) ∈ S
          · have HN := Lib.hid (show ∀ j < k + 1, (j : Int) ∈ S from fun j hj => by
              by_cases hjk : j < k
              · exact HM.out j hjk
              · obtain rfl : j = k := by omega
                exact h1)
            have HC1 := Lib.hid (HC.out k)
            rw [decide_eq_true h1] at HC1
            clear h1
            go_wp2_with fail
            refine HC1.out.mono ?_
            rintro e w1 ⟨rfl, rfl⟩
            go_wp2
            go_round
            case rel => exact ⟨k + 1, by omega, by go_num, HN⟩
            case measure => simp [intOf]; omega
          · have HF := Lib.hid (show z = false from by
              cases z with
              | false => rfl
              | true => exact absurd ((HZ.out.1 rfl).2 k hlt) h1)
            have HC1 := Lib.hid (HC.out k)
            rw [decide_eq_false h1] at HC1
            clear h1
            go_wp2_with fail
            refine HC1.out.mono ?_
            rintro e w1 ⟨rfl, rfl⟩
            go_wp2
            go_ret
            exact ⟨by rw [HF.out]; rfl, rfl⟩
        · obtain rfl : k = n := by omega
          have HT := Lib.hid (show z = true from HZ.out.2 ⟨fun j h => HK.out j h h, HM.out⟩)
          go_wp2
          go_ret
          exact ⟨by rw [HT.out]; rfl, rfl⟩
def MayP (S L : List Int) : Prop := (1 ≤ S.length ∧ S.length ≤ 4) ∧ FitP S L.length ∧ ∀ k (h : k < L.length), 1 ≤ L[k] ∧ L[k] ≤ 999
end Go.Proofs.Ytciieodmihgpgaa

/- Same of teams; which sides may be teams: fits, the document's answer; New (layer 9). New of teams, or none (layer 9). The document's example of teams; the iterator of Foes, whatever its rounds make; what is answered of no teams (layer 9). What is answered of no teams (layer 9); the marks that ranges over functions leave. -/
import Derived.Test.YtjgjhfeopmakaaaGreatTg
import Derived.Test.YtjgjhfeopmakaaaGreatOt
import Derived.Deep.Cut
import Derived.Deep.CutBlock
import Derived.Test.YtjgjhfeopmakaaaGreatFs
import Derived.RangeFuncRecord
import Derived.RangeFuncLeaves
import Derived.RangeFuncFrom
namespace Go.Proofs.YtjgjhfeopmakaaaGreat
open Go.RowKit

def sameT (T U : TeamL) : Bool := decide (T.sides = U.sides) && decide (T.sh = U.sh)
theorem TeamAt.ints {w : World} {lo b s r c1 : Nat} {T : TeamL} (h : TeamAt w lo b s r T) : IntsAt w (.slice (some ⟨s, 0, none⟩) T.sides.length c1) T.sides :=
  .inr ⟨s, 0, c1, by rw [intsV_len], h.sd.1, fun k hk => by rw [Nat.zero_add, h.sd.2 k (by rwa [intsV_len] at hk)]; simp [intsV]⟩
theorem TeamAt.shAt {w : World} {lo b s r : Nat} {T : TeamL} (h : TeamAt w lo b s r T) : ShAt w r T.sh := fun n hn => h.cells n hn
theorem drew_below (w : World) (n : Nat) : Below w.heap.size w (w.drewN n) := below_drewN (Below.refl _ _) n
theorem keep5 {A w w' : World} {a1 a2 a3 a4 : Addr} {v1 v2 v3 v4 : Value} (hb : Below w.heap.size w w') (h : Below A.heap.size A w ∧ w.cell? a1 = some v1 ∧ w.cell? a2 = some v2 ∧ w.cell? a3 = some v3 ∧ w.cell? a4 = some v4) :
    Below A.heap.size A w' ∧ w'.cell? a1 = some v1 ∧ w'.cell? a2 = some v2 ∧ w'.cell? a3 = some v3 ∧ w'.cell? a4 = some v4 :=
  ⟨stepB h.1 hb, cell_stays hb h.2.1, cell_stays hb h.2.2.1, cell_stays hb h.2.2.2.1, cell_stays hb h.2.2.2.2⟩
set_option maxRecDepth 100000 in
set_option maxHeartbeats 4000000 in
theorem tsame_any {w : World} {lo b s r lo' b' s' r' : Nat} {T U : TeamL} (h : TeamAt w lo b s r T) (h' : TeamAt w lo' b' s' r' U) :
    Calls Tryz.prog 34 #[.pointer (some ⟨b, 0, none⟩), .pointer (some ⟨b', 0, none⟩)] w (RetV w (.bool (sameT T U))) := by
  obtain ⟨c1, c2, k0, k1⟩ := h.heads
  obtain ⟨d1, d2, m0, m1⟩ := h'.heads
  unfold sameT
  have H1 : Hid (∀ w', Below w.heap.size w w' → Calls Tryz.prog 70 #[.slice (some ⟨s, 0, none⟩) T.sides.length c1, .slice (some ⟨s', 0, none⟩) U.sides.length d1] w' (RetV w' (.bool (decide (T.sides = U.sides))))) := Lib.hid fun w' hb => by
    refine (equal_ints (h.later hb).ints (h'.later hb).ints (by have := h.n1; omega) (by have := h'.n1; omega)).mono ?_
    rintro e w2 ⟨rfl, n, rfl⟩
    exact ⟨rfl, drew_below _ n⟩
  have H2 : Hid (∀ w', Below w.heap.size w w' → Calls Tryz.prog 71 #[.slice (some ⟨r, 0, none⟩) T.sh.length c2, .slice (some ⟨r', 0, none⟩) U.sh.length d2] w' (RetV w' (.bool (decide (T.sh = U.sh))))) := Lib.hid fun w' hb => by
    refine (equal_shares (h.later hb).shAt (h'.later hb).shAt (by have := h.n2; omega)).mono ?_
    rintro e w2 ⟨rfl, n, rfl⟩
    exact ⟨rfl, drew_below _ n⟩
  obtain ⟨E1, he1⟩ : ∃ E1, decide (T.sides = U.sides) = E1 := ⟨_, rfl⟩
  obtain ⟨E2, he2⟩ : ∃ E2, decide (T.sh = U.sh) = E2 := ⟨_, rfl⟩
  rw [he1] at H1 ⊢
  rw [he2] at H2 ⊢
  obtain ⟨n1, hn1⟩ : ∃ n, T.sides.length = n := ⟨_, rfl⟩
  obtain ⟨n2, hn2⟩ : ∃ n, T.sh.length = n := ⟨_, rfl⟩
  obtain ⟨n3, hn3⟩ : ∃ n, U.sides.length = n := ⟨_, rfl⟩
  obtain ⟨n4, hn4⟩ : ∃ n, U.sh.length = n := ⟨_, rfl⟩
  rw [hn1] at H1 k0
  rw [hn2] at H2 k1
  rw [hn3] at H1 m0
  rw [hn4] at H2 m1
  have HI : Hid (Below w.heap.size w w ∧ w.cell? ⟨b, 0, none⟩ = some (.slice (some ⟨s, 0, none⟩) n1 c1) ∧ w.cell? ⟨b, 1, none⟩ = some (.slice (some ⟨r, 0, none⟩) n2 c2) ∧ w.cell? ⟨b', 0, none⟩ = some (.slice (some ⟨s', 0, none⟩) n3 d1) ∧ w.cell? ⟨b', 1, none⟩ = some (.slice (some ⟨r', 0, none⟩) n4 d2)) := Lib.hid ⟨Below.refl _ _, k0, k1, m0, m1⟩
  clear h h' he1 he2 hn1 hn2 hn3 hn4
  cases E1
  · clear HI
    have HB := Lib.hid (fun (w' w'' : World) (h : Below w.heap.size w w') (h2 : Below w'.heap.size w' w'') => stepB h h2)
    have H1' := Lib.hid (H1.out _ (Below.drew (Below.refl w.heap.size w)))
    clear H1 H2
    go_enter Tryz.func34, Tryz.ntmps34
    go_upto_region 3 with fail
    have HS1 := Lib.hid (And.intro k0 m0)
    refine wp_region_noPanic ?_
    refine (wpIn_wide (n := 9)).1 ?_
    refine wpIn_region_any (by kernel_rfl) ?_
    change wpAnyIn _ _ _ _ _ _ _ _ _ (World.drew _)
    refine anyS.any (S := fun w' => w'.cell? ⟨b, 0, none⟩ = some (.slice (some ⟨s, 0, none⟩) n1 c1) ∧ w'.cell? ⟨b', 0, none⟩ = some (.slice (some ⟨s', 0, none⟩) n3 d1)) ?_
    refine anyS_take (i := 0) (v := ?_) (by kernel_rfl) rfl (by kernel_rfl) (by kernel_rfl) (by kernel_rfl) (fun _ _ _ h => h) (by rfl) (fun _ => rfl) ?_ ?_
    rotate_left
    · intro w' hS
      go_simp
      try with_reducible rfl
    refine anyS_take (i := 1) (v := ?_) (by kernel_rfl) rfl (by kernel_rfl) (by kernel_rfl) (by kernel_rfl) (fun _ _ _ h => h) (by rfl) (fun _ => rfl) ?_ ?_
    rotate_left
    · intro w' hS
      go_simp
      try with_reducible rfl
    refine anyS_take (i := 2) (v := ?_) (by kernel_rfl) rfl (by kernel_rfl) (by kernel_rfl) (by kernel_rfl) (fun _ _ _ h => h) (by rfl) (fun _ => rfl) ?_ ?_
    rotate_left
    · intro w' hS
      go_simp
      try with_reducible rfl
    refine anyS_take (i := 3) (v := ?_) (by kernel_rfl) rfl (by kernel_rfl) (by kernel_rfl) (by kernel_rfl) (fun _ _ _ h => h) (by rfl) (fun _ => rfl) ?_ ?_
    rotate_left
    · intro w' hS
      obtain ⟨f1, f2⟩ := hS
      go_simp
      try with_reducible rfl
    refine anyS_take (i := 4) (v := ?_) (by kernel_rfl) rfl (by kernel_rfl) (by kernel_rfl) (by kernel_rfl) (fun _ _ _ h => h) (by rfl) (fun _ => rfl) ?_ ?_
    rotate_left
    · intro w' hS
      go_simp
      try with_reducible rfl
    refine anyS_take (i := 5) (v := ?_) (by kernel_rfl) rfl (by kernel_rfl) (by kernel_rfl) (by kernel_rfl) (fun _ _ _ h => h) (by rfl) (fun _ => rfl) ?_ ?_
    rotate_left
    · intro w' hS
      go_simp
      try with_reducible rfl
    refine anyS_take (i := 6) (v := ?_) (by kernel_rfl) rfl (by kernel_rfl) (by kernel_rfl) (by kernel_rfl) (fun _ _ _ h => h) (by rfl) (fun _ => rfl) ?_ ?_
    rotate_left
    · intro w' hS
      go_simp
      try with_reducible rfl
    refine anyS_take (i := 7) (v := ?_) (by kernel_rfl) rfl (by kernel_rfl) (by kernel_rfl) (by kernel_rfl) (fun _ _ _ h => h) (by rfl) (fun _ => rfl) ?_ ?_
    rotate_left
    · intro w' hS
      obtain ⟨f1, f2⟩ := hS
      go_simp
      try with_reducible rfl
    refine anyS_one (i := 8) (by kernel_rfl) rfl (⟨HS1.out.1, HS1.out.2⟩) (fun K hK => ?_)
    go_simp
    gi_wp2_with ((refine ⟨trivial, ?_⟩; gi_at_call 70; refine CallsIn.mono (F := Fence.wide) (callsIn_wide.2 (H1'.out)) ?_; rintro e w7 ⟨rfl, hb7⟩; have HS7 := Lib.hid (And.intro (cell_stays hb7 HS1.out.1) (cell_stays hb7 HS1.out.2)); have HB7 := Lib.hid (stepB (Below.drew (Below.refl w.heap.size w)) hb7); clear hb7))
    refine anyS_take (i := 9) (v := ?_) (by kernel_rfl) rfl (by kernel_rfl) (by kernel_rfl) (by kernel_rfl) (fun _ _ _ h => h) (by rfl) (fun _ => rfl) ?_ ?_
    rotate_left
    · intro w' hS
      go_simp
      try with_reducible rfl
    refine anyS_skip (i := 10) (by kernel_rfl) rfl (by kernel_rfl) (by kernel_rfl) (by kernel_rfl) (fun _ _ _ h => h) (by kernel_rfl) (fun _ => by kernel_rfl) ?_
    refine anyS_skip (i := 11) (by kernel_rfl) rfl (by kernel_rfl) (by kernel_rfl) (by kernel_rfl) (fun _ _ _ h => h) (by kernel_rfl) (fun _ => by kernel_rfl) ?_
    refine anyS_skip (i := 12) (by kernel_rfl) rfl (by kernel_rfl) (by kernel_rfl) (by kernel_rfl) (fun _ _ _ h => h) (by kernel_rfl) (fun _ => by kernel_rfl) ?_
    refine anyS_skip (i := 13) (by kernel_rfl) rfl (by kernel_rfl) (by kernel_rfl) (by kernel_rfl) (fun _ _ _ h => h) (by kernel_rfl) (fun _ => by kernel_rfl) ?_
    refine anyS_skip (i := 14) (by kernel_rfl) rfl (by kernel_rfl) (by kernel_rfl) (by kernel_rfl) (fun _ _ _ h => h) (by kernel_rfl) (fun _ => by kernel_rfl) ?_
    refine anyS_skip (i := 15) (by kernel_rfl) rfl (by kernel_rfl) (by kernel_rfl) (by kernel_rfl) (fun _ _ _ h => h) (by kernel_rfl) (fun _ => by kernel_rfl) ?_
    refine anyS_skip (i := 16) (by kernel_rfl) rfl (by kernel_rfl) (by kernel_rfl) (by kernel_rfl) (fun _ _ _ h => h) (by kernel_rfl) (fun _ => by kernel_rfl) ?_
    refine anyS_skip (i := 17) (by kernel_rfl) rfl (by kernel_rfl) (by kernel_rfl) (by kernel_rfl) (fun _ _ _ h => h) (by kernel_rfl) (fun _ => by kernel_rfl) ?_
    refine anyS_one (i := 18) (by kernel_rfl) rfl (HS7.out) (fun K hK => ?_)
    go_simp
    refine ⟨trivial, hK _ _ ?_⟩
    clear hK K
    refine anyS_take (i := 19) (v := ?_) (by kernel_rfl) rfl (by kernel_rfl) (by kernel_rfl) (by kernel_rfl) (fun _ _ _ h => h) (by rfl) (fun _ => rfl) ?_ ?_
    rotate_left
    · intro w' hS
      go_simp
      try with_reducible rfl
    refine anyS_take (i := 20) (v := ?_) (by kernel_rfl) rfl (by kernel_rfl) (by kernel_rfl) (by kernel_rfl) (fun _ _ _ h => h) (by rfl) (fun _ => rfl) ?_ ?_
    rotate_left
    · intro w' hS
      go_simp
      try with_reducible rfl
    refine anyS_done (by kernel_rfl) (HS7.out) ?_ _
    refine NoPanic.normal ?_
    go_wp2
    go_ret
    exact ⟨rfl, HB7.out⟩
  · clear k0 k1 m0 m1
    go_enter Tryz.func34, Tryz.ntmps34
    go_wp2
    go_region_held3 (fun w' => Below w.heap.size w w' ∧ w'.cell? ⟨b, 0, none⟩ = some (.slice (some ⟨s, 0, none⟩) n1 c1) ∧ w'.cell? ⟨b, 1, none⟩ = some (.slice (some ⟨r, 0, none⟩) n2 c2) ∧ w'.cell? ⟨b', 0, none⟩ = some (.slice (some ⟨s', 0, none⟩) n3 d1) ∧ w'.cell? ⟨b', 1, none⟩ = some (.slice (some ⟨r', 0, none⟩) n4 d2))
      (first | assumption | (with_reducible exact HI.out) | exact keep5 ((Below.refl _ _).drew) HI.out | exact keep5 (by assumption) (by assumption))
      (first
        | (go_at_call 70; refine (H1.out _ (And.left (by assumption))).mono ?_; rintro e w2 ⟨rfl, hb2⟩)
        | (go_at_call 71; refine (H2.out _ (And.left (by assumption))).mono ?_; rintro e w2 ⟨rfl, hb2⟩))
    have hB : Below w.heap.size w w2 := And.left (by assumption)
    go_wp2
    go_ret
    exact ⟨rfl, hB⟩
theorem index_at {w : World} {v : Value} {L : List Int} (x : Int) (hv : IntsAt w v L) (hL : L.length ≤ 1000) :
    Calls Tryz.prog 100 #[v, .int .i64 x] w (Same w (.int .i64 (placeL L x))) := by
  rcases hv with ⟨xa, xc, rfl, h0⟩ | ⟨b, off, cap, rfl, hlt, hc⟩
  · have : L = [] := by simpa [intsV] using h0
    subst this
    refine (Tryz.slices_Index_int_empty xa xc x w).mono ?_
    rintro e w' ⟨rfl, rfl⟩
    exact ⟨by rw [idx_place], rfl⟩
  · rw [intsV_len]
    refine (Tryz.slices_Index_int b off L.length cap L x w (Nat.le_refl _) (by omega) (fun j hj => ?_)).mono ?_
    · rw [hc j (by rw [intsV_len]; exact hj)]
      simp [intsV, List.getD, hj]
    · rintro e w' ⟨rfl, rfl⟩
      exact ⟨by rw [List.take_length, idx_place], rfl⟩
set_option maxRecDepth 100000 in
theorem contains_at {w : World} {v : Value} {L : List Int} (x : Int) (hv : IntsAt w v L) (hL : L.length ≤ 1000) :
    Calls Tryz.prog 72 #[v, .int .i64 x] w (Same w (.bool (decide (x ∈ L)))) := by
  have HI := Lib.hid (index_at x hv hL)
  have e := place_nonneg L x
  obtain ⟨p, hp⟩ : ∃ p, placeL L x = p := ⟨_, rfl⟩
  rw [hp] at HI e
  rw [← e]
  clear hv hp e
  go_enter Tryz.func72, Tryz.ntmps72
  go_wp2_with fail
  refine HI.out.mono ?_
  rintro e w1 ⟨rfl, rfl⟩
  go_wp2
  go_ret
  exact ⟨rfl, rfl⟩
def FitP (S : List Int) (n : Nat) : Prop := (∀ k (h : k < S.length), 0 ≤ S[k] ∧ S[k] < n) ∧ ∀ i < n, (i : Int) ∈ S
set_option maxRecDepth 100000 in
set_option maxHeartbeats 4000000 in
theorem fits_any {w : World} {v : Value} {S : List Int} {n : Nat} {z : Bool} (hv : IntsAt w v S) (hL : S.length ≤ 1000) (hn : n ≤ 1000000) (hz : z = true ↔ FitP S n) :
    Calls Tryz.prog 96 #[v, .int .i64 n] w (Same w (.bool z)) := by
  obtain ⟨xa, xc, rfl⟩ := hv.form
  have HV := Lib.hid hv
  have HZ := Lib.hid hz
  clear hv hz
  go_enter Tryz.func96, Tryz.ntmps96
  go_wp2
  go_loop [10] (fun i => ∃ k : Nat, k ≤ S.length ∧ i = .int .i64 k ∧ Hid (∀ j (_ : j < k) (h : j < S.length), 0 ≤ S[j] ∧ S[j] < n)) (fun i => S.length - (intOf i).toNat)
  case atStart => exact ⟨0, Nat.zero_le _, rfl, Lib.hid (fun j hj => by omega)⟩
  case round =>
    obtain ⟨k, hk, rfl, HK⟩ := hrel
    by_cases hlt : k < S.length
    · obtain ⟨b1, o1, rfl, _, x0⟩ := HV.out.at k hlt
      obtain ⟨x, hx⟩ : ∃ x, S[k] = x := ⟨_, rfl⟩
      rw [hx] at x0
      have d0 : (0 : Int) ≤ k := by omega
      have d1 : (k : Int) < S.length := by omega
      by_cases h1 : 0 ≤ x ∧ x < n
      · have HN : Hid (∀ j (_ : j < k + 1) (h : j < S.length), 0 ≤ S[j] ∧ S[j] < n) := Lib.hid fun j hj h => by
          by_cases hjk : j < k
          · exact HK.out j hjk h
          · obtain rfl : j = k := by omega
            rw [hx]; exact h1
        have e1 : decide (x < 0) = false := decide_eq_false (by omega)
        have e2 : decide ((n : Int) ≤ x) = false := decide_eq_false (by omega)
        clear hx h1
        go_wp2
        go_round
        case rel => exact ⟨k + 1, by omega, by go_num, HN⟩
        case measure => simp [intOf]; omega
      · have HF := Lib.hid (show z = false from by
          cases z with
          | false => rfl
          | true => exact absurd (by have := (HZ.out.1 rfl).1 k hlt; rwa [hx] at this) h1)
        by_cases h2 : x < 0
        · have e1 : decide (x < 0) = true := decide_eq_true h2
          clear hx h1
          go_wp2
          go_ret
          exact ⟨by rw [HF.out]; rfl, rfl⟩
        · have e1 : decide (x < 0) = false := decide_eq_false h2
          have e2 : decide ((n : Int) ≤ x) = true := decide_eq_true (by omega)
          clear hx h1
          go_wp2
          go_ret
          exact ⟨by rw [HF.out]; rfl, rfl⟩
    · obtain rfl : k = S.length := by omega
      have HC := Lib.hid (fun x : Int => contains_at x HV.out hL)
      go_wp2
      go_loop [23] (fun i => ∃ k : Nat, k ≤ n ∧ i = .int .i64 k ∧ Hid (∀ j < k, (j : Int) ∈ S)) (fun i => n - (intOf i).toNat)
      case atStart => exact ⟨0, Nat.zero_le _, rfl, Lib.hid (fun j hj => by omega)⟩
      case round =>
        obtain ⟨k, hk, rfl, HM⟩ := hrel
        by_cases hlt : k < n
        · have d0 : decide ((k : Int) < n) = true := decide_eq_true (by omega)
          by_cases h1 : (k : Int) ∈ S
          · have HN := Lib.hid (show ∀ j < k + 1, (j : Int) ∈ S from fun j hj => by
              by_cases hjk : j < k
              · exact HM.out j hjk
              · obtain rfl : j = k := by omega
                exact h1)
            have HC1 := Lib.hid (HC.out k)
            rw [decide_eq_true h1] at HC1
            clear h1
            go_wp2_with fail
            refine HC1.out.mono ?_
            rintro e w1 ⟨rfl, rfl⟩
            go_wp2
            go_round
            case rel => exact ⟨k + 1, by omega, by go_num, HN⟩
            case measure => simp [intOf]; omega
          · have HF := Lib.hid (show z = false from by
              cases z with
              | false => rfl
              | true => exact absurd ((HZ.out.1 rfl).2 k hlt) h1)
            have HC1 := Lib.hid (HC.out k)
            rw [decide_eq_false h1] at HC1
            clear h1
            go_wp2_with fail
            refine HC1.out.mono ?_
            rintro e w1 ⟨rfl, rfl⟩
            go_wp2
            go_ret
            exact ⟨by rw [HF.out]; rfl, rfl⟩
        · obtain rfl : k = n := by omega
          have HT := Lib.hid (show z = true from HZ.out.2 ⟨fun j h => HK.out j h h, HM.out⟩)
          go_wp2
          go_ret
          exact ⟨by rw [HT.out]; rfl, rfl⟩
def MayP (S L : List Int) : Prop := (1 ≤ S.length ∧ S.length ≤ 4) ∧ FitP S L.length ∧ ∀ k (h : k < L.length), 1 ≤ L[k] ∧ L[k] ≤ 999
end Go.Proofs.YtjgjhfeopmakaaaGreat
namespace Go.Proofs.YtjgjhfeopmakaaaGreat
open Go.RowKit

def shOf (n : Int) : ShareL := ⟨n, 0, false⟩
def newT (S L : List Int) : TeamL := ⟨S, L.map shOf⟩
def RetNewT (w : World) (z : Bool) (T : TeamL) (e : Ending) (w' : World) : Prop :=
  (z = true → ∃ b s r, e = .returned (.tuple #[.pointer (some ⟨b, 0, none⟩), .int .i64 0]) ∧ TeamAt w' w.heap.size b s r T) ∧ (z = false → e = .returned (.tuple #[.pointer none, .int .i64 20])) ∧ Below w.heap.size w w'
/-- New's state: the box b with the row s of the seats' teams, and what is shared so far. -/
structure NewAt (w W0 wr : World) (b s c1 : Nat) (S : List Int) (v : Value) (l : List ShareL) : Prop where
  hd : wr.heap[b]? = some (.cells #[.slice (some ⟨s, 0, none⟩) S.length c1, v] 82 (0, 0))
  row : RowI9 wr 3 s (intsV S)
  own : wr.ownsRow W0.heap.size 103 3 v l.length (sharesV l)
  below : Below w.heap.size w wr
  size : W0.heap.size ≤ wr.heap.size
  lb : w.heap.size ≤ b ∧ b < W0.heap.size
  ls : w.heap.size ≤ s ∧ s < W0.heap.size
  ne : s ≠ b
theorem own3_later {w w' : World} {base sz : Nat} {t : TypeId} {v : Value} {n : Nat} {xs : List Value} (h : w.ownsRow base t sz v n xs) (hb : ∀ k, v.ownBlock = some k → w'.heap[k]? = w.heap[k]?) : w'.ownsRow base t sz v n xs := by
  refine ⟨h.1, ?_⟩
  rcases h.2 with h2 | ⟨g, cap, cur, rfl, hbb, hg, r⟩
  · exact .inl h2
  · exact .inr ⟨g, cap, cur, rfl, hbb, (hb g rfl).trans hg, r⟩
theorem NewAt.next {w W0 wr w2 : World} {b s c1 g cap n : Nat} {S : List Int} {v : Value} {l : List ShareL} {x : ShareL} (h : NewAt w W0 wr b s c1 S v l) (hn : l.length = n)
    (hown : w2.ownsRow W0.heap.size 103 3 (.slice (some ⟨g, 0, none⟩) (n + 1) cap) (n + 1) (sharesV l ++ scells x))
    (hg : (wr.alloc (.cells #[.int .i64 x.life, .int .i64 x.poison, .bool x.lost] 103)).grownBy w2 v.ownBlock) :
    NewAt w W0 (w2.setCell ⟨b, 1, none⟩ (.slice (some ⟨g, 0, none⟩) (n + 1) cap)) b s c1 S (.slice (some ⟨g, 0, none⟩) (n + 1) cap) (l ++ [x]) ∧ w2.frozen? ⟨b, 1, none⟩ = false ∧ (∃ u, w2.cell? ⟨b, 1, none⟩ = some u) := by
  subst hn
  have hw := below_new wr (.cells #[.int .i64 x.life, .int .i64 x.poison, .bool x.lost] 103)
  have hlb : b < wr.heap.size := (Array.getElem?_eq_some_iff.1 h.hd).1
  have hls := h.row.lt
  have hs1 := hw.size
  have far : ∀ k, k < W0.heap.size → some k ≠ v.ownBlock := fun k hk e => by
    have := (h.own.lt k e.symm).1
    omega
  have hd2 : w2.heap[b]? = some (.cells #[.slice (some ⟨s, 0, none⟩) S.length c1, v] 82 (0, 0)) := (hg.block b (by omega) (far b h.lb.2)).trans ((hw.block b hlb).trans h.hd)
  have hgb : W0.heap.size ≤ g := (hown.lt g rfl).1
  have hset := grown_set w2 b 1 (.slice (some ⟨g, 0, none⟩) (l.length + 1) cap)
  refine ⟨⟨?_, ?_, ?_, ?_, ?_, h.lb, h.ls, h.ne⟩, frozen_of_row w2 b 1 _ _ hd2, ⟨v, by rw [cell_of_row w2 b 1 _ _ _ hd2]; rfl⟩⟩
  · rw [heap_setCell_same w2 b 1 _ _ _ hd2]; rfl
  · obtain ⟨cur, h1, h2⟩ := h.row
    have h3 : w2.heap[s]? = some (.cells cur 3 (0, 0)) := (hg.block s (by omega) (far s h.ls.2)).trans ((hw.block s hls).trans h1)
    exact ⟨cur, (hset.block s (Array.getElem?_eq_some_iff.1 h3).1 (by simpa using h.ne)).trans h3, h2⟩
  · rw [sharesV_append, List.length_append]
    have := own3_later (w' := w2.setCell ⟨b, 1, none⟩ (.slice (some ⟨g, 0, none⟩) (l.length + 1) cap)) hown (fun k hk => hset.block k (hown.lt k hk).2 (by
      have hk1 : g = k := Option.some.inj hk
      have := h.lb.2
      simp; omega))
    simpa [sharesV] using this
  · have h1 : Below w.heap.size w w2 := grown_of (below_alloc2 h.below _) hg (fun q hq => by
      have := (h.own.lt q hq).1
      have := h.lb
      omega)
    exact grown_to h1 hset h.lb.1
  · have := hg.size
    have := h.size
    have := hset.size
    omega
theorem NewAt.start {w w1 : World} {s c1 : Nat} {S : List Int} (hb : Below w.heap.size w w1) (hs : w.heap.size ≤ s) (hr : RowI9 w1 3 s (intsV S)) :
    NewAt w (w1.alloc (.cells #[.slice (some ⟨s, 0, none⟩) S.length c1, .slice none 0 0] 82)) (w1.alloc (.cells #[.slice (some ⟨s, 0, none⟩) S.length c1, .slice none 0 0] 82)) w1.heap.size s c1 S (.slice none 0 0) [] := by
  have hl := hr.lt
  refine ⟨heap_alloc_new w1 _, hr.later (below_new w1 _), World.ownsRow_nil _ _ _ _, below_alloc2 hb _, Nat.le_refl _, ⟨hb.size, ?_⟩, ⟨hs, ?_⟩, ?_⟩
  · simp
  · simp; omega
  · omega
theorem NewAt.team {w W0 wr : World} {b s c1 : Nat} {S : List Int} {v : Value} {l : List ShareL} (h : NewAt w W0 wr b s c1 S v l) (h1 : 1 ≤ S.length ∧ S.length ≤ 4) (h2 : 0 < l.length ∧ l.length ≤ 4) (h3 : ∀ x ∈ S, 0 ≤ x ∧ x < l.length) : ∃ r, TeamAt wr w.heap.size b s r ⟨S, l⟩ := by
  obtain ⟨g, cap, rfl, hg, hr⟩ := own_rowIn h.own h2.1
  have := h.lb
  have := h.ls
  exact ⟨g, team_parts h.hd h.row hr h.lb.1 h.ls.1 (by omega) (by omega) (by omega) h1 h2.2 h3⟩
theorem fit_len {S : List Int} {n : Nat} (h : FitP S n) (hS : S.length ≤ 4) : n ≤ 4 := by
  refine Classical.byContradiction fun hn => ?_
  have m0 := h.2 0 (by omega)
  have m1 := h.2 1 (by omega)
  have m2 := h.2 2 (by omega)
  have m3 := h.2 3 (by omega)
  have m4 := h.2 4 (by omega)
  clear h
  rcases S with _ | ⟨a, _ | ⟨b, _ | ⟨c, _ | ⟨d, _ | ⟨e, t⟩⟩⟩⟩⟩ <;> simp at m0 m1 m2 m3 m4 hS <;> omega
set_option maxRecDepth 100000 in
set_option maxHeartbeats 8000000 in
theorem new9_any {w : World} {v u : Value} {S L : List Int} {z : Bool} (hv : IntsAt w v S) (hu : IntsAt w u L) (hS : S.length ≤ 9223372036854775807) (hL : L.length ≤ 1000) (hz : z = true ↔ MayP S L) :
    Calls Tryz.prog 56 #[v, u] w (RetNewT w z (newT S L)) := by
  obtain ⟨xa, xc, rfl⟩ := hv.form
  obtain ⟨ya, yc, rfl⟩ := hu.form
  have HV := Lib.hid hv
  have HU := Lib.hid hu
  have HZ := Lib.hid hz
  clear hv hu hz
  by_cases h4 : 1 ≤ S.length ∧ S.length ≤ 4
  case neg =>
    have HF := Lib.hid (show z = false from by
      cases z with
      | false => rfl
      | true => exact absurd (HZ.out.1 rfl).1 h4)
    by_cases h0 : S.length < 1
    · have e0 : decide ((S.length : Int) < 1) = true := decide_eq_true (by omega)
      clear h4 h0
      go_enter Tryz.func56, Tryz.ntmps56
      go_wp2
      go_ret2
      exact ⟨fun e => (by rw [HF.out] at e; cases e), fun _ => rfl, Below.refl _ _⟩
    · have e0 : decide ((S.length : Int) < 1) = false := decide_eq_false (by omega)
      have e1 : decide ((4 : Int) < S.length) = true := decide_eq_true (by omega)
      clear h4 h0
      go_enter Tryz.func56, Tryz.ntmps56
      go_wp2
      go_ret2
      exact ⟨fun e => (by rw [HF.out] at e; cases e), fun _ => rfl, Below.refl _ _⟩
  have e0 : decide ((S.length : Int) < 1) = false := decide_eq_false (by omega)
  have e1 : decide ((4 : Int) < S.length) = false := decide_eq_false (by omega)
  obtain ⟨zf, hzf⟩ : ∃ zf : Bool, zf = true ↔ FitP S L.length := by
    by_cases hf : FitP S L.length
    · exact ⟨true, by simp [hf]⟩
    · exact ⟨false, by simp [hf]⟩
  have HFI := Lib.hid (fits_any HV.out (by omega) (by omega) hzf)
  cases zf with
  | false =>
    have HF := Lib.hid (show z = false from by
      cases z with
      | false => rfl
      | true => exact absurd (hzf.2 (HZ.out.1 rfl).2.1) (by decide))
    clear hzf
    go_enter Tryz.func56, Tryz.ntmps56
    go_wp2_with fail
    refine HFI.out.mono ?_
    rintro e w1 ⟨rfl, rfl⟩
    go_wp2
    go_ret2
    exact ⟨fun e => (by rw [HF.out] at e; cases e), fun _ => rfl, Below.refl _ _⟩
  | true =>
    have HFP := Lib.hid (hzf.1 rfl)
    have HLL := Lib.hid (fit_len HFP.out h4.2)
    have HCL : Hid (Calls Tryz.prog 60 #[.slice xa S.length xc] w (RetRow w 3 S.length (intsV S))) := Lib.hid (by
      obtain ⟨b0, off, rfl, _, _⟩ := HV.out.at 0 (by omega)
      exact clone_ints (fun j hj => by
        obtain ⟨b1, off1, e, _, hc⟩ := HV.out.at j hj
        injection e with e
        injection e with e1 e2
        subst e1 e2
        exact hc) (by omega) (by omega))
    clear hzf
    go_enter Tryz.func56, Tryz.ntmps56
    go_wp2_with fail
    refine HFI.out.mono ?_
    rintro e w1 ⟨rfl, rfl⟩
    go_wp2_with fail
    refine HCL.out.mono ?_
    rintro e w2 ⟨g, cap, rfl, hg, hr, hb2⟩
    have HNA := Lib.hid (NewAt.start (c1 := cap) hb2 hg hr)
    have HUU := Lib.hid (HU.out.later (below_alloc2 hb2 (.cells #[.slice (some ⟨g, 0, none⟩) S.length cap, .slice none 0 0] 82)))
    clear hb2 hg hr
    obtain ⟨i0, hi0, hz0, hz1, hz2⟩ := info_parts info_share
    go_wp2
    obtain ⟨W0, hW0⟩ : ∃ W0, w2.alloc (.cells #[.slice (some ⟨g, 0, none⟩) S.length cap, .slice none 0 0] 82) = W0 := ⟨_, rfl⟩
    obtain ⟨b, hbb⟩ : ∃ b, w2.heap.size = b := ⟨_, rfl⟩
    rw [hW0, hbb] at HNA
    rw [hW0] at HUU
    simp only [hW0, hbb]
    clear hW0 hbb
    go_loopw [30] (fun i wr => ∃ (k : Nat) (v : Value), k ≤ L.length ∧ i = .int .i64 k ∧ Hid (NewAt w1 W0 wr b g cap S v ((L.take k).map shOf)) ∧ Hid (∀ j (_ : j < k) (h : j < L.length), 1 ≤ L[j] ∧ L[j] ≤ 999)) (fun i _ => L.length - (intOf i).toNat)
    case atStart => exact ⟨0, _, Nat.zero_le _, rfl, HNA, Lib.hid (fun j hj => by omega)⟩
    case round =>
      obtain ⟨k, v, hk, rfl, HN, HK⟩ := hrel
      by_cases hlt : k < L.length
      · obtain ⟨b1, o1, rfl, hb1, x0⟩ := HU.out.at k hlt
        have x1 := HN.out.below.cell (p := ⟨b1, o1 + k, none⟩) hb1
        rw [x0] at x1
        obtain ⟨x, hx⟩ : ∃ x, L[k] = x := ⟨_, rfl⟩
        rw [hx] at x1
        clear x0
        have d0 : (0 : Int) ≤ k := by omega
        have d1 : (k : Int) < L.length := by omega
        by_cases h1 : 1 ≤ x ∧ x ≤ 999
        · have HN1 : Hid (∀ j (_ : j < k + 1) (h : j < L.length), 1 ≤ L[j] ∧ L[j] ≤ 999) := Lib.hid fun j hj h => by
            by_cases hjk : j < k
            · exact HK.out j hjk h
            · obtain rfl : j = k := by omega
              rw [hx]; exact h1
          have HT : Hid ((L.take (k + 1)).map shOf = (L.take k).map shOf ++ [⟨x, 0, false⟩]) := Lib.hid (by rw [take_last L k hlt, hx]; simp [shOf])
          have e1 : decide (x < 1) = false := decide_eq_false (by omega)
          have e2 : decide (999 < x) = false := decide_eq_false (by omega)
          have c1 : wr.cell? ⟨b, 1, none⟩ = some v := by rw [cell_of_row wr b 1 _ _ _ HN.out.hd]; rfl
          have hnl : ((L.take k).map shOf).length = k := by simp; omega
          obtain ⟨M, hM⟩ : ∃ M, (L.take k).map shOf = M := ⟨_, rfl⟩
          rw [hM] at HN HT hnl
          have hkL := HLL.out
          clear hx h1 hM
          go_wp2_with (at_builtin; refine wpList_append_lies _ rfl _ _ 80 rfl W0.heap.size 103 i0 _ 3 24 Tryz.underlying80 hi0 hz0 hz1 hz2 rfl (by decide) v M.length (sharesV M) rfl (own3_later HN.out.own fun q hq => (below_new wr _).block q (HN.out.own.lt q hq).2) ⟨wr.heap.size, 0, none⟩ 1 1 (scells ⟨x, 0, false⟩) rfl rfl (World.news_of_block (heap_alloc_new wr _)) (scells_one _) (by decide) (by unfold maxLen; omega) (by omega) (by have := HN.out.size; simp; omega) _ rfl ?f)
          case f =>
            intro g' cap' w6 hown hgrow hat hlt6
            obtain ⟨hn1, hf1, u1, hu1⟩ := HN.out.next (x := ⟨x, 0, false⟩) hnl hown hgrow
            have HN2 := Lib.hid hn1
            clear hown hgrow hat hlt6 hn1
            go_wp2
            go_roundw
            case rel => exact ⟨k + 1, _, by omega, by go_num, by rw [HT.out]; exact HN2, HN1⟩
            case measure => simp [intOf]; omega
        · have HF := Lib.hid (show z = false from by
            cases z with
            | false => rfl
            | true => exact absurd (by have := (HZ.out.1 rfl).2.2 k hlt; rwa [hx] at this) h1)
          have HBB := Lib.hid HN.out.below
          by_cases h2 : x < 1
          · have e1 : decide (x < 1) = true := decide_eq_true h2
            clear hx h1
            go_wp2
            go_ret2
            exact ⟨fun e => (by rw [HF.out] at e; cases e), fun _ => rfl, HBB.out⟩
          · have e1 : decide (x < 1) = false := decide_eq_false h2
            have e2 : decide (999 < x) = true := decide_eq_true (by omega)
            clear hx h1
            go_wp2
            go_ret2
            exact ⟨fun e => (by rw [HF.out] at e; cases e), fun _ => rfl, HBB.out⟩
      · obtain rfl : k = L.length := by omega
        have HT := Lib.hid (show z = true from HZ.out.2 ⟨h4, HFP.out, fun j h => HK.out j h h⟩)
        go_wp2
        go_ret2
        refine ⟨fun _ => ?_, fun e => (by rw [HT.out] at e; cases e), HN.out.below⟩
        have hn := HN.out
        rw [List.take_length] at hn
        have h0 : 0 < L.length := by
          have := HFP.out.1 0 (by omega)
          omega
        obtain ⟨r, hr⟩ := hn.team h4 (by simp; exact ⟨h0, HLL.out⟩) (fun x hx => by
          obtain ⟨j, hj, rfl⟩ := List.getElem_of_mem hx
          simpa using HFP.out.1 j hj)
        exact ⟨b, g, r, rfl, hr⟩
end Go.Proofs.YtjgjhfeopmakaaaGreat
namespace Go.Proofs.YtjgjhfeopmakaaaGreat
open Go.RowKit
attribute [local go_sem] Oper.semAt_some

theorem own_to {A w w' : World} {lo b s r : Nat} {T : TeamL} (hA : Below A.heap.size A w) (hlo : A.heap.size ≤ lo) (h : TeamAt w lo b s r T) (hg : w.grownBy w' (some r)) : Below A.heap.size A w' := grown_to hA hg (Nat.le_trans hlo h.lr)
theorem upTo_pre (p : Nat → Bool) (j : Nat) : ∀ m, j ≤ m → upTo p j <+: upTo p m
  | 0, h => by
    obtain rfl : j = 0 := by omega
    exact List.prefix_refl _
  | m + 1, h => by
    by_cases hj : j = m + 1
    · subst hj; exact List.prefix_refl _
    · refine (upTo_pre p j m (by omega)).trans ?_
      cases hp : p m with
      | true => rw [upTo_yes hp]; exact List.prefix_append _ _
      | false => rw [upTo_no hp]; exact List.prefix_refl _
theorem TeamAt.kept {E H : Nat → Prop} {w w' : World} {lo b s r : Nat} {T : TeamL} (h : TeamAt w lo b s r T) (hk : KpP E H w w') (ho : ∀ q, q = b ∨ q = s ∨ q = r → ¬E q ∧ Off H w q) : TeamAt w' lo b s r T := by
  obtain ⟨c1, c2, h0⟩ := h.hd
  obtain ⟨cur, hr, ht⟩ := h.rw
  have hb := ho b (.inl rfl)
  have hs := ho s (.inr (.inl rfl))
  have hrr := ho r (.inr (.inr rfl))
  refine ⟨⟨c1, c2, hk.rest b _ h0 hb.1 fun _ => hb.2⟩, ⟨Nat.lt_of_lt_of_le h.sd.1 hk.size, fun k hkk => ?_⟩, ⟨cur, hk.rest r _ hr hrr.1 fun _ => hrr.2, ht⟩, h.lb, h.ls, h.lr, h.br, h.sr, h.n1, h.n2, h.nd⟩
  obtain ⟨o, hso⟩ : ∃ o, w.heap[s]? = some o := ⟨_, Array.getElem?_eq_getElem h.sd.1⟩
  rw [World.cell?_of_block (w := w) (a := ⟨s, k, none⟩) ((hk.rest s o hso hs.1 (fun _ => hs.2)).trans hso.symm)]
  exact h.sd.2 k hkk
theorem HdAt.kept {E H : Nat → Prop} {w w' : World} {q : Nat} {v : Value} (h : HdAt w q v) (hk : KpP E H w w') (ho : ¬E q ∧ Off H w q) : HdAt w' q v := by
  obtain ⟨t, h⟩ := h
  exact ⟨t, hk.rest q _ h ho.1 fun _ => ho.2⟩
def foeB (T : TeamL) (k : Int) (n : Nat) : Bool := ((n : Int) != k) && !lostT T n
def foesT (T : TeamL) (k : Int) : List Int := upTo (foeB T k) T.sh.length
def encF (x : Int) : Array Value := #[.int .i64 x]
end Go.Proofs.YtjgjhfeopmakaaaGreat
namespace Go.Proofs.YtjgjhfeopmakaaaGreat
open Go.RowKit
attribute [local go_sem] Oper.semAt_some

set_option maxRecDepth 100000 in
theorem len_nil (w : World) : Calls Tryz.prog 15 #[.pointer none] w (Same w (.int .i64 0)) := by
  go_enter Tryz.func15, Tryz.ntmps15
  go_wp2
  go_ret
  exact ⟨rfl, rfl⟩
set_option maxRecDepth 100000 in
theorem seats_nil (w : World) : Calls Tryz.prog 29 #[.pointer none] w (Same w (.int .i64 0)) := by
  go_enter Tryz.func29, Tryz.ntmps29
  go_wp2
  go_ret
  exact ⟨rfl, rfl⟩
set_option maxRecDepth 100000 in
theorem has_nil (x : Int) (w : World) : Calls Tryz.prog 39 #[.pointer none, .int .i64 x] w (Same w (.bool false)) := by
  by_cases h0 : 0 ≤ x
  · have d0 : decide (0 ≤ x) = true := decide_eq_true h0
    have d1 : decide (x < 0) = false := decide_eq_false (by omega)
    go_enter Tryz.func39, Tryz.ntmps39
    go_wp2_with fail
    refine (len_nil w).mono ?_
    rintro e w1 ⟨rfl, rfl⟩
    go_wp2
    go_ret
    exact ⟨rfl, rfl⟩
  · have d0 : decide (0 ≤ x) = false := decide_eq_false h0
    go_enter Tryz.func39, Tryz.ntmps39
    go_wp2
    go_ret
    exact ⟨rfl, rfl⟩
set_option maxRecDepth 100000 in
theorem of_nil (x : Int) (w : World) : Calls Tryz.prog 10 #[.pointer none, .int .i64 x] w (Same w (.int .i64 (-1))) := by
  by_cases h0 : 0 ≤ x
  · have d0 : decide (x < 0) = false := decide_eq_false (by omega)
    have d1 : decide (0 ≤ x) = true := decide_eq_true h0
    go_enter Tryz.func10, Tryz.ntmps10
    go_wp2_with fail
    refine (seats_nil w).mono ?_
    rintro e w1 ⟨rfl, rfl⟩
    go_wp2
    go_ret
    exact ⟨rfl, rfl⟩
  · have d0 : decide (x < 0) = true := decide_eq_true (by omega)
    go_enter Tryz.func10, Tryz.ntmps10
    go_wp2
    go_ret
    exact ⟨rfl, rfl⟩
set_option maxRecDepth 100000 in
theorem lost_nil (x : Int) (w : World) : Calls Tryz.prog 40 #[.pointer none, .int .i64 x] w (Same w (.bool true)) := by
  go_enter Tryz.func40, Tryz.ntmps40
  go_wp2_with fail
  refine (has_nil x w).mono ?_
  rintro e w1 ⟨rfl, rfl⟩
  go_wp2
  go_ret
  exact ⟨rfl, rfl⟩
set_option maxRecDepth 100000 in
theorem copy_nil (w : World) : Calls Tryz.prog 28 #[.pointer none] w (Same w (.pointer none)) := by
  go_enter Tryz.func28, Tryz.ntmps28
  go_wp2
  go_ret
  exact ⟨rfl, rfl⟩
set_option maxRecDepth 100000 in
theorem same_nil (w : World) : Calls Tryz.prog 34 #[.pointer none, .pointer none] w (Same w (.bool true)) := by
  go_enter Tryz.func34, Tryz.ntmps34
  go_wp2
  go_ret
  exact ⟨rfl, rfl⟩
set_option maxRecDepth 100000 in
theorem same_none (b : Nat) (w : World) : Calls Tryz.prog 34 #[.pointer none, .pointer (some ⟨b, 0, none⟩)] w (Same w (.bool false)) := by
  have hq : ∀ W, (binOp .eql 35 (.pointer none) (.pointer (some ⟨b, 0, none⟩))).run Tryz.prog W = .ok (.bool false) W := fun W => by kernel_rfl
  go_enter Tryz.func34, Tryz.ntmps34
  go_wp2
  go_ret
  exact ⟨rfl, rfl⟩
set_option maxRecDepth 100000 in
theorem change_nil (x : Int) (f : Value) (w : World) : Calls Tryz.prog 90 #[.pointer none, .int .i64 x, f] w (Same w (.int .i64 1)) := by
  go_enter Tryz.func90, Tryz.ntmps90
  go_wp2
  go_ret
  exact ⟨rfl, rfl⟩
set_option maxRecDepth 100000 in
theorem gain_nil (x y : Int) (w : World) : Calls Tryz.prog 87 #[.pointer none, .int .i64 x, .int .i64 y] w (RetV w (.int .i64 1)) := by
  have hmf := @mk_func
  have HC := Lib.hid (fun f w' => change_nil x f w')
  go_enter Tryz.func87, Tryz.ntmps87
  go_wp2_with fail
  refine (HC.out _ _).mono ?_
  rintro e w1 ⟨rfl, rfl⟩
  go_wp2
  go_ret
  exact ⟨rfl, below_new w _⟩
theorem results_c6 {fn : Func} {tmps : Array Value} {W : World} {b : Nat} {v : Bool} (h : fn.results = #[.cell 6 4]) (ht : tmps.getD 6 undef = .pointer (some ⟨b, 0, none⟩)) (hc : HdAt W b (.bool v)) : (results fn tmps).run Tryz.prog W = .ok (.bool v) W := by
  have hc := hc.cell
  simp only [Array.getD_eq_getD_getElem?] at ht
  simp [results, h, go_sem, ht, hc]
theorem kpP_setE {W : World} {l : Nat} (u : Value) : KpP (fun k => k = l) (fun _ => False) W (W.setCell ⟨l, 0, none⟩ u) :=
  ⟨by simp, fun k o ho hE _ => (heap_setCell_other W ⟨l, 0, none⟩ k u hE).trans ho, fun b v hb _ => hb.elim⟩
def MarksO (W : World) (Ds : List Nat) : Prop := ∀ D ∈ Ds, W.heap[D]? = some (.deferred (some []))
theorem MarksO.lt {W : World} {Ds : List Nat} (h : MarksO W Ds) {D : Nat} (hD : D ∈ Ds) : D < W.heap.size := (Array.getElem?_eq_some_iff.1 (h D hD)).1
theorem MarksO.others {W W' : World} {Ds : List Nat} (h : MarksO W Ds) (hk : KeepsOthers W W') : MarksO W' Ds := fun D hD => hk.same D _ (h D hD) rfl
theorem others_belowO {W W' : World} (h : Below W.heap.size W W') : KeepsOthers W W' := ⟨h.size, fun k _ hk _ => (h.block k (Array.getElem?_eq_some_iff.1 hk).1).trans hk⟩
theorem marks_ownO {β : Type} {B : Nat} {Ds : List Nat} (hB : ∀ D ∈ Ds, D < B) : OwnFrom B (fun (_ : β) W => MarksO W Ds) := fun _ W W' row hs hg hr D hD =>
  (hg.block D (hs.lt hD) (fun e => by have := (hr D e.symm).1; have := hB D hD; omega)).trans (hs D hD)
theorem leaves_marksO {F : Fence} {n : Nat} {P : Program} {fn : Func} {tmps : Array Value} {R : Ending → World → Prop} {B : Nat} : ∀ (Ds : List Nat) (W : World), Ds.Nodup → (∀ D ∈ Ds, B ≤ D) → MarksO W Ds →
    (∀ W', Below B W W' → (∀ (j : Nat) (o : Obj), W.heap[j]? = some o → o.isCells = true → W'.heap[j]? = some o) → LeavesIn F n P fn tmps R [] .returning W') →
    LeavesInM F n P fn tmps R (Ds.map fun D => { target := .collected D, args := #[] }) .returning W
  | [], W, _, _, _, h => h W (Below.refl _ _) (fun _ _ h _ => h)
  | D :: Ds, W, hn, hB, hm, h => by
    have hD := hm D (by simp)
    have hlt := hm.lt (D := D) (by simp)
    have hBD := hB D (by simp)
    rw [List.nodup_cons] at hn
    refine ⟨by simp, .inl ⟨D, W.putObj D (.deferred none), rfl, run_takeDeferred hD, ?_⟩⟩
    refine leaves_marksO Ds _ hn.2 (fun D' h' => hB D' (by simp [h'])) (fun D' h' => (World.putObj_heap_other (fun e => hn.1 (by rw [← e]; exact h'))).trans (hm D' (by simp [h']))) (fun W' hb hc => ?_)
    refine h W' ?_ ?_
    · have h1 : Below B W (W.putObj D (.deferred none)) := (Below.refl B W).grown (grownBy_putObj' W D (.deferred none)) (by omega) (fun k e => by cases e; exact hBD)
      exact h1.trans hb
    · intro j o hj ho
      refine hc j o ?_ ho
      refine (World.putObj_heap_other ?_).trans hj
      rintro rfl
      rw [hD] at hj
      cases hj
      cases ho

theorem list_newO (W : World) (lo : Nat) : ListIn (W.alloc (.cells #[.slice none 0 0] 79)) lo W.heap.size (.slice none 0 0) [] := ⟨World.alloc_heap_new W _, World.ownsRow_nil _ _ _ _⟩
theorem off_lO {W : World} {lf s k : Nat} {v : Value} {M : List Int} (hl : ListIn W lf s v M) (h2 : k ≠ s) (h4 : v.ownBlock ≠ some k) : Off (fun k => k = s) W k :=
  ⟨fun e => h2 e, fun c hc => by subst hc; exact ⟨v, hl.head, h4⟩⟩
theorem own_not_box {W : World} {lo s n : Nat} {v u : Value} {xs : List Value} (h : W.ownsRow lo 3 1 v n xs) (hb : W.heap[s]? = some (.cells #[u] 79 (0, 0))) : v.ownBlock ≠ some s := fun e => by
  rcases h.2 with ⟨rfl, _⟩ | ⟨g, cap, cur, rfl, _, hg, _⟩
  · cases e
  · have e : g = s := by injection e
    subst e
    rw [hg] at hb
    injection hb with hb
    injection hb with _ hb _
    exact absurd hb (by decide)
end Go.Proofs.YtjgjhfeopmakaaaGreat

/- Same of teams; which sides may be teams: fits, the document's answer; New (layer 9). New of teams, or none (layer 9). The document's example of teams; the iterator of Foes, whatever its rounds make; what is answered of no teams (layer 9). What is answered of no teams (layer 9); the marks that ranges over functions leave. -/
import Derived.Test.YtdlkdilgjmmlaaaGreatTg
import Derived.Test.YtdlkdilgjmmlaaaGreatOt
import Derived.Deep.Cut
import Derived.Deep.CutBlock
import Derived.Test.YtdlkdilgjmmlaaaGreatFs
import Derived.RangeFuncRecord
import Derived.RangeFuncLeaves
import Derived.RangeFuncFrom
namespace Go.Proofs.YtdlkdilgjmmlaaaGreat
open Go.RowKit

theorem TeamAt.shAt {w : World} {lo b s r : Nat} {T : TeamL} (h : TeamAt w lo b s r T) : ShAt w r T.sh := fun n hn => h.cells n hn
theorem index_at {w : World} {v : Value} {L : List Int} (x : Int) (hv : IntsAt w v L) (hL : L.length ≤ 1000) :
    Calls Tryz.prog 124 #[v, .int .i64 x] w (Same w (.int .i64 (placeL L x))) := by
  rcases hv with ⟨xa, xc, rfl, h0⟩ | ⟨b, off, cap, rfl, hlt, hc⟩
  · have : L = [] := by simpa [intsV] using h0
    subst this
    refine (Tryz.slices_Index_int_empty xa xc x w).mono ?_
    rintro e w' ⟨rfl, rfl⟩
    exact ⟨by rw [idx_place], rfl⟩
  · rw [intsV_len]
    refine (Tryz.slices_Index_int b off L.length cap L x w (Nat.le_refl _) (by omega) (fun j hj => ?_)).mono ?_
    · rw [hc j (by rw [intsV_len]; exact hj)]
      simp [intsV, List.getD, hj]
    · rintro e w' ⟨rfl, rfl⟩
      exact ⟨by rw [List.take_length, idx_place], rfl⟩
set_option maxRecDepth 100000 in
theorem contains_at {w : World} {v : Value} {L : List Int} (x : Int) (hv : IntsAt w v L) (hL : L.length ≤ 1000) :
    Calls Tryz.prog 114 #[v, .int .i64 x] w (Same w (.bool (decide (x ∈ L)))) := by
  have HI := Lib.hid (index_at x hv hL)
  have e := place_nonneg L x
  obtain ⟨p, hp⟩ : ∃ p, placeL L x = p := ⟨_, rfl⟩
  rw [hp] at HI e
  rw [← e]
  clear hv hp e
  go_enter Tryz.func114, Tryz.ntmps114
  go_wp2_with fail
  refine HI.out.mono ?_
  rintro e w1 ⟨rfl, rfl⟩
  go_wp2
  go_ret
  exact ⟨rfl, rfl⟩
def FitP (S : List Int) (n : Nat) : Prop := (∀ k (h : k < S.length), 0 ≤ S[k] ∧ S[k] < n) ∧ ∀ i < n, (i : Int) ∈ S
set_option maxRecDepth 100000 in
set_option maxHeartbeats 4000000 in
theorem fits_any {w : World} {v : Value} {S : List Int} {n : Nat} {z : Bool} (hv : IntsAt w v S) (hL : S.length ≤ 1000) (hn : n ≤ 1000000) (hz : z = true ↔ FitP S n) :
    Calls Tryz.prog 138 #[v, .int .i64 n] w (Same w (.bool z)) := by
  obtain ⟨xa, xc, rfl⟩ := hv.form
  have HV := Lib.hid hv
  have HZ := Lib.hid hz
  clear hv hz
  go_enter Tryz.func138, Tryz.ntmps138
  go_wp2
  go_loop [10] (fun i => ∃ k : Nat, k ≤ S.length ∧ i = .int .i64 k ∧ Hid (∀ j (_ : j < k) (h : j < S.length), 0 ≤ S[j] ∧ S[j] < n)) (fun i => S.length - (intOf i).toNat)
  case atStart => exact ⟨0, Nat.zero_le _, rfl, Lib.hid (fun j hj => by omega)⟩
  case round =>
    obtain ⟨k, hk, rfl, HK⟩ := hrel
    by_cases hlt : k < S.length
    · obtain ⟨b1, o1, rfl, _, x0⟩ := HV.out.at k hlt
      obtain ⟨x, hx⟩ : ∃ x, S[k] = x := ⟨_, rfl⟩
      rw [hx] at x0
      have d0 : (0 : Int) ≤ k := by omega
      have d1 : (k : Int) < S.length := by omega
      by_cases h1 : 0 ≤ x ∧ x < n
      · have HN : Hid (∀ j (_ : j < k + 1) (h : j < S.length), 0 ≤ S[j] ∧ S[j] < n) := Lib.hid fun j hj h => by
          by_cases hjk : j < k
          · exact HK.out j hjk h
          · obtain rfl : j = k := by omega
            rw [hx]; exact h1
        have e1 : decide (x < 0) = false := decide_eq_false (by omega)
        have e2 : decide ((n : Int) ≤ x) = false := decide_eq_false (by omega)
        clear hx h1
        go_wp2
        go_round
        case rel => exact ⟨k + 1, by omega, by go_num, HN⟩
        case measure => simp [intOf]; omega
      · have HF := Lib.hid (show z = false from by
          cases z with
          | false => rfl
          | true => exact absurd (by have := (HZ.out.1 rfl).1 k hlt; rwa [hx] at this) h1)
        by_cases h2 : x < 0
        · have e1 : decide (x < 0) = true := decide_eq_true h2
          clear hx h1
          go_wp2
          go_ret
          exact ⟨by rw [HF.out]; rfl, rfl⟩
        · have e1 : decide (x < 0) = false := decide_eq_false h2
          have e2 : decide ((n : Int) ≤ x) = true := decide_eq_true (by omega)
          clear hx h1
          go_wp2
          go_ret
          exact ⟨by rw [HF.out]; rfl, rfl⟩
    · obtain rfl : k = S.length := by omega
      have HC := Lib.hid (fun x : Int => contains_at x HV.out hL)
      go_wp2
      go_loop [23] (fun i => ∃ k : Nat, k ≤ n ∧ i = .int .i64 k ∧ Hid (∀ j < k, (j : Int) ∈ S)) (fun i => n - (intOf i).toNat)
      case atStart => exact ⟨0, Nat.zero_le _, rfl, Lib.hid (fun j hj => by omega)⟩
      case round =>
        obtain ⟨k, hk, rfl, HM⟩ := hrel
        by_cases hlt : k < n
        · have d0 : decide ((k : Int) < n) = true := decide_eq_true (by omega)
          by_cases h1 : (k : Int) ∈ S
          · have HN := Lib.hid (show ∀ j < k + 1, (j : Int) ∈ S from fun j hj => by
              by_cases hjk : j < k
              · exact HM.out j hjk
              · obtain rfl : j = k := by omega
                exact h1)
            have HC1 := Lib.hid (HC.out k)
            rw [decide_eq_true h1] at HC1
            clear h1
            go_wp2_with fail
            refine HC1.out.mono ?_
            rintro e w1 ⟨rfl, rfl⟩
            go_wp2
            go_round
            case rel => exact ⟨k + 1, by omega, by go_num, HN⟩
            case measure => simp [intOf]; omega
          · have HF := Lib.hid (show z = false from by
              cases z with
              | false => rfl
              | true => exact absurd ((HZ.out.1 rfl).2 k hlt) h1)
            have HC1 := Lib.hid (HC.out k)
            rw [decide_eq_false h1] at HC1
            clear h1
            go_wp2_with fail
            refine HC1.out.mono ?_
            rintro e w1 ⟨rfl, rfl⟩
            go_wp2
            go_ret
            exact ⟨by rw [HF.out]; rfl, rfl⟩
        · obtain rfl : k = n := by omega
          have HT := Lib.hid (show z = true from HZ.out.2 ⟨fun j h => HK.out j h h, HM.out⟩)
          go_wp2
          go_ret
          exact ⟨by rw [HT.out]; rfl, rfl⟩
def MayP (S L : List Int) : Prop := (1 ≤ S.length ∧ S.length ≤ 4) ∧ FitP S L.length ∧ ∀ k (h : k < L.length), 1 ≤ L[k] ∧ L[k] ≤ 999
end Go.Proofs.YtdlkdilgjmmlaaaGreat
namespace Go.Proofs.YtdlkdilgjmmlaaaGreat
open Go.RowKit

def shOf (n : Int) : ShareL := ⟨n, 0, false⟩
def newT (S L : List Int) : TeamL := ⟨S, L.map shOf⟩
def RetNewT (w : World) (z : Bool) (T : TeamL) (e : Ending) (w' : World) : Prop :=
  (z = true → ∃ b s r, e = .returned (.tuple #[.pointer (some ⟨b, 0, none⟩), .int .i64 0]) ∧ TeamAt w' w.heap.size b s r T) ∧ (z = false → e = .returned (.tuple #[.pointer none, .int .i64 20])) ∧ Below w.heap.size w w'
/-- New's state: the box b with the row s of the seats' teams, and what is shared so far. -/
structure NewAt (w W0 wr : World) (b s c1 : Nat) (S : List Int) (v : Value) (l : List ShareL) : Prop where
  hd : wr.heap[b]? = some (.cells #[.slice (some ⟨s, 0, none⟩) S.length c1, v] 93 (0, 0))
  row : RowI9 wr 3 s (intsV S)
  own : wr.ownsRow W0.heap.size 95 3 v l.length (sharesV l)
  below : Below w.heap.size w wr
  size : W0.heap.size ≤ wr.heap.size
  lb : w.heap.size ≤ b ∧ b < W0.heap.size
  ls : w.heap.size ≤ s ∧ s < W0.heap.size
  ne : s ≠ b
theorem own3_later {w w' : World} {base sz : Nat} {t : TypeId} {v : Value} {n : Nat} {xs : List Value} (h : w.ownsRow base t sz v n xs) (hb : ∀ k, v.ownBlock = some k → w'.heap[k]? = w.heap[k]?) : w'.ownsRow base t sz v n xs := by
  refine ⟨h.1, ?_⟩
  rcases h.2 with h2 | ⟨g, cap, cur, rfl, hbb, hg, r⟩
  · exact .inl h2
  · exact .inr ⟨g, cap, cur, rfl, hbb, (hb g rfl).trans hg, r⟩
theorem NewAt.next {w W0 wr w2 : World} {b s c1 g cap n : Nat} {S : List Int} {v : Value} {l : List ShareL} {x : ShareL} (h : NewAt w W0 wr b s c1 S v l) (hn : l.length = n)
    (hown : w2.ownsRow W0.heap.size 95 3 (.slice (some ⟨g, 0, none⟩) (n + 1) cap) (n + 1) (sharesV l ++ scells x))
    (hg : (wr.alloc (.cells #[.int .i64 x.life, .int .i64 x.poison, .bool x.lost] 95)).grownBy w2 v.ownBlock) :
    NewAt w W0 (w2.setCell ⟨b, 1, none⟩ (.slice (some ⟨g, 0, none⟩) (n + 1) cap)) b s c1 S (.slice (some ⟨g, 0, none⟩) (n + 1) cap) (l ++ [x]) ∧ w2.frozen? ⟨b, 1, none⟩ = false ∧ (∃ u, w2.cell? ⟨b, 1, none⟩ = some u) := by
  subst hn
  have hw := below_new wr (.cells #[.int .i64 x.life, .int .i64 x.poison, .bool x.lost] 95)
  have hlb : b < wr.heap.size := (Array.getElem?_eq_some_iff.1 h.hd).1
  have hls := h.row.lt
  have hs1 := hw.size
  have far : ∀ k, k < W0.heap.size → some k ≠ v.ownBlock := fun k hk e => by
    have := (h.own.lt k e.symm).1
    omega
  have hd2 : w2.heap[b]? = some (.cells #[.slice (some ⟨s, 0, none⟩) S.length c1, v] 93 (0, 0)) := (hg.block b (by omega) (far b h.lb.2)).trans ((hw.block b hlb).trans h.hd)
  have hgb : W0.heap.size ≤ g := (hown.lt g rfl).1
  have hset := grown_set w2 b 1 (.slice (some ⟨g, 0, none⟩) (l.length + 1) cap)
  refine ⟨⟨?_, ?_, ?_, ?_, ?_, h.lb, h.ls, h.ne⟩, frozen_of_row w2 b 1 _ _ hd2, ⟨v, by rw [cell_of_row w2 b 1 _ _ _ hd2]; rfl⟩⟩
  · rw [heap_setCell_same w2 b 1 _ _ _ hd2]; rfl
  · obtain ⟨cur, h1, h2⟩ := h.row
    have h3 : w2.heap[s]? = some (.cells cur 3 (0, 0)) := (hg.block s (by omega) (far s h.ls.2)).trans ((hw.block s hls).trans h1)
    exact ⟨cur, (hset.block s (Array.getElem?_eq_some_iff.1 h3).1 (by simpa using h.ne)).trans h3, h2⟩
  · rw [sharesV_append, List.length_append]
    have := own3_later (w' := w2.setCell ⟨b, 1, none⟩ (.slice (some ⟨g, 0, none⟩) (l.length + 1) cap)) hown (fun k hk => hset.block k (hown.lt k hk).2 (by
      have hk1 : g = k := Option.some.inj hk
      have := h.lb.2
      simp; omega))
    simpa [sharesV] using this
  · have h1 : Below w.heap.size w w2 := grown_of (below_alloc2 h.below _) hg (fun q hq => by
      have := (h.own.lt q hq).1
      have := h.lb
      omega)
    exact grown_to h1 hset h.lb.1
  · have := hg.size
    have := h.size
    have := hset.size
    omega
theorem NewAt.start {w w1 : World} {s c1 : Nat} {S : List Int} (hb : Below w.heap.size w w1) (hs : w.heap.size ≤ s) (hr : RowI9 w1 3 s (intsV S)) :
    NewAt w (w1.alloc (.cells #[.slice (some ⟨s, 0, none⟩) S.length c1, .slice none 0 0] 93)) (w1.alloc (.cells #[.slice (some ⟨s, 0, none⟩) S.length c1, .slice none 0 0] 93)) w1.heap.size s c1 S (.slice none 0 0) [] := by
  have hl := hr.lt
  refine ⟨heap_alloc_new w1 _, hr.later (below_new w1 _), World.ownsRow_nil _ _ _ _, below_alloc2 hb _, Nat.le_refl _, ⟨hb.size, ?_⟩, ⟨hs, ?_⟩, ?_⟩
  · simp
  · simp; omega
  · omega
theorem NewAt.team {w W0 wr : World} {b s c1 : Nat} {S : List Int} {v : Value} {l : List ShareL} (h : NewAt w W0 wr b s c1 S v l) (h1 : 1 ≤ S.length ∧ S.length ≤ 4) (h2 : 0 < l.length ∧ l.length ≤ 4) (h3 : ∀ x ∈ S, 0 ≤ x ∧ x < l.length) : ∃ r, TeamAt wr w.heap.size b s r ⟨S, l⟩ := by
  obtain ⟨g, cap, rfl, hg, hr⟩ := own_rowIn h.own h2.1
  have := h.lb
  have := h.ls
  exact ⟨g, team_parts h.hd h.row hr h.lb.1 h.ls.1 (by omega) (by omega) (by omega) h1 h2.2 h3⟩
theorem fit_len {S : List Int} {n : Nat} (h : FitP S n) (hS : S.length ≤ 4) : n ≤ 4 := by
  refine Classical.byContradiction fun hn => ?_
  have m0 := h.2 0 (by omega)
  have m1 := h.2 1 (by omega)
  have m2 := h.2 2 (by omega)
  have m3 := h.2 3 (by omega)
  have m4 := h.2 4 (by omega)
  clear h
  rcases S with _ | ⟨a, _ | ⟨b, _ | ⟨c, _ | ⟨d, _ | ⟨e, t⟩⟩⟩⟩⟩ <;> simp at m0 m1 m2 m3 m4 hS <;> omega
set_option maxRecDepth 100000 in
set_option maxHeartbeats 8000000 in
theorem new9_any {w : World} {v u : Value} {S L : List Int} {z : Bool} (hv : IntsAt w v S) (hu : IntsAt w u L) (hS : S.length ≤ 9223372036854775807) (hL : L.length ≤ 1000) (hz : z = true ↔ MayP S L) :
    Calls Tryz.prog 117 #[v, u] w (RetNewT w z (newT S L)) := by
  obtain ⟨xa, xc, rfl⟩ := hv.form
  obtain ⟨ya, yc, rfl⟩ := hu.form
  have HV := Lib.hid hv
  have HU := Lib.hid hu
  have HZ := Lib.hid hz
  clear hv hu hz
  by_cases h4 : 1 ≤ S.length ∧ S.length ≤ 4
  case neg =>
    have HF := Lib.hid (show z = false from by
      cases z with
      | false => rfl
      | true => exact absurd (HZ.out.1 rfl).1 h4)
    by_cases h0 : S.length < 1
    · have e0 : decide ((S.length : Int) < 1) = true := decide_eq_true (by omega)
      clear h4 h0
      go_enter Tryz.func117, Tryz.ntmps117
      go_wp2
      go_ret2
      exact ⟨fun e => (by rw [HF.out] at e; cases e), fun _ => rfl, Below.refl _ _⟩
    · have e0 : decide ((S.length : Int) < 1) = false := decide_eq_false (by omega)
      have e1 : decide ((4 : Int) < S.length) = true := decide_eq_true (by omega)
      clear h4 h0
      go_enter Tryz.func117, Tryz.ntmps117
      go_wp2
      go_ret2
      exact ⟨fun e => (by rw [HF.out] at e; cases e), fun _ => rfl, Below.refl _ _⟩
  have e0 : decide ((S.length : Int) < 1) = false := decide_eq_false (by omega)
  have e1 : decide ((4 : Int) < S.length) = false := decide_eq_false (by omega)
  obtain ⟨zf, hzf⟩ : ∃ zf : Bool, zf = true ↔ FitP S L.length := by
    by_cases hf : FitP S L.length
    · exact ⟨true, by simp [hf]⟩
    · exact ⟨false, by simp [hf]⟩
  have HFI := Lib.hid (fits_any HV.out (by omega) (by omega) hzf)
  cases zf with
  | false =>
    have HF := Lib.hid (show z = false from by
      cases z with
      | false => rfl
      | true => exact absurd (hzf.2 (HZ.out.1 rfl).2.1) (by decide))
    clear hzf
    go_enter Tryz.func117, Tryz.ntmps117
    go_wp2_with fail
    refine HFI.out.mono ?_
    rintro e w1 ⟨rfl, rfl⟩
    go_wp2
    go_ret2
    exact ⟨fun e => (by rw [HF.out] at e; cases e), fun _ => rfl, Below.refl _ _⟩
  | true =>
    have HFP := Lib.hid (hzf.1 rfl)
    have HLL := Lib.hid (fit_len HFP.out h4.2)
    have HCL : Hid (Calls Tryz.prog 64 #[.slice xa S.length xc] w (RetRow w 3 S.length (intsV S))) := Lib.hid (by
      obtain ⟨b0, off, rfl, _, _⟩ := HV.out.at 0 (by omega)
      exact clone_ints (fun j hj => by
        obtain ⟨b1, off1, e, _, hc⟩ := HV.out.at j hj
        injection e with e
        injection e with e1 e2
        subst e1 e2
        exact hc) (by omega) (by omega))
    clear hzf
    go_enter Tryz.func117, Tryz.ntmps117
    go_wp2_with fail
    refine HFI.out.mono ?_
    rintro e w1 ⟨rfl, rfl⟩
    go_wp2_with fail
    refine HCL.out.mono ?_
    rintro e w2 ⟨g, cap, rfl, hg, hr, hb2⟩
    have HNA := Lib.hid (NewAt.start (c1 := cap) hb2 hg hr)
    have HUU := Lib.hid (HU.out.later (below_alloc2 hb2 (.cells #[.slice (some ⟨g, 0, none⟩) S.length cap, .slice none 0 0] 93)))
    clear hb2 hg hr
    obtain ⟨i0, hi0, hz0, hz1, hz2⟩ := info_parts info_share
    go_wp2
    obtain ⟨W0, hW0⟩ : ∃ W0, w2.alloc (.cells #[.slice (some ⟨g, 0, none⟩) S.length cap, .slice none 0 0] 93) = W0 := ⟨_, rfl⟩
    obtain ⟨b, hbb⟩ : ∃ b, w2.heap.size = b := ⟨_, rfl⟩
    rw [hW0, hbb] at HNA
    rw [hW0] at HUU
    simp only [hW0, hbb]
    clear hW0 hbb
    go_loopw [30] (fun i wr => ∃ (k : Nat) (v : Value), k ≤ L.length ∧ i = .int .i64 k ∧ Hid (NewAt w1 W0 wr b g cap S v ((L.take k).map shOf)) ∧ Hid (∀ j (_ : j < k) (h : j < L.length), 1 ≤ L[j] ∧ L[j] ≤ 999)) (fun i _ => L.length - (intOf i).toNat)
    case atStart => exact ⟨0, _, Nat.zero_le _, rfl, HNA, Lib.hid (fun j hj => by omega)⟩
    case round =>
      obtain ⟨k, v, hk, rfl, HN, HK⟩ := hrel
      by_cases hlt : k < L.length
      · obtain ⟨b1, o1, rfl, hb1, x0⟩ := HU.out.at k hlt
        have x1 := HN.out.below.cell (p := ⟨b1, o1 + k, none⟩) hb1
        rw [x0] at x1
        obtain ⟨x, hx⟩ : ∃ x, L[k] = x := ⟨_, rfl⟩
        rw [hx] at x1
        clear x0
        have d0 : (0 : Int) ≤ k := by omega
        have d1 : (k : Int) < L.length := by omega
        by_cases h1 : 1 ≤ x ∧ x ≤ 999
        · have HN1 : Hid (∀ j (_ : j < k + 1) (h : j < L.length), 1 ≤ L[j] ∧ L[j] ≤ 999) := Lib.hid fun j hj h => by
            by_cases hjk : j < k
            · exact HK.out j hjk h
            · obtain rfl : j = k := by omega
              rw [hx]; exact h1
          have HT : Hid ((L.take (k + 1)).map shOf = (L.take k).map shOf ++ [⟨x, 0, false⟩]) := Lib.hid (by rw [take_last L k hlt, hx]; simp [shOf])
          have e1 : decide (x < 1) = false := decide_eq_false (by omega)
          have e2 : decide (999 < x) = false := decide_eq_false (by omega)
          have c1 : wr.cell? ⟨b, 1, none⟩ = some v := by rw [cell_of_row wr b 1 _ _ _ HN.out.hd]; rfl
          have hnl : ((L.take k).map shOf).length = k := by simp; omega
          obtain ⟨M, hM⟩ : ∃ M, (L.take k).map shOf = M := ⟨_, rfl⟩
          rw [hM] at HN HT hnl
          have hkL := HLL.out
          clear hx h1 hM
          go_wp2_with (at_builtin; refine wpList_append_lies _ rfl _ _ 91 rfl W0.heap.size 95 i0 _ 3 24 Tryz.underlying91 hi0 hz0 hz1 hz2 rfl (by decide) v M.length (sharesV M) rfl (own3_later HN.out.own fun q hq => (below_new wr _).block q (HN.out.own.lt q hq).2) ⟨wr.heap.size, 0, none⟩ 1 1 (scells ⟨x, 0, false⟩) rfl rfl (World.news_of_block (heap_alloc_new wr _)) (scells_one _) (by decide) (by unfold maxLen; omega) (by omega) (by have := HN.out.size; simp; omega) _ rfl ?f)
          case f =>
            intro g' cap' w6 hown hgrow hat hlt6
            obtain ⟨hn1, hf1, u1, hu1⟩ := HN.out.next (x := ⟨x, 0, false⟩) hnl hown hgrow
            have HN2 := Lib.hid hn1
            clear hown hgrow hat hlt6 hn1
            go_wp2
            go_roundw
            case rel => exact ⟨k + 1, _, by omega, by go_num, by rw [HT.out]; exact HN2, HN1⟩
            case measure => simp [intOf]; omega
        · have HF := Lib.hid (show z = false from by
            cases z with
            | false => rfl
            | true => exact absurd (by have := (HZ.out.1 rfl).2.2 k hlt; rwa [hx] at this) h1)
          have HBB := Lib.hid HN.out.below
          by_cases h2 : x < 1
          · have e1 : decide (x < 1) = true := decide_eq_true h2
            clear hx h1
            go_wp2
            go_ret2
            exact ⟨fun e => (by rw [HF.out] at e; cases e), fun _ => rfl, HBB.out⟩
          · have e1 : decide (x < 1) = false := decide_eq_false h2
            have e2 : decide (999 < x) = true := decide_eq_true (by omega)
            clear hx h1
            go_wp2
            go_ret2
            exact ⟨fun e => (by rw [HF.out] at e; cases e), fun _ => rfl, HBB.out⟩
      · obtain rfl : k = L.length := by omega
        have HT := Lib.hid (show z = true from HZ.out.2 ⟨h4, HFP.out, fun j h => HK.out j h h⟩)
        go_wp2
        go_ret2
        refine ⟨fun _ => ?_, fun e => (by rw [HT.out] at e; cases e), HN.out.below⟩
        have hn := HN.out
        rw [List.take_length] at hn
        have h0 : 0 < L.length := by
          have := HFP.out.1 0 (by omega)
          omega
        obtain ⟨r, hr⟩ := hn.team h4 (by simp; exact ⟨h0, HLL.out⟩) (fun x hx => by
          obtain ⟨j, hj, rfl⟩ := List.getElem_of_mem hx
          simpa using HFP.out.1 j hj)
        exact ⟨b, g, r, rfl, hr⟩
end Go.Proofs.YtdlkdilgjmmlaaaGreat
namespace Go.Proofs.YtdlkdilgjmmlaaaGreat
open Go.RowKit
attribute [local go_sem] Oper.semAt_some

theorem upTo_pre (p : Nat → Bool) (j : Nat) : ∀ m, j ≤ m → upTo p j <+: upTo p m
  | 0, h => by
    obtain rfl : j = 0 := by omega
    exact List.prefix_refl _
  | m + 1, h => by
    by_cases hj : j = m + 1
    · subst hj; exact List.prefix_refl _
    · refine (upTo_pre p j m (by omega)).trans ?_
      cases hp : p m with
      | true => rw [upTo_yes hp]; exact List.prefix_append _ _
      | false => rw [upTo_no hp]; exact List.prefix_refl _
theorem TeamAt.kept {E H : Nat → Prop} {w w' : World} {lo b s r : Nat} {T : TeamL} (h : TeamAt w lo b s r T) (hk : KpP E H w w') (ho : ∀ q, q = b ∨ q = s ∨ q = r → ¬E q ∧ Off H w q) : TeamAt w' lo b s r T := by
  obtain ⟨c1, c2, h0⟩ := h.hd
  obtain ⟨cur, hr, ht⟩ := h.rw
  have hb := ho b (.inl rfl)
  have hs := ho s (.inr (.inl rfl))
  have hrr := ho r (.inr (.inr rfl))
  refine ⟨⟨c1, c2, hk.rest b _ h0 hb.1 fun _ => hb.2⟩, ⟨Nat.lt_of_lt_of_le h.sd.1 hk.size, fun k hkk => ?_⟩, ⟨cur, hk.rest r _ hr hrr.1 fun _ => hrr.2, ht⟩, h.lb, h.ls, h.lr, h.br, h.sr, h.n1, h.n2, h.nd⟩
  obtain ⟨o, hso⟩ : ∃ o, w.heap[s]? = some o := ⟨_, Array.getElem?_eq_getElem h.sd.1⟩
  rw [World.cell?_of_block (w := w) (a := ⟨s, k, none⟩) ((hk.rest s o hso hs.1 (fun _ => hs.2)).trans hso.symm)]
  exact h.sd.2 k hkk
theorem HdAt.kept {E H : Nat → Prop} {w w' : World} {q : Nat} {v : Value} (h : HdAt w q v) (hk : KpP E H w w') (ho : ¬E q ∧ Off H w q) : HdAt w' q v := by
  obtain ⟨t, h⟩ := h
  exact ⟨t, hk.rest q _ h ho.1 fun _ => ho.2⟩
def foeB (T : TeamL) (k : Int) (n : Nat) : Bool := ((n : Int) != k) && !lostT T n
def foesT (T : TeamL) (k : Int) : List Int := upTo (foeB T k) T.sh.length
def encF (x : Int) : Array Value := #[.int .i64 x]
set_option maxRecDepth 100000 in
set_option maxHeartbeats 4000000 in
theorem foes1_in (n l c1 c2 lo b s r : Nat) (T : TeamL) (y : Int) (E H : Nat → Prop) (W : World) (h1 : HdAt W c1 (.pointer (some ⟨b, 0, none⟩))) (h2 : HdAt W c2 (.int .i64 y)) (h : TeamAt W lo b s r T) (hoff : ∀ q, q = b ∨ q = s ∨ q = r ∨ q = c1 ∨ q = c2 → ¬E q ∧ Off H W q)
    (J Jx : List Int → World → Prop)
    (hY : ∀ pre (x : Int) W1, J pre W1 → pre ++ [x] <+: foesT T y → YieldAt Fence.wide (n - 1) Tryz.prog l (encF x) W1 fun e W' =>
      (e = .returned (.bool true) ∧ J (pre ++ [x]) W' ∧ KpP E H W1 W') ∨ (e = .returned (.bool false) ∧ Jx (pre ++ [x]) W' ∧ KpP E H W1 W'))
    (h0 : J [] W) (hn : 1 ≤ n) :
    CallsIn Fence.wide n Tryz.prog 173 #[.func (.yield l) #[] #[], .pointer (some ⟨c1, 0, none⟩), .pointer (some ⟨c2, 0, none⟩)] W fun e W' => (∃ v, e = .returned v) ∧ (J (foesT T y) W' ∨ ∃ pre, pre <+: foesT T y ∧ Jx pre W') := by
  have HL := Lib.hid (tlen_any h)
  have hN4 := h.n2
  unfold foesT at hY ⊢
  obtain ⟨N, hN⟩ : ∃ N, T.sh.length = N := ⟨_, rfl⟩
  rw [hN] at HL hY hN4 ⊢
  have HY := Lib.hid hY
  have H0 := Lib.hid h0
  have HT := Lib.hid h
  have HO := Lib.hid hoff
  have HC1 := Lib.hid h1
  have HC2 := Lib.hid h2
  have k1 := h1.cell
  clear hY h0 h hoff h1 h2
  refine callsIn_of_wp Tryz.func173 rfl trivial ?_ rfl
  simp only [Tryz.ntmps173, List.size_toArray, List.length_cons, List.length_nil, Nat.reduceAdd, Nat.reduceSub, Array.replicate_succ, Array.replicate_zero, List.push_toArray, List.append_toArray, List.nil_append, List.cons_append]
  gi_wp2_with fail
  refine ⟨trivial, (callsIn_wide.2 HL.out).mono ?_⟩
  rintro e w1 ⟨rfl, rfl⟩
  clear k1
  gi_wp2
  gi_loopw [7] (fun i wr => ∃ k : Nat, k ≤ N ∧ i = .int .i64 (k : Int) ∧ Hid (J (upTo (foeB T y) k) wr) ∧ Hid (TeamAt wr lo b s r T ∧ HdAt wr c1 (.pointer (some ⟨b, 0, none⟩)) ∧ HdAt wr c2 (.int .i64 y) ∧ ∀ q, q = b ∨ q = s ∨ q = r ∨ q = c1 ∨ q = c2 → ¬E q ∧ Off H wr q)) (fun i _ => N - (intOf i).toNat)
  case atStart => exact ⟨0, Nat.zero_le _, rfl, H0, Lib.hid ⟨HT.out, HC1.out, HC2.out, HO.out⟩⟩
  case round =>
    obtain ⟨k, hk, rfl, HJR, HS⟩ := hrel
    by_cases hlt : k < N
    · have d0 : decide ((k : Int) < N) = true := decide_eq_true (by omega)
      have k1 := HS.out.2.1.cell
      have k2 := HS.out.2.2.1.cell
      have HLO := Lib.hid (tlost_any HS.out.1 k)
      by_cases hky : (k : Int) = y
      · have HNO := Lib.hid (upTo_no (p := foeB T y) (k := k) (by simp [foeB, hky]))
        have e0 : ((k : Int) != y) = false := by rw [hky]; exact bne_self_eq_false _
        clear hky HLO
        gi_wp2
        refine ⟨trivial, ?_⟩
        gi_wp2
        refine ⟨(fun _ h => by cases h), ?_⟩
        gi_wp2
        go_roundw
        case rel => exact ⟨k + 1, by omega, by go_num, by rw [HNO.out]; exact HJR, HS⟩
        case measure => simp [intOf]; omega
      · have e0 : ((k : Int) != y) = true := bne_iff_ne.2 hky
        cases hlo : lostT T k with
        | true =>
          have HNO := Lib.hid (upTo_no (p := foeB T y) (k := k) (by simp [foeB, hlo]))
          rw [hlo] at HLO
          clear hky hlo
          gi_wp2_with fail
          refine ⟨trivial, (callsIn_wide.2 HLO.out).mono ?_⟩
          rintro e w2 ⟨rfl, rfl⟩
          gi_wp2
          refine ⟨(fun _ h => by cases h), ?_⟩
          gi_wp2
          go_roundw
          case rel => exact ⟨k + 1, by omega, by go_num, by rw [HNO.out]; exact HJR, HS⟩
          case measure => simp [intOf]; omega
        | false =>
          have HYES := Lib.hid (upTo_yes (p := foeB T y) (k := k) (by simp [foeB, hlo, hky]))
          rw [hlo] at HLO
          clear hky hlo
          obtain ⟨fn, tmps, assign, body, hy, hR⟩ := HY.out (upTo (foeB T y) k) k wr HJR.out (by rw [← HYES.out]; exact upTo_pre _ _ _ (by omega))
          unfold encF at hy
          gi_wp2_with fail
          refine ⟨trivial, (callsIn_wide.2 HLO.out).mono ?_⟩
          rintro e w2 ⟨rfl, rfl⟩
          gi_wp2
          refine hR.mono ?_
          rintro e w3 (⟨rfl, hJ3, hk3⟩ | ⟨rfl, hJ3, hk3⟩)
          · have HJ3 := Lib.hid hJ3
            have HS3 : Hid (TeamAt w3 lo b s r T ∧ HdAt w3 c1 (.pointer (some ⟨b, 0, none⟩)) ∧ HdAt w3 c2 (.int .i64 y) ∧ ∀ q, q = b ∨ q = s ∨ q = r ∨ q = c1 ∨ q = c2 → ¬E q ∧ Off H w3 q) := Lib.hid (by
              obtain ⟨s1, s2, s3, s4⟩ := HS.out
              have hb := s1.lt
              have hr := s1.ltr
              have hs := s1.sd.1
              have hc1 := s2.lt
              have hc2 := s3.lt
              exact ⟨s1.kept hk3 (fun q hq => s4 q (by rcases hq with h | h | h <;> simp [h])), s2.kept hk3 (s4 c1 (by simp)), s3.kept hk3 (s4 c2 (by simp)), fun q hq => ⟨(s4 q hq).1, hk3.off (s4 q hq).2 (by rcases hq with h | h | h | h | h <;> subst h <;> assumption)⟩⟩)
            clear hJ3 hk3 hy hR k1 k2
            gi_wp2
            go_roundw
            case rel => exact ⟨k + 1, by omega, by go_num, Lib.hid (by rw [HYES.out]; exact HJ3.out), HS3⟩
            case measure => simp [intOf]; omega
          · have HJ3 := Lib.hid hJ3
            clear hJ3 hk3 hy hR k1 k2
            gi_wp2
            refine bodyPost_ret (results_none rfl _ _ _) rfl ?_
            exact ⟨⟨_, rfl⟩, .inr ⟨_, by rw [← HYES.out]; exact upTo_pre _ _ _ (by omega), HJ3.out⟩⟩
    · obtain rfl : k = N := by omega
      gi_wp2
      go_end0
      exact ⟨⟨_, rfl⟩, .inl HJR.out⟩
theorem foes_seq (n : Nat) (hn : 1 ≤ n) {w : World} {c1 c2 lo b s r : Nat} {T : TeamL} {y : Int} (E H : Nat → Prop) (h1 : HdAt w c1 (.pointer (some ⟨b, 0, none⟩))) (h2 : HdAt w c2 (.int .i64 y)) (h : TeamAt w lo b s r T) (hoff : ∀ q, q = b ∨ q = s ∨ q = r ∨ q = c1 ∨ q = c2 → ¬E q ∧ Off H w q) :
    SeqW Fence.wide n Tryz.prog 173 #[.pointer (some ⟨c1, 0, none⟩), .pointer (some ⟨c2, 0, none⟩)] encF (fun l => KpP (fun k => E k ∨ k = l) H) (fun pre x => pre ++ [x] <+: foesT T y) (fun xs _ => xs = foesT T y) (fun pre _ => pre <+: foesT T y) w := by
  intro l J Jx W hW hl1 hl2 hJ _ hY h0
  have hb := h.lt
  have hr := h.ltr
  have hs := h.sd.1
  have hc1 := h1.lt
  have hc2 := h2.lt
  refine (foes1_in n l c1 c2 lo b s r T y (fun k => E k ∨ k = l) H W (h1.later hW) (h2.later hW) (h.later hW) (fun q hq => ⟨fun e => ?_, (hoff q hq).2.later hW⟩) J Jx ?_ h0 hn).mono ?_
  · rcases e with e | e
    · exact (hoff q hq).1 e
    · subst e
      rcases hq with h | h | h | h | h <;> omega
  · intro pre x W1 hj ht
    obtain ⟨fn, tmps, assign, body, hy, hR⟩ := hY pre x W1 hj ht
    exact ⟨fn, tmps, assign, body, hy, roundIn_wide hR⟩
  · rintro e W' ⟨h1, h2 | h2⟩
    · exact ⟨h1, .inl ⟨_, rfl, h2⟩⟩
    · exact ⟨h1, .inr h2⟩
def RetFoes (w : World) (u v : Value) (e : Ending) (w' : World) : Prop := e = .returned (.func (.func 173) #[] #[.pointer (some ⟨w.heap.size, 0, none⟩), .pointer (some ⟨w.heap.size + 1, 0, none⟩)]) ∧ HdAt w' w.heap.size u ∧ HdAt w' (w.heap.size + 1) v ∧ Below w.heap.size w w' ∧ w'.heap.size = w.heap.size + 2
theorem foes_any (p : Option Addr) (y : Int) (w : World) : Calls Tryz.prog 165 #[.pointer p, .int .i64 y] w (RetFoes w (.pointer p) (.int .i64 y)) := by
  have hmf := @mk_func
  go_enter Tryz.func165, Tryz.ntmps165
  go_wp2
  go_ret
  refine ⟨rfl, (HdAt.new w _ _).later (below_new _ _), ?_, below_alloc2 (below_new w _) _, by simp⟩
  have h := HdAt.new (w.alloc (.cells #[.pointer p] 33)) (.int .i64 y) 3
  rwa [World.size_alloc] at h
end Go.Proofs.YtdlkdilgjmmlaaaGreat
namespace Go.Proofs.YtdlkdilgjmmlaaaGreat
open Go.RowKit
attribute [local go_sem] Oper.semAt_some

theorem kpP_setE {W : World} {l : Nat} (u : Value) : KpP (fun k => k = l) (fun _ => False) W (W.setCell ⟨l, 0, none⟩ u) :=
  ⟨by simp, fun k o ho hE _ => (heap_setCell_other W ⟨l, 0, none⟩ k u hE).trans ho, fun b v hb _ => hb.elim⟩
def MarksO (W : World) (Ds : List Nat) : Prop := ∀ D ∈ Ds, W.heap[D]? = some (.deferred (some []))
theorem MarksO.lt {W : World} {Ds : List Nat} (h : MarksO W Ds) {D : Nat} (hD : D ∈ Ds) : D < W.heap.size := (Array.getElem?_eq_some_iff.1 (h D hD)).1
theorem MarksO.others {W W' : World} {Ds : List Nat} (h : MarksO W Ds) (hk : KeepsOthers W W') : MarksO W' Ds := fun D hD => hk.same D _ (h D hD) rfl
theorem leaves_marksO {F : Fence} {n : Nat} {P : Program} {fn : Func} {tmps : Array Value} {R : Ending → World → Prop} {B : Nat} : ∀ (Ds : List Nat) (W : World), Ds.Nodup → (∀ D ∈ Ds, B ≤ D) → MarksO W Ds →
    (∀ W', Below B W W' → (∀ (j : Nat) (o : Obj), W.heap[j]? = some o → o.isCells = true → W'.heap[j]? = some o) → LeavesIn F n P fn tmps R [] .returning W') →
    LeavesInM F n P fn tmps R (Ds.map fun D => { target := .collected D, args := #[] }) .returning W
  | [], W, _, _, _, h => h W (Below.refl _ _) (fun _ _ h _ => h)
  | D :: Ds, W, hn, hB, hm, h => by
    have hD := hm D (by simp)
    have hlt := hm.lt (D := D) (by simp)
    have hBD := hB D (by simp)
    rw [List.nodup_cons] at hn
    refine ⟨by simp, .inl ⟨D, W.putObj D (.deferred none), rfl, run_takeDeferred hD, ?_⟩⟩
    refine leaves_marksO Ds _ hn.2 (fun D' h' => hB D' (by simp [h'])) (fun D' h' => (World.putObj_heap_other (fun e => hn.1 (by rw [← e]; exact h'))).trans (hm D' (by simp [h']))) (fun W' hb hc => ?_)
    refine h W' ?_ ?_
    · have h1 : Below B W (W.putObj D (.deferred none)) := (Below.refl B W).grown (grownBy_putObj' W D (.deferred none)) (by omega) (fun k e => by cases e; exact hBD)
      exact h1.trans hb
    · intro j o hj ho
      refine hc j o ?_ ho
      refine (World.putObj_heap_other ?_).trans hj
      rintro rfl
      rw [hD] at hj
      cases hj
      cases ho

end Go.Proofs.YtdlkdilgjmmlaaaGreat

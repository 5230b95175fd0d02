/- New of teams, or none (layer 9). -/
import Derived.Test.YtciieodmihgpgaaTh
namespace Go.Proofs.Ytciieodmihgpgaa
open Go.RowKit

def shOf (n : Int) : ShareL := ⟨n, 0, false⟩
def newT (S L : List Int) : TeamL := ⟨S, L.map shOf⟩
def RetNew (w : World) (z : Bool) (T : TeamL) (e : Ending) (w' : World) : Prop :=
  (z = true → ∃ b s r, e = .returned (.tuple #[.pointer (some ⟨b, 0, none⟩), .int .i64 0]) ∧ TeamAt w' w.heap.size b s r T) ∧ (z = false → e = .returned (.tuple #[.pointer none, .int .i64 20])) ∧ Below w.heap.size w w'
/-- New's state: the box b with the row s of the seats' teams, and what is shared so far. -/
structure NewAt (w W0 wr : World) (b s c1 : Nat) (S : List Int) (v : Value) (l : List ShareL) : Prop where
  hd : wr.heap[b]? = some (.cells #[.slice (some ⟨s, 0, none⟩) S.length c1, v] 49 (0, 0))
  row : RowIn wr 3 s (intsV S)
  own : wr.ownsRow W0.heap.size 60 3 v l.length (sharesV l)
  below : Below w.heap.size w wr
  size : W0.heap.size ≤ wr.heap.size
  lb : w.heap.size ≤ b ∧ b < W0.heap.size
  ls : w.heap.size ≤ s ∧ s < W0.heap.size
  ne : s ≠ b
theorem own3_later {w w' : World} {base sz : Nat} {t : TypeId} {v : Value} {n : Nat} {xs : List Value} (h : w.ownsRow base t sz v n xs) (hb : ∀ k, v.ownBlock = some k → w'.heap[k]? = w.heap[k]?) : w'.ownsRow base t sz v n xs := by
  refine ⟨h.1, ?_⟩
  rcases h.2 with h2 | ⟨g, cap, cur, rfl, hbb, hg, r⟩
  · exact .inl h2
  · exact .inr ⟨g, cap, cur, rfl, hbb, (hb g rfl).trans hg, r⟩
theorem NewAt.next {w W0 wr w2 : World} {b s c1 g cap n : Nat} {S : List Int} {v : Value} {l : List ShareL} {x : ShareL} (h : NewAt w W0 wr b s c1 S v l) (hn : l.length = n)
    (hown : w2.ownsRow W0.heap.size 60 3 (.slice (some ⟨g, 0, none⟩) (n + 1) cap) (n + 1) (sharesV l ++ scells x))
    (hg : (wr.alloc (.cells #[.int .i64 x.life, .int .i64 x.poison, .bool x.lost] 60)).grownBy w2 v.ownBlock) :
    NewAt w W0 (w2.setCell ⟨b, 1, none⟩ (.slice (some ⟨g, 0, none⟩) (n + 1) cap)) b s c1 S (.slice (some ⟨g, 0, none⟩) (n + 1) cap) (l ++ [x]) ∧ w2.frozen? ⟨b, 1, none⟩ = false ∧ (∃ u, w2.cell? ⟨b, 1, none⟩ = some u) := by
  subst hn
  have hw := below_new wr (.cells #[.int .i64 x.life, .int .i64 x.poison, .bool x.lost] 60)
  have hlb : b < wr.heap.size := (Array.getElem?_eq_some_iff.1 h.hd).1
  have hls := h.row.lt
  have hs1 := hw.size
  have far : ∀ k, k < W0.heap.size → some k ≠ v.ownBlock := fun k hk e => by
    have := (h.own.lt k e.symm).1
    omega
  have hd2 : w2.heap[b]? = some (.cells #[.slice (some ⟨s, 0, none⟩) S.length c1, v] 49 (0, 0)) := (hg.block b (by omega) (far b h.lb.2)).trans ((hw.block b hlb).trans h.hd)
  have hgb : W0.heap.size ≤ g := (hown.lt g rfl).1
  have hset := grown_set w2 b 1 (.slice (some ⟨g, 0, none⟩) (l.length + 1) cap)
  refine ⟨⟨?_, ?_, ?_, ?_, ?_, h.lb, h.ls, h.ne⟩, frozen_of_row w2 b 1 _ _ hd2, ⟨v, by rw [cell_of_row w2 b 1 _ _ _ hd2]; rfl⟩⟩
  · rw [heap_setCell_same w2 b 1 _ _ _ hd2]; rfl
  · obtain ⟨cur, h1, h2⟩ := h.row
    have h3 : w2.heap[s]? = some (.cells cur 3 (0, 0)) := (hg.block s (by omega) (far s h.ls.2)).trans ((hw.block s hls).trans h1)
    exact ⟨cur, (hset.block s (Array.getElem?_eq_some_iff.1 h3).1 (by simpa using h.ne)).trans h3, h2⟩
  · rw [sharesV_append, List.length_append]
    have := own3_later (w' := w2.setCell ⟨b, 1, none⟩ (.slice (some ⟨g, 0, none⟩) (l.length + 1) cap)) hown (fun k hk => hset.block k (hown.lt k hk).2 (by
      have hk1 : g = k := Option.some.inj hk
      have := h.lb.2
      simp; omega))
    simpa [sharesV] using this
  · have h1 : Below w.heap.size w w2 := grown_of (below_alloc2 h.below _) hg (fun q hq => by
      have := (h.own.lt q hq).1
      have := h.lb
      omega)
    exact grown_to h1 hset h.lb.1
  · have := hg.size
    have := h.size
    have := hset.size
    omega
theorem NewAt.start {w w1 : World} {s c1 : Nat} {S : List Int} (hb : Below w.heap.size w w1) (hs : w.heap.size ≤ s) (hr : RowIn w1 3 s (intsV S)) :
    NewAt w (w1.alloc (.cells #[.slice (some ⟨s, 0, none⟩) S.length c1, .slice none 0 0] 49)) (w1.alloc (.cells #[.slice (some ⟨s, 0, none⟩) S.length c1, .slice none 0 0] 49)) w1.heap.size s c1 S (.slice none 0 0) [] := by
  have hl := hr.lt
  refine ⟨heap_alloc_new w1 _, hr.later (below_new w1 _), World.ownsRow_nil _ _ _ _, below_alloc2 hb _, Nat.le_refl _, ⟨hb.size, ?_⟩, ⟨hs, ?_⟩, ?_⟩
  · simp
  · simp; omega
  · omega
theorem NewAt.team {w W0 wr : World} {b s c1 : Nat} {S : List Int} {v : Value} {l : List ShareL} (h : NewAt w W0 wr b s c1 S v l) (h1 : 1 ≤ S.length ∧ S.length ≤ 4) (h2 : 0 < l.length ∧ l.length ≤ 4) (h3 : ∀ x ∈ S, 0 ≤ x ∧ x < l.length) : ∃ r, TeamAt wr w.heap.size b s r ⟨S, l⟩ := by
  obtain ⟨g, cap, rfl, hg, hr⟩ := own_rowIn h.own h2.1
  have := h.lb
  have := h.ls
  exact ⟨g, team_parts h.hd h.row hr h.lb.1 h.ls.1 (by omega) (by omega) (by omega) h1 h2.2 h3⟩
theorem fit_len {S : List Int} {n : Nat} (h : FitP S n) (hS : S.length ≤ 4) : n ≤ 4 := by
  refine Classical.byContradiction fun hn => ?_
  have m0 := h.2 0 (by omega)
  have m1 := h.2 1 (by omega)
  have m2 := h.2 2 (by omega)
  have m3 := h.2 3 (by omega)
  have m4 := h.2 4 (by omega)
  clear h
  rcases S with _ | ⟨a, _ | ⟨b, _ | ⟨c, _ | ⟨d, _ | ⟨e, t⟩⟩⟩⟩⟩ <;> simp at m0 m1 m2 m3 m4 hS <;> omega
set_option maxRecDepth 100000 in
set_option maxHeartbeats 8000000 in
theorem new9_any {w : World} {v u : Value} {S L : List Int} {z : Bool} (hv : IntsAt w v S) (hu : IntsAt w u L) (hS : S.length ≤ 9223372036854775807) (hL : L.length ≤ 1000) (hz : z = true ↔ MayP S L) :
    Calls Try.prog 19 #[v, u] w (RetNew w z (newT S L)) := by
  obtain ⟨xa, xc, rfl⟩ := hv.form
  obtain ⟨ya, yc, rfl⟩ := hu.form
  have HV := Lib.hid hv
  have HU := Lib.hid hu
  have HZ := Lib.hid hz
  clear hv hu hz
  by_cases h4 : 1 ≤ S.length ∧ S.length ≤ 4
  case neg =>
    have HF := Lib.hid (show z = false from by
      cases z with
      | false => rfl
      | true => exact absurd (HZ.out.1 rfl).1 h4)
    by_cases h0 : S.length < 1
    · have e0 : decide ((S.length : Int) < 1) = true := decide_eq_true (by omega)
      clear h4 h0
      go_enter Try.func19, Try.ntmps19
      go_wp2
      go_ret2
      exact ⟨fun e => (by rw [HF.out] at e; cases e), fun _ => rfl, Below.refl _ _⟩
    · have e0 : decide ((S.length : Int) < 1) = false := decide_eq_false (by omega)
      have e1 : decide ((4 : Int) < S.length) = true := decide_eq_true (by omega)
      clear h4 h0
      go_enter Try.func19, Try.ntmps19
      go_wp2
      go_ret2
      exact ⟨fun e => (by rw [HF.out] at e; cases e), fun _ => rfl, Below.refl _ _⟩
  have e0 : decide ((S.length : Int) < 1) = false := decide_eq_false (by omega)
  have e1 : decide ((4 : Int) < S.length) = false := decide_eq_false (by omega)
  obtain ⟨zf, hzf⟩ : ∃ zf : Bool, zf = true ↔ FitP S L.length := by
    by_cases hf : FitP S L.length
    · exact ⟨true, by simp [hf]⟩
    · exact ⟨false, by simp [hf]⟩
  have HFI := Lib.hid (fits_any HV.out (by omega) (by omega) hzf)
  cases zf with
  | false =>
    have HF := Lib.hid (show z = false from by
      cases z with
      | false => rfl
      | true => exact absurd (hzf.2 (HZ.out.1 rfl).2.1) (by decide))
    clear hzf
    go_enter Try.func19, Try.ntmps19
    go_wp2_with fail
    refine HFI.out.mono ?_
    rintro e w1 ⟨rfl, rfl⟩
    go_wp2
    go_ret2
    exact ⟨fun e => (by rw [HF.out] at e; cases e), fun _ => rfl, Below.refl _ _⟩
  | true =>
    have HFP := Lib.hid (hzf.1 rfl)
    have HLL := Lib.hid (fit_len HFP.out h4.2)
    have HCL : Hid (Calls Try.prog 28 #[.slice xa S.length xc] w (RetRow w 3 S.length (intsV S))) := Lib.hid (by
      obtain ⟨b0, off, rfl, _, _⟩ := HV.out.at 0 (by omega)
      exact clone_ints (fun j hj => by
        obtain ⟨b1, off1, e, _, hc⟩ := HV.out.at j hj
        injection e with e
        injection e with e1 e2
        subst e1 e2
        exact hc) (by omega) (by omega))
    clear hzf
    go_enter Try.func19, Try.ntmps19
    go_wp2_with fail
    refine HFI.out.mono ?_
    rintro e w1 ⟨rfl, rfl⟩
    go_wp2_with fail
    refine HCL.out.mono ?_
    rintro e w2 ⟨g, cap, rfl, hg, hr, hb2⟩
    have HNA := Lib.hid (NewAt.start (c1 := cap) hb2 hg hr)
    have HUU := Lib.hid (HU.out.later (below_alloc2 hb2 (.cells #[.slice (some ⟨g, 0, none⟩) S.length cap, .slice none 0 0] 49)))
    clear hb2 hg hr
    obtain ⟨i0, hi0, hz0, hz1, hz2⟩ := info_parts info_share
    go_wp2
    obtain ⟨W0, hW0⟩ : ∃ W0, w2.alloc (.cells #[.slice (some ⟨g, 0, none⟩) S.length cap, .slice none 0 0] 49) = W0 := ⟨_, rfl⟩
    obtain ⟨b, hbb⟩ : ∃ b, w2.heap.size = b := ⟨_, rfl⟩
    rw [hW0, hbb] at HNA
    rw [hW0] at HUU
    simp only [hW0, hbb]
    clear hW0 hbb
    go_loopw [30] (fun i wr => ∃ (k : Nat) (v : Value), k ≤ L.length ∧ i = .int .i64 k ∧ Hid (NewAt w1 W0 wr b g cap S v ((L.take k).map shOf)) ∧ Hid (∀ j (_ : j < k) (h : j < L.length), 1 ≤ L[j] ∧ L[j] ≤ 999)) (fun i _ => L.length - (intOf i).toNat)
    case atStart => exact ⟨0, _, Nat.zero_le _, rfl, HNA, Lib.hid (fun j hj => by omega)⟩
    case round =>
      obtain ⟨k, v, hk, rfl, HN, HK⟩ := hrel
      by_cases hlt : k < L.length
      · obtain ⟨b1, o1, rfl, hb1, x0⟩ := HU.out.at k hlt
        have x1 := HN.out.below.cell (p := ⟨b1, o1 + k, none⟩) hb1
        rw [x0] at x1
        obtain ⟨x, hx⟩ : ∃ x, L[k] = x := ⟨_, rfl⟩
        rw [hx] at x1
        clear x0
        have d0 : (0 : Int) ≤ k := by omega
        have d1 : (k : Int) < L.length := by omega
        by_cases h1 : 1 ≤ x ∧ x ≤ 999
        · have HN1 : Hid (∀ j (_ : j < k + 1) (h : j < L.length), 1 ≤ L[j] ∧ L[j] ≤ 999) := Lib.hid fun j hj h => by
            by_cases hjk : j < k
            · exact HK.out j hjk h
            · obtain rfl : j = k := by omega
              rw [hx]; exact h1
          have HT : Hid ((L.take (k + 1)).map shOf = (L.take k).map shOf ++ [⟨x, 0, false⟩]) := Lib.hid (by rw [take_last L k hlt, hx]; simp [shOf])
          have e1 : decide (x < 1) = false := decide_eq_false (by omega)
          have e2 : decide (999 < x) = false := decide_eq_false (by omega)
          have c1 : wr.cell? ⟨b, 1, none⟩ = some v := by rw [cell_of_row wr b 1 _ _ _ HN.out.hd]; rfl
          have hnl : ((L.take k).map shOf).length = k := by simp; omega
          obtain ⟨M, hM⟩ : ∃ M, (L.take k).map shOf = M := ⟨_, rfl⟩
          rw [hM] at HN HT hnl
          have hkL := HLL.out
          clear hx h1 hM
          go_wp2_with (at_builtin; refine wpList_append_lies _ rfl _ _ 47 rfl W0.heap.size 60 i0 _ 3 24 Try.underlying47 hi0 hz0 hz1 hz2 rfl (by decide) v M.length (sharesV M) rfl (own3_later HN.out.own fun q hq => (below_new wr _).block q (HN.out.own.lt q hq).2) ⟨wr.heap.size, 0, none⟩ 1 1 (scells ⟨x, 0, false⟩) rfl rfl (World.news_of_block (heap_alloc_new wr _)) (scells_one _) (by decide) (by unfold maxLen; omega) (by omega) (by have := HN.out.size; simp; omega) _ rfl ?f)
          case f =>
            intro g' cap' w6 hown hgrow hat hlt6
            obtain ⟨hn1, hf1, u1, hu1⟩ := HN.out.next (x := ⟨x, 0, false⟩) hnl hown hgrow
            have HN2 := Lib.hid hn1
            clear hown hgrow hat hlt6 hn1
            go_wp2
            go_roundw
            case rel => exact ⟨k + 1, _, by omega, by go_num, by rw [HT.out]; exact HN2, HN1⟩
            case measure => simp [intOf]; omega
        · have HF := Lib.hid (show z = false from by
            cases z with
            | false => rfl
            | true => exact absurd (by have := (HZ.out.1 rfl).2.2 k hlt; rwa [hx] at this) h1)
          have HBB := Lib.hid HN.out.below
          by_cases h2 : x < 1
          · have e1 : decide (x < 1) = true := decide_eq_true h2
            clear hx h1
            go_wp2
            go_ret2
            exact ⟨fun e => (by rw [HF.out] at e; cases e), fun _ => rfl, HBB.out⟩
          · have e1 : decide (x < 1) = false := decide_eq_false h2
            have e2 : decide (999 < x) = true := decide_eq_true (by omega)
            clear hx h1
            go_wp2
            go_ret2
            exact ⟨fun e => (by rw [HF.out] at e; cases e), fun _ => rfl, HBB.out⟩
      · obtain rfl : k = L.length := by omega
        have HT := Lib.hid (show z = true from HZ.out.2 ⟨h4, HFP.out, fun j h => HK.out j h h⟩)
        go_wp2
        go_ret2
        refine ⟨fun _ => ?_, fun e => (by rw [HT.out] at e; cases e), HN.out.below⟩
        have hn := HN.out
        rw [List.take_length] at hn
        have h0 : 0 < L.length := by
          have := HFP.out.1 0 (by omega)
          omega
        obtain ⟨r, hr⟩ := hn.team h4 (by simp; exact ⟨h0, HLL.out⟩) (fun x hx => by
          obtain ⟨j, hj, rfl⟩ := List.getElem_of_mem hx
          simpa using HFP.out.1 j hj)
        exact ⟨b, g, r, rfl, hr⟩
end Go.Proofs.Ytciieodmihgpgaa

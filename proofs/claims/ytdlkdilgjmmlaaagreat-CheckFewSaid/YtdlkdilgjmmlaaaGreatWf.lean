/- Would a round of checks do nothing (layer 14: Stable). -/
import Derived.Test.YtdlkdilgjmmlaaaGreatWe
namespace Go.Proofs.YtdlkdilgjmmlaaaGreat
open Go.RowKit Go.Maps
attribute [local go_sem] Oper.semAt_some

theorem stable_false {B : BoardL} {n : Nat} (hn : n < B.T.sh.length) (h : doomT B n = true ∨ parchT B n = true) : stableT B = false := by
  cases he : stableT B with
  | false => rfl
  | true =>
    unfold stableT at he
    obtain ⟨_, h2⟩ := Bool.and_eq_true_iff.1 he
    have h3 := List.all_eq_true.1 h2 n (List.mem_range.2 hn)
    rcases h with h | h <;> rw [h] at h3 <;> simp at h3
theorem stable_dies {B : BoardL} {x : Int} (h : x ∈ diesL B.S) : stableT B = false := by
  unfold stableT
  cases he : diesL B.S with
  | nil => rw [he] at h; cases h
  | cons y l => rfl
theorem stable_true {B : BoardL} (h0 : diesL B.S = []) (h : ∀ m : Nat, m < B.T.sh.length → doomT B m = false ∧ parchT B m = false) : stableT B = true := by
  unfold stableT
  rw [h0, Bool.and_eq_true]
  refine ⟨rfl, List.all_eq_true.2 fun m hm => ?_⟩
  obtain ⟨h1, h2⟩ := h m (List.mem_range.1 hm)
  rw [h1, h2]
  rfl
set_option maxRecDepth 100000 in
theorem stable_nil (w : World) : Calls Tryz.prog 20 #[.pointer none] w (RetV w (.bool false)) := by
  refine (callsIn_wide (n := 9)).1 ?_
  refine callsIn_of_wp_marks Tryz.func20 rfl trivial ?_ rfl
  simp only [Tryz.ntmps20, List.size_toArray, List.length_cons, List.length_nil, Nat.reduceAdd, Nat.reduceSub, Array.replicate_succ, Array.replicate_zero, List.push_toArray, List.append_toArray, List.nil_append, List.cons_append]
  refine wpIn_wide.2 ?_
  have HP := Lib.hid (show HdAt (w.alloc (.cells #[.bool false] 4)) w.heap.size (.bool false) ∧ Below w.heap.size w (w.alloc (.cells #[.bool false] 4)) from ⟨HdAt.new w _ _, below_new w _⟩)
  go_wp2
  refine leaves_marksO (B := w.heap.size) [] _ (by simp) (fun D' hD' => by cases hD') (fun D' hD' => by cases hD') (fun W9 hb9 hc9 => ?_)
  exact ⟨_, results_c2 rfl rfl (by obtain ⟨t, h⟩ := HP.out.1; exact ⟨t, hc9 _ _ h rfl⟩), rfl, HP.out.2.trans hb9⟩
set_option maxRecDepth 100000 in
set_option maxHeartbeats 4000000 in
theorem stable_any {w : World} {lo : Nat} {g : GhostB} {B : BoardL} (h : BoardAt w lo g B) : Calls Tryz.prog 20 #[.pointer (some ⟨g.q, 0, none⟩)] w (RetV w (.bool (stableT B))) := by
  have HH := Lib.hid h
  have ht4 := h.tm.n2
  obtain ⟨n, hn⟩ : ∃ n, B.T.sh.length = n := ⟨_, rfl⟩
  have HN := Lib.hid hn
  rw [hn] at ht4
  obtain ⟨z, hz⟩ : ∃ z, stableT B = z := ⟨_, rfl⟩
  have HZ := Lib.hid hz
  obtain ⟨q, hq⟩ : ∃ q, g.q = q := ⟨_, rfl⟩
  have HQ := Lib.hid hq
  rw [hq, hz]
  clear h hn hz hq
  refine (callsIn_wide (n := 9)).1 ?_
  refine callsIn_of_wp_marks Tryz.func20 rfl trivial ?_ rfl
  simp only [Tryz.ntmps20, List.size_toArray, List.length_cons, List.length_nil, Nat.reduceAdd, Nat.reduceSub, Array.replicate_succ, Array.replicate_zero, List.push_toArray, List.append_toArray, List.nil_append, List.cons_append]
  refine wpIn_wide.2 ?_
  have HB1 := Lib.hid (below_new w (.cells #[.bool false] 4))
  have HX1 := Lib.hid (HdAt.new w (.bool false) 4)
  go_wp2_with fail
  obtain ⟨W1, hW1⟩ : ∃ W1, w.alloc (.cells #[.bool false] 4) = W1 := ⟨_, rfl⟩
  have HSZ := Lib.hid (show W1.heap.size = w.heap.size + 1 by rw [← hW1]; simp)
  obtain ⟨q2, hq2⟩ : ∃ q2, w.heap.size = q2 := ⟨_, rfl⟩
  have HQ2 := Lib.hid hq2
  rw [hW1] at HB1 HX1 ⊢
  rw [hq2] at HX1 ⊢
  clear hW1 hq2
  refine (dying_any (some ⟨q, 0, none⟩) W1).mono ?_
  rintro e w3 ⟨rfl, h1, hb3⟩
  have HB3 := Lib.hid (stepB HB1.out hb3)
  have HX3 := Lib.hid (HX1.out.later hb3)
  have hs3 := hb3.size
  have HZ3 := Lib.hid (show w.heap.size < w3.heap.size by have := HSZ.out; omega)
  have HSEQ := Lib.hid (dying_seq 8 (by omega) (w := w3) (g := g) (B := B) (lo := lo) (c1 := W1.heap.size) (fun k => k = q2) (fun _ => False) (fun k hk => by subst hk; exact HX3.out.lt) (fun k hk e => by subst hk; have := HH.out.ownLt e; have := HQ2.out; omega) (by have := HSZ.out; have := HQ2.out; omega) (fun c hc => hc.elim) (fun _ _ => off_none _ _) (by rw [HQ.out]; exact h1) (HH.out.later HB3.out))
  obtain ⟨c1, hc1⟩ : ∃ c1, W1.heap.size = c1 := ⟨_, rfl⟩
  rw [hc1] at HSEQ
  clear h1 hb3 hs3
  dsimp only
  rw [hc1]
  clear hc1
  go_wp2_with fail
  refine (wpIn_wide (n := 9)).1 ?_
  refine range_world3 rfl (by omega) (I := fun pre W => pre = [] ∧ HdAt W q2 (.bool false) ∧ Below w.heap.size w W) (Ix := fun c pre W => c = .ret ∧ (∃ x, pre = [x]) ∧ HdAt W q2 (.bool false) ∧ Below w.heap.size w W) (gf := 88) (lb := _) rfl trivial (fun _ _ => by kernel_rfl) HSEQ.out KpP.trans (fun W' o o' ho hc _ => KpP.put o' (.inr rfl) ho hc) (fun W W' hb => KpP.of_below _ _ hb) (Below.refl _ _) (fun _ => rfl)
    (fun s A B' row hs hg hr => ⟨hs.1, hs.2.1.grown hg (fun r e => (hr r e).2), ownFrom_below (w₀ := w) (n₀ := w.heap.size) (B := w3.heap.size) (Nat.le_refl _) HB3.out.size s A B' row hs.2.2 hg hr⟩)
    (fun c s A B' row hs hg hr => ⟨hs.1, hs.2.1, hs.2.2.1.grown hg (fun r e => (hr r e).2), ownFrom_below (w₀ := w) (n₀ := w.heap.size) (B := w3.heap.size) (Nat.le_refl _) HB3.out.size s A B' row hs.2.2.2 hg hr⟩)
    (fun s A B' row hs hg hr => hs) (fun s A B' row hs hg hr => hs) ⟨rfl, HX3.out, HB3.out⟩ ?round ?done ?stop
  case round =>
    rintro pre x Wr K hI hT hsz hK
    have HK := Lib.hid hK
    clear hK hT hI
    simp only [encF]
    simp
    gi_wp2
    refine HK.out _ _ (Below.refl _ _) ?_
    clear HK
    intro Wb hsz2 hrest hkw ⟨hp, h2, hb⟩
    subst hp
    have HKW := Lib.hid hkw
    have k2 := h2.cell
    have f2 := h2.frozen
    have HP : Hid (KpP (fun k => k = q2) (fun _ => False) Wb (Wb.setCell ⟨q2, 0, none⟩ (.bool false)) ∧ HdAt (Wb.setCell ⟨q2, 0, none⟩ (.bool false)) q2 (.bool false) ∧ Below w.heap.size w (Wb.setCell ⟨q2, 0, none⟩ (.bool false))) := Lib.hid ⟨kpP_set2 _ rfl, h2.set _, hb.setCell (Nat.le_of_eq HQ2.out) _⟩
    clear hsz2 hrest hkw h2 hb
    gi_wp2
    exact ⟨HP.out.1.from (fun k e => by have := HZ3.out; have := HQ2.out; omega), HKW.out.trans (HP.out.1.mono (fun k e => .inl e)), rfl, ⟨x, rfl⟩, HP.out.2.1, HP.out.2.2⟩
  case done =>
    rintro D xs W' hD hS ⟨hp, h2, hb⟩ hK
    subst hp
    have HDE := Lib.hid hS.symm
    have HDD := Lib.hid (show w.heap.size ≤ D ∧ q2 < D from ⟨by have := HZ3.out; omega, by have := HZ3.out; have := HQ2.out; omega⟩)
    have HB4 := Lib.hid hb
    have HX4 := Lib.hid h2
    have HM4 := Lib.hid hK
    have HLN := Lib.hid (tlen_any (HH.out.later hb).tm)
    have HC4 := Lib.hid (fun (W : World) (hb : Below w.heap.size w W) => (HH.out.later hb).cells.2.1)
    rw [HN.out] at HLN
    rw [HQ.out] at HC4
    obtain ⟨tb, htb⟩ : ∃ tb, g.tb = tb := ⟨_, rfl⟩
    rw [htb] at HLN HC4
    have kt := HC4.out W' hb
    clear hD hS h2 hb hK htb HSEQ
    go_wp2_with fail
    refine HLN.out.mono ?_
    rintro e w5 ⟨rfl, rfl⟩
    go_wp2
    go_loopw [14] (fun i wr => ∃ k : Nat, k ≤ n ∧ i = .int .i64 k ∧ Hid (∀ m : Nat, m < k → doomT B m = false ∧ parchT B m = false) ∧ Hid (Below w.heap.size w wr) ∧ Hid (HdAt wr q2 (.bool false)) ∧ Hid (wr.heap[D]? = some (.deferred (some [])))) (fun i _ => n - (intOf i).toNat)
    case atStart => exact ⟨0, Nat.zero_le _, rfl, Lib.hid (fun m hm => by omega), HB4, HX4, HM4⟩
    case round =>
      obtain ⟨k, hk, rfl, HA, HBr, HXr, HMr⟩ := hrel
      by_cases hlt : k < n
      · have d0 : decide ((k : Int) < n) = true := decide_eq_true (by omega)
        have HDO := Lib.hid (doomed_any (HH.out.later HBr.out) k)
        rw [HQ.out] at HDO
        cases hd : doomT B k with
        | true =>
          have HV := Lib.hid (show stableT B = false from stable_false (by rw [HN.out]; exact hlt) (.inl hd))
          rw [hd] at HDO
          clear hd
          rw [HZ.out] at HV
          go_wp2_with fail
          refine HDO.out.mono ?_
          rintro e w6 ⟨rfl, hb6⟩
          have HB := Lib.hid (HBr.out.trans (hb6.mono HBr.out.size))
          have HX := Lib.hid (HXr.out.later hb6)
          have HM := Lib.hid ((hb6.block _ (Array.getElem?_eq_some_iff.1 HMr.out).1).trans HMr.out)
          have k2 := HX.out.cell
          have f2 := HX.out.frozen
          clear hb6
          have HP : Hid (HdAt (w6.setCell ⟨q2, 0, none⟩ (.bool false)) q2 (.bool false) ∧ Below w.heap.size w (w6.setCell ⟨q2, 0, none⟩ (.bool false)) ∧ (w6.setCell ⟨q2, 0, none⟩ (.bool false)).heap[D]? = some (.deferred (some []))) := Lib.hid ⟨HX.out.set _, HB.out.setCell (Nat.le_of_eq HQ2.out) _, (heap_setCell_other _ ⟨q2, 0, none⟩ D _ (by have := HDD.out; show D ≠ q2; omega)).trans HM.out⟩
          go_wp2
          refine leaves_marksO (B := w.heap.size) [D] _ (by simp) (fun D' hD' => by obtain rfl := List.mem_singleton.1 hD'; exact HDD.out.1) (fun D' hD' => by obtain rfl := List.mem_singleton.1 hD'; exact HP.out.2.2) (fun W9 hb9 hc9 => ?_)
          exact ⟨_, results_c2 rfl rfl (by obtain ⟨t, h⟩ := HP.out.1; exact ⟨t, hc9 _ _ h rfl⟩), by rw [HV.out], HP.out.2.1.trans hb9⟩
        | false =>
          have HPA := Lib.hid (fun (W : World) (hb : Below w.heap.size w W) => parched_any (HH.out.later hb) k)
          rw [HQ.out] at HPA
          rw [hd] at HDO
          cases hp : parchT B k with
          | true =>
            have HV := Lib.hid (show stableT B = false from stable_false (by rw [HN.out]; exact hlt) (.inr hp))
            rw [HZ.out] at HV
            rw [hp] at HPA
            clear hd hp
            go_wp2_with fail
            refine HDO.out.mono ?_
            rintro e w6 ⟨rfl, hb6⟩
            have HB6 := Lib.hid (HBr.out.trans (hb6.mono HBr.out.size))
            have HX6 := Lib.hid (HXr.out.later hb6)
            have HM6 := Lib.hid ((hb6.block _ (Array.getElem?_eq_some_iff.1 HMr.out).1).trans HMr.out)
            clear hb6
            go_wp2_with fail
            refine (HPA.out w6 HB6.out).mono ?_
            rintro e w7 ⟨rfl, hb7⟩
            have HB := Lib.hid (HB6.out.trans (hb7.mono HB6.out.size))
            have HX := Lib.hid (HX6.out.later hb7)
            have HM := Lib.hid ((hb7.block _ (Array.getElem?_eq_some_iff.1 HM6.out).1).trans HM6.out)
            have k2 := HX.out.cell
            have f2 := HX.out.frozen
            clear hb7
            have HP : Hid (HdAt (w7.setCell ⟨q2, 0, none⟩ (.bool false)) q2 (.bool false) ∧ Below w.heap.size w (w7.setCell ⟨q2, 0, none⟩ (.bool false)) ∧ (w7.setCell ⟨q2, 0, none⟩ (.bool false)).heap[D]? = some (.deferred (some []))) := Lib.hid ⟨HX.out.set _, HB.out.setCell (Nat.le_of_eq HQ2.out) _, (heap_setCell_other _ ⟨q2, 0, none⟩ D _ (by have := HDD.out; show D ≠ q2; omega)).trans HM.out⟩
            go_wp2
            refine leaves_marksO (B := w.heap.size) [D] _ (by simp) (fun D' hD' => by obtain rfl := List.mem_singleton.1 hD'; exact HDD.out.1) (fun D' hD' => by obtain rfl := List.mem_singleton.1 hD'; exact HP.out.2.2) (fun W9 hb9 hc9 => ?_)
            exact ⟨_, results_c2 rfl rfl (by obtain ⟨t, h⟩ := HP.out.1; exact ⟨t, hc9 _ _ h rfl⟩), by rw [HV.out], HP.out.2.1.trans hb9⟩
          | false =>
            have HA2 := Lib.hid (show ∀ m : Nat, m < k + 1 → doomT B m = false ∧ parchT B m = false from fun m hm => by
              by_cases e : m = k
              · subst e; exact ⟨hd, hp⟩
              · exact HA.out m (by omega))
            rw [hp] at HPA
            clear hd hp
            go_wp2_with fail
            refine HDO.out.mono ?_
            rintro e w6 ⟨rfl, hb6⟩
            have HB6 := Lib.hid (HBr.out.trans (hb6.mono HBr.out.size))
            have HX6 := Lib.hid (HXr.out.later hb6)
            have HM6 := Lib.hid ((hb6.block _ (Array.getElem?_eq_some_iff.1 HMr.out).1).trans HMr.out)
            clear hb6
            go_wp2_with fail
            refine (HPA.out w6 HB6.out).mono ?_
            rintro e w7 ⟨rfl, hb7⟩
            have HB7 := Lib.hid (HB6.out.trans (hb7.mono HB6.out.size))
            have HX7 := Lib.hid (HX6.out.later hb7)
            have HM7 := Lib.hid ((hb7.block _ (Array.getElem?_eq_some_iff.1 HM6.out).1).trans HM6.out)
            clear hb7
            go_wp2
            go_roundw
            case rel => exact ⟨k + 1, by omega, by go_num, HA2, HB7, HX7, HM7⟩
            case measure => simp [intOf]; omega
      · obtain rfl : k = n := by omega
        have HV := Lib.hid (show stableT B = true from stable_true HDE.out (fun m hm => HA.out m (by rw [HN.out] at hm; exact hm)))
        rw [HZ.out] at HV
        have HB := HBr
        have HX := HXr
        have HM := HMr
        have k2 := HX.out.cell
        have f2 := HX.out.frozen
        have HP : Hid (HdAt (wr.setCell ⟨q2, 0, none⟩ (.bool true)) q2 (.bool true) ∧ Below w.heap.size w (wr.setCell ⟨q2, 0, none⟩ (.bool true)) ∧ (wr.setCell ⟨q2, 0, none⟩ (.bool true)).heap[D]? = some (.deferred (some []))) := Lib.hid ⟨HX.out.set _, HB.out.setCell (Nat.le_of_eq HQ2.out) _, (heap_setCell_other _ ⟨q2, 0, none⟩ D _ (by have := HDD.out; show D ≠ q2; omega)).trans HM.out⟩
        go_wp2
        refine leaves_marksO (B := w.heap.size) [D] _ (by simp) (fun D' hD' => by obtain rfl := List.mem_singleton.1 hD'; exact HDD.out.1) (fun D' hD' => by obtain rfl := List.mem_singleton.1 hD'; exact HP.out.2.2) (fun W9 hb9 hc9 => ?_)
        exact ⟨_, results_c2 rfl rfl (by obtain ⟨t, h⟩ := HP.out.1; exact ⟨t, hc9 _ _ h rfl⟩), by rw [HV.out], HP.out.2.1.trans hb9⟩
  case stop =>
    rintro D c pre W' hD hS ⟨rfl, ⟨x, rfl⟩, h2, hb⟩ hK
    have HV := Lib.hid (show stableT B = false from stable_dies (x := x) (by obtain ⟨r, hr⟩ := hS; rw [← hr]; simp))
    rw [HZ.out] at HV
    have HDD := Lib.hid (show w.heap.size ≤ D ∧ W'.heap[D]? = some (.deferred (some [])) from ⟨by have := HZ3.out; omega, hK⟩)
    have HP := Lib.hid (And.intro h2 hb)
    clear h2 hb hS hK hD
    refine wpIn_wide.2 ?_
    go_wp2
    refine leaves_marksO (B := w.heap.size) [D] _ (by simp) (fun D' hD' => by obtain rfl := List.mem_singleton.1 hD'; exact HDD.out.1) (fun D' hD' => by obtain rfl := List.mem_singleton.1 hD'; exact HDD.out.2) (fun W9 hb9 hc9 => ?_)
    exact ⟨_, results_c2 rfl rfl (by obtain ⟨t, h⟩ := HP.out.1; exact ⟨t, hc9 _ _ h rfl⟩), by rw [HV.out], HP.out.2.trans hb9⟩
end Go.Proofs.YtdlkdilgjmmlaaaGreat

/- The contract of putList of a codec of terms (layers 1 and 2): lists of at most 255 terms. -/
import Derived.Test.YtekbdbcomfleeaaCo
namespace Go.Proofs.Ytekbdbcomfleeaa
open Go.RowKit Go.Lib

set_option maxRecDepth 100000 in
set_option maxHeartbeats 1600000 in
theorem putList_t (most : Nat) (hm : most ≤ 255) (b off cap : Nat) (l : List TermL) (w : World) (hlen : l.length ≤ 9223372036854775807) (hlt : b < w.heap.size)
    (hc : ∀ i (h : i < l.length), w.cell? ⟨b, off + i * 3, none⟩ = some (.int .i64 l[i].op) ∧ w.cell? ⟨b, off + i * 3 + 1, none⟩ = some (.int .i64 l[i].n) ∧ w.cell? ⟨b, off + i * 3 + 2, none⟩ = some (.int .i64 l[i].on)) :
    Calls Try.prog 58 #[tAgg, .int .i64 most, .slice (some ⟨b, off, none⟩) l.length cap] w fun e w' => e = ret2 (aput tput most l) ∧ Below w.heap.size w w' := by
  have HCELL := Lib.hid hc
  clear hc
  unfold tAgg
  by_cases hlong : most < l.length
  · have hd : decide ((most : Int) < l.length) = true := by simp; omega
    unfold aput
    rw [if_pos hlong]
    go_enter Try.func58, Try.ntmps58
    go_wp2
    go_ret2
    exact ⟨rfl, (Below.refl _ _).alloc (Nat.le_refl _) _⟩
  · have hd : decide ((most : Int) < l.length) = false := by simp; omega
    unfold aput
    rw [if_neg hlong]
    go_enter Try.func58, Try.ntmps58
    go_wp2_with (go_at_call 74; refine (writeByte_any (w.heap.size + 1) (w.heap.size + 1) [] _ _ ?_ ?_ ?_).mono ?_)
    · have hfr := fresh_isBuilder 101 5 (w.alloc (.cells #[.func (.func 62) #[] #[], .func (.func 64) #[] #[]] 67))
      rw [show (w.alloc (.cells #[.func (.func 62) #[] #[], .func (.func 64) #[] #[]] 67)).heap.size = w.heap.size + 1 by simp] at hfr
      exact hfr
    · simp
    · simp
    rintro e w2 ⟨rfl, hB, hbw⟩
    have hB2 : BuilderAt 101 5 (w.heap.size + 1) (w.heap.size + 1) (.pointer (some ⟨w.heap.size + 1, 0, none⟩)) (byteCells [UInt8.ofNat l.length]) w2 := by
      rw [byteCells_one l.length (by omega)]
      exact hB
    clear hB
    have hbw2 : Below (w.heap.size + 1) (w.alloc (.cells #[.func (.func 62) #[] #[], .func (.func 64) #[] #[]] 67)) w2 := (((Below.refl _ _).alloc (by simp) _).trans hbw)
    clear hbw
    go_wp2
    go_loopw [23] (fun i wr => ∃ (k : Nat) (acc : List UInt8), k ≤ l.length ∧ i = .int .i64 k ∧ Hid (aputFrom tput acc (l.drop k) = aputFrom tput [UInt8.ofNat l.length] l) ∧ acc.length ≤ 1 + 3 * k ∧
        Hid (BuilderAt 101 5 (w.heap.size + 1) (w.heap.size + 1) (.pointer (some ⟨w.heap.size + 1, 0, none⟩)) (byteCells acc) wr) ∧ Hid (Below (w.heap.size + 1) (w.alloc (.cells #[.func (.func 62) #[] #[], .func (.func 64) #[] #[]] 67)) wr)) (fun i _ => l.length - (RowKit.intOf i).toNat)
    case atStart => exact ⟨0, [UInt8.ofNat l.length], Nat.zero_le _, rfl, Lib.hid rfl, by simp, Lib.hid hB2, Lib.hid hbw2⟩
    case round =>
      obtain ⟨k, acc, hk, rfl, HE, hacc, HB, HW⟩ := hrel
      clear hB2 hbw2
      have hWw : Below w.heap.size w _ := ((below_alloc1 w (.cells #[.func (.func 62) #[] #[], .func (.func 64) #[] #[]] 67)).trans (HW.out.mono (by omega)))
      have HWW := Lib.hid hWw
      have c1 : _ = some (Value.func (.func 62) #[] #[]) := (HW.out.cell (p := ⟨w.heap.size, 0, none⟩) (by simp)).trans (by simp [go_sem])
      have c2 : _ = some (Value.func (.func 64) #[] #[]) := (HW.out.cell (p := ⟨w.heap.size, 1, none⟩) (by simp)).trans (by simp [go_sem])
      by_cases hkl : k < l.length
      · have h3 := HCELL.out k hkl
        have k0 := (hWw.cell (p := ⟨b, off + k * 3, none⟩) hlt).trans h3.1
        have k1 := (hWw.cell (p := ⟨b, off + k * 3 + 1, none⟩) hlt).trans h3.2.1
        have k2 := (hWw.cell (p := ⟨b, off + k * 3 + 2, none⟩) hlt).trans h3.2.2
        have hz := HW.out.size
        simp at hz
        have e1 := fun o => (cell_stays (below_alloc1 _ o) c1)
        have e2 := fun o => (cell_stays (below_alloc1 _ o) c2)
        clear hWw h3
        go_wp2_with fail
        refine (put_t l[k] _).mono ?_
        have HX : Hid (l.drop k = l[k] :: l.drop (k + 1)) := Lib.hid (List.drop_eq_getElem_cons hkl)
        have hg4 := tput_size l[k]
        obtain ⟨s, n, hr⟩ : ∃ s n, nrm2 (tput l[k]) = (s, n) := ⟨_, _, rfl⟩
        rw [hr] at hg4 ⊢
        rintro e w3 ⟨rfl, hb3⟩
        have HB3 := Lib.hid (builder_later (builder_later HB.out (below_alloc1 _ _)) hb3)
        have HW3 := Lib.hid ((HW.out.alloc (show w.heap.size + 1 ≤ _ by omega) _).trans (hb3.mono (show w.heap.size + 1 ≤ _ by simp; omega)))
        have HWW3 := Lib.hid ((below_alloc2 HWW.out _).trans (hb3.mono (below_alloc2 HWW.out _).size))
        have hsz3 := hb3.size
        simp at hsz3
        replace hg4 : s.size ≤ 3 := hg4
        have hlen4 : s.data.toList.length ≤ 3 := by rw [Array.length_toList]; exact hg4
        have HR := Lib.hid hr
        clear hr c1 c2 e1 e2 k0 k1 k2 hb3
        unfold ret2
        by_cases h0 : n = 0
        · subst h0
          go_wp2_with (go_at_call 75; refine (writeString_any (w.heap.size + 1) (w.heap.size + 1) (byteCells acc) s _ (.inr HB3.out) ?_ ?_).mono ?_)
          · simp [byteCells]; omega
          · omega
          rintro e w4 ⟨rfl, hB4, hb4⟩
          rw [byteCells_str] at hB4
          have HB4 := Lib.hid hB4
          have HW4 := Lib.hid (HW3.out.trans hb4)
          have HE4 : Hid (aputFrom tput (acc ++ s.data.toList) (l.drop (k + 1)) = aputFrom tput [UInt8.ofNat l.length] l) := by
            refine Lib.hid ?_
            rw [← HE.out, HX.out]
            simp [aputFrom, HR.out]
          clear hB4 hb4
          go_wp2
          go_roundw
          case rel => exact ⟨k + 1, acc ++ s.data.toList, by omega, by go_num, HE4, by rw [List.length_append]; omega, HB4, HW4⟩
          case measure => simp [RowKit.intOf]; omega
        · have h0' : (n != 0) = true := by simpa using h0
          have H0 := Lib.hid h0
          clear h0
          go_wp2
          go_ret2
          refine ⟨?_, HWW3.out⟩
          rw [← HE.out, HX.out]
          simp [aputFrom, HR.out, H0.out, ret2]
      · obtain rfl : k = l.length := by omega
        go_wp2_with (go_at_call 76; refine (Try.Builder_String_any (w.heap.size + 1) (w.heap.size + 1) acc _ (.inr HB.out) ?_).mono ?_)
        · have := HW.out.size
          simp at this
          omega
        rintro e w3 ⟨rfl, hb3⟩
        have HWW3 := Lib.hid (HWW.out.trans (hb3.mono (by omega)))
        go_wp2
        go_ret2
        refine ⟨?_, HWW3.out⟩
        rw [← HE.out]
        simp [aputFrom, ret2]

set_option maxRecDepth 100000 in
set_option maxHeartbeats 1000000 in
theorem putList_t0 (most : Nat) (xa : Option Addr) (cap : Nat) (w : World) :
    Calls Try.prog 58 #[tAgg, .int .i64 most, .slice xa 0 cap] w fun e w' => e = ret2 (aput tput most []) ∧ Below w.heap.size w w' := by
  have hd : decide ((most : Int) < 0) = false := by simp
  unfold tAgg
  go_enter Try.func58, Try.ntmps58
  go_wp2_with (go_at_call 74; refine (writeByte_any (w.heap.size + 1) (w.heap.size + 1) [] _ _ ?_ ?_ ?_).mono ?_)
  · have hfr := fresh_isBuilder 101 5 (w.alloc (.cells #[.func (.func 62) #[] #[], .func (.func 64) #[] #[]] 67))
    rw [show (w.alloc (.cells #[.func (.func 62) #[] #[], .func (.func 64) #[] #[]] 67)).heap.size = w.heap.size + 1 by simp] at hfr
    exact hfr
  · simp
  · simp
  rintro e w2 ⟨rfl, hB, hbw⟩
  have HB := Lib.hid hB
  have hbw2 : Below (w.heap.size + 1) (w.alloc (.cells #[.func (.func 62) #[] #[], .func (.func 64) #[] #[]] 67)) w2 := (((Below.refl _ _).alloc (by simp) _).trans hbw)
  have HW := Lib.hid hbw2
  clear hB hbw hbw2
  go_wp2
  go_loopw [23] (fun i wr => i = .int .i64 0 ∧ wr = w2) (fun _ _ => 0)
  case atStart => exact ⟨rfl, rfl⟩
  case round =>
    obtain ⟨rfl, rfl⟩ := hrel
    go_wp2_with (go_at_call 76; refine (Try.Builder_String_any (w.heap.size + 1) (w.heap.size + 1) [0] _ (.inr HB.out) ?_).mono ?_)
    · have := HW.out.size
      simp at this
      omega
    rintro e w3 ⟨rfl, hb3⟩
    have hz := HW.out.size
    simp at hz
    have HW3 := Lib.hid ((below_alloc1 w (.cells #[.func (.func 62) #[] #[], .func (.func 64) #[] #[]] 67)).trans ((HW.out.trans hb3).mono (by omega)))
    go_wp2
    go_ret2
    exact ⟨by simp [aput, aputFrom, ret2], HW3.out⟩

theorem putList_terms {v : Value} {l : List TermL} {w : World} (h : TermsIs w v l) (hlen : l.length ≤ 9223372036854775807) :
    Calls Try.prog 58 #[tAgg, .int .i64 (4 : Nat), v] w fun e w' => e = ret2 (tlput l) ∧ Below w.heap.size w w' := by
  rw [← aput_terms]
  rcases h with ⟨xa, cap, rfl, rfl⟩ | ⟨b, off, cap, rfl, hlt, hc⟩
  · exact putList_t0 4 xa cap w
  · exact putList_t 4 (by omega) b off cap l w hlen hlt hc
end Go.Proofs.Ytekbdbcomfleeaa

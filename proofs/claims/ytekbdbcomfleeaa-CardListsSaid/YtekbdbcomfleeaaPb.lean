/- The contracts of putBytes and of the two functions of a codec of terms (layer 2, card). -/
import Derived.Test.YtekbdbcomfleeaaCm
import Derived.Test.YtekbdbcomfleeaaI
import Derived.Test.YtekbdbcomfleeaaNt
namespace Go.Proofs.Ytekbdbcomfleeaa
open Go.RowKit Go.Lib

set_option maxRecDepth 100000 in
set_option maxHeartbeats 1600000 in
theorem putBytes_any (l : List Int) (b off cap : Nat) (w : World) (hlen : l.length ≤ 9) (hlt : b < w.heap.size) (hcell : ∀ i, i < l.length → w.cell? ⟨b, off + i, none⟩ = some (.int .i64 (l.getD i 0))) :
    Calls Try.prog 63 #[.slice (some ⟨b, off, none⟩) l.length cap] w fun e w' => e = ret2 (putB l) ∧ Below w.heap.size w w' := by
  have HP := Lib.hid (lputFrom_bytes l)
  rw [← HP.out]
  have HCELL := Lib.hid hcell
  clear hcell
  go_enter Try.func63, Try.ntmps63
  go_wp2_with fail
  refine (num_any 1 _).mono ?_
  rintro e w1 ⟨rfl, hcell1, hsz, hb1⟩
  have HB1 := Lib.hid hb1
  have HN1 := Lib.hid hcell1
  clear hcell1 hb1
  go_wp2
  have hfr := fresh_isBuilder 101 5 (w1.alloc (.cells #[.func (.func 90) #[] #[.pointer (some ⟨w.heap.size, 0, none⟩)], .func (.func 92) #[] #[.pointer (some ⟨w.heap.size, 0, none⟩)]] 112))
  rw [show (w1.alloc (.cells #[.func (.func 90) #[] #[.pointer (some ⟨w.heap.size, 0, none⟩)], .func (.func 92) #[] #[.pointer (some ⟨w.heap.size, 0, none⟩)]] 112)).heap.size = w1.heap.size + 1 by simp] at hfr
  have HF := Lib.hid hfr
  clear hfr
  have hHC := HasC.new w1 (.func (.func 90) #[] #[.pointer (some ⟨w.heap.size, 0, none⟩)]) (.func (.func 92) #[] #[.pointer (some ⟨w.heap.size, 0, none⟩)]) 112
  have hbw0 : Below (w1.heap.size + 1) (w1.alloc (.cells #[.func (.func 90) #[] #[.pointer (some ⟨w.heap.size, 0, none⟩)], .func (.func 92) #[] #[.pointer (some ⟨w.heap.size, 0, none⟩)]] 112)) ((w1.alloc (.cells #[.func (.func 90) #[] #[.pointer (some ⟨w.heap.size, 0, none⟩)], .func (.func 92) #[] #[.pointer (some ⟨w.heap.size, 0, none⟩)]] 112)).alloc (.cells #[.pointer none, .slice none 0 0] 101)) := (Below.refl _ _).alloc (by simp) _
  go_loopw [13] (fun i wr => ∃ (k : Nat) (acc : List UInt8), k ≤ l.length ∧ i = .int .i64 k ∧ Hid (lputFrom (putN 1) acc (l.drop k) = lputFrom (putN 1) [] l) ∧ acc.length ≤ k ∧
      Hid (IsBuilder 101 5 (w1.heap.size + 1) (w1.heap.size + 1) (byteCells acc) wr) ∧ Hid (Below (w1.heap.size + 1) (w1.alloc (.cells #[.func (.func 90) #[] #[.pointer (some ⟨w.heap.size, 0, none⟩)], .func (.func 92) #[] #[.pointer (some ⟨w.heap.size, 0, none⟩)]] 112)) wr)) (fun i _ => l.length - (RowKit.intOf i).toNat)
  case atStart => exact ⟨0, [], Nat.zero_le _, rfl, Lib.hid rfl, by simp, Lib.hid HF.out, Lib.hid hbw0⟩
  case round =>
    obtain ⟨k, acc, hk, rfl, HE, hacc, HB, HW⟩ := hrel
    have hWw : Below w.heap.size w _ := (HB1.out.alloc (by omega) (.cells #[.func (.func 90) #[] #[.pointer (some ⟨w.heap.size, 0, none⟩)], .func (.func 92) #[] #[.pointer (some ⟨w.heap.size, 0, none⟩)]] 112)).trans (HW.out.mono (by omega))
    have HWW := Lib.hid hWw
    have HHk : Hid (HasC _ w1.heap.size _ _) := Lib.hid ⟨(HW.out.cell (p := ⟨w1.heap.size, 0, none⟩) (by simp)).trans hHC.1, (HW.out.cell (p := ⟨w1.heap.size, 1, none⟩) (by simp)).trans hHC.2⟩
    have HNk := Lib.hid ((HW.out.cell (p := ⟨w.heap.size, 0, none⟩) (by simp; omega)).trans (cell_stays (below_alloc1 w1 (.cells #[.func (.func 90) #[] #[.pointer (some ⟨w.heap.size, 0, none⟩)], .func (.func 92) #[] #[.pointer (some ⟨w.heap.size, 0, none⟩)]] 112)) HN1.out))
    have c0 := HHk.out.1
    have c1 := HHk.out.2
    clear hHC hbw0
    by_cases hkl : k < l.length
    · have c3 := (hWw.cell (p := ⟨b, off + k, none⟩) hlt).trans (HCELL.out k hkl)
      clear hWw
      go_wp2_with fail
      refine (put_codec (num_is (by decide) (by decide) HNk.out) (Below.refl _ _) _).mono ?_
      rw [show heldN 1 = 1 from rfl]
      have HX : Hid (l.drop k = l[k] :: l.drop (k + 1)) := Lib.hid (List.drop_eq_getElem_cons hkl)
      have hg1 := put1_size l[k]
      obtain ⟨s, n, hr⟩ : ∃ s n, nrm2 (putN 1 l[k]) = (s, n) := ⟨_, _, rfl⟩
      rw [hr] at hg1 ⊢
      rintro e w3 ⟨rfl, hb3⟩
      have HB3 := Lib.hid (isBuilder_later HB.out hb3)
      have hz := HW.out.size
      simp at hz
      have HW3 := Lib.hid (HW.out.trans (hb3.mono (show w1.heap.size + 1 ≤ _ by omega)))
      have HWW3 := Lib.hid (HWW.out.trans (hb3.mono HWW.out.size))
      have hsz3 := hb3.size
      replace hg1 : s.size ≤ 1 := hg1
      have hlen1 : s.data.toList.length ≤ 1 := by rw [Array.length_toList]; exact hg1
      have HR := Lib.hid hr
      clear hr c0 c1 c3 hb3
      unfold ret2
      by_cases h0 : n = 0
      · subst h0
        go_wp2_with (go_at_call 75; refine (writeString_any (w1.heap.size + 1) (w1.heap.size + 1) (byteCells acc) s _ HB3.out ?_ ?_).mono ?_)
        · simp [byteCells]; omega
        · omega
        rintro e w4 ⟨rfl, hB4, hb4⟩
        rw [byteCells_str] at hB4
        have HB4 : Hid (IsBuilder 101 5 (w1.heap.size + 1) (w1.heap.size + 1) (byteCells (acc ++ s.data.toList)) w4) := Lib.hid (.inr hB4)
        have HW4 := Lib.hid (HW3.out.trans hb4)
        have HE4 : Hid (lputFrom (putN 1) (acc ++ s.data.toList) (l.drop (k + 1)) = lputFrom (putN 1) [] l) := by
          refine Lib.hid ?_
          rw [← HE.out, HX.out]
          simp [lputFrom, HR.out]
        clear hB4 hb4
        go_wp2
        go_roundw
        case rel => exact ⟨k + 1, acc ++ s.data.toList, by omega, by go_num, HE4, by rw [List.length_append]; omega, HB4, HW4⟩
        case measure => simp [RowKit.intOf]; omega
      · have h0' : (n != 0) = true := by simpa using h0
        have H0 := Lib.hid h0
        clear h0
        go_wp2
        go_ret2
        refine ⟨?_, HWW3.out⟩
        rw [← HE.out, HX.out]
        simp [lputFrom, HR.out, H0.out, ret2]
    · obtain rfl : k = l.length := by omega
      go_wp2_with (go_at_call 76; refine (Try.Builder_String_any (w1.heap.size + 1) (w1.heap.size + 1) acc _ HB.out ?_).mono ?_)
      · have := HW.out.size
        simp at this
        omega
      rintro e w3 ⟨rfl, hb3⟩
      have HWW3 := Lib.hid (HWW.out.trans (hb3.mono (by omega)))
      go_wp2
      go_ret2
      refine ⟨?_, HWW3.out⟩
      rw [← HE.out]
      simp [lputFrom, ret2]
end Go.Proofs.Ytekbdbcomfleeaa

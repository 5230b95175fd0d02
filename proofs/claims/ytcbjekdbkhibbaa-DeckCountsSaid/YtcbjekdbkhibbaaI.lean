/- The contract of putList (layer 1, octet): lists of numbers of at most 255 items, by any codec of numbers that writes at most 4 bytes an item. -/
import Derived.Test.YtcbjekdbkhibbaaH
namespace Go.Proofs.Ytcbjekdbkhibbaa
open Go.RowKit Go.Lib

def SliceIs (w : World) (v : Value) (l : List Int) : Prop :=
  (v = .slice none 0 0 ∧ l = []) ∨ ∃ b off cap, v = .slice (some ⟨b, off, none⟩) l.length cap ∧ b < w.heap.size ∧ ∀ i, i < l.length → w.cell? ⟨b, off + i, none⟩ = some (.int .i64 (l.getD i 0))
theorem SliceIs.later {w w' : World} {v : Value} {l : List Int} (h : SliceIs w v l) (hb : Below w.heap.size w w') : SliceIs w' v l := by
  rcases h with h | ⟨b, off, cap, rfl, hlt, hc⟩
  · exact .inl h
  · exact .inr ⟨b, off, cap, rfl, Nat.lt_of_lt_of_le hlt hb.size, fun i hi => (hb.cell (p := ⟨b, off + i, none⟩) hlt).trans (hc i hi)⟩

/-- What is written of a list's items, behind what is there; or the first error. -/
def lputFrom (g : Int → ByteArray × Int) : List UInt8 → List Int → ByteArray × Int
  | acc, [] => (⟨acc.toArray⟩, 0)
  | acc, x :: r => if (nrm2 (g x)).2 = 0 then lputFrom g (acc ++ (nrm2 (g x)).1.data.toList) r else (⟨#[]⟩, (nrm2 (g x)).2)
def lput (g : Int → ByteArray × Int) (most : Nat) (l : List Int) : ByteArray × Int :=
  if most < l.length then (⟨#[]⟩, 5) else lputFrom g [UInt8.ofNat l.length] l

theorem byteCells_snoc (l : List UInt8) (n : Nat) : byteCells l ++ [.int .u8 ((n : Int) % 256)] = byteCells (l ++ [UInt8.ofNat n]) := by
  simp [byteCells]
theorem byteCells_one (n : Nat) (h : n ≤ 255) : byteCells [UInt8.ofNat n] = [.int .u8 n] := by
  have : n % 256 = n := by omega
  simp [byteCells, this]
theorem byteCells_str (l : List UInt8) (s : ByteArray) : byteCells l ++ strCells s = byteCells (l ++ s.data.toList) := by
  simp [byteCells, strCells]

set_option maxHeartbeats 1000000 in
theorem putList_any {W w : World} {v : Value} {g : Int → ByteArray × Int} {h : ByteArray → Nat → Int × Int × Int} (hc : CodecOk W v g h) (hb : Below W.heap.size W w) (hg : ∀ x, (nrm2 (g x)).1.size ≤ 4)
    (most : Nat) (hm : most ≤ 255) (b off cap : Nat) (l : List Int) (hlt : b < w.heap.size) (hcell : ∀ i, i < l.length → w.cell? ⟨b, off + i, none⟩ = some (.int .i64 (l.getD i 0))) :
    Calls Try.prog 83 #[v, .int .i64 most, .slice (some ⟨b, off, none⟩) l.length cap] w fun e w' => e = ret2 (lput g most l) ∧ Below w.heap.size w w' := by
  have hc0 := hc
  obtain ⟨pv, nv, rfl, hp, hn⟩ := hc
  have HC := Lib.hid hc0
  have HG := Lib.hid hg
  have HCELL := Lib.hid hcell
  clear hc0 hp hn hg hcell
  by_cases hlong : most < l.length
  · have hd : decide ((most : Int) < l.length) = true := by simp; omega
    unfold lput
    rw [if_pos hlong]
    go_enter Try.func83, Try.ntmps83
    go_wp2
    go_ret2
    exact ⟨rfl, (Below.refl _ _).alloc (Nat.le_refl _) _⟩
  · have hd : decide ((most : Int) < l.length) = false := by simp; omega
    unfold lput
    rw [if_neg hlong]
    go_enter Try.func83, Try.ntmps83
    go_wp2_with (go_at_call 129; refine (writeByte_any (w.heap.size + 1) (w.heap.size + 1) [] _ _ ?_ ?_ ?_).mono ?_)
    · have hfr := fresh_isBuilder 156 5 (w.alloc (.cells #[pv, nv] 28))
      rw [show (w.alloc (.cells #[pv, nv] 28)).heap.size = w.heap.size + 1 by simp] at hfr
      exact hfr
    · simp
    · simp
    rintro e w2 ⟨rfl, hB, hbw⟩
    have hB2 : BuilderAt 156 5 (w.heap.size + 1) (w.heap.size + 1) (.pointer (some ⟨w.heap.size + 1, 0, none⟩)) (byteCells [UInt8.ofNat l.length]) w2 := by
      rw [byteCells_one l.length (by omega)]
      exact hB
    clear hB
    have hbw2 : Below (w.heap.size + 1) (w.alloc (.cells #[pv, nv] 28)) w2 := (((Below.refl _ _).alloc (by simp) _).trans hbw)
    clear hbw
    go_wp2
    go_loopw [23] (fun i wr => ∃ (k : Nat) (acc : List UInt8), k ≤ l.length ∧ i = .int .i64 k ∧ Hid (lputFrom g acc (l.drop k) = lputFrom g [UInt8.ofNat l.length] l) ∧ acc.length ≤ 1 + 4 * k ∧
        Hid (BuilderAt 156 5 (w.heap.size + 1) (w.heap.size + 1) (.pointer (some ⟨w.heap.size + 1, 0, none⟩)) (byteCells acc) wr) ∧ Hid (Below (w.heap.size + 1) (w.alloc (.cells #[pv, nv] 28)) wr)) (fun i _ => l.length - (RowKit.intOf i).toNat)
    case atStart => exact ⟨0, [UInt8.ofNat l.length], Nat.zero_le _, rfl, Lib.hid rfl, by simp, Lib.hid hB2, Lib.hid hbw2⟩
    case round =>
      obtain ⟨k, acc, hk, rfl, HE, hacc, HB, HW⟩ := hrel
      clear hB2 hbw2
      have hWw : Below w.heap.size w _ := (((Below.refl w.heap.size w).alloc (Nat.le_refl _) (.cells #[pv, nv] 28)).trans (HW.out.mono (by omega)))
      have HWW := Lib.hid hWw
      have c1 : _ = some pv := (HW.out.cell (p := ⟨w.heap.size, 0, none⟩) (by simp)).trans (by simp [go_sem])
      have c2 : _ = some nv := (HW.out.cell (p := ⟨w.heap.size, 1, none⟩) (by simp)).trans (by simp [go_sem])
      by_cases hkl : k < l.length
      · have c3 := (hWw.cell (p := ⟨b, off + k, none⟩) hlt).trans (HCELL.out k hkl)
        clear hWw
        go_wp2_with fail
        refine (put_codec HC.out (hb.trans (HWW.out.mono hb.size)) _).mono ?_
        rintro e w3 ⟨rfl, hb3⟩
        have HX : Hid (l.drop k = l[k] :: l.drop (k + 1)) := Lib.hid (List.drop_eq_getElem_cons hkl)
        have HB3 := Lib.hid (builder_later HB.out hb3)
        have hz := HW.out.size
        simp at hz
        have HW3 := Lib.hid (HW.out.trans (hb3.mono (show w.heap.size + 1 ≤ _ by omega)))
        have HWW3 := Lib.hid (HWW.out.trans (hb3.mono HWW.out.size))
        have hsz3 := hb3.size
        have hg4 := HG.out l[k]
        clear c1 c2 c3 hb3
        obtain ⟨s, n, hr⟩ : ∃ s n, nrm2 (g l[k]) = (s, n) := ⟨_, _, rfl⟩
        rw [hr] at hg4 ⊢
        replace hg4 : s.size ≤ 4 := hg4
        have hlen4 : s.data.toList.length ≤ 4 := by rw [Array.length_toList]; exact hg4
        have HR := Lib.hid hr
        clear hr
        unfold ret2
        by_cases h0 : n = 0
        · subst h0
          go_wp2_with (go_at_call 130; refine (writeString_any (w.heap.size + 1) (w.heap.size + 1) (byteCells acc) s _ (.inr HB3.out) ?_ ?_).mono ?_)
          · simp [byteCells]; omega
          · omega
          rintro e w4 ⟨rfl, hB4, hb4⟩
          rw [byteCells_str] at hB4
          have HB4 := Lib.hid hB4
          have HW4 := Lib.hid (HW3.out.trans hb4)
          have HE4 : Hid (lputFrom g (acc ++ s.data.toList) (l.drop (k + 1)) = lputFrom g [UInt8.ofNat l.length] l) := by
            refine Lib.hid ?_
            rw [← HE.out, HX.out]
            simp [lputFrom, HR.out]
          clear hB4 hb4
          go_wp2
          go_roundw
          case rel => exact ⟨k + 1, acc ++ s.data.toList, by omega, by go_num, HE4, by rw [List.length_append]; omega, HB4, HW4⟩
          case measure => simp [RowKit.intOf]; omega
        · have h0' : (n != 0) = true := by simpa using h0
          have H0 := Lib.hid h0
          clear h0
          go_wp2
          go_ret2
          refine ⟨?_, HWW3.out⟩
          rw [← HE.out, HX.out]
          simp [lputFrom, HR.out, H0.out, ret2]
      · obtain rfl : k = l.length := by omega
        go_wp2_with (go_at_call 131; refine (Try.Builder_String_any (w.heap.size + 1) (w.heap.size + 1) acc _ (.inr HB.out) ?_).mono ?_)
        · have := HW.out.size
          simp at this
          omega
        rintro e w3 ⟨rfl, hb3⟩
        have HWW3 := Lib.hid (HWW.out.trans (hb3.mono (by omega)))
        go_wp2
        go_ret2
        refine ⟨?_, HWW3.out⟩
        rw [← HE.out]
        simp [lputFrom, ret2]

set_option maxHeartbeats 1000000 in
theorem putList_nil (pv nv : Value) (g : Int → ByteArray × Int) (most : Nat) (w : World) :
    Calls Try.prog 83 #[.agg #[pv, nv], .int .i64 most, .slice none 0 0] w fun e w' => e = ret2 (lput g most []) ∧ Below w.heap.size w w' := by
  have hd : decide ((most : Int) < 0) = false := by simp
  go_enter Try.func83, Try.ntmps83
  go_wp2_with (go_at_call 129; refine (writeByte_any (w.heap.size + 1) (w.heap.size + 1) [] _ _ ?_ ?_ ?_).mono ?_)
  · have hfr := fresh_isBuilder 156 5 (w.alloc (.cells #[pv, nv] 28))
    rw [show (w.alloc (.cells #[pv, nv] 28)).heap.size = w.heap.size + 1 by simp] at hfr
    exact hfr
  · simp
  · simp
  rintro e w2 ⟨rfl, hB, hbw⟩
  have HB := Lib.hid hB
  have hbw2 : Below (w.heap.size + 1) (w.alloc (.cells #[pv, nv] 28)) w2 := (((Below.refl _ _).alloc (by simp) _).trans hbw)
  have HW := Lib.hid hbw2
  clear hB hbw hbw2
  go_wp2
  go_loopw [23] (fun i wr => i = .int .i64 0 ∧ wr = w2) (fun _ _ => 0)
  case atStart => exact ⟨rfl, rfl⟩
  case round =>
    obtain ⟨rfl, rfl⟩ := hrel
    go_wp2_with (go_at_call 131; refine (Try.Builder_String_any (w.heap.size + 1) (w.heap.size + 1) [0] _ (.inr HB.out) ?_).mono ?_)
    · have := HW.out.size
      simp at this
      omega
    rintro e w3 ⟨rfl, hb3⟩
    have hz := HW.out.size
    simp at hz
    have HW3 := Lib.hid (((Below.refl w.heap.size w).alloc (Nat.le_refl _) (.cells #[pv, nv] 28)).trans ((HW.out.trans hb3).mono (by omega)))
    go_wp2
    go_ret2
    exact ⟨by simp [lput, lputFrom, ret2], HW3.out⟩
end Go.Proofs.Ytcbjekdbkhibbaa

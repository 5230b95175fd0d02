/- The contract of Turn (layer 1, octet): a codec of numbers below 0, too. -/
import Derived.Test.YtplkodmmedhemaaG
namespace Go.Proofs.Ytplkodmmedhemaa
open Go.RowKit

set_option maxHeartbeats 400000 in
theorem turn1_any (h : Int) (b : Nat) (y : Int) (w : World) (hc : w.cell? ⟨b, 0, none⟩ = some (.int .i64 h)) :
    Calls Try.prog 31 #[.int .i64 y, .pointer (some ⟨b, 0, none⟩)] w fun e w' => e = .returned (.tuple #[.int .i64 (wrap64 (y - h)), .bool true]) ∧ Below w.heap.size w w' := by
  go_enter Try.func31, Try.ntmps31
  go_wp2
  go_ret2
  exact ⟨rfl, Below.refl _ _⟩
set_option maxHeartbeats 400000 in
theorem turn2_any (h : Int) (b : Nat) (y : Int) (w : World) (hc : w.cell? ⟨b, 0, none⟩ = some (.int .i64 h)) :
    Calls Try.prog 32 #[.int .i64 y, .pointer (some ⟨b, 0, none⟩)] w fun e w' => e = .returned (.int .i64 (wrap64 (y + h))) ∧ Below w.heap.size w w' := by
  go_enter Try.func32, Try.ntmps32
  go_wp2
  go_ret
  exact ⟨rfl, Below.refl _ _⟩
theorem enters31 : Enters 31 := fun _ _ => by kernel_rfl
theorem enters32 : Enters 32 := fun _ _ => by kernel_rfl

def halfN (n : Nat) : Int := powN n / 2
def turnTo (h y : Int) : Int × Bool := (wrap64 (y - h), true)
def turnFrom (h y : Int) : Int := wrap64 (y + h)

/-- Num's answer, in any world in which its variable lies. -/
theorem num_mk {W : World} {b n : Nat} (h1 : 1 ≤ n) (h4 : n ≤ 4) (hc : W.cell? ⟨b, 0, none⟩ = some (.int .i64 n)) :
    CodecOk W (.agg #[.func (.func 27) #[] #[.pointer (some ⟨b, 0, none⟩)], .func (.func 29) #[] #[.pointer (some ⟨b, 0, none⟩)]]) (putN n) (nextN n) :=
  ⟨_, _, rfl, ⟨27, #[], #[_], rfl, enters27, fun x w1 hw => num1_any n b x w1 h1 h4 (cell_keeps hw hc)⟩, ⟨29, #[], #[_], rfl, enters29, fun s a w1 hs ha hw => num2_any n b s a w1 h1 h4 ha hs (cell_keeps hw hc)⟩⟩

/-- Map's answer, in any world in which its variables lie. -/
theorem map_mk {W : World} {b1 b2 b3 : Nat} {pv nv tv fv : Value} {g : Int → ByteArray × Int} {h : ByteArray → Nat → Int × Int × Int} {tf : Int → Int × Bool} {ff : Int → Int}
    (hc0 : CodecOk W (.agg #[pv, nv]) g h) (ht : ToOk W tv tf) (hf : FromOk W fv ff)
    (c1 : W.cell? ⟨b1, 0, none⟩ = some pv) (c2 : W.cell? ⟨b1, 1, none⟩ = some nv) (c3 : W.cell? ⟨b2, 0, none⟩ = some tv) (c4 : W.cell? ⟨b3, 0, none⟩ = some fv) :
    CodecOk W (.agg #[.func (.func 47) #[] #[.pointer (some ⟨b1, 0, none⟩), .pointer (some ⟨b2, 0, none⟩), .pointer (some ⟨b3, 0, none⟩)], .func (.func 49) #[] #[.pointer (some ⟨b1, 0, none⟩), .pointer (some ⟨b2, 0, none⟩)]]) (mPut g tf ff) (mNext h tf) := by
  obtain ⟨kt, fit, cat, rfl, hkt, ht⟩ := ht
  obtain ⟨kf, fif, caf, rfl, hkf, hf⟩ := hf
  refine ⟨_, _, rfl, ⟨47, #[], #[_, _, _], rfl, enters47, fun x w1 hW1 => ?_⟩, ⟨49, #[], #[_, _], rfl, enters49, fun s a w1 hs ha hW1 => ?_⟩⟩
  · exact map1_any _ _ _ _ _ kt fit cat kf hkf fif caf x (ff x) (mPut g tf ff x) w1 (cell_keeps hW1 c1) (cell_keeps hW1 c2) (cell_keeps hW1 c3) (cell_keeps hW1 c4)
      (fun w2 h2 => hf x w2 (hW1.trans (h2.mono hW1.size)))
      (fun w2 h2 => putMap_any _ _ kt hkt fit cat (ff x) (nrm2 (g (ff x))).1 (nrm2 (g (ff x))).2 (tf (ff x)).1 (tf (ff x)).2 w2
        (fun w3 h3 => put_codec hc0 ((hW1.trans (h2.mono hW1.size)).trans (h3.mono (hW1.trans (h2.mono hW1.size)).size)) (ff x))
        (fun w3 h3 => ht (ff x) w3 ((hW1.trans (h2.mono hW1.size)).trans (h3.mono (hW1.trans (h2.mono hW1.size)).size))))
  · exact map2_any _ _ _ _ kt fit cat s a (mNext h tf s a) w1 (cell_keeps hW1 c1) (cell_keeps hW1 c2) (cell_keeps hW1 c3)
      (fun w2 h2 => nextMap_any _ _ kt hkt fit cat s a (nextAt h s a).1 (nextAt h s a).2.1 (nextAt h s a).2.2 (tf (nextAt h s a).1).1 (tf (nextAt h s a).1).2 w2
        (fun w3 h3 => next_codec hc0 ((hW1.trans (h2.mono hW1.size)).trans (h3.mono (hW1.trans (h2.mono hW1.size)).size)) s a hs)
        (fun w3 h3 => ht (nextAt h s a).1 w3 ((hW1.trans (h2.mono hW1.size)).trans (h3.mono (hW1.trans (h2.mono hW1.size)).size))))

/-- What lies in memory when Turn has ended makes a codec. -/
theorem turn_end {W : World} {bn b1 b2 b3 bh n : Nat} {L : Int} (h1 : 1 ≤ n) (h4 : n ≤ 4) (hL : L = halfN n)
    (cn : W.cell? ⟨bn, 0, none⟩ = some (.int .i64 n)) (ch : W.cell? ⟨bh, 0, none⟩ = some (.int .i64 L))
    (c1 : W.cell? ⟨b1, 0, none⟩ = some (.func (.func 27) #[] #[.pointer (some ⟨bn, 0, none⟩)])) (c2 : W.cell? ⟨b1, 1, none⟩ = some (.func (.func 29) #[] #[.pointer (some ⟨bn, 0, none⟩)]))
    (c3 : W.cell? ⟨b2, 0, none⟩ = some (.func (.func 31) #[] #[.pointer (some ⟨bh, 0, none⟩)])) (c4 : W.cell? ⟨b3, 0, none⟩ = some (.func (.func 32) #[] #[.pointer (some ⟨bh, 0, none⟩)])) :
    CodecOk W (.agg #[.func (.func 47) #[] #[.pointer (some ⟨b1, 0, none⟩), .pointer (some ⟨b2, 0, none⟩), .pointer (some ⟨b3, 0, none⟩)], .func (.func 49) #[] #[.pointer (some ⟨b1, 0, none⟩), .pointer (some ⟨b2, 0, none⟩)]])
      (mPut (putN n) (turnTo (halfN n)) (turnFrom (halfN n))) (mNext (nextN n) (turnTo (halfN n))) := by
  subst hL
  exact map_mk (num_mk h1 h4 cn) ⟨31, #[], #[_], rfl, enters31, fun y w1 hw => turn1_any _ bh y w1 (cell_keeps hw ch)⟩ ⟨32, #[], #[_], rfl, enters32, fun y w1 hw => turn2_any _ bh y w1 (cell_keeps hw ch)⟩ c1 c2 c3 c4

set_option maxHeartbeats 1600000 in
theorem turn_codec (width : Int) (w : World) :
    Calls Try.prog 9 #[.int .i64 width] w fun e w' => ∃ v, e = .returned v ∧ CodecOk w' v (mPut (putN (heldN width)) (turnTo (halfN (heldN width))) (turnFrom (halfN (heldN width)))) (mNext (nextN (heldN width)) (turnTo (halfN (heldN width)))) ∧ Below w.heap.size w w' := by
  have hmf := @mk_func
  rcases (by omega : width < 1 ∨ width = 1 ∨ width = 2 ∨ width = 3 ∨ width = 4 ∨ 4 < width) with h | rfl | rfl | rfl | rfl | h
  · rw [show heldN width = 1 by unfold heldN; rw [if_pos h]]
    go_enter Try.func9, Try.ntmps9
    go_wp2_with fail
    refine (num_any _ _).mono ?_
    rintro e w2 ⟨rfl, cn, hz2, hb2⟩
    go_wp2_with fail
    refine (map_any _ _ _ _ _ _ _ _ _ _ _ _ _).mono ?_
    rintro e w3 ⟨rfl, c1, c2, c3, c4, hz3, hb3⟩
    have hb23 := hb2.trans (hb3.mono hb2.size)
    have hcells := bcell hb23
    have CN := Lib.hid ((hb3.cell (p := ⟨_, 0, none⟩) hz2).trans cn)
    have C1 := Lib.hid c1
    have C2 := Lib.hid c2
    have C3 := Lib.hid c3
    have C4 := Lib.hid c4
    have hs2 := hb2.size
    simp at hs2
    have CH := Lib.hid (show w3.cell? ⟨w.heap.size + 1, 0, none⟩ = some (.int .i64 128) by rw [hcells.1 _ _ (by simp)]; simp [go_sem])
    have HB3 := Lib.hid hb23
    clear cn c1 c2 c3 c4 hb2 hb3 hb23
    go_wp2
    have hr0 : w3.cell? ⟨w.heap.size, 0, none⟩ = some .nilFunc := by rw [hcells.1 _ _ (by simp; omega)]; simp [go_sem]
    have hr1 : w3.cell? ⟨w.heap.size, 1, none⟩ = some .nilFunc := by rw [hcells.1 _ _ (by simp; omega)]; simp [go_sem]
    refine bodyPost_ret (by simp [results, Try.results9, go_sem, hr0, hr1, World.cell?_setCell_other]) rfl ⟨_, rfl, turn_end (bn := w.heap.size + 1 + 1) (b1 := w2.heap.size) (b2 := w2.heap.size + 1) (b3 := w2.heap.size + 1 + 1) (bh := w.heap.size + 1) (n := 1) (L := 128) (by decide) (by decide) rfl ?_ ?_ ?_ ?_ ?_ ?_, ?_⟩
    · rw [World.cell?_setCell_other _ _ _ _ (by simp <;> omega), World.cell?_setCell_other _ _ _ _ (by simp <;> omega)]; simpa [heldN] using CN.out
    · rw [World.cell?_setCell_other _ _ _ _ (by simp), World.cell?_setCell_other _ _ _ _ (by simp)]; exact CH.out
    · rw [World.cell?_setCell_other _ _ _ _ (by simp <;> omega), World.cell?_setCell_other _ _ _ _ (by simp <;> omega)]; simpa using C1.out
    · rw [World.cell?_setCell_other _ _ _ _ (by simp <;> omega), World.cell?_setCell_other _ _ _ _ (by simp <;> omega)]; simpa using C2.out
    · rw [World.cell?_setCell_other _ _ _ _ (by simp <;> omega), World.cell?_setCell_other _ _ _ _ (by simp <;> omega)]; simpa using C3.out
    · rw [World.cell?_setCell_other _ _ _ _ (by simp <;> omega), World.cell?_setCell_other _ _ _ _ (by simp <;> omega)]; simpa using C4.out
    · exact (((((Below.refl _ _).alloc (Nat.le_refl _) _).alloc (by simp) _).trans (HB3.out.mono (by simp; omega))).setCell (by simp) _).setCell (by simp) _
  · rw [show heldN 1 = 1 by rfl]
    go_enter Try.func9, Try.ntmps9
    go_wp2_with fail
    refine (num_any _ _).mono ?_
    rintro e w2 ⟨rfl, cn, hz2, hb2⟩
    go_wp2_with fail
    refine (map_any _ _ _ _ _ _ _ _ _ _ _ _ _).mono ?_
    rintro e w3 ⟨rfl, c1, c2, c3, c4, hz3, hb3⟩
    have hb23 := hb2.trans (hb3.mono hb2.size)
    have hcells := bcell hb23
    have CN := Lib.hid ((hb3.cell (p := ⟨_, 0, none⟩) hz2).trans cn)
    have C1 := Lib.hid c1
    have C2 := Lib.hid c2
    have C3 := Lib.hid c3
    have C4 := Lib.hid c4
    have hs2 := hb2.size
    simp at hs2
    have CH := Lib.hid (show w3.cell? ⟨w.heap.size + 1, 0, none⟩ = some (.int .i64 128) by rw [hcells.1 _ _ (by simp)]; simp [go_sem])
    have HB3 := Lib.hid hb23
    clear cn c1 c2 c3 c4 hb2 hb3 hb23
    go_wp2
    have hr0 : w3.cell? ⟨w.heap.size, 0, none⟩ = some .nilFunc := by rw [hcells.1 _ _ (by simp; omega)]; simp [go_sem]
    have hr1 : w3.cell? ⟨w.heap.size, 1, none⟩ = some .nilFunc := by rw [hcells.1 _ _ (by simp; omega)]; simp [go_sem]
    refine bodyPost_ret (by simp [results, Try.results9, go_sem, hr0, hr1, World.cell?_setCell_other]) rfl ⟨_, rfl, turn_end (bn := w.heap.size + 1 + 1) (b1 := w2.heap.size) (b2 := w2.heap.size + 1) (b3 := w2.heap.size + 1 + 1) (bh := w.heap.size + 1) (n := 1) (L := 128) (by decide) (by decide) rfl ?_ ?_ ?_ ?_ ?_ ?_, ?_⟩
    · rw [World.cell?_setCell_other _ _ _ _ (by simp <;> omega), World.cell?_setCell_other _ _ _ _ (by simp <;> omega)]; simpa [heldN] using CN.out
    · rw [World.cell?_setCell_other _ _ _ _ (by simp), World.cell?_setCell_other _ _ _ _ (by simp)]; exact CH.out
    · rw [World.cell?_setCell_other _ _ _ _ (by simp <;> omega), World.cell?_setCell_other _ _ _ _ (by simp <;> omega)]; simpa using C1.out
    · rw [World.cell?_setCell_other _ _ _ _ (by simp <;> omega), World.cell?_setCell_other _ _ _ _ (by simp <;> omega)]; simpa using C2.out
    · rw [World.cell?_setCell_other _ _ _ _ (by simp <;> omega), World.cell?_setCell_other _ _ _ _ (by simp <;> omega)]; simpa using C3.out
    · rw [World.cell?_setCell_other _ _ _ _ (by simp <;> omega), World.cell?_setCell_other _ _ _ _ (by simp <;> omega)]; simpa using C4.out
    · exact (((((Below.refl _ _).alloc (Nat.le_refl _) _).alloc (by simp) _).trans (HB3.out.mono (by simp; omega))).setCell (by simp) _).setCell (by simp) _
  · rw [show heldN 2 = 2 by rfl]
    go_enter Try.func9, Try.ntmps9
    go_wp2_with fail
    refine (num_any _ _).mono ?_
    rintro e w2 ⟨rfl, cn, hz2, hb2⟩
    go_wp2_with fail
    refine (map_any _ _ _ _ _ _ _ _ _ _ _ _ _).mono ?_
    rintro e w3 ⟨rfl, c1, c2, c3, c4, hz3, hb3⟩
    have hb23 := hb2.trans (hb3.mono hb2.size)
    have hcells := bcell hb23
    have CN := Lib.hid ((hb3.cell (p := ⟨_, 0, none⟩) hz2).trans cn)
    have C1 := Lib.hid c1
    have C2 := Lib.hid c2
    have C3 := Lib.hid c3
    have C4 := Lib.hid c4
    have hs2 := hb2.size
    simp at hs2
    have CH := Lib.hid (show w3.cell? ⟨w.heap.size + 1, 0, none⟩ = some (.int .i64 32768) by rw [hcells.1 _ _ (by simp)]; simp [go_sem])
    have HB3 := Lib.hid hb23
    clear cn c1 c2 c3 c4 hb2 hb3 hb23
    go_wp2
    have hr0 : w3.cell? ⟨w.heap.size, 0, none⟩ = some .nilFunc := by rw [hcells.1 _ _ (by simp; omega)]; simp [go_sem]
    have hr1 : w3.cell? ⟨w.heap.size, 1, none⟩ = some .nilFunc := by rw [hcells.1 _ _ (by simp; omega)]; simp [go_sem]
    refine bodyPost_ret (by simp [results, Try.results9, go_sem, hr0, hr1, World.cell?_setCell_other]) rfl ⟨_, rfl, turn_end (bn := w.heap.size + 1 + 1) (b1 := w2.heap.size) (b2 := w2.heap.size + 1) (b3 := w2.heap.size + 1 + 1) (bh := w.heap.size + 1) (n := 2) (L := 32768) (by decide) (by decide) rfl ?_ ?_ ?_ ?_ ?_ ?_, ?_⟩
    · rw [World.cell?_setCell_other _ _ _ _ (by simp <;> omega), World.cell?_setCell_other _ _ _ _ (by simp <;> omega)]; simpa [heldN] using CN.out
    · rw [World.cell?_setCell_other _ _ _ _ (by simp), World.cell?_setCell_other _ _ _ _ (by simp)]; exact CH.out
    · rw [World.cell?_setCell_other _ _ _ _ (by simp <;> omega), World.cell?_setCell_other _ _ _ _ (by simp <;> omega)]; simpa using C1.out
    · rw [World.cell?_setCell_other _ _ _ _ (by simp <;> omega), World.cell?_setCell_other _ _ _ _ (by simp <;> omega)]; simpa using C2.out
    · rw [World.cell?_setCell_other _ _ _ _ (by simp <;> omega), World.cell?_setCell_other _ _ _ _ (by simp <;> omega)]; simpa using C3.out
    · rw [World.cell?_setCell_other _ _ _ _ (by simp <;> omega), World.cell?_setCell_other _ _ _ _ (by simp <;> omega)]; simpa using C4.out
    · exact (((((Below.refl _ _).alloc (Nat.le_refl _) _).alloc (by simp) _).trans (HB3.out.mono (by simp; omega))).setCell (by simp) _).setCell (by simp) _
  · rw [show heldN 3 = 3 by rfl]
    go_enter Try.func9, Try.ntmps9
    go_wp2_with fail
    refine (num_any _ _).mono ?_
    rintro e w2 ⟨rfl, cn, hz2, hb2⟩
    go_wp2_with fail
    refine (map_any _ _ _ _ _ _ _ _ _ _ _ _ _).mono ?_
    rintro e w3 ⟨rfl, c1, c2, c3, c4, hz3, hb3⟩
    have hb23 := hb2.trans (hb3.mono hb2.size)
    have hcells := bcell hb23
    have CN := Lib.hid ((hb3.cell (p := ⟨_, 0, none⟩) hz2).trans cn)
    have C1 := Lib.hid c1
    have C2 := Lib.hid c2
    have C3 := Lib.hid c3
    have C4 := Lib.hid c4
    have hs2 := hb2.size
    simp at hs2
    have CH := Lib.hid (show w3.cell? ⟨w.heap.size + 1, 0, none⟩ = some (.int .i64 8388608) by rw [hcells.1 _ _ (by simp)]; simp [go_sem])
    have HB3 := Lib.hid hb23
    clear cn c1 c2 c3 c4 hb2 hb3 hb23
    go_wp2
    have hr0 : w3.cell? ⟨w.heap.size, 0, none⟩ = some .nilFunc := by rw [hcells.1 _ _ (by simp; omega)]; simp [go_sem]
    have hr1 : w3.cell? ⟨w.heap.size, 1, none⟩ = some .nilFunc := by rw [hcells.1 _ _ (by simp; omega)]; simp [go_sem]
    refine bodyPost_ret (by simp [results, Try.results9, go_sem, hr0, hr1, World.cell?_setCell_other]) rfl ⟨_, rfl, turn_end (bn := w.heap.size + 1 + 1) (b1 := w2.heap.size) (b2 := w2.heap.size + 1) (b3 := w2.heap.size + 1 + 1) (bh := w.heap.size + 1) (n := 3) (L := 8388608) (by decide) (by decide) rfl ?_ ?_ ?_ ?_ ?_ ?_, ?_⟩
    · rw [World.cell?_setCell_other _ _ _ _ (by simp <;> omega), World.cell?_setCell_other _ _ _ _ (by simp <;> omega)]; simpa [heldN] using CN.out
    · rw [World.cell?_setCell_other _ _ _ _ (by simp), World.cell?_setCell_other _ _ _ _ (by simp)]; exact CH.out
    · rw [World.cell?_setCell_other _ _ _ _ (by simp <;> omega), World.cell?_setCell_other _ _ _ _ (by simp <;> omega)]; simpa using C1.out
    · rw [World.cell?_setCell_other _ _ _ _ (by simp <;> omega), World.cell?_setCell_other _ _ _ _ (by simp <;> omega)]; simpa using C2.out
    · rw [World.cell?_setCell_other _ _ _ _ (by simp <;> omega), World.cell?_setCell_other _ _ _ _ (by simp <;> omega)]; simpa using C3.out
    · rw [World.cell?_setCell_other _ _ _ _ (by simp <;> omega), World.cell?_setCell_other _ _ _ _ (by simp <;> omega)]; simpa using C4.out
    · exact (((((Below.refl _ _).alloc (Nat.le_refl _) _).alloc (by simp) _).trans (HB3.out.mono (by simp; omega))).setCell (by simp) _).setCell (by simp) _
  · rw [show heldN 4 = 4 by rfl]
    go_enter Try.func9, Try.ntmps9
    go_wp2_with fail
    refine (num_any _ _).mono ?_
    rintro e w2 ⟨rfl, cn, hz2, hb2⟩
    go_wp2_with fail
    refine (map_any _ _ _ _ _ _ _ _ _ _ _ _ _).mono ?_
    rintro e w3 ⟨rfl, c1, c2, c3, c4, hz3, hb3⟩
    have hb23 := hb2.trans (hb3.mono hb2.size)
    have hcells := bcell hb23
    have CN := Lib.hid ((hb3.cell (p := ⟨_, 0, none⟩) hz2).trans cn)
    have C1 := Lib.hid c1
    have C2 := Lib.hid c2
    have C3 := Lib.hid c3
    have C4 := Lib.hid c4
    have hs2 := hb2.size
    simp at hs2
    have CH := Lib.hid (show w3.cell? ⟨w.heap.size + 1, 0, none⟩ = some (.int .i64 2147483648) by rw [hcells.1 _ _ (by simp)]; simp [go_sem])
    have HB3 := Lib.hid hb23
    clear cn c1 c2 c3 c4 hb2 hb3 hb23
    go_wp2
    have hr0 : w3.cell? ⟨w.heap.size, 0, none⟩ = some .nilFunc := by rw [hcells.1 _ _ (by simp; omega)]; simp [go_sem]
    have hr1 : w3.cell? ⟨w.heap.size, 1, none⟩ = some .nilFunc := by rw [hcells.1 _ _ (by simp; omega)]; simp [go_sem]
    refine bodyPost_ret (by simp [results, Try.results9, go_sem, hr0, hr1, World.cell?_setCell_other]) rfl ⟨_, rfl, turn_end (bn := w.heap.size + 1 + 1) (b1 := w2.heap.size) (b2 := w2.heap.size + 1) (b3 := w2.heap.size + 1 + 1) (bh := w.heap.size + 1) (n := 4) (L := 2147483648) (by decide) (by decide) rfl ?_ ?_ ?_ ?_ ?_ ?_, ?_⟩
    · rw [World.cell?_setCell_other _ _ _ _ (by simp <;> omega), World.cell?_setCell_other _ _ _ _ (by simp <;> omega)]; simpa [heldN] using CN.out
    · rw [World.cell?_setCell_other _ _ _ _ (by simp), World.cell?_setCell_other _ _ _ _ (by simp)]; exact CH.out
    · rw [World.cell?_setCell_other _ _ _ _ (by simp <;> omega), World.cell?_setCell_other _ _ _ _ (by simp <;> omega)]; simpa using C1.out
    · rw [World.cell?_setCell_other _ _ _ _ (by simp <;> omega), World.cell?_setCell_other _ _ _ _ (by simp <;> omega)]; simpa using C2.out
    · rw [World.cell?_setCell_other _ _ _ _ (by simp <;> omega), World.cell?_setCell_other _ _ _ _ (by simp <;> omega)]; simpa using C3.out
    · rw [World.cell?_setCell_other _ _ _ _ (by simp <;> omega), World.cell?_setCell_other _ _ _ _ (by simp <;> omega)]; simpa using C4.out
    · exact (((((Below.refl _ _).alloc (Nat.le_refl _) _).alloc (by simp) _).trans (HB3.out.mono (by simp; omega))).setCell (by simp) _).setCell (by simp) _
  · rw [show heldN width = 4 by unfold heldN; rw [if_neg (by omega), if_pos h]]
    have hm : (if width < 1 then 1 else width) = width := if_neg (by omega)
    go_enter Try.func9, Try.ntmps9
    go_wp2_with fail
    refine (num_any _ _).mono ?_
    rintro e w2 ⟨rfl, cn, hz2, hb2⟩
    go_wp2_with fail
    refine (map_any _ _ _ _ _ _ _ _ _ _ _ _ _).mono ?_
    rintro e w3 ⟨rfl, c1, c2, c3, c4, hz3, hb3⟩
    have hb23 := hb2.trans (hb3.mono hb2.size)
    have hcells := bcell hb23
    have CN := Lib.hid ((hb3.cell (p := ⟨_, 0, none⟩) hz2).trans cn)
    have C1 := Lib.hid c1
    have C2 := Lib.hid c2
    have C3 := Lib.hid c3
    have C4 := Lib.hid c4
    have hs2 := hb2.size
    simp at hs2
    have CH := Lib.hid (show w3.cell? ⟨w.heap.size + 1, 0, none⟩ = some (.int .i64 2147483648) by rw [hcells.1 _ _ (by simp)]; simp [go_sem])
    have HB3 := Lib.hid hb23
    clear cn c1 c2 c3 c4 hb2 hb3 hb23
    go_wp2
    have hr0 : w3.cell? ⟨w.heap.size, 0, none⟩ = some .nilFunc := by rw [hcells.1 _ _ (by simp; omega)]; simp [go_sem]
    have hr1 : w3.cell? ⟨w.heap.size, 1, none⟩ = some .nilFunc := by rw [hcells.1 _ _ (by simp; omega)]; simp [go_sem]
    refine bodyPost_ret (by simp [results, Try.results9, go_sem, hr0, hr1, World.cell?_setCell_other]) rfl ⟨_, rfl, turn_end (bn := w.heap.size + 1 + 1) (b1 := w2.heap.size) (b2 := w2.heap.size + 1) (b3 := w2.heap.size + 1 + 1) (bh := w.heap.size + 1) (n := 4) (L := 2147483648) (by decide) (by decide) rfl ?_ ?_ ?_ ?_ ?_ ?_, ?_⟩
    · rw [World.cell?_setCell_other _ _ _ _ (by simp <;> omega), World.cell?_setCell_other _ _ _ _ (by simp <;> omega)]; simpa [heldN] using CN.out
    · rw [World.cell?_setCell_other _ _ _ _ (by simp), World.cell?_setCell_other _ _ _ _ (by simp)]; exact CH.out
    · rw [World.cell?_setCell_other _ _ _ _ (by simp <;> omega), World.cell?_setCell_other _ _ _ _ (by simp <;> omega)]; simpa using C1.out
    · rw [World.cell?_setCell_other _ _ _ _ (by simp <;> omega), World.cell?_setCell_other _ _ _ _ (by simp <;> omega)]; simpa using C2.out
    · rw [World.cell?_setCell_other _ _ _ _ (by simp <;> omega), World.cell?_setCell_other _ _ _ _ (by simp <;> omega)]; simpa using C3.out
    · rw [World.cell?_setCell_other _ _ _ _ (by simp <;> omega), World.cell?_setCell_other _ _ _ _ (by simp <;> omega)]; simpa using C4.out
    · exact (((((Below.refl _ _).alloc (Nat.le_refl _) _).alloc (by simp) _).trans (HB3.out.mono (by simp; omega))).setCell (by simp) _).setCell (by simp) _
end Go.Proofs.Ytplkodmmedhemaa

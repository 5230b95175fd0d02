/- The contracts of Map of a codec of numbers (layer 1, octet), of what writes and of what reads through it. -/
import Derived.Test.YtcbjekdbkhibbaaE
namespace Go.Proofs.Ytcbjekdbkhibbaa
open Go.RowKit
theorem eq_func59 (fn : Fn) (fi ca : Array Value) (u : World) : (binOp .eql 59 (.func fn fi ca) .nilFunc).run Try.prog u = .ok (.bool false) u := by kernel_rfl
theorem eq_func35 (fn : Fn) (fi ca : Array Value) (u : World) : (binOp .eql 35 (.func fn fi ca) .nilFunc).run Try.prog u = .ok (.bool false) u := by kernel_rfl

set_option maxHeartbeats 800000 in
theorem map_any (f0 : Fn) (fi0 ca0 : Array Value) (f1 : Fn) (fi1 ca1 : Array Value) (ft : Fn) (fit cat : Array Value) (ff : Fn) (fif caf : Array Value) (w : World) :
    Calls Try.prog 35 #[.agg #[.func f0 fi0 ca0, .func f1 fi1 ca1], .func ft fit cat, .func ff fif caf] w fun e w' =>
      e = .returned (.agg #[.func (.func 90) #[] #[.pointer (some ⟨w.heap.size, 0, none⟩), .pointer (some ⟨w.heap.size + 1, 0, none⟩), .pointer (some ⟨w.heap.size + 1 + 1, 0, none⟩)],
        .func (.func 92) #[] #[.pointer (some ⟨w.heap.size, 0, none⟩), .pointer (some ⟨w.heap.size + 1, 0, none⟩)]]) ∧
      w'.cell? ⟨w.heap.size, 0, none⟩ = some (.func f0 fi0 ca0) ∧ w'.cell? ⟨w.heap.size, 1, none⟩ = some (.func f1 fi1 ca1) ∧
      w'.cell? ⟨w.heap.size + 1, 0, none⟩ = some (.func ft fit cat) ∧ w'.cell? ⟨w.heap.size + 1 + 1, 0, none⟩ = some (.func ff fif caf) ∧
      w.heap.size + 1 + 1 < w'.heap.size ∧ Below w.heap.size w w' := by
  have hmf := @mk_func
  have e1 := @eg_func
  have e2 := @eq_func59
  have e3 := @eq_func35
  go_enter Try.func35, Try.ntmps35
  go_wp2_with (first | (go_at_call 76; refine (none_func _ _ _ _ _).mono ?_; rintro e w' ⟨rfl, rfl⟩) | (go_at_call 36; refine (make_some _ _ _ _ _ _ _).mono ?_; rintro e w2 ⟨rfl, hb⟩; have hcells := bcell hb))
  have hz := hb.size
  simp at hz
  refine bodyPost_ret (by simp [results, Try.results35, go_sem, hcells, World.cell?_setCell_other]) rfl ⟨rfl, ?_, ?_, ?_, ?_, ?_, ?_⟩
  · rw [World.cell?_setCell_other _ _ _ _ (by simp), World.cell?_setCell_other _ _ _ _ (by simp), hcells.1 _ _ (by simp; omega)]
    simp [go_sem]
  · rw [World.cell?_setCell_other _ _ _ _ (by simp), World.cell?_setCell_other _ _ _ _ (by simp), hcells.1 _ _ (by simp; omega)]
    simp [go_sem]
  · rw [World.cell?_setCell_other _ _ _ _ (by simp), World.cell?_setCell_other _ _ _ _ (by simp), hcells.1 _ _ (by simp)]
    simp [go_sem]
  · rw [World.cell?_setCell_other _ _ _ _ (by simp), World.cell?_setCell_other _ _ _ _ (by simp), hcells.1 _ _ (by simp)]
    simp [go_sem]
  · simp [World.setCell]; omega
  · exact ((((((((Below.refl _ _).alloc (Nat.le_refl _) _).alloc (by simp) _).alloc (by simp; omega) _).alloc (by simp; omega) _).alloc (by simp; omega) _).trans (hb.mono (by simp; omega))).setCell (by simp; omega) _).setCell (by simp; omega) _

def ToOk (W : World) (tv : Value) (f : Int → Int × Bool) : Prop :=
  ∃ k first cap, tv = .func (.func k) first cap ∧ Enters k ∧ ∀ (y : Int) (w1 : World), Below W.heap.size W w1 → Calls Try.prog k (first.push (.int .i64 y) ++ cap) w1 fun e w2 => e = .returned (.tuple #[.int .i64 (f y).1, .bool (f y).2]) ∧ Below w1.heap.size w1 w2
def FromOk (W : World) (tv : Value) (f : Int → Int) : Prop :=
  ∃ k first cap, tv = .func (.func k) first cap ∧ Enters k ∧ ∀ (y : Int) (w1 : World), Below W.heap.size W w1 → Calls Try.prog k (first.push (.int .i64 y) ++ cap) w1 fun e w2 => e = .returned (.int .i64 (f y)) ∧ Below w1.heap.size w1 w2
theorem ToOk.later {W W' : World} {pv : Value} {g : Int → Int × Bool} (h : ToOk W pv g) (hb : Below W.heap.size W W') : ToOk W' pv g := by
  obtain ⟨k, f, c, e, hk, hc⟩ := h
  exact ⟨k, f, c, e, hk, fun x w1 h1 => hc x w1 (hb.trans (h1.mono hb.size))⟩
theorem FromOk.later {W W' : World} {pv : Value} {g : Int → Int} (h : FromOk W pv g) (hb : Below W.heap.size W W') : FromOk W' pv g := by
  obtain ⟨k, f, c, e, hk, hc⟩ := h
  exact ⟨k, f, c, e, hk, fun x w1 h1 => hc x w1 (hb.trans (h1.mono hb.size))⟩

def mapPut (r : ByteArray × Int) (ok : Bool) : ByteArray × Int := if r.2 = 0 then (if ok then (r.1, 0) else (⟨#[]⟩, 4)) else (⟨#[]⟩, r.2)

set_option maxHeartbeats 800000 in
theorem putMap_any (pv nv : Value) (k : Nat) (hk : Enters k) (first cap : Array Value) (y : Int) (s : ByteArray) (n : Int) (u : Int) (ok : Bool) (w : World)
    (hp : ∀ w1, Below w.heap.size w w1 → Calls Try.prog 20 #[.agg #[pv, nv], .int .i64 y] w1 fun e w2 => e = ret2 (s, n) ∧ Below w1.heap.size w1 w2)
    (ht : ∀ w1, Below w.heap.size w w1 → Calls Try.prog k (first.push (.int .i64 y) ++ cap) w1 fun e w2 => e = .returned (.tuple #[.int .i64 u, .bool ok]) ∧ Below w1.heap.size w1 w2) :
    Calls Try.prog 91 #[.agg #[pv, nv], .func (.func k) first cap, .int .i64 y] w fun e w' => e = ret2 (mapPut (s, n) ok) ∧ Below w.heap.size w w' := by
  have hkk := hk.out
  unfold ret2 at hp
  have HP := Lib.hid hp
  have HT := Lib.hid ht
  clear hp ht
  by_cases h0 : n = 0
  · subst h0
    cases ok
    · go_enter Try.func91, Try.ntmps91
      go_wp2_with fail
      refine (HP.out _ ((Below.refl _ _).alloc (Nat.le_refl _) _)).mono ?_
      rintro e w2 ⟨rfl, hb⟩
      have hb2 : Below w.heap.size w w2 := ((Below.refl _ _).alloc (Nat.le_refl _) _).trans (hb.mono (by simp))
      have HB := Lib.hid hb2
      clear hb hb2
      go_wp2_with fail
      refine (HT.out _ HB.out).mono ?_
      rintro e w3 ⟨rfl, hb⟩
      go_wp2
      go_ret2
      exact ⟨by simp [ret2, mapPut], HB.out.trans (hb.mono HB.out.size)⟩
    · go_enter Try.func91, Try.ntmps91
      go_wp2_with fail
      refine (HP.out _ ((Below.refl _ _).alloc (Nat.le_refl _) _)).mono ?_
      rintro e w2 ⟨rfl, hb⟩
      have hb2 : Below w.heap.size w w2 := ((Below.refl _ _).alloc (Nat.le_refl _) _).trans (hb.mono (by simp))
      have HB := Lib.hid hb2
      clear hb hb2
      go_wp2_with fail
      refine (HT.out _ HB.out).mono ?_
      rintro e w3 ⟨rfl, hb⟩
      go_wp2
      go_ret2
      exact ⟨by simp [ret2, mapPut], HB.out.trans (hb.mono HB.out.size)⟩
  · have h0' : (n != 0) = true := by simpa using h0
    have H0 := Lib.hid h0
    clear h0
    go_enter Try.func91, Try.ntmps91
    go_wp2_with fail
    refine (HP.out _ ((Below.refl _ _).alloc (Nat.le_refl _) _)).mono ?_
    rintro e w2 ⟨rfl, hb⟩
    have hb2 : Below w.heap.size w w2 := ((Below.refl _ _).alloc (Nat.le_refl _) _).trans (hb.mono (by simp))
    have HB := Lib.hid hb2
    clear hb hb2
    go_wp2
    go_ret2
    exact ⟨by simp [ret2, mapPut, H0.out], HB.out⟩

def mapNext (a : Int) (r : Int × Int × Int) (t : Int × Bool) : Int × Int × Int := if r.2.2 = 0 then (if t.2 then (t.1, r.2.1, 0) else (0, a, 4)) else (0, a, r.2.2)

set_option maxHeartbeats 800000 in
theorem nextMap_any (pv nv : Value) (k : Nat) (hk : Enters k) (first cap : Array Value) (s : ByteArray) (a : Int) (x m n : Int) (u : Int) (ok : Bool) (w : World)
    (hp : ∀ w1, Below w.heap.size w w1 → Calls Try.prog 22 #[.agg #[pv, nv], .string s, .int .i64 a] w1 fun e w2 => e = ret3 (x, m, n) ∧ Below w1.heap.size w1 w2)
    (ht : ∀ w1, Below w.heap.size w w1 → Calls Try.prog k (first.push (.int .i64 x) ++ cap) w1 fun e w2 => e = .returned (.tuple #[.int .i64 u, .bool ok]) ∧ Below w1.heap.size w1 w2) :
    Calls Try.prog 93 #[.agg #[pv, nv], .func (.func k) first cap, .string s, .int .i64 a] w fun e w' => e = ret3 (mapNext a (x, m, n) (u, ok)) ∧ Below w.heap.size w w' := by
  have hkk := hk.out
  unfold ret3 at hp
  have HP := Lib.hid hp
  have HT := Lib.hid ht
  clear hp ht
  by_cases h0 : n = 0
  · subst h0
    cases ok
    · go_enter Try.func93, Try.ntmps93
      go_wp2_with fail
      refine (HP.out _ ((Below.refl _ _).alloc (Nat.le_refl _) _)).mono ?_
      rintro e w2 ⟨rfl, hb⟩
      have hb2 : Below w.heap.size w w2 := ((Below.refl _ _).alloc (Nat.le_refl _) _).trans (hb.mono (by simp))
      have HB := Lib.hid hb2
      clear hb hb2
      go_wp2_with fail
      refine (HT.out _ HB.out).mono ?_
      rintro e w3 ⟨rfl, hb⟩
      go_wp2
      go_ret3
      exact ⟨by simp [ret3, mapNext], HB.out.trans (hb.mono HB.out.size)⟩
    · go_enter Try.func93, Try.ntmps93
      go_wp2_with fail
      refine (HP.out _ ((Below.refl _ _).alloc (Nat.le_refl _) _)).mono ?_
      rintro e w2 ⟨rfl, hb⟩
      have hb2 : Below w.heap.size w w2 := ((Below.refl _ _).alloc (Nat.le_refl _) _).trans (hb.mono (by simp))
      have HB := Lib.hid hb2
      clear hb hb2
      go_wp2_with fail
      refine (HT.out _ HB.out).mono ?_
      rintro e w3 ⟨rfl, hb⟩
      go_wp2
      go_ret3
      exact ⟨by simp [ret3, mapNext], HB.out.trans (hb.mono HB.out.size)⟩
  · have h0' : (n != 0) = true := by simpa using h0
    have H0 := Lib.hid h0
    clear h0
    go_enter Try.func93, Try.ntmps93
    go_wp2_with fail
    refine (HP.out _ ((Below.refl _ _).alloc (Nat.le_refl _) _)).mono ?_
    rintro e w2 ⟨rfl, hb⟩
    have hb2 : Below w.heap.size w w2 := ((Below.refl _ _).alloc (Nat.le_refl _) _).trans (hb.mono (by simp))
    have HB := Lib.hid hb2
    clear hb hb2
    go_wp2
    go_ret3
    exact ⟨by simp [ret3, mapNext, H0.out], HB.out⟩
end Go.Proofs.Ytcbjekdbkhibbaa

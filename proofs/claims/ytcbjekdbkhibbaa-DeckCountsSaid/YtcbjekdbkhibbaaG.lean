/- The contract of Map of codecs of numbers (layer 1, octet): what it answers is a codec again. -/
import Derived.Test.YtcbjekdbkhibbaaF
import Derived.Deep.RegionHeld3
namespace Go.Proofs.Ytcbjekdbkhibbaa
open Go.RowKit

theorem below_of_drew {w w2 : World} (h : Below w.drew.heap.size w.drew w2) : Below w.heap.size w w2 := ⟨h.os, h.tape, h.output, h.size, h.block⟩
theorem below_drew (w : World) : Below w.heap.size w w.drew := (Below.refl _ _).drew

theorem lt_of_cell {w : World} {b o : Nat} {v : Value} (h : w.cell? ⟨b, o, none⟩ = some v) : b < w.heap.size := by
  rcases Nat.lt_or_ge b w.heap.size with hlt | hge
  · exact hlt
  · simp [World.cell?, Array.getElem?_eq_none hge] at h
theorem cell_keeps {w w2 : World} (hb : Below w.heap.size w w2) {b o : Nat} {v : Value} (h : w.cell? ⟨b, o, none⟩ = some v) : w2.cell? ⟨b, o, none⟩ = some v := (hb.cell (p := ⟨b, o, none⟩) (lt_of_cell h)).trans h

theorem keepS {w w1 w2 : World} {b1 b2 b3 : Nat} {v1 v2 v3 v4 : Value} (hb : Below w1.heap.size w1 w2)
    (h : Below w.heap.size w w1 ∧ w1.cell? ⟨b1, 0, none⟩ = some v1 ∧ w1.cell? ⟨b1, 1, none⟩ = some v2 ∧ w1.cell? ⟨b2, 0, none⟩ = some v3 ∧ w1.cell? ⟨b3, 0, none⟩ = some v4) :
    Below w.heap.size w w2 ∧ w2.cell? ⟨b1, 0, none⟩ = some v1 ∧ w2.cell? ⟨b1, 1, none⟩ = some v2 ∧ w2.cell? ⟨b2, 0, none⟩ = some v3 ∧ w2.cell? ⟨b3, 0, none⟩ = some v4 :=
  ⟨h.1.trans (hb.mono h.1.size), cell_keeps hb h.2.1, cell_keeps hb h.2.2.1, cell_keeps hb h.2.2.2.1, cell_keeps hb h.2.2.2.2⟩

set_option maxHeartbeats 800000 in
theorem map1_any (b1 b2 b3 : Nat) (pv nv : Value) (kt : Nat) (ft ct : Array Value) (kf : Nat) (hkf : Enters kf) (ff cf : Array Value) (x y : Int) (r : ByteArray × Int) (w : World)
    (c1 : w.cell? ⟨b1, 0, none⟩ = some pv) (c2 : w.cell? ⟨b1, 1, none⟩ = some nv) (c3 : w.cell? ⟨b2, 0, none⟩ = some (.func (.func kt) ft ct)) (c4 : w.cell? ⟨b3, 0, none⟩ = some (.func (.func kf) ff cf))
    (hf : ∀ w1, Below w.heap.size w w1 → Calls Try.prog kf (ff.push (.int .i64 x) ++ cf) w1 fun e w2 => e = .returned (.int .i64 y) ∧ Below w1.heap.size w1 w2)
    (hp : ∀ w1, Below w.heap.size w w1 → Calls Try.prog 91 #[.agg #[pv, nv], .func (.func kt) ft ct, .int .i64 y] w1 fun e w2 => e = ret2 r ∧ Below w1.heap.size w1 w2) :
    Calls Try.prog 90 #[.int .i64 x, .pointer (some ⟨b1, 0, none⟩), .pointer (some ⟨b2, 0, none⟩), .pointer (some ⟨b3, 0, none⟩)] w fun e w' => e = ret2 r ∧ Below w.heap.size w w' := by
  have hkk := hkf.out
  unfold ret2 at hp
  have HP := Lib.hid hp
  have HF := Lib.hid hf
  clear hp hf
  go_enter Try.func90, Try.ntmps90
  go_wp2
  go_region_held3 (fun w' => Below w.heap.size w w' ∧ w'.cell? ⟨b1, 0, none⟩ = some pv ∧ w'.cell? ⟨b1, 1, none⟩ = some nv ∧ w'.cell? ⟨b2, 0, none⟩ = some (.func (.func kt) ft ct) ∧ w'.cell? ⟨b3, 0, none⟩ = some (.func (.func kf) ff cf)) (first | exact ⟨below_drew _, c1, c2, c3, c4⟩ | exact keepS (by assumption) (by assumption)) (first | (go_at_call 91; refine (HP.out _ ?_).mono ?_; (exact And.left (by assumption)); rintro e w3 ⟨rfl, hb3⟩) | (with_reducible refine (HF.out _ ?_).mono ?_; (exact And.left (by assumption)); rintro e w2 ⟨rfl, hb2⟩))
  go_wp2
  go_ret2
  exact ⟨rfl, And.left (by assumption)⟩

set_option maxHeartbeats 800000 in
theorem map2_any (b1 b2 : Nat) (pv nv : Value) (kt : Nat) (ft ct : Array Value) (s : ByteArray) (a : Int) (r : Int × Int × Int) (w : World)
    (c1 : w.cell? ⟨b1, 0, none⟩ = some pv) (c2 : w.cell? ⟨b1, 1, none⟩ = some nv) (c3 : w.cell? ⟨b2, 0, none⟩ = some (.func (.func kt) ft ct))
    (hp : ∀ w1, Below w.heap.size w w1 → Calls Try.prog 93 #[.agg #[pv, nv], .func (.func kt) ft ct, .string s, .int .i64 a] w1 fun e w2 => e = ret3 r ∧ Below w1.heap.size w1 w2) :
    Calls Try.prog 92 #[.string s, .int .i64 a, .pointer (some ⟨b1, 0, none⟩), .pointer (some ⟨b2, 0, none⟩)] w fun e w' => e = ret3 r ∧ Below w.heap.size w w' := by
  unfold ret3 at hp
  have HP := Lib.hid hp
  clear hp
  go_enter Try.func92, Try.ntmps92
  go_wp2_with fail
  refine (HP.out _ (Below.refl _ _)).mono ?_
  rintro e w2 ⟨rfl, hb⟩
  go_wp2
  go_ret3
  exact ⟨rfl, hb⟩

theorem enters47 : Enters 90 := fun _ _ => by kernel_rfl
theorem enters49 : Enters 92 := fun _ _ => by kernel_rfl

def mPut (g : Int → ByteArray × Int) (tf : Int → Int × Bool) (ff : Int → Int) (x : Int) : ByteArray × Int := mapPut (nrm2 (g (ff x))) (tf (ff x)).2
def mNext (h : ByteArray → Nat → Int × Int × Int) (tf : Int → Int × Bool) (s : ByteArray) (a : Nat) : Int × Int × Int := mapNext a (nextAt h s a) (tf (nextAt h s a).1)

theorem map_codec {W w : World} {v tv fv : Value} {g : Int → ByteArray × Int} {h : ByteArray → Nat → Int × Int × Int} {tf : Int → Int × Bool} {ff : Int → Int}
    (hc : CodecOk W v g h) (ht : ToOk W tv tf) (hf : FromOk W fv ff) (hb : Below W.heap.size W w) :
    Calls Try.prog 35 #[v, tv, fv] w fun e w' => ∃ v', e = .returned v' ∧ CodecOk w' v' (mPut g tf ff) (mNext h tf) ∧ Below w.heap.size w w' := by
  have hc0 := hc
  have ht0 := ht
  have hf0 := hf
  obtain ⟨pv, nv, rfl, ⟨k0, f0, a0, rfl, hk0, _⟩, ⟨k1, f1, a1, rfl, hk1, _⟩⟩ := hc
  obtain ⟨kt, fit, cat, rfl, hkt, ht⟩ := ht
  obtain ⟨kf, fif, caf, rfl, hkf, hf⟩ := hf
  refine (map_any _ _ _ _ _ _ _ _ _ _ _ _ w).mono fun e w' hw => ?_
  obtain ⟨rfl, c1, c2, c3, c4, hz, hbw⟩ := hw
  refine ⟨_, rfl, ⟨_, _, rfl, ⟨90, #[], #[_, _, _], rfl, enters47, fun x w1 h1 => ?_⟩, ⟨92, #[], #[_, _], rfl, enters49, fun s a w1 hs ha h1 => ?_⟩⟩, hbw⟩
  · have hW1 : Below W.heap.size W w1 := hb.trans ((hbw.trans (h1.mono hbw.size)).mono hb.size)
    exact map1_any _ _ _ _ _ kt fit cat kf hkf fif caf x (ff x) (mPut g tf ff x) w1 (cell_keeps h1 c1) (cell_keeps h1 c2) (cell_keeps h1 c3) (cell_keeps h1 c4)
      (fun w2 h2 => hf x w2 (hW1.trans (h2.mono hW1.size)))
      (fun w2 h2 => putMap_any _ _ kt hkt fit cat (ff x) (nrm2 (g (ff x))).1 (nrm2 (g (ff x))).2 (tf (ff x)).1 (tf (ff x)).2 w2
        (fun w3 h3 => put_codec hc0 ((hW1.trans (h2.mono hW1.size)).trans (h3.mono (hW1.trans (h2.mono hW1.size)).size)) (ff x))
        (fun w3 h3 => ht (ff x) w3 ((hW1.trans (h2.mono hW1.size)).trans (h3.mono (hW1.trans (h2.mono hW1.size)).size))))
  · have hW1 : Below W.heap.size W w1 := hb.trans ((hbw.trans (h1.mono hbw.size)).mono hb.size)
    exact map2_any _ _ _ _ kt fit cat s a (mNext h tf s a) w1 (cell_keeps h1 c1) (cell_keeps h1 c2) (cell_keeps h1 c3)
      (fun w2 h2 => nextMap_any _ _ kt hkt fit cat s a (nextAt h s a).1 (nextAt h s a).2.1 (nextAt h s a).2.2 (tf (nextAt h s a).1).1 (tf (nextAt h s a).1).2 w2
        (fun w3 h3 => next_codec hc0 ((hW1.trans (h2.mono hW1.size)).trans (h3.mono (hW1.trans (h2.mono hW1.size)).size)) s a hs)
        (fun w3 h3 => ht (nextAt h s a).1 w3 ((hW1.trans (h2.mono hW1.size)).trans (h3.mono (hW1.trans (h2.mono hW1.size)).size))))
end Go.Proofs.Ytcbjekdbkhibbaa

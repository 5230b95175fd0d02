/- What the law OctetMaps calls beside the codecs, and plain facts on what is turned there and back. -/
import Derived.Test.YtplkodmmedhemaaP
namespace Go.Proofs.Ytplkodmmedhemaa
open Go.RowKit

theorem leave10 (tmps : Array Value) (b4 b5 : Nat) (s : ByteArray) (n : Int) (R : Ending → World → Prop) (W : World)
    (h4 : tmps[4]? = some (.pointer (some ⟨b4, 0, none⟩))) (h5 : tmps[5]? = some (.pointer (some ⟨b5, 0, none⟩)))
    (c4 : W.cell? ⟨b4, 0, none⟩ = some (.string s)) (c5 : W.cell? ⟨b5, 0, none⟩ = some (.int .i64 n))
    (hR : R (ret2 (s, n)) W) : Leaves Try.prog Try.f10 tmps R [] .returning W := by
  refine ⟨_, ?_, hR⟩
  simp [results, Try.results10, go_sem, h4, h5, c4, c5]

set_option maxHeartbeats 400000 in
theorem put_zero (v1 : Value) (x : Int) (w : World) :
    Calls Try.prog 10 #[.agg #[.nilFunc, v1], .int .i64 x] w fun e w' => e = ret2 (⟨#[]⟩, 1) ∧ Below w.heap.size w w' := by
  have hmf := @mk_func
  go_enter_defers Try.func10, Try.ntmps10
  go_wp2_with (go_at_call 33; refine (none_nil _ _).mono ?_; rintro e w' ⟨rfl, rfl⟩)
  refine door_ret ?_
  refine leave10 _ (w.heap.size + 1) (w.heap.size + 1 + 1) ⟨#[]⟩ 1 _ _ rfl rfl (by simp [go_sem]) (by simp [go_sem]) ⟨rfl, ?_⟩
  repeat (first | with_reducible exact Below.refl _ _ | with_reducible refine Below.alloc ?_ (by simp; try omega) _)

set_option maxHeartbeats 400000 in
theorem maps1_any (y : Int) (w : World) : Calls Try.prog 23 #[.int .i64 y] w fun e w' => e = .returned (.tuple #[.int .i64 y, .bool true]) ∧ Below w.heap.size w w' := by
  go_enter Try.func23, Try.ntmps23
  go_wp2
  go_ret2
  exact ⟨rfl, Below.refl _ _⟩
set_option maxHeartbeats 400000 in
theorem maps2_any (y : Int) (w : World) : Calls Try.prog 24 #[.int .i64 y] w fun e w' => e = .returned (.int .i64 y) ∧ Below w.heap.size w w' := by
  go_enter Try.func24, Try.ntmps24
  go_wp2
  go_ret
  exact ⟨rfl, Below.refl _ _⟩
theorem enters23 : Enters 23 := fun _ _ => by kernel_rfl
theorem enters24 : Enters 24 := fun _ _ => by kernel_rfl
theorem enters10 : Enters 10 := fun _ _ => by kernel_rfl
theorem enters12 : Enters 12 := fun _ _ => by kernel_rfl
theorem to23 (w : World) : ToOk w (.func (.func 23) #[] #[]) (fun y => (y, true)) := ⟨23, #[], #[], rfl, enters23, fun y w1 _ => maps1_any y w1⟩
theorem from24 (w : World) : FromOk w (.func (.func 24) #[] #[]) (fun y => y) := ⟨24, #[], #[], rfl, enters24, fun y w1 _ => maps2_any y w1⟩

theorem CodecOk.shape {W : World} {v : Value} {g : Int → ByteArray × Int} {h : ByteArray → Nat → Int × Int × Int} (hc : CodecOk W v g h) : ∃ k f c k' f' c', v = .agg #[.func (.func k) f c, .func (.func k') f' c'] := by
  obtain ⟨pv, nv, rfl, ⟨k, f, c, rfl, _⟩, ⟨k', f', c', rfl, _⟩⟩ := hc
  exact ⟨k, f, c, k', f', c', rfl⟩

/-- What is made of a codec's own Put and Next. -/
theorem made_codec {W : World} {v : Value} {g : Int → ByteArray × Int} {h : ByteArray → Nat → Int × Int × Int} (hc : CodecOk W v g h) :
    CodecOk W (.agg #[.func (.func 10) #[v] #[], .func (.func 12) #[v] #[]]) (fun x => nrm2 (g x)) (fun s a => nextAt h s a) :=
  ⟨_, _, rfl, ⟨10, #[v], #[], rfl, enters10, fun x _ h1 => put_codec hc h1 x⟩, ⟨12, #[v], #[], rfl, enters12, fun s a _ hs _ h1 => next_codec hc h1 s a hs⟩⟩

/-- Turned there and back: the same. -/
theorem nrm2_idem (r : ByteArray × Int) : nrm2 (nrm2 r) = nrm2 r := by
  unfold nrm2 outS; by_cases h : r.2 = 0 <;> simp [h]
theorem put_same (g : Int → ByteArray × Int) (x : Int) : nrm2 (mPut g (fun y => (y, true)) (fun y => y) x) = nrm2 (g x) := by
  unfold mPut mapPut
  by_cases h : (g x).2 = 0 <;> simp [nrm2, outS, h]
theorem nextAt_same (h : ByteArray → Nat → Int × Int × Int) (s : ByteArray) (a : Int) : nextAt (mNext h (fun y => (y, true))) s a = nextAt h s a := by
  unfold nextAt
  by_cases ha : 0 ≤ a ∧ a ≤ s.size
  · rw [if_pos ha, if_pos ha]
    have e : ((a.toNat : Nat) : Int) = a := Int.toNat_of_nonneg ha.1
    unfold mNext mapNext
    rw [show nextAt h s (a.toNat : Nat) = nrm3 a (h s a.toNat) by unfold nextAt; rw [e, if_pos ha]]
    unfold nrm3
    by_cases h0 : (h s a.toNat).2.2 = 0 <;> simp [h0]
  · rw [if_neg ha, if_neg ha]
theorem nextAt_made (h : ByteArray → Nat → Int × Int × Int) (s : ByteArray) (a : Int) : nextAt (fun s a => nextAt h s (a : Nat)) s a = nextAt h s a := by
  by_cases ha : 0 ≤ a ∧ a ≤ s.size
  · have e : ((a.toNat : Nat) : Int) = a := Int.toNat_of_nonneg ha.1
    have e2 : nextAt h s a = nrm3 a (h s a.toNat) := by unfold nextAt; rw [if_pos ha]
    rw [show nextAt (fun s a => nextAt h s (a : Nat)) s a = nrm3 a (nextAt h s (a.toNat : Nat)) by rw [nextAt, if_pos ha], e, e2]
    unfold nrm3
    by_cases h0 : (h s a.toNat).2.2 = 0 <;> simp [h0]
  · unfold nextAt
    rw [if_neg ha, if_neg ha]
theorem getOf_same (h : ByteArray → Nat → Int × Int × Int) (s : ByteArray) : getOf (mNext h (fun y => (y, true))) s = getOf h s := by
  unfold getOf; rw [nextAt_same]
theorem getOf_made (h : ByteArray → Nat → Int × Int × Int) (s : ByteArray) : getOf (fun s a => nextAt h s (a : Nat)) s = getOf h s := by
  unfold getOf; rw [nextAt_made]
end Go.Proofs.Ytplkodmmedhemaa

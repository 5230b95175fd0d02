/- The contract of Next of a codec of lists of numbers (layer 1, octet), told of whatever functions are in it. -/
import Derived.Test.YtcbjekdbkhibbaaJ
namespace Go.Proofs.Ytcbjekdbkhibbaa
open Go.RowKit
/-- A slice of numbers in a row of numbers, in a block from B on, or no slice; what it holds. -/
def SliceFrom (B : Nat) (w : World) (v : Value) (l : List Int) : Prop :=
  (v = .slice none 0 0 ∧ l = []) ∨ ∃ b off cap, v = .slice (some ⟨b, off, none⟩) l.length cap ∧ B ≤ b ∧ (∀ i, i < l.length → w.cell? ⟨b, off + i, none⟩ = some (.int .i64 (l.getD i 0))) ∧ ∃ C fr, w.heap[b]? = some (.cells C 3 fr)
theorem lt_of_row {w : World} {b : Nat} {o : Obj} (h : w.heap[b]? = some o) : b < w.heap.size := (Array.getElem?_eq_some_iff.1 h).1
theorem SliceFrom.later {B : Nat} {w w' : World} {v : Value} {l : List Int} (h : SliceFrom B w v l) (hb : Below w.heap.size w w') : SliceFrom B w' v l := by
  rcases h with h | ⟨b, off, cap, rfl, hB, hc, C, fr, hr⟩
  · exact .inl h
  · exact .inr ⟨b, off, cap, rfl, hB, fun i hi => (hb.cell (p := ⟨b, off + i, none⟩) (lt_of_row hr)).trans (hc i hi), C, fr, (hb.block b (lt_of_row hr)).trans hr⟩
theorem SliceFrom.mono {B B' : Nat} {w : World} {v : Value} {l : List Int} (h : SliceFrom B w v l) (hB : B' ≤ B) : SliceFrom B' w v l := by
  rcases h with h | ⟨b, off, cap, rfl, hb, hc⟩
  · exact .inl h
  · exact .inr ⟨b, off, cap, rfl, Nat.le_trans hB hb, hc⟩
theorem SliceFrom.setCell {B : Nat} {w : World} {v : Value} {l : List Int} (h : SliceFrom B w v l) {p : Addr} (hp : p.block < B) (u : Value) : SliceFrom B (w.setCell p u) v l := by
  rcases h with h | ⟨b, off, cap, rfl, hb, hc, C, fr, hr⟩
  · exact .inl h
  · refine .inr ⟨b, off, cap, rfl, hb, fun i hi => ?_, C, fr, (Below.heap_setCell w p u b (by omega)).trans hr⟩
    rw [World.cell?_setCell_other _ _ _ _ (fun e => by rw [e] at hp; simp at hp; omega)]
    exact hc i hi
theorem SliceFrom.drew {B : Nat} {w : World} {v : Value} {l : List Int} (h : SliceFrom B w v l) : SliceFrom B w.drew v l := h
theorem SliceFrom.none (B : Nat) (w : World) : SliceFrom B w (.slice none 0 0) [] := .inl ⟨rfl, rfl⟩

def ret3s (v : Value) (m n : Int) : Ending := .returned (.tuple #[v, .int .i64 m, .int .i64 n])

def keepL (n : Int) (l : List Int) : List Int := if n = 0 then l else []
def keepM (n a m : Int) : Int := if n = 0 then m else a

/-- A call ends with a list in new memory, a place and an error. -/
def RetList (w : World) (l : List Int) (m n : Int) (e : Ending) (w' : World) : Prop :=
  ∃ xa xn xc, e = ret3s (.slice xa xn xc) m n ∧ SliceFrom w.heap.size w' (.slice xa xn xc) l ∧ Below w.heap.size w w'

theorem d45_idle (p q r s u : Option Addr) (w : World) :
    CallsD Try.prog 88 #[.pointer p, .pointer q, .pointer r, .pointer s, .pointer u] .returning w fun e u' w' => e = .returned (.tuple #[]) ∧ u' = .returning ∧ w' = w := by
  refine callsD_of_wpS Try.func88 rfl fun c₀ cs hu => ?_
  apply wpS_seq
  apply wpS_region
  simp [wpOpsS, go_sem, recoverD, hu, Try.ntmps88, Exit.thenS]
  refine wpS_cond (t := false) (by simp [Act.eval, Array.replicate]) ?_
  simp only [Bool.false_eq_true, if_false]
  refine wpS_of_wp (wp_skip ?_)
  cases c₀
  simp_all [bodyPostS, results, Try.results88]

theorem leave19 (tmps : Array Value) (b6 b7 b8 : Nat) (xa : Option Addr) (xn xc : Nat) (m n : Int) (R : Ending → World → Prop) (W : World)
    (h6 : tmps[6]? = some (.pointer (some ⟨b6, 0, none⟩))) (h7 : tmps[7]? = some (.pointer (some ⟨b7, 0, none⟩))) (h8 : tmps[8]? = some (.pointer (some ⟨b8, 0, none⟩)))
    (c6 : W.cell? ⟨b6, 0, none⟩ = some (.slice xa xn xc)) (c7 : W.cell? ⟨b7, 0, none⟩ = some (.int .i64 m)) (c8 : W.cell? ⟨b8, 0, none⟩ = some (.int .i64 n))
    (hR : R (ret3s (.slice xa xn xc) m n) W) : Leaves Try.prog Try.f29 tmps R [] .returning W := by
  refine ⟨_, ?_, hR⟩
  simp [results, Try.results29, go_sem, h6, h7, h8, c6, c7, c8]

set_option maxHeartbeats 1600000 in
theorem next45_any (k : Nat) (hk : Enters k) (first cap : Array Value) (v0 : Fn) (fi0 ca0 : Array Value) (s : ByteArray) (a : Nat) (l : List Int) (m n : Int) (w : World) (_ha : a ≤ s.size) (_hs : s.size ≤ maxLen)
    (hc : ∀ w1, Below w.heap.size w w1 → Calls Try.prog k (first ++ (#[.string s, .int .i64 a] ++ cap)) w1 (RetList w1 l m n)) :
    Calls Try.prog 29 #[.agg #[.func v0 fi0 ca0, .func (.func k) first cap], .string s, .int .i64 a] w (RetList w (keepL n l) (keepM n a m) n) := by
  have hmf := @mk_func
  have hkk := hk.out
  unfold maxLen at _hs
  have HC := Lib.hid hc
  have hd : decide ((a : Int) < 0) = false := by simp
  clear hc
  go_enter_defers Try.func29, Try.ntmps29
  go_wp2_with (go_at_call 87; refine (none_func45 _ _ _ _ _).mono ?_; rintro e w' ⟨rfl, rfl⟩)
  refine (HC.out _ ((((((((Below.refl _ _).alloc (Nat.le_refl _) _).alloc (by simp) _).alloc (by simp; omega) _).alloc (by simp; omega) _).alloc (by simp; omega) _).alloc (by simp; omega) _).alloc (by simp; omega) _)).mono ?_
  rintro e w2 ⟨xa, xn, xc, rfl, hsl, hb⟩
  unfold ret3s
  have hsl7 : SliceFrom (w.heap.size + 7) w2 (.slice xa xn xc) l := by simpa using hsl
  have HSL := Lib.hid hsl7
  clear hsl hsl7
  have hcells := bcell hb
  have hz := hb.size
  simp at hz
  have hbase : Below w.heap.size w w2 := ((((((((Below.refl _ _).alloc (Nat.le_refl _) _).alloc (by simp) _).alloc (by simp; omega) _).alloc (by simp; omega) _).alloc (by simp; omega) _).alloc (by simp; omega) _).alloc (by simp; omega) _).trans (hb.mono (by simp; omega))
  have HB := Lib.hid hbase
  have C1 := Lib.hid (show w2.cell? ⟨w.heap.size + 1, 0, none⟩ = some (.int .i64 a) by rw [hcells.1 _ _ (by simp)]; simp [go_sem])
  have C2 := Lib.hid (show w2.cell? ⟨w.heap.size + 1 + 1, 0, none⟩ = some (.slice none 0 0) by rw [hcells.1 _ _ (by simp)]; simp [go_sem])
  have C3 := Lib.hid (show w2.cell? ⟨w.heap.size + 1 + 1 + 1, 0, none⟩ = some (.int .i64 0) by rw [hcells.1 _ _ (by simp)]; simp [go_sem])
  have C4 := Lib.hid (show w2.cell? ⟨w.heap.size + 1 + 1 + 1 + 1, 0, none⟩ = some (.int .i64 0) by rw [hcells.1 _ _ (by simp)]; simp [go_sem])
  have C5 := Lib.hid (show w2.cell? ⟨w.heap.size + 1 + 1 + 1 + 1 + 1, 0, none⟩ = some (.slice none 0 0) by rw [hcells.1 _ _ (by simp)]; simp [go_sem])
  clear hbase hb
  by_cases h0 : n = 0
  · subst h0
    have HS7 : Hid (SliceFrom (w.heap.size + 7) w2 (.slice xa xn xc) (keepL 0 l)) := Lib.hid (by simpa [keepL] using HSL.out)
    go_wp2
    go_region
    all_goals go_wp2
    all_goals refine leaves_cons (f := 88) (args := #[.pointer (some ⟨w.heap.size + 1 + 1 + 1 + 1 + 1, 0, none⟩), .pointer (some ⟨w.heap.size + 1, 0, none⟩), .pointer (some ⟨w.heap.size + 1 + 1, 0, none⟩), .pointer (some ⟨w.heap.size + 1 + 1 + 1, 0, none⟩), .pointer (some ⟨w.heap.size + 1 + 1 + 1 + 1, 0, none⟩)]) (by simp) (by simp [go_sem]) ?_
    all_goals refine (d45_idle _ _ _ _ _ _).mono ?_
    all_goals rintro e u' w'' ⟨rfl, rfl, rfl⟩
    all_goals refine leave19 _ (w.heap.size + 1 + 1) (w.heap.size + 1 + 1 + 1) (w.heap.size + 1 + 1 + 1 + 1) xa xn xc m 0 _ _ rfl rfl rfl ?_ ?_ ?_ ⟨xa, xn, xc, rfl, ?_, ?_⟩
    all_goals first | (with_reducible refine SliceFrom.mono (B := w.heap.size + 7) ?_ (by omega); with_reducible refine SliceFrom.drew ?_; repeat (first | with_reducible exact HS7.out | with_reducible refine SliceFrom.setCell ?_ (by dsimp only; omega) _)) | (with_reducible refine Below.drew ?_; repeat (first | with_reducible exact HB.out | with_reducible refine Below.setCell ?_ (by dsimp only; omega) _)) | (simp [C2.out, C3.out, C4.out, World.cell?_setCell_other, isSome_setCell, go_sem]; done)
  · have h0' : (n != 0) = true := by simpa using h0
    have HS7 : Hid (SliceFrom (w.heap.size + 7) w2 (.slice none 0 0) (keepL n l)) := Lib.hid (by simp only [keepL, if_neg h0]; exact .none _ _)
    go_wp2
    go_region
    all_goals go_wp2
    all_goals refine leaves_cons (f := 88) (args := #[.pointer (some ⟨w.heap.size + 1 + 1 + 1 + 1 + 1, 0, none⟩), .pointer (some ⟨w.heap.size + 1, 0, none⟩), .pointer (some ⟨w.heap.size + 1 + 1, 0, none⟩), .pointer (some ⟨w.heap.size + 1 + 1 + 1, 0, none⟩), .pointer (some ⟨w.heap.size + 1 + 1 + 1 + 1, 0, none⟩)]) (by simp) (by simp [go_sem]) ?_
    all_goals refine (d45_idle _ _ _ _ _ _).mono ?_
    all_goals rintro e u' w'' ⟨rfl, rfl, rfl⟩
    all_goals refine leave19 _ (w.heap.size + 1 + 1) (w.heap.size + 1 + 1 + 1) (w.heap.size + 1 + 1 + 1 + 1) none 0 0 a n _ _ rfl rfl rfl ?_ ?_ ?_ ⟨none, 0, 0, by simp [keepM, h0], ?_, ?_⟩
    all_goals first | (with_reducible refine SliceFrom.mono (B := w.heap.size + 7) ?_ (by omega); with_reducible refine SliceFrom.drew ?_; repeat (first | with_reducible exact HS7.out | with_reducible refine SliceFrom.setCell ?_ (by dsimp only; omega) _)) | (with_reducible refine Below.drew ?_; repeat (first | with_reducible exact HB.out | with_reducible refine Below.setCell ?_ (by dsimp only; omega) _)) | (simp [C2.out, C3.out, C4.out, World.cell?_setCell_other, isSome_setCell, go_sem]; done)

set_option maxHeartbeats 1600000 in
theorem next45_bad (v0 : Fn) (fi0 ca0 : Array Value) (v1 : Value) (s : ByteArray) (a : Int) (w : World) (ha : a < 0 ∨ (s.size : Int) < a) (_hs : s.size ≤ maxLen) :
    Calls Try.prog 29 #[.agg #[.func v0 fi0 ca0, v1], .string s, .int .i64 a] w fun e w' => e = ret3s (.slice none 0 0) a 1 ∧ Below w.heap.size w w' := by
  have hmf := @mk_func
  unfold maxLen at _hs
  by_cases h0 : a < 0
  · have hd : decide (a < 0) = true := by simpa using h0
    go_enter_defers Try.func29, Try.ntmps29
    go_wp2_with (go_at_call 87; refine (none_func45 _ _ _ _ _).mono ?_; rintro e w' ⟨rfl, rfl⟩)
    go_region
    all_goals go_wp2
    all_goals refine door_ret ?_
    all_goals refine leave19 _ (w.heap.size + 1 + 1) (w.heap.size + 1 + 1 + 1) (w.heap.size + 1 + 1 + 1 + 1) none 0 0 a 1 _ _ rfl rfl rfl ?_ ?_ ?_ ⟨rfl, ?_⟩
    all_goals first | (with_reducible refine Below.drew ?_; repeat (first | with_reducible exact Below.refl _ _ | with_reducible refine Below.alloc ?_ (by simp; try omega) _)) | (simp [go_sem]; done)
  · have hd : decide (a < 0) = false := by simpa using h0
    go_enter_defers Try.func29, Try.ntmps29
    go_wp2_with (go_at_call 87; refine (none_func45 _ _ _ _ _).mono ?_; rintro e w' ⟨rfl, rfl⟩)
    go_region
    all_goals go_wp2
    all_goals refine door_ret ?_
    all_goals refine leave19 _ (w.heap.size + 1 + 1) (w.heap.size + 1 + 1 + 1) (w.heap.size + 1 + 1 + 1 + 1) none 0 0 a 1 _ _ rfl rfl rfl ?_ ?_ ?_ ⟨rfl, ?_⟩
    all_goals first | (with_reducible refine Below.drew ?_; repeat (first | with_reducible exact Below.refl _ _ | with_reducible refine Below.alloc ?_ (by simp; try omega) _)) | (simp [go_sem]; done)

end Go.Proofs.Ytcbjekdbkhibbaa

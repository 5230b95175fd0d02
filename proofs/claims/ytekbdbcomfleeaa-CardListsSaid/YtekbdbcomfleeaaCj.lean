/- The contract of Next of a codec of lists of cards (layers 1 and 2), told of whatever functions are in it. -/
import Derived.Test.YtekbdbcomfleeaaPd
import Derived.Test.YtekbdbcomfleeaaTf
import Derived.Test.YtekbdbcomfleeaaDc
namespace Go.Proofs.Ytekbdbcomfleeaa
open Go.RowKit

/-- A list of cards of the call's own, from a block on. -/
def CardsFrom (B : Nat) (w : World) (v : Value) (l : List CardL) : Prop :=
  (∃ xa cap, v = .slice xa 0 cap ∧ l = []) ∨ ∃ b off cap, v = .slice (some ⟨b, off, none⟩) l.length cap ∧ B ≤ b ∧ b < w.heap.size ∧ ∀ i (h : i < l.length), ∃ ya yn yc, w.cell? ⟨b, off + i * 7, none⟩ = some (.int .i64 l[i].kind) ∧ w.cell? ⟨b, off + i * 7 + 1, none⟩ = some (.int .i64 l[i].cost) ∧ w.cell? ⟨b, off + i * 7 + 2, none⟩ = some (.int .i64 l[i].power) ∧ w.cell? ⟨b, off + i * 7 + 3, none⟩ = some (.int .i64 l[i].tough) ∧
    w.cell? ⟨b, off + i * 7 + 4, none⟩ = some (.int .i64 l[i].keys) ∧ w.cell? ⟨b, off + i * 7 + 5, none⟩ = some (.int .i64 l[i].whn) ∧ w.cell? ⟨b, off + i * 7 + 6, none⟩ = some (.slice ya yn yc) ∧ TermsFrom B w (.slice ya yn yc) l[i].terms
theorem CardsFrom.mono {B B' : Nat} {w : World} {v : Value} {l : List CardL} (h : CardsFrom B w v l) (hB : B' ≤ B) : CardsFrom B' w v l := by
  rcases h with h | ⟨b, off, cap, rfl, h1, h2, hc⟩
  · exact .inl h
  · refine .inr ⟨b, off, cap, rfl, Nat.le_trans hB h1, h2, fun i hi => ?_⟩
    obtain ⟨ya, yn, yc, c0, c1, c2, c3, c4, c5, c6, ht⟩ := hc i hi
    exact ⟨ya, yn, yc, c0, c1, c2, c3, c4, c5, c6, ht.mono hB⟩
theorem CardsFrom.drew {B : Nat} {w : World} {v : Value} {l : List CardL} (h : CardsFrom B w v l) : CardsFrom B w.drew v l := by
  rcases h with h | ⟨b, off, cap, rfl, h1, h2, hc⟩
  · exact .inl h
  · refine .inr ⟨b, off, cap, rfl, h1, h2, fun i hi => ?_⟩
    obtain ⟨ya, yn, yc, c0, c1, c2, c3, c4, c5, c6, ht⟩ := hc i hi
    exact ⟨ya, yn, yc, c0, c1, c2, c3, c4, c5, c6, ht.drew⟩
theorem CardsFrom.setCell {B : Nat} {w : World} {v : Value} {l : List CardL} {p : Addr} (h : CardsFrom B w v l) (hp : p.block < B) (u : Value) : CardsFrom B (w.setCell p u) v l := by
  rcases h with h | ⟨b, off, cap, rfl, h1, h2, hc⟩
  · exact .inl h
  · have far : ∀ j x, w.cell? ⟨b, j, none⟩ = some x → (w.setCell p u).cell? ⟨b, j, none⟩ = some x := fun j x hx => by
      rw [World.cell?_of_block (w := w) (a := ⟨b, j, none⟩) (heap_setCell_other w p b u (by omega))]
      exact hx
    refine .inr ⟨b, off, cap, rfl, h1, by simpa using h2, fun i hi => ?_⟩
    obtain ⟨ya, yn, yc, c0, c1, c2, c3, c4, c5, c6, ht⟩ := hc i hi
    exact ⟨ya, yn, yc, far _ _ c0, far _ _ c1, far _ _ c2, far _ _ c3, far _ _ c4, far _ _ c5, far _ _ c6, ht.setCell hp u⟩
theorem CardsFrom.none (B : Nat) (w : World) : CardsFrom B w (.slice none 0 0) [] := .inl ⟨Option.none, 0, rfl, rfl⟩
def Val_d (xa : Option Addr) (xn : Nat) (xc : Nat) : Value := .slice xa xn xc
/-- A call ends with a value, a place and an error; beside an error the value and the place are whatever they are. -/
def Post_d (w : World) (d : List CardL) (m n : Int) (e : Ending) (w' : World) : Prop :=
  ∃ (xa : Option Addr) (xn : Nat) (xc : Nat) (m' : Int), e = .returned (.tuple #[Val_d xa xn xc, .int .i64 m', .int .i64 n]) ∧ (n = 0 → m' = m ∧ CardsFrom (w.heap.size) w' (.slice xa xn xc) d) ∧ Below w.heap.size w w'
/-- A call of Next ends with a value, a place and an error. -/
def Ret_d (w : World) (d : List CardL) (m n : Int) (e : Ending) (w' : World) : Prop :=
  ∃ (xa : Option Addr) (xn : Nat) (xc : Nat), e = .returned (.tuple #[Val_d xa xn xc, .int .i64 m, .int .i64 n]) ∧ (CardsFrom (w.heap.size) w' (.slice xa xn xc) d) ∧ Below w.heap.size w w'

theorem nd_d (p q r s u : Option Addr) (w : World) :
    CallsD Try.prog 79 #[.pointer p, .pointer q, .pointer r, .pointer s, .pointer u] .returning w fun e u' w' => e = .returned (.tuple #[]) ∧ u' = .returning ∧ w' = w := by
  refine callsD_of_wpS Try.func79 rfl fun c₀ cs hu => ?_
  apply wpS_seq
  apply wpS_region
  simp [wpOpsS, go_sem, recoverD, hu, Try.ntmps79, Exit.thenS]
  refine wpS_cond (t := false) (by simp [Act.eval, Array.replicate]) ?_
  simp only [Bool.false_eq_true, if_false]
  refine wpS_of_wp (wp_skip ?_)
  cases c₀
  simp_all [bodyPostS, results, Try.results79]

theorem leave_d (tmps : Array Value) (b6 b7 b8 : Nat) (xa : Option Addr) (xn : Nat) (xc : Nat) (m n : Int) (R : Ending → World → Prop) (W : World)
    (h6 : tmps[6]? = some (.pointer (some ⟨b6, 0, none⟩))) (h7 : tmps[7]? = some (.pointer (some ⟨b7, 0, none⟩))) (h8 : tmps[8]? = some (.pointer (some ⟨b8, 0, none⟩)))
    (c6_0 : W.cell? ⟨b6, 0, none⟩ = some (.slice xa xn xc)) (c7 : W.cell? ⟨b7, 0, none⟩ = some (.int .i64 m)) (c8 : W.cell? ⟨b8, 0, none⟩ = some (.int .i64 n))
    (hR : R (.returned (.tuple #[Val_d xa xn xc, .int .i64 m, .int .i64 n])) W) : Leaves Try.prog Try.f53 tmps R [] .returning W := by
  refine ⟨_, ?_, hR⟩
  simp [Val_d, results, Try.results53, go_sem, h6, h7, h8, c6_0, c7, c8]

set_option maxRecDepth 100000 in
set_option maxHeartbeats 4000000 in
theorem nexty_d (k : Nat) (hk : Enters k) (first cap : Array Value) (v0 : Fn) (fi0 ca0 : Array Value) (s : ByteArray) (a : Nat) (d : List CardL) (m : Int) (w : World) (_ha : a ≤ s.size) (_hs : s.size ≤ maxLen)
    (hc : ∀ w1, Below w.heap.size w w1 → Calls Try.prog k (first ++ (#[.string s, .int .i64 a] ++ cap)) w1 (Post_d w1 d m 0)) :
    Calls Try.prog 53 #[.agg #[.func v0 fi0 ca0, .func (.func k) first cap], .string s, .int .i64 a] w (Ret_d w d m 0) := by
  have hmf := @mk_func
  have hkk := hk.out
  unfold maxLen at _hs
  have HC := Lib.hid hc
  have hd : decide ((a : Int) < 0) = false := by simp
  clear hc
  go_enter_defers Try.func53, Try.ntmps53
  go_wp2_with (go_at_call 51; refine (none_d _ _ _ _ _).mono ?_; rintro e w' ⟨rfl, rfl⟩)
  refine (HC.out _ ((((((((Below.refl _ _).alloc (Nat.le_refl _) _).alloc (by simp) _).alloc (by simp; omega) _).alloc (by simp; omega) _).alloc (by simp; omega) _).alloc (by simp; omega) _).alloc (by simp; omega) _)).mono ?_
  rintro e w2 ⟨xa, xn, xc, m', rfl, hq, hb⟩
  unfold Val_d
  have HQ := Lib.hid hq
  have hcells := bcell hb
  have hz := hb.size
  simp at hz
  have hbase : Below w.heap.size w w2 := ((((((((Below.refl _ _).alloc (Nat.le_refl _) _).alloc (by simp) _).alloc (by simp; omega) _).alloc (by simp; omega) _).alloc (by simp; omega) _).alloc (by simp; omega) _).alloc (by simp; omega) _).trans (hb.mono (by simp; omega))
  have HB := Lib.hid hbase
  have C1 := Lib.hid (show w2.cell? ⟨w.heap.size + 1, 0, none⟩ = some (.int .i64 a) by rw [hcells.1 _ _ (by simp)]; simp [go_sem])
  have C2_0 := Lib.hid (show w2.cell? ⟨w.heap.size + 1 + 1, 0, none⟩ = some (.slice none 0 0) by rw [hcells.1 _ _ (by simp)]; simp [go_sem])
  have C3 := Lib.hid (show w2.cell? ⟨w.heap.size + 1 + 1 + 1, 0, none⟩ = some (.int .i64 0) by rw [hcells.1 _ _ (by simp)]; simp [go_sem])
  have C4 := Lib.hid (show w2.cell? ⟨w.heap.size + 1 + 1 + 1 + 1, 0, none⟩ = some (.int .i64 0) by rw [hcells.1 _ _ (by simp)]; simp [go_sem])
  have C5_0 := Lib.hid (show w2.cell? ⟨w.heap.size + 1 + 1 + 1 + 1 + 1, 0, none⟩ = some (.slice none 0 0) by rw [hcells.1 _ _ (by simp)]; simp [go_sem])
  clear hbase hb hq
  obtain ⟨hm', hq'⟩ := HQ.out rfl
  have HM := Lib.hid hm'
  have HK := Lib.hid hq'
  clear hm' hq' HQ
  have HK7 : Hid (CardsFrom (w.heap.size + 7) w2 (.slice xa xn xc) d) := Lib.hid ((HK.out).mono (by simp))
  go_wp2
  go_region
  all_goals go_wp2
  all_goals refine leaves_cons (f := 79) (args := #[.pointer (some ⟨w.heap.size + 1 + 1 + 1 + 1 + 1, 0, none⟩), .pointer (some ⟨w.heap.size + 1, 0, none⟩), .pointer (some ⟨w.heap.size + 1 + 1, 0, none⟩), .pointer (some ⟨w.heap.size + 1 + 1 + 1, 0, none⟩), .pointer (some ⟨w.heap.size + 1 + 1 + 1 + 1, 0, none⟩)]) (by simp) (by simp [go_sem]) ?_
  all_goals refine (nd_d _ _ _ _ _ _).mono ?_
  all_goals rintro e u' w'' ⟨rfl, rfl, rfl⟩
  all_goals refine leave_d _ (w.heap.size + 1 + 1) (w.heap.size + 1 + 1 + 1) (w.heap.size + 1 + 1 + 1 + 1) xa xn xc m' 0 _ _ rfl rfl rfl ?_ ?_ ?_ ⟨xa, xn, xc, by rw [HM.out], ?_, ?_⟩
  all_goals first | (with_reducible refine CardsFrom.mono (B := w.heap.size + 7) ?_ (by omega); with_reducible refine CardsFrom.drew ?_; repeat (first | with_reducible exact HK7.out | with_reducible refine CardsFrom.setCell ?_ (by dsimp only; omega) _)) | (with_reducible refine Below.drew ?_; repeat (first | with_reducible exact HB.out | with_reducible refine Below.setCell ?_ (by dsimp only; omega) _)) | (simp [C2_0.out, C3.out, C4.out, World.cell?_setCell_other, isSome_setCell, go_sem]; done)

set_option maxRecDepth 100000 in
set_option maxHeartbeats 4000000 in
theorem nextn_d (k : Nat) (hk : Enters k) (first cap : Array Value) (v0 : Fn) (fi0 ca0 : Array Value) (s : ByteArray) (a : Nat) (d : List CardL) (m n : Int) (h0 : n ≠ 0) (w : World) (_ha : a ≤ s.size) (_hs : s.size ≤ maxLen)
    (hc : ∀ w1, Below w.heap.size w w1 → Calls Try.prog k (first ++ (#[.string s, .int .i64 a] ++ cap)) w1 (Post_d w1 d m n)) :
    Calls Try.prog 53 #[.agg #[.func v0 fi0 ca0, .func (.func k) first cap], .string s, .int .i64 a] w (Ret_d w [] a n) := by
  have h0' : (n != 0) = true := by simpa using h0
  clear h0
  have hmf := @mk_func
  have hkk := hk.out
  unfold maxLen at _hs
  have HC := Lib.hid hc
  have hd : decide ((a : Int) < 0) = false := by simp
  clear hc
  go_enter_defers Try.func53, Try.ntmps53
  go_wp2_with (go_at_call 51; refine (none_d _ _ _ _ _).mono ?_; rintro e w' ⟨rfl, rfl⟩)
  refine (HC.out _ ((((((((Below.refl _ _).alloc (Nat.le_refl _) _).alloc (by simp) _).alloc (by simp; omega) _).alloc (by simp; omega) _).alloc (by simp; omega) _).alloc (by simp; omega) _).alloc (by simp; omega) _)).mono ?_
  rintro e w2 ⟨xa, xn, xc, m', rfl, hq, hb⟩
  unfold Val_d
  have HQ := Lib.hid hq
  have hcells := bcell hb
  have hz := hb.size
  simp at hz
  have hbase : Below w.heap.size w w2 := ((((((((Below.refl _ _).alloc (Nat.le_refl _) _).alloc (by simp) _).alloc (by simp; omega) _).alloc (by simp; omega) _).alloc (by simp; omega) _).alloc (by simp; omega) _).alloc (by simp; omega) _).trans (hb.mono (by simp; omega))
  have HB := Lib.hid hbase
  have C1 := Lib.hid (show w2.cell? ⟨w.heap.size + 1, 0, none⟩ = some (.int .i64 a) by rw [hcells.1 _ _ (by simp)]; simp [go_sem])
  have C2_0 := Lib.hid (show w2.cell? ⟨w.heap.size + 1 + 1, 0, none⟩ = some (.slice none 0 0) by rw [hcells.1 _ _ (by simp)]; simp [go_sem])
  have C3 := Lib.hid (show w2.cell? ⟨w.heap.size + 1 + 1 + 1, 0, none⟩ = some (.int .i64 0) by rw [hcells.1 _ _ (by simp)]; simp [go_sem])
  have C4 := Lib.hid (show w2.cell? ⟨w.heap.size + 1 + 1 + 1 + 1, 0, none⟩ = some (.int .i64 0) by rw [hcells.1 _ _ (by simp)]; simp [go_sem])
  have C5_0 := Lib.hid (show w2.cell? ⟨w.heap.size + 1 + 1 + 1 + 1 + 1, 0, none⟩ = some (.slice none 0 0) by rw [hcells.1 _ _ (by simp)]; simp [go_sem])
  clear hbase hb hq
  clear HQ
  go_wp2
  go_region
  all_goals go_wp2
  all_goals refine leaves_cons (f := 79) (args := #[.pointer (some ⟨w.heap.size + 1 + 1 + 1 + 1 + 1, 0, none⟩), .pointer (some ⟨w.heap.size + 1, 0, none⟩), .pointer (some ⟨w.heap.size + 1 + 1, 0, none⟩), .pointer (some ⟨w.heap.size + 1 + 1 + 1, 0, none⟩), .pointer (some ⟨w.heap.size + 1 + 1 + 1 + 1, 0, none⟩)]) (by simp) (by simp [go_sem]) ?_
  all_goals refine (nd_d _ _ _ _ _ _).mono ?_
  all_goals rintro e u' w'' ⟨rfl, rfl, rfl⟩
  all_goals refine leave_d _ (w.heap.size + 1 + 1) (w.heap.size + 1 + 1 + 1) (w.heap.size + 1 + 1 + 1 + 1) none 0 0 a n _ _ rfl rfl rfl ?_ ?_ ?_ ⟨none, 0, 0, rfl, .none _ _, ?_⟩
  all_goals first | (with_reducible refine Below.drew ?_; repeat (first | with_reducible exact HB.out | with_reducible refine Below.setCell ?_ (by dsimp only; omega) _)) | (simp [C2_0.out, C3.out, C4.out, World.cell?_setCell_other, isSome_setCell, go_sem]; done)

set_option maxRecDepth 100000 in
set_option maxHeartbeats 2000000 in
theorem nextb_d (v0 : Fn) (fi0 ca0 : Array Value) (v1 : Value) (s : ByteArray) (a : Int) (w : World) (ha : a < 0 ∨ (s.size : Int) < a) (_hs : s.size ≤ maxLen) :
    Calls Try.prog 53 #[.agg #[.func v0 fi0 ca0, v1], .string s, .int .i64 a] w (Ret_d w [] a 1) := by
  have hmf := @mk_func
  unfold maxLen at _hs
  by_cases h0 : a < 0
  · have hd : decide (a < 0) = true := by simpa using h0
    go_enter_defers Try.func53, Try.ntmps53
    go_wp2_with (go_at_call 51; refine (none_d _ _ _ _ _).mono ?_; rintro e w' ⟨rfl, rfl⟩)
    go_region
    all_goals go_wp2
    all_goals refine door_ret ?_
    all_goals refine leave_d _ (w.heap.size + 1 + 1) (w.heap.size + 1 + 1 + 1) (w.heap.size + 1 + 1 + 1 + 1) none 0 0 a 1 _ _ rfl rfl rfl ?_ ?_ ?_ ⟨none, 0, 0, rfl, .none _ _, ?_⟩
    all_goals first | (with_reducible refine Below.drew ?_; repeat (first | with_reducible exact Below.refl _ _ | with_reducible refine Below.alloc ?_ (by simp; try omega) _)) | (simp [go_sem]; done)
  · have hd : decide (a < 0) = false := by simpa using h0
    go_enter_defers Try.func53, Try.ntmps53
    go_wp2_with (go_at_call 51; refine (none_d _ _ _ _ _).mono ?_; rintro e w' ⟨rfl, rfl⟩)
    go_region
    all_goals go_wp2
    all_goals refine door_ret ?_
    all_goals refine leave_d _ (w.heap.size + 1 + 1) (w.heap.size + 1 + 1 + 1) (w.heap.size + 1 + 1 + 1 + 1) none 0 0 a 1 _ _ rfl rfl rfl ?_ ?_ ?_ ⟨none, 0, 0, rfl, .none _ _, ?_⟩
    all_goals first | (with_reducible refine Below.drew ?_; repeat (first | with_reducible exact Below.refl _ _ | with_reducible refine Below.alloc ?_ (by simp; try omega) _)) | (simp [go_sem]; done)
end Go.Proofs.Ytekbdbcomfleeaa

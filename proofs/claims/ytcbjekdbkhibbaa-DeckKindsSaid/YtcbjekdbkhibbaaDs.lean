/- The function value of deck.Of as an iterator, whatever the loop's body keeps of what lies there, the numbers told with a property (layer 3). -/
import Derived.Test.YtcbjekdbkhibbaaDj
namespace Go.Proofs.Ytcbjekdbkhibbaa
open Go.RowKit

set_option maxRecDepth 100000 in
set_option maxHeartbeats 2000000 in
theorem of2_in (F : Fence) (n : Nat) (h7 : F.fn 128) (hro : F.round = none) (hn : 1 ≤ n) (l q : Nat) (xa : Option Addr) (xc : Nat) {p : Int → Prop} (zs : List {x : Int // p x}) (hz : zs.length ≤ 1000) (Kp : World → World → Prop) (hKr : ∀ A, Kp A A) (hKt : ∀ {A B C : World}, Kp A B → Kp B C → Kp A C)
    (hKc : ∀ {A B : World}, Kp A B → ∀ b o, (∃ o', xa = some ⟨b, o', none⟩) → 0 < zs.length → b < A.heap.size → B.cell? ⟨b, o, none⟩ = A.cell? ⟨b, o, none⟩) (J Jx : List {x : Int // p x} → World → Prop)
    (hY : ∀ pre x W, J pre W → pre.length < zs.length → YieldAt F (n - 1) Try.prog l #[.int .i64 x.1] W fun e W' =>
      (e = .returned (.bool true) ∧ J (pre ++ [x]) W' ∧ Kp W W') ∨ (e = .returned (.bool false) ∧ Jx (pre ++ [x]) W'))
    (W : World) (hq : W.cell? ⟨q, 0, none⟩ = some (.slice xa zs.length xc)) (hI : IntsAt W (.slice xa zs.length xc) (zs.map (·.1))) (h0 : J [] W) :
    CallsIn F n Try.prog 128 #[.func (.yield l) #[] #[], .pointer (some ⟨q, 0, none⟩)] W fun e W' => (∃ v, e = .returned v) ∧
      ((∃ ys, ys = zs ∧ J ys W') ∨ (∃ pre, pre <+: zs ∧ Jx pre W')) := by
  have HI := Lib.hid hI
  have HY := Lib.hid hY
  clear hI hY
  refine callsIn_of_wp Try.func128 rfl h7 ?_ hro
  simp only [Try.ntmps128, List.size_toArray, List.length_cons, List.length_nil, Nat.reduceAdd, Nat.reduceSub, Array.replicate_succ, Array.replicate_zero, List.push_toArray, List.append_toArray, List.nil_append, List.cons_append]
  gi_wp2
  gi_loopw [7] (fun i wr => ∃ k : Nat, k ≤ zs.length ∧ i = .int .i64 k ∧ Hid (J (zs.take k) wr ∧ Kp W wr)) (fun i _ => zs.length - (intOf i).toNat)
  case atStart => exact ⟨0, Nat.zero_le _, rfl, Lib.hid ⟨h0, hKr _⟩⟩
  case round =>
    obtain ⟨k, hk, rfl, HJ⟩ := hrel
    by_cases hlt : k < zs.length
    · obtain ⟨b, off, rfl, c0⟩ := IntsAt.at (l := zs.map (·.1)) (by rw [List.length_map]; exact HI.out) k (by rw [List.length_map]; exact hlt)
      rw [List.getElem_map] at c0
      have c1 : wr.cell? ⟨b, off + k, none⟩ = some (.int .i64 zs[k].1) := (hKc HJ.out.2 b (off + k) ⟨off, rfl⟩ (by omega) (World.block_lt_of_cell? _ _ c0)).trans c0
      have htk := take_last zs k hlt
      obtain ⟨x, hx⟩ : ∃ x, zs[k] = x := ⟨_, rfl⟩
      rw [hx] at c1 htk
      have HTK := Lib.hid htk
      have HLT := Lib.hid hlt
      clear hx c0 htk
      obtain ⟨fn, tmps, assign, body, hy, hR⟩ := HY.out _ x wr HJ.out.1 (by rw [List.length_take]; omega)
      have d0 : (0 : Int) ≤ k := by omega
      have d1 : (k : Int) < zs.length := by omega
      gi_wp2
      refine hR.mono ?_
      rintro e W3 (⟨rfl, hJ3, hk3⟩ | ⟨rfl, hJx3⟩)
      · have HJ3 := Lib.hid (And.intro hJ3 hk3)
        clear hJ3 hk3
        gi_wp2
        go_roundw
        case rel => exact ⟨k + 1, by have := HLT.out; omega, by go_num, Lib.hid ⟨by rw [HTK.out]; exact HJ3.out.1, hKt HJ.out.2 HJ3.out.2⟩⟩
        case measure => have := HLT.out; simp [intOf]; omega
      · have HJ3 := Lib.hid hJx3
        clear hJx3
        gi_wp2
        refine bodyPost_ret (results_none rfl _ _ _) rfl ?_
        exact ⟨⟨_, rfl⟩, .inr ⟨_, List.take_prefix (k + 1) zs, by rw [HTK.out]; exact HJ3.out⟩⟩
    · obtain rfl : k = zs.length := by omega
      have HJ4 := Lib.hid HJ.out.1
      rw [List.take_length] at HJ4
      gi_wp2
      go_end0
      exact ⟨⟨_, rfl⟩, .inl ⟨_, rfl, HJ4.out⟩⟩

/-- What lay below n₀ lies as it lay, but for one block. -/
def KeptBut (n₀ s : Nat) (A B : World) : Prop := A.heap.size ≤ B.heap.size ∧ ∀ k, k < n₀ → k ≠ s → B.heap[k]? = A.heap[k]?
theorem KeptBut.refl (n₀ s : Nat) (A : World) : KeptBut n₀ s A A := ⟨Nat.le_refl _, fun _ _ _ => rfl⟩
theorem KeptBut.trans {n₀ s : Nat} {A B C : World} (h : KeptBut n₀ s A B) (k : KeptBut n₀ s B C) : KeptBut n₀ s A C := ⟨Nat.le_trans h.1 k.1, fun i hi hs => (k.2 i hi hs).trans (h.2 i hi hs)⟩
theorem KeptBut.put {n₀ s : Nat} {w : World} (hn : n₀ ≤ w.heap.size) (W : World) (l : Nat) (o o' : Obj) (hl : w.heap.size ≤ l) (_ : W.heap[l]? = some o) (_ : o.isCells = false) (_ : o.isWalk = false) : KeptBut n₀ s W (W.putObj l o') :=
  ⟨by simp, fun k hk _ => World.putObj_heap_other (by omega)⟩
theorem of_stops2 (F : Fence) (n : Nat) (h7 : F.fn 128) (hro : F.round = none) (hn : 1 ≤ n) (q s n₀ : Nat) {p : Int → Prop} (zs : List {x : Int // p x}) (hz : zs.length ≤ 1000) (w : World) (hv : VarI w q (zs.map (·.1))) (hs : s < q) (hn₀ : n₀ = w.heap.size) :
    SeqStopsK F n Try.prog 128 #[.pointer (some ⟨q, 0, none⟩)] (fun x : {x : Int // p x} => #[Value.int .i64 x.1]) (KeptBut n₀ s) (fun ys => ys = zs) (fun pre => pre <+: zs) zs.length w := fun l J Jx W hW _ _ hY h0 => by
  subst hn₀
  have hvW := hv.later hW
  obtain ⟨_, _, v0, hc0, ho0⟩ := hv
  obtain ⟨v, hc, hi⟩ := hvW.ints
  obtain ⟨xa, xc, rfl⟩ := hi.form
  have hveq : v0 = .slice xa (zs.map (·.1)).length xc := by
    have := (cell_stays hW hc0).symm.trans hc
    injection this
  subst hveq
  rw [List.length_map] at hc hi
  refine of2_in F n h7 hro hn l q xa xc zs hz _ (KeptBut.refl _ _) (fun h k => h.trans k) ?_ J Jx hY W hc hi h0
  rintro A B hAB b o ⟨o', rfl⟩ hpos _
  have hb : q + 1 ≤ b ∧ b < w.heap.size := by
    rcases ho0.2 with ⟨h1, h2⟩ | ⟨g, cap, cur, h1, h2, h3, _⟩
    · cases h1
    · injection h1 with h1 _ _
      injection h1 with h1
      injection h1 with h1 _
      subst h1
      exact ⟨h2, (Array.getElem?_eq_some_iff.1 h3).1⟩
  exact World.cell?_of_block (w := A) (a := ⟨b, o, none⟩) (hAB.2 b hb.2 (by omega))
end Go.Proofs.Ytcbjekdbkhibbaa

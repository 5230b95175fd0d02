/- A team's seats; the library's Equal and Clone at what teams share; Copy, Same (layer 9). -/
import Derived.Test.YtciieodmihgpgaaTe
import Derived.Laws.StructEq
import Derived.Deep.RegionHeld3
namespace Go.Proofs.Ytciieodmihgpgaa
open Go.RowKit

set_option maxRecDepth 100000 in
set_option maxHeartbeats 4000000 in
theorem tin_any {w : World} {lo b s r : Nat} {T : TeamL} (h : TeamAt w lo b s r T) (y : Int) : Calls Try.prog 10 #[.pointer (some ⟨b, 0, none⟩), .int .i64 y] w (RetList w (seatsT T y)) := by
  unfold seatsT
  have HL := Lib.hid (tseats_any h)
  have hn4 := h.n1.2
  obtain ⟨c1, c2, k0, _⟩ := h.heads
  have HK := Lib.hid k0
  have HS := Lib.hid h.sd
  obtain ⟨p, hp⟩ : ∃ p : Nat → Bool, (fun n : Nat => ofT T n == y) = p := ⟨_, rfl⟩
  have HP := Lib.hid (fun (n : Nat) (hn : n < T.sides.length) => show p n = (T.sides[n] == y) by rw [← hp]; simp [ofT, List.getD, hn])
  rw [hp]
  obtain ⟨SL, hSL⟩ : ∃ SL, T.sides = SL := ⟨_, rfl⟩
  rw [hSL] at HL HK hn4
  have HS2 : Hid (s < w.heap.size ∧ ∀ k (h : k < SL.length), w.cell? ⟨s, k, none⟩ = some (.int .i64 SL[k])) := Lib.hid (by subst hSL; exact HS.out)
  have HP2 : Hid (∀ (n : Nat) (hn : n < SL.length), p n = (SL[n] == y)) := Lib.hid (by subst hSL; exact HP.out)
  rw [hSL]
  clear h k0 hp HS HP hSL
  go_enter Try.func10, Try.ntmps10
  go_wp2_with fail
  refine HL.out.mono ?_
  rintro e w1 ⟨rfl, rfl⟩
  go_wp2
  go_loopw [5, 9] (fun v i wr => ∃ k : Nat, k ≤ SL.length ∧ i = .int .i64 k ∧ Hid (wr.ownsRow w1.heap.size 3 1 v (upTo p k).length (intsV (upTo p k))) ∧ Hid (Below w1.heap.size w1 wr)) (fun _ i _ => SL.length - (intOf i).toNat)
  case atStart => exact ⟨0, Nat.zero_le _, rfl, Lib.hid (World.ownsRow_nil _ _ _ _), Lib.hid (Below.refl _ _)⟩
  case round =>
    obtain ⟨k, hk, rfl, HW, HB⟩ := hrel
    by_cases hlt : k < SL.length
    · have d0 : decide ((k : Int) < SL.length) = true := decide_eq_true (by omega)
      have d1 : (k : Int) < SL.length := by omega
      have k0 := cell_stays HB.out HK.out
      have c0 := cell_stays HB.out (HS2.out.2 k hlt)
      have hpk := HP2.out k hlt
      have hlen := upTo_len p k
      obtain ⟨L, hL⟩ : ∃ L, upTo p k = L := ⟨_, rfl⟩
      rw [hL] at HW hlen
      obtain ⟨x, hx⟩ : ∃ x, SL[k] = x := ⟨_, rfl⟩
      rw [hx] at c0 hpk
      clear hx
      cases hb : p k with
      | false =>
        have HN := Lib.hid ((upTo_no hb).trans hL)
        have e0 : (x == y) = false := by rw [← hpk, hb]
        clear hb hL hpk
        go_wp2
        go_roundw
        case rel => exact ⟨k + 1, by omega, by go_num, by rw [HN.out]; exact HW, HB⟩
        case measure => simp [intOf]; omega
      | true =>
        have HN := Lib.hid ((upTo_yes hb).trans (by rw [hL]))
        have e0 : (x == y) = true := by rw [← hpk, hb]
        clear hb hL hpk
        go_wp2_with (at_builtin; refine wpList_push rfl _ _ rfl rfl _ L (k : Int) rfl HW.out HB.out rfl (by omega) ?f)
        case f =>
          intro v' w' h3 h4
          have H3 := Lib.hid (show w'.ownsRow w1.heap.size 3 1 v' (upTo p (k + 1)).length (intsV (upTo p (k + 1))) from by rw [HN.out, List.length_append]; exact h3)
          have H4 := Lib.hid h4
          clear h3 h4
          go_wp2
          go_roundw
          case rel => exact ⟨k + 1, by omega, by go_num, H3, H4⟩
          case measure => simp [intOf]; omega
    · obtain rfl : k = SL.length := by omega
      go_wp2
      go_ret
      exact ⟨_, rfl, HW.out, HB.out⟩

set_option maxHeartbeats 4000000 in
theorem eqShare (n : Nat) (a0 c0 a1 c1 : Int) (a2 c2 : Bool) (w : World) : (Op.equalIn (n + 2) 60 (.agg #[.int .i64 a0, .int .i64 a1, .bool a2]) (.agg #[.int .i64 c0, .int .i64 c1, .bool c2])).run Try.prog w = .ok (a0 == c0 && (a1 == c1 && (a2 == c2))) w := by
  have uI := Try.underlying3
  have gI := Try.isAgg3
  have zI := Try.sizeOf3
  have uB := Try.underlying4
  have gB := Try.isAgg4
  have zB := Try.sizeOf4
  have hS : Try.prog.underlying 60 = some (.struct (Try.prog.fieldsOf 60)) := by kernel_rfl
  rw [run_equalIn_agg w (n + 1) 60 _ _ hS (by kernel_rfl)]
  simp only [Program.fieldsOf, Try.underlying60]
  go_simp
  by_cases h0 : a0 = c0
  · subst h0
    by_cases h1 : a1 = c1
    · subst h1
      by_cases h2 : a2 = c2
      · subst h2
        simp
      · simp [h2]
    · simp [h1]
  · simp [h0]
theorem neqShare (a0 c0 a1 c1 : Int) (a2 c2 : Bool) (w : World) : (binOp .neq 60 (.agg #[.int .i64 a0, .int .i64 a1, .bool a2]) (.agg #[.int .i64 c0, .int .i64 c1, .bool c2])).run Try.prog w = .ok (.bool (!(a0 == c0 && (a1 == c1 && (a2 == c2))))) w := by
  rw [run_neq_struct, eqShare 9998]
  rfl
theorem neqgS (x y : Operand) (xs ys : Array Value) (W : World) : (eqGuard .neq 60 x y (.agg xs) (.agg ys)).run Try.prog W = .ok () W := run_eqGuard_agg W .neq 60 x y xs ys (by kernel_rfl)
def eqS (x y : ShareL) : Bool := x.life == y.life && (x.poison == y.poison && (x.lost == y.lost))
theorem eqS_iff (x y : ShareL) : eqS x y = true ↔ x = y := by
  unfold eqS
  obtain ⟨x0, x1, x2⟩ := x
  obtain ⟨y0, y1, y2⟩ := y
  simp only [Bool.and_eq_true, beq_iff_eq, ShareL.mk.injEq]
instance : DecidableEq ShareL := fun x y => decidable_of_iff (eqS x y = true) (eqS_iff x y)
def ShAt (w : World) (r : Nat) (l : List ShareL) : Prop := ∀ n (hn : n < l.length), w.cell? ⟨r, n * 3, none⟩ = some (.int .i64 l[n].life) ∧ w.cell? ⟨r, n * 3 + 1, none⟩ = some (.int .i64 l[n].poison) ∧ w.cell? ⟨r, n * 3 + 2, none⟩ = some (.bool l[n].lost)
end Go.Proofs.Ytciieodmihgpgaa

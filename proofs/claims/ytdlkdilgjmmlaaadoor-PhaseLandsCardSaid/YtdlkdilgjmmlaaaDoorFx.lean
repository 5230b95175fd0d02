/- Contracts of layers 6 to 12 that trig had no use for: drying, wetting, losing, life, poison, what stands in a zone. -/
import Derived.Test.YtdlkdilgjmmlaaaDoorFy
import Derived.Test.YtdlkdilgjmmlaaaDoorFz
import Derived.Test.YtdlkdilgjmmlaaaDoorBi
import Derived.Lib.SliceRun
import Derived.Laws.StructEq
import Derived.Deep.RegionHeld3
import Derived.RangeFuncRecord
import Derived.RangeFuncLeaves
import Derived.RangeFuncFrom
import Derived.Deep.RegionLaw
namespace Go.Proofs.YtdlkdilgjmmlaaaDoor
open Go.RowKit Go.Maps
set_option maxRecDepth 100000 in
set_option maxHeartbeats 2000000 in
theorem draw_out {w : World} {lo : Nat} {g : GhostB} {B : BoardL} (h : BoardAt w lo g B) (k n : Int) (hk : hasT B k = false) : Calls Tryd.prog 44 #[.pointer (some ⟨g.q, 0, none⟩), .int .i64 k, .int .i64 n] w (Same w (.int .i64 0)) := by
  have hh := has11_any h k
  rw [hk] at hh
  have HH := Lib.hid hh
  clear hh h hk
  go_enter Tryd.func44, Tryd.ntmps44
  go_wp2_with fail
  refine HH.out.mono ?_
  rintro e w1 ⟨rfl, rfl⟩
  go_wp2
  go_ret
  exact ⟨rfl, rfl⟩
set_option maxRecDepth 100000 in
set_option maxHeartbeats 4000000 in
theorem tin_any {w : World} {lo b s r : Nat} {T : TeamL} (h : TeamAt w lo b s r T) (y : Int) : Calls Tryd.prog 24 #[.pointer (some ⟨b, 0, none⟩), .int .i64 y] w (RetList w (seatsT T y)) := by
  unfold seatsT
  have HL := Lib.hid (tseats_any h)
  have hn4 := h.n1.2
  obtain ⟨c1, c2, k0, _⟩ := h.heads
  have HK := Lib.hid k0
  have HS := Lib.hid h.sd
  obtain ⟨p, hp⟩ : ∃ p : Nat → Bool, (fun n : Nat => ofT T n == y) = p := ⟨_, rfl⟩
  have HP := Lib.hid (fun (n : Nat) (hn : n < T.sides.length) => show p n = (T.sides[n] == y) by rw [← hp]; simp [ofT, List.getD, hn])
  rw [hp]
  obtain ⟨SL, hSL⟩ : ∃ SL, T.sides = SL := ⟨_, rfl⟩
  rw [hSL] at HL HK hn4
  have HS2 : Hid (s < w.heap.size ∧ ∀ k (h : k < SL.length), w.cell? ⟨s, k, none⟩ = some (.int .i64 SL[k])) := Lib.hid (by subst hSL; exact HS.out)
  have HP2 : Hid (∀ (n : Nat) (hn : n < SL.length), p n = (SL[n] == y)) := Lib.hid (by subst hSL; exact HP.out)
  rw [hSL]
  clear h k0 hp HS HP hSL
  go_enter Tryd.func24, Tryd.ntmps24
  go_wp2_with fail
  refine HL.out.mono ?_
  rintro e w1 ⟨rfl, rfl⟩
  go_wp2
  go_loopw [5, 9] (fun v i wr => ∃ k : Nat, k ≤ SL.length ∧ i = .int .i64 k ∧ Hid (wr.ownsRow w1.heap.size 3 1 v (upTo p k).length (intsV (upTo p k))) ∧ Hid (Below w1.heap.size w1 wr)) (fun _ i _ => SL.length - (intOf i).toNat)
  case atStart => exact ⟨0, Nat.zero_le _, rfl, Lib.hid (World.ownsRow_nil _ _ _ _), Lib.hid (Below.refl _ _)⟩
  case round =>
    obtain ⟨k, hk, rfl, HW, HB⟩ := hrel
    by_cases hlt : k < SL.length
    · have d0 : decide ((k : Int) < SL.length) = true := decide_eq_true (by omega)
      have d1 : (k : Int) < SL.length := by omega
      have k0 := cell_stays HB.out HK.out
      have c0 := cell_stays HB.out (HS2.out.2 k hlt)
      have hpk := HP2.out k hlt
      have hlen := upTo_len p k
      obtain ⟨L, hL⟩ : ∃ L, upTo p k = L := ⟨_, rfl⟩
      rw [hL] at HW hlen
      obtain ⟨x, hx⟩ : ∃ x, SL[k] = x := ⟨_, rfl⟩
      rw [hx] at c0 hpk
      clear hx
      cases hb : p k with
      | false =>
        have HN := Lib.hid ((upTo_no hb).trans hL)
        have e0 : (x == y) = false := by rw [← hpk, hb]
        clear hb hL hpk
        go_wp2
        go_roundw
        case rel => exact ⟨k + 1, by omega, by go_num, by rw [HN.out]; exact HW, HB⟩
        case measure => simp [intOf]; omega
      | true =>
        have HN := Lib.hid ((upTo_yes hb).trans (by rw [hL]))
        have e0 : (x == y) = true := by rw [← hpk, hb]
        clear hb hL hpk
        go_wp2_with (at_builtin; refine wpList_push rfl _ _ rfl rfl _ L (k : Int) rfl HW.out HB.out rfl (by omega) ?f)
        case f =>
          intro v' w' h3 h4
          have H3 := Lib.hid (show w'.ownsRow w1.heap.size 3 1 v' (upTo p (k + 1)).length (intsV (upTo p (k + 1))) from by rw [HN.out, List.length_append]; exact h3)
          have H4 := Lib.hid h4
          clear h3 h4
          go_wp2
          go_roundw
          case rel => exact ⟨k + 1, by omega, by go_num, H3, H4⟩
          case measure => simp [intOf]; omega
    · obtain rfl : k = SL.length := by omega
      go_wp2
      go_ret
      exact ⟨_, rfl, HW.out, HB.out⟩

def touS (S : StoreL) (i : Int) : Int := layZ (creC S i).tough (creO S i).count (creO S i).boost
def deadS (S : StoreL) (i : Int) : Bool := creE S i == 0 && (touS S i == 0 || decide (touS S i ≤ (creO S i).hurt))
end Go.Proofs.YtdlkdilgjmmlaaaDoor

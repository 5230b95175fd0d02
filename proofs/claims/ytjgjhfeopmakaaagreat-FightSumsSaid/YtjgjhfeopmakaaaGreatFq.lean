/- The next team (layer 9). -/
import Derived.Test.YtjgjhfeopmakaaaGreatFx
namespace Go.Proofs.YtjgjhfeopmakaaaGreat
open Go.RowKit Go.Maps
def nextN (T : TeamL) (j : Nat) : Nat := ((List.range T.sh.length).find? fun n => !lostT T ((j + 1 + n) % T.sh.length : Nat)).elim j fun n => (j + 1 + n) % T.sh.length
def nextT (T : TeamL) (k : Int) : Int := if inT T k then (nextN T k.toNat : Int) else -1
theorem find_no {p : Nat → Bool} {m : Nat} (h : ∀ n < m, p n = false) : (List.range m).find? p = none := by
  rw [List.find?_eq_none]
  intro x hx
  simp [h x (List.mem_range.1 hx)]
theorem find_at {p : Nat → Bool} {m k : Nat} (hk : k < m) (h : ∀ n < k, p n = false) (hp : p k = true) : (List.range m).find? p = some k := by
  rw [List.find?_eq_some_iff_append]
  refine ⟨hp, List.range k, (List.range (m - k - 1)).map (· + (k + 1)), ?_, fun a ha => by simp [h a (List.mem_range.1 ha)]⟩
  obtain ⟨d, rfl⟩ : ∃ d, m = k + 1 + d := ⟨m - k - 1, by omega⟩
  rw [show k + 1 + d - k - 1 = d by omega, List.range_add, List.range_succ, List.append_assoc]
  simp [Nat.add_comm]
set_option maxRecDepth 100000 in
set_option maxHeartbeats 4000000 in
theorem tnext_any {w : World} {lo b s r : Nat} {T : TeamL} (h : TeamAt w lo b s r T) (k : Int) : Calls Tryz.prog 17 #[.pointer (some ⟨b, 0, none⟩), .int .i64 k] w (Same w (.int .i64 (nextT T k))) := by
  have HI := Lib.hid (thas_any h k)
  cases hi : inT T k with
  | false =>
    have e : nextT T k = -1 := by simp [nextT, hi]
    rw [hi] at HI
    rw [e]
    clear h hi e
    go_enter Tryz.func17, Tryz.ntmps17
    go_wp2_with fail
    refine HI.out.mono ?_
    rintro e w1 ⟨rfl, rfl⟩
    go_wp2
    go_ret
    exact ⟨rfl, rfl⟩
  | true =>
    obtain ⟨j, rfl, hj⟩ := in_nat hi
    rw [hi] at HI
    have e : nextT T j = nextN T j := by rw [nextT, if_pos hi, Int.toNat_natCast]
    obtain ⟨z, hz⟩ : ∃ z, nextN T j = z := ⟨_, rfl⟩
    rw [e, hz]
    unfold nextN at hz
    obtain ⟨m, hm⟩ : ∃ m, T.sh.length = m := ⟨_, rfl⟩
    have h2 : m ≤ 4 := by rw [← hm]; exact h.n2
    have HL := Lib.hid (tlen_any h)
    have HO := Lib.hid (fun x : Nat => show Calls Tryz.prog 40 #[.pointer (some ⟨b, 0, none⟩), .int .i64 (((j : Int) + 1 + x) % m)] w (Same w (.bool (lostT T ((j + 1 + x) % m : Nat)))) from by
      have := tlost_any h ((j + 1 + x) % m : Nat)
      rwa [show (((j + 1 + x) % m : Nat) : Int) = ((j : Int) + 1 + x) % m by push_cast; rfl] at this ⊢)
    rw [hm] at HL hj hz
    have HZ := Lib.hid hz
    clear h hi e hm hz
    go_enter Tryz.func17, Tryz.ntmps17
    go_wp2_with fail
    refine HI.out.mono ?_
    rintro e w1 ⟨rfl, rfl⟩
    go_wp2_with fail
    refine HL.out.mono ?_
    rintro e w2 ⟨rfl, rfl⟩
    go_wp2
    go_loop [13] (fun i => ∃ k : Nat, k ≤ m ∧ i = .int .i64 k ∧ Hid (∀ n < k, (!lostT T ((j + 1 + n) % m : Nat)) = false)) (fun i => m - (intOf i).toNat)
    case atStart => exact ⟨0, Nat.zero_le _, rfl, Lib.hid (fun n hn => by omega)⟩
    case round =>
      obtain ⟨k, hk, rfl, HN⟩ := hrel
      by_cases hlt : k < m
      · have d0 : decide ((k : Int) < m) = true := decide_eq_true (by omega)
        have hmz : (m : Int) ≠ 0 := by omega
        have HC := Lib.hid (HO.out k)
        cases hb : lostT T ((j + 1 + k) % m : Nat) with
        | true =>
          have HN2 := Lib.hid (show ∀ n < k + 1, (!lostT T ((j + 1 + n) % m : Nat)) = false from fun n hn => by
            by_cases hnk : n < k
            · exact HN.out n hnk
            · obtain rfl : n = k := by omega
              rw [hb]; rfl)
          rw [hb] at HC
          clear hb
          go_wp2_with fail
          refine HL.out.mono ?_
          rintro e w3 ⟨rfl, rfl⟩
          go_wp2_with fail
          refine HC.out.mono ?_
          rintro e w4 ⟨rfl, rfl⟩
          go_wp2
          go_round
          case rel => exact ⟨k + 1, by omega, by go_num, HN2⟩
          case measure => simp [intOf]; omega
        | false =>
          have HF := Lib.hid (find_at (p := fun n => !lostT T ((j + 1 + n) % m : Nat)) hlt HN.out (by rw [hb]; rfl))
          rw [hb] at HC
          clear hb
          go_wp2_with fail
          refine HL.out.mono ?_
          rintro e w3 ⟨rfl, rfl⟩
          go_wp2_with fail
          refine HC.out.mono ?_
          rintro e w4 ⟨rfl, rfl⟩
          go_wp2
          go_ret
          exact ⟨ret_int (by rw [← HZ.out, HF.out]; show _ = (((j + 1 + k) % m : Nat) : Int); push_cast; rfl), rfl⟩
      · obtain rfl : k = m := by omega
        have HF := Lib.hid (find_no HN.out)
        go_wp2
        go_ret
        exact ⟨ret_int (by rw [← HZ.out, HF.out]; rfl), rfl⟩
end Go.Proofs.YtjgjhfeopmakaaaGreat

/- The contract of slices.Equal at lists of terms (layer 2, card uses it): whether two lists are one. -/
import Derived.Test.YtmmjhhfdloenbaaRs
namespace Go.Proofs.Ytmmjhhfdloenbaa
open Go.RowKit

theorem eqTerms (n : Nat) (a b c a' b' c' : Int) (w : World) : (Op.equalIn (n + 2) 81 (.agg #[.int .i64 a, .int .i64 b, .int .i64 c]) (.agg #[.int .i64 a', .int .i64 b', .int .i64 c'])).run Try.prog w = .ok (a == a' && (b == b' && c == c')) w := by
  have u3 := Try.underlying3
  have a3 := Try.isAgg3
  have z3 := Try.sizeOf3
  have hS : Try.prog.underlying 81 = some (.struct (Try.prog.fieldsOf 81)) := by kernel_rfl
  rw [run_equalIn_agg w (n + 1) 81 _ _ hS (by kernel_rfl)]
  simp only [Program.fieldsOf, Try.underlying81]
  go_simp
  by_cases h1 : a = a' <;> by_cases h2 : b = b' <;> by_cases h3 : c = c' <;> simp [h1, h2, h3]
theorem neqTerms (a b c a' b' c' : Int) (w : World) : (binOp .neq 81 (.agg #[.int .i64 a, .int .i64 b, .int .i64 c]) (.agg #[.int .i64 a', .int .i64 b', .int .i64 c'])).run Try.prog w = .ok (.bool (!(a == a' && (b == b' && c == c')))) w := by
  rw [run_neq_struct, eqTerms 9998]
  rfl
theorem neqgT (x y : Operand) (xs ys : Array Value) (W : World) : (eqGuard .neq 81 x y (.agg xs) (.agg ys)).run Try.prog W = .ok () W := run_eqGuard_agg W .neq 81 x y xs ys (by kernel_rfl)

set_option maxRecDepth 100000 in
set_option maxHeartbeats 4000000 in
theorem equal_any {v u : Value} {l r : List TermL} {w : World} (hl : TermsIs w v l) (hr : TermsIs w u r) (hn : l.length ≤ 9223372036854775807) :
    Calls Try.prog 107 #[v, u] w fun e w' => e = .returned (.bool (sameL l r)) ∧ ∃ n, w' = w.drewN n := by
  have hv : ∃ xa xc, v = .slice xa l.length xc := by
    rcases hl with ⟨_, _, rfl, rfl⟩ | ⟨b, off, cap, rfl, _⟩
    · exact ⟨_, _, rfl⟩
    · exact ⟨_, _, rfl⟩
  have hu : ∃ xa xc, u = .slice xa r.length xc := by
    rcases hr with ⟨_, _, rfl, rfl⟩ | ⟨b, off, cap, rfl, _⟩
    · exact ⟨_, _, rfl⟩
    · exact ⟨_, _, rfl⟩
  obtain ⟨xa, xc, rfl⟩ := hv
  obtain ⟨ya, yc, rfl⟩ := hu
  have HL := Lib.hid hl
  have HR := Lib.hid hr
  clear hl hr
  by_cases hne : l.length ≠ r.length
  · have d : ((l.length : Int) != r.length) = true := bne_iff_ne.2 (by omega)
    have HS := Lib.hid (sameL_len hne)
    clear hne
    go_enter Try.func107, Try.ntmps107
    go_wp2
    go_ret
    exact ⟨ret_bool HS.out.symm, 0, rfl⟩
  have heq : l.length = r.length := Classical.not_not.1 hne
  have d : ((l.length : Int) != r.length) = false := by rw [heq]; exact bne_self_eq_false _
  have HQ := Lib.hid heq
  clear hne heq
  have h1 := @neqTerms
  have h2 := @neqgT
  go_enter Try.func107, Try.ntmps107
  go_wp2
  go_loopw [13] (fun i wr => ∃ k n : Nat, k ≤ l.length ∧ i = .int .i64 k ∧ wr = w.drewN n ∧ Hid (l.take k = r.take k)) (fun i _ => l.length - (intOf i).toNat)
  case atStart => exact ⟨0, 0, Nat.zero_le _, rfl, rfl, Lib.hid rfl⟩
  case round =>
    obtain ⟨k, n, hk, rfl, rfl, HK⟩ := hrel
    by_cases hlt : k < l.length
    · have hlt2 : k < r.length := by have := HQ.out; omega
      obtain ⟨p, o, rfl, x0, x1, x2⟩ := terms_at HL.out k hlt
      obtain ⟨p', o', rfl, y0, y1, y2⟩ := terms_at HR.out k hlt2
      obtain ⟨E, hE⟩ : ∃ E, (l[k].op == r[k].op && (l[k].n == r[k].n && l[k].on == r[k].on)) = E := ⟨_, rfl⟩
      have hE2 : eqT l[k] r[k] = E := hE
      have h3 := fun W => neqTerms l[k].op l[k].n l[k].on r[k].op r[k].n r[k].on W
      rw [hE] at h3
      clear hE h1
      cases E
      · have HS := Lib.hid (show sameL l r = false from sameL_no k hlt hlt2 (fun e => by rw [(eqT_iff _ _).2 e] at hE2; exact absurd hE2 (by decide)))
        clear hE2
        go_wp2
        go_quiet (fail)
        go_wp2
        go_ret
        exact ⟨ret_bool HS.out.symm, _, World.drewN_drewN _ _ _⟩
      · have HT : Hid (l.take (k + 1) = r.take (k + 1)) := Lib.hid (by
          rw [take_last _ k hlt, take_last _ k hlt2, HK.out, (eqT_iff _ _).1 hE2])
        clear hE2
        go_wp2
        go_quiet (fail)
        go_wp2
        go_roundw
        case rel => exact ⟨k + 1, _, by omega, by go_num, rfl, HT⟩
        case measure => simp [intOf]; omega
    · obtain rfl : k = l.length := by omega
      have HS := Lib.hid (sameL_yes HQ.out HK.out)
      go_wp2
      go_ret
      exact ⟨ret_bool HS.out.symm, _, rfl⟩
end Go.Proofs.Ytmmjhhfdloenbaa

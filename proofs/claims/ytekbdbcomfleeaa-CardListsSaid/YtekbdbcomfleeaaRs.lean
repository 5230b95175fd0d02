/- The document's own answer on whether two cards are one (package hydraref02: Same), walked. -/
import Derived.Test.YtekbdbcomfleeaaCg
namespace Go.Proofs.Ytekbdbcomfleeaa
open Go.RowKit

def eqT (t u : TermL) : Bool := t.op == u.op && (t.n == u.n && t.on == u.on)
def sameL : List TermL → List TermL → Bool
  | [], [] => true
  | t :: l, u :: r => eqT t u && sameL l r
  | _, _ => false
def sameB (a b : CardL) : Bool := a.kind == b.kind && (a.cost == b.cost && (a.power == b.power && (a.tough == b.tough && (a.keys == b.keys && (a.whn == b.whn && sameL a.terms b.terms)))))
theorem eqT_iff (t u : TermL) : eqT t u = true ↔ t = u := by
  obtain ⟨a, b, c⟩ := t
  obtain ⟨a', b', c'⟩ := u
  simp [eqT]
theorem sameL_iff : ∀ l r : List TermL, sameL l r = true ↔ l = r
  | [], [] => by simp [sameL]
  | [], _ :: _ => by simp [sameL]
  | _ :: _, [] => by simp [sameL]
  | t :: l, u :: r => by simp [sameL, eqT_iff, sameL_iff l r]
theorem sameB_iff (a b : CardL) : sameB a b = true ↔ a = b := by
  obtain ⟨a1, a2, a3, a4, a5, a6, a7⟩ := a
  obtain ⟨b1, b2, b3, b4, b5, b6, b7⟩ := b
  simp [sameB, sameL_iff]
theorem sameL_len {l r : List TermL} (h : l.length ≠ r.length) : sameL l r = false := by
  cases hs : sameL l r
  · rfl
  · rw [(sameL_iff l r).1 hs] at h; exact absurd rfl h
theorem sameL_no {l r : List TermL} (k : Nat) (hl : k < l.length) (hr : k < r.length) (h : l[k] ≠ r[k]) : sameL l r = false := by
  cases hs : sameL l r
  · rfl
  · have := (sameL_iff l r).1 hs
    subst this
    exact absurd rfl h
theorem sameL_yes {l r : List TermL} (hn : l.length = r.length) (h : l.take l.length = r.take l.length) : sameL l r = true := by
  rw [List.take_length, hn, List.take_length] at h
  exact (sameL_iff l r).2 h
theorem same_first {a b : CardL} (h1 : a.kind = b.kind) (h2 : a.cost = b.cost) (h3 : a.power = b.power) (h4 : a.tough = b.tough) (h5 : a.keys = b.keys) (h6 : a.whn = b.whn) : sameB a b = sameL a.terms b.terms := by
  simp [sameB, h1, h2, h3, h4, h5, h6]
theorem terms_at {w : World} {xa : Option Addr} {xc : Nat} {l : List TermL} (h : TermsIs w (.slice xa l.length xc) l) (k : Nat) (hk : k < l.length) :
    ∃ b off, xa = some ⟨b, off, none⟩ ∧ w.cell? ⟨b, off + k * 3, none⟩ = some (.int .i64 l[k].op) ∧ w.cell? ⟨b, off + k * 3 + 1, none⟩ = some (.int .i64 l[k].n) ∧ w.cell? ⟨b, off + k * 3 + 2, none⟩ = some (.int .i64 l[k].on) := by
  rcases h with ⟨_, _, h1, h2⟩ | ⟨b, off, cap, h1, h2, h3⟩
  · rw [h2] at hk; simp at hk
  · injection h1 with h1 _ _; exact ⟨b, off, h1, h3 k hk⟩

set_option maxRecDepth 100000 in
set_option maxHeartbeats 16000000 in
theorem refSame_any {a b : CardL} {v u : Value} {w : World} (ha : CardIs w v a) (hb : CardIs w u b) (hla : a.terms.length ≤ 9223372036854775807) (_hlb : b.terms.length ≤ 9223372036854775807) :
    Calls Try.prog 15 #[v, u] w (RetB w (sameB a b)) := by
  obtain ⟨xa, xn, xc, rfl, hta⟩ := ha
  obtain ⟨ya, yn, yc, rfl, htb⟩ := hb
  obtain rfl := CardIs.len hta
  obtain rfl := CardIs.len htb
  have HTA := Lib.hid (hta.later ((below_new w (.cells #[.int .i64 a.kind, .int .i64 a.cost, .int .i64 a.power, .int .i64 a.tough, .int .i64 a.keys, .int .i64 a.whn, .slice xa a.terms.length xc] 24)).alloc (by simp) (.cells #[.int .i64 b.kind, .int .i64 b.cost, .int .i64 b.power, .int .i64 b.tough, .int .i64 b.keys, .int .i64 b.whn, .slice ya b.terms.length yc] 24)))
  have HTB := Lib.hid (htb.later ((below_new w (.cells #[.int .i64 a.kind, .int .i64 a.cost, .int .i64 a.power, .int .i64 a.tough, .int .i64 a.keys, .int .i64 a.whn, .slice xa a.terms.length xc] 24)).alloc (by simp) (.cells #[.int .i64 b.kind, .int .i64 b.cost, .int .i64 b.power, .int .i64 b.tough, .int .i64 b.keys, .int .i64 b.whn, .slice ya b.terms.length yc] 24)))
  have HV := Lib.hid (show Below w.heap.size w ((w.alloc (.cells #[.int .i64 a.kind, .int .i64 a.cost, .int .i64 a.power, .int .i64 a.tough, .int .i64 a.keys, .int .i64 a.whn, .slice xa a.terms.length xc] 24)).alloc (.cells #[.int .i64 b.kind, .int .i64 b.cost, .int .i64 b.power, .int .i64 b.tough, .int .i64 b.keys, .int .i64 b.whn, .slice ya b.terms.length yc] 24)) from (below_new w (.cells #[.int .i64 a.kind, .int .i64 a.cost, .int .i64 a.power, .int .i64 a.tough, .int .i64 a.keys, .int .i64 a.whn, .slice xa a.terms.length xc] 24)).alloc (by simp) (.cells #[.int .i64 b.kind, .int .i64 b.cost, .int .i64 b.power, .int .i64 b.tough, .int .i64 b.keys, .int .i64 b.whn, .slice ya b.terms.length yc] 24))
  clear hta htb
  by_cases t0 : a.kind ≠ b.kind
  · have d0 : (a.kind != b.kind) = true := bne_iff_ne.2 t0
    have HS := Lib.hid (show sameB a b = false by simp [sameB, t0])
    clear t0
    unfold cagg
    go_enter Try.func15, Try.ntmps15
    go_wp2
    go_ret
    exact ⟨ret_bool HS.out.symm, HV.out⟩
  have q0 : a.kind = b.kind := Classical.not_not.1 t0
  have d0 : (a.kind != b.kind) = false := by rw [q0]; exact bne_self_eq_false _
  clear t0
  by_cases t1 : a.cost ≠ b.cost
  · have d1 : (a.cost != b.cost) = true := bne_iff_ne.2 t1
    have HS := Lib.hid (show sameB a b = false by simp [sameB, t1])
    clear t1 q0
    unfold cagg
    go_enter Try.func15, Try.ntmps15
    go_wp2
    go_ret
    exact ⟨ret_bool HS.out.symm, HV.out⟩
  have q1 : a.cost = b.cost := Classical.not_not.1 t1
  have d1 : (a.cost != b.cost) = false := by rw [q1]; exact bne_self_eq_false _
  clear t1
  by_cases t2 : a.power ≠ b.power
  · have d2 : (a.power != b.power) = true := bne_iff_ne.2 t2
    have HS := Lib.hid (show sameB a b = false by simp [sameB, t2])
    clear t2 q0 q1
    unfold cagg
    go_enter Try.func15, Try.ntmps15
    go_wp2
    go_ret
    exact ⟨ret_bool HS.out.symm, HV.out⟩
  have q2 : a.power = b.power := Classical.not_not.1 t2
  have d2 : (a.power != b.power) = false := by rw [q2]; exact bne_self_eq_false _
  clear t2
  by_cases t3 : a.tough ≠ b.tough
  · have d3 : (a.tough != b.tough) = true := bne_iff_ne.2 t3
    have HS := Lib.hid (show sameB a b = false by simp [sameB, t3])
    clear t3 q0 q1 q2
    unfold cagg
    go_enter Try.func15, Try.ntmps15
    go_wp2
    go_ret
    exact ⟨ret_bool HS.out.symm, HV.out⟩
  have q3 : a.tough = b.tough := Classical.not_not.1 t3
  have d3 : (a.tough != b.tough) = false := by rw [q3]; exact bne_self_eq_false _
  clear t3
  by_cases t4 : a.keys ≠ b.keys
  · have d4 : (a.keys != b.keys) = true := bne_iff_ne.2 t4
    have HS := Lib.hid (show sameB a b = false by simp [sameB, t4])
    clear t4 q0 q1 q2 q3
    unfold cagg
    go_enter Try.func15, Try.ntmps15
    go_wp2
    go_ret
    exact ⟨ret_bool HS.out.symm, HV.out⟩
  have q4 : a.keys = b.keys := Classical.not_not.1 t4
  have d4 : (a.keys != b.keys) = false := by rw [q4]; exact bne_self_eq_false _
  clear t4
  by_cases t5 : a.whn ≠ b.whn
  · have d5 : (a.whn != b.whn) = true := bne_iff_ne.2 t5
    have HS := Lib.hid (show sameB a b = false by simp [sameB, t5])
    clear t5 q0 q1 q2 q3 q4
    unfold cagg
    go_enter Try.func15, Try.ntmps15
    go_wp2
    go_ret
    exact ⟨ret_bool HS.out.symm, HV.out⟩
  have q5 : a.whn = b.whn := Classical.not_not.1 t5
  have d5 : (a.whn != b.whn) = false := by rw [q5]; exact bne_self_eq_false _
  clear t5
  have HSF := Lib.hid (same_first q0 q1 q2 q3 q4 q5)
  clear q0 q1 q2 q3 q4 q5
  by_cases t6 : a.terms.length ≠ b.terms.length
  · have d6 : ((a.terms.length : Int) != b.terms.length) = true := bne_iff_ne.2 (by omega)
    have HS := Lib.hid (show sameB a b = false by rw [HSF.out]; exact sameL_len t6)
    clear t6
    unfold cagg
    go_enter Try.func15, Try.ntmps15
    go_wp2
    go_ret
    exact ⟨ret_bool HS.out.symm, HV.out⟩
  have q6 : a.terms.length = b.terms.length := Classical.not_not.1 t6
  have d6 : ((a.terms.length : Int) != b.terms.length) = false := by rw [q6]; exact bne_self_eq_false _
  have HQ := Lib.hid q6
  clear t6 q6
  unfold cagg
  go_enter Try.func15, Try.ntmps15
  go_wp2
  go_loopw [5] (fun i wr => ∃ k n : Nat, k ≤ a.terms.length ∧ i = .int .i64 k ∧ wr = ((w.alloc (.cells #[.int .i64 a.kind, .int .i64 a.cost, .int .i64 a.power, .int .i64 a.tough, .int .i64 a.keys, .int .i64 a.whn, .slice xa a.terms.length xc] 24)).alloc (.cells #[.int .i64 b.kind, .int .i64 b.cost, .int .i64 b.power, .int .i64 b.tough, .int .i64 b.keys, .int .i64 b.whn, .slice ya b.terms.length yc] 24)).drewN n ∧ Hid (a.terms.take k = b.terms.take k)) (fun i _ => a.terms.length - (intOf i).toNat)
  case atStart => exact ⟨0, 0, Nat.zero_le _, rfl, rfl, Lib.hid rfl⟩
  case round =>
    obtain ⟨k, n, hk, rfl, rfl, HK⟩ := hrel
    have hkq := HQ.out
    by_cases hlt : k < a.terms.length
    · have hlt2 : k < b.terms.length := by omega
      clear hkq
      obtain ⟨p, o, rfl, x0, x1, x2⟩ := terms_at HTA.out k hlt
      obtain ⟨p', o', rfl, y0, y1, y2⟩ := terms_at HTB.out k hlt2
      by_cases g0 : a.terms[k].op ≠ b.terms[k].op
      · have e0 : (a.terms[k].op != b.terms[k].op) = true := bne_iff_ne.2 g0
        have HS := Lib.hid (show sameB a b = false by rw [HSF.out]; exact sameL_no k hlt hlt2 (fun e => g0 (by rw [e])))
        clear g0
        go_wp2
        go_quiet (fail)
        go_wp2
        go_ret
        exact ⟨ret_bool HS.out.symm, below_drewN (below_drewN HV.out _) _⟩
      have r0 : a.terms[k].op = b.terms[k].op := Classical.not_not.1 g0
      have e0 : (a.terms[k].op != b.terms[k].op) = false := by rw [r0]; exact bne_self_eq_false _
      have R0 := Lib.hid r0
      clear g0 r0
      by_cases g1 : a.terms[k].n ≠ b.terms[k].n
      · have e1 : (a.terms[k].n != b.terms[k].n) = true := bne_iff_ne.2 g1
        have HS := Lib.hid (show sameB a b = false by rw [HSF.out]; exact sameL_no k hlt hlt2 (fun e => g1 (by rw [e])))
        clear g1
        go_wp2
        go_quiet (fail)
        go_wp2
        go_ret
        exact ⟨ret_bool HS.out.symm, below_drewN (below_drewN HV.out _) _⟩
      have r1 : a.terms[k].n = b.terms[k].n := Classical.not_not.1 g1
      have e1 : (a.terms[k].n != b.terms[k].n) = false := by rw [r1]; exact bne_self_eq_false _
      have R1 := Lib.hid r1
      clear g1 r1
      by_cases g2 : a.terms[k].on ≠ b.terms[k].on
      · have e2 : (a.terms[k].on != b.terms[k].on) = true := bne_iff_ne.2 g2
        have HS := Lib.hid (show sameB a b = false by rw [HSF.out]; exact sameL_no k hlt hlt2 (fun e => g2 (by rw [e])))
        clear g2
        go_wp2
        go_quiet (fail)
        go_wp2
        go_ret
        exact ⟨ret_bool HS.out.symm, below_drewN (below_drewN HV.out _) _⟩
      have r2 : a.terms[k].on = b.terms[k].on := Classical.not_not.1 g2
      have e2 : (a.terms[k].on != b.terms[k].on) = false := by rw [r2]; exact bne_self_eq_false _
      have HT : Hid (a.terms.take (k + 1) = b.terms.take (k + 1)) := Lib.hid (by
        rw [take_last _ k hlt, take_last _ k hlt2, HK.out]
        exact congrArg (fun t => b.terms.take k ++ [t]) ((eqT_iff _ _).1 (by simp [eqT, R0.out, R1.out, r2])))
      clear g2 r2
      go_wp2
      go_quiet (fail)
      go_wp2
      go_roundw
      case rel => exact ⟨k + 1, _, by omega, by go_num, rfl, HT⟩
      case measure => simp [intOf]; omega
    · obtain rfl : k = a.terms.length := by omega
      have HS := Lib.hid (show sameB a b = true by rw [HSF.out]; exact sameL_yes HQ.out HK.out)
      clear hkq
      go_wp2
      go_ret
      exact ⟨ret_bool HS.out.symm, below_drewN HV.out _⟩
end Go.Proofs.Ytekbdbcomfleeaa

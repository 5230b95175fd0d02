/- The contracts of termsFit, castFits and whenFits (layer 2, card), of any card. -/
import Derived.Test.YtekbdbcomfleeaaCe
namespace Go.Proofs.Ytekbdbcomfleeaa
open Go.RowKit

theorem below_new (w : World) (o : Obj) : Below w.heap.size w (w.alloc o) := (Below.refl _ _).alloc (Nat.le_refl _) _
theorem len_zero (n : Nat) : ((n : Int) == 0) = decide (n = 0) := by
  by_cases h : n = 0 <;> simp [h]
theorem len_pos (n : Nat) : decide ((0 : Int) < n) = decide (0 < n) := by
  by_cases h : 0 < n <;> simp [h]
theorem all_snoc (l : List TermL) (k : Nat) (h : k < l.length) (h0 : (l.take k).all termB = true) (h1 : termB l[k] = true) : (l.take (k + 1)).all termB = true := by
  rw [take_last l k h, List.all_append, h0]; simp [h1]
theorem all_no (l : List TermL) (k : Nat) (h : k < l.length) (h1 : termB l[k] = false) : l.all termB = false := by
  rw [List.all_eq_false]; exact ⟨l[k], List.getElem_mem h, by simp [h1]⟩
theorem aimed_yes (l : List TermL) (k : Nat) (h : k < l.length) (h1 : l[k].on ≠ 0) : aimedN (l.take (k + 1)) = aimedN (l.take k) + 1 := by
  rw [take_last l k h, aimedN_snoc, if_neg h1]
theorem aimed_no (l : List TermL) (k : Nat) (h : k < l.length) (h1 : l[k].on = 0) : aimedN (l.take (k + 1)) = aimedN (l.take k) := by
  rw [take_last l k h, aimedN_snoc, if_pos h1]; rfl

set_option maxRecDepth 100000 in
set_option maxHeartbeats 1600000 in
theorem termsFit_some (l : List TermL) (b off cap : Nat) (w : World) (hlen : l.length ≤ 9223372036854775807)
    (hc : ∀ i (h : i < l.length), w.cell? ⟨b, off + i * 3, none⟩ = some (.int .i64 l[i].op) ∧ w.cell? ⟨b, off + i * 3 + 1, none⟩ = some (.int .i64 l[i].n) ∧ w.cell? ⟨b, off + i * 3 + 2, none⟩ = some (.int .i64 l[i].on)) :
    Calls Try.prog 43 #[.slice (some ⟨b, off, none⟩) l.length cap] w (RetB w (termsB l)) := by
  have HC := Lib.hid hc
  clear hc
  by_cases h4 : 4 < l.length
  · have hd : decide ((4 : Int) < l.length) = true := by simp; omega
    have HT : Hid (termsB l = false) := Lib.hid (by simp [termsB]; omega)
    go_enter Try.func43, Try.ntmps43
    go_wp2
    go_ret
    exact ⟨ret_bool HT.out.symm, Below.refl _ _⟩
  · have hd : decide ((4 : Int) < l.length) = false := by simp; omega
    go_enter Try.func43, Try.ntmps43
    go_wp2
    go_loopw [3, 11] (fun n i wr => ∃ k : Nat, k ≤ l.length ∧ i = .int .i64 k ∧ n = .int .i64 (aimedN (l.take k)) ∧ Hid ((l.take k).all termB = true) ∧ Hid (Below w.heap.size w wr)) (fun _ i _ => l.length - (intOf i).toNat)
    case atStart => exact ⟨0, Nat.zero_le _, rfl, rfl, Lib.hid rfl, Lib.hid (Below.refl _ _)⟩
    case round =>
      obtain ⟨k, hk, rfl, rfl, HA, HB⟩ := hrel
      have hle := aimedN_le (l.take k)
      have hle2 := List.length_take_le k l
      by_cases hlt : k < l.length
      · have h3 := HC.out k hlt
        have c0 := cell_stays HB.out h3.1
        have c1 := cell_stays HB.out h3.2.1
        have c2 := cell_stays HB.out h3.2.2
        clear h3
        go_wp2_with fail
        refine (checkTerm_any l[k] _).mono ?_
        rintro e w3 ⟨rfl, hb3⟩
        have d2 : w3.cell? ⟨wr.heap.size, 2, none⟩ = some (.int .i64 l[k].on) := ((bcell hb3).1 _ 2 (show _ < _ by simp)).trans (by simp [go_sem])
        have HB3 := Lib.hid ((below_alloc2 HB.out _).trans (hb3.mono (below_alloc2 HB.out _).size))
        clear hb3 c0 c1 c2
        cases ht : termB l[k]
        · have HT : Hid (termsB l = false) := Lib.hid (by simp [termsB, all_no l k hlt ht])
          clear ht
          go_wp2
          go_ret
          exact ⟨ret_bool HT.out.symm, HB3.out⟩
        · have HA2 := Lib.hid (all_snoc l k hlt HA.out ht)
          clear ht
          by_cases h0 : l[k].on = 0
          · have hb : (l[k].on != 0) = false := by simp [h0]
            have HN := Lib.hid (aimed_no l k hlt h0)
            clear h0
            go_wp2
            go_roundw
            case rel => exact ⟨k + 1, by omega, by go_num, by rw [HN.out], HA2, HB3⟩
            case measure => simp [intOf]; omega
          · have hb : (l[k].on != 0) = true := by simp [h0]
            have HN := Lib.hid (aimed_yes l k hlt h0)
            clear h0
            go_wp2
            go_roundw
            case rel => exact ⟨k + 1, by omega, by go_num, by rw [HN.out]; go_num, HA2, HB3⟩
            case measure => simp [intOf]; omega
      · obtain rfl : k = l.length := by omega
        have HT : Hid (termsB l = decide ((aimedN l : Int) ≤ 1)) := Lib.hid (by
          have h1 := HA.out
          rw [List.take_length] at h1
          simp only [termsB, h1, Bool.true_and]
          have : decide (l.length ≤ 4) = true := by simp; omega
          rw [this, Bool.true_and]
          congr 1
          exact propext ⟨fun h => by omega, fun h => by omega⟩)
        go_wp2
        go_ret
        exact ⟨ret_bool HT.out.symm, HB.out⟩

set_option maxRecDepth 100000 in
set_option maxHeartbeats 800000 in
theorem termsFit_none (xa : Option Addr) (cap : Nat) (w : World) : Calls Try.prog 43 #[.slice xa 0 cap] w (RetB w (termsB [])) := by
  go_enter Try.func43, Try.ntmps43
  go_wp2
  go_loopw [3, 11] (fun n i wr => i = .int .i64 0 ∧ n = .int .i64 0 ∧ w = wr) (fun _ _ _ => 0)
  case atStart => exact ⟨rfl, rfl, rfl⟩
  case round =>
    obtain ⟨rfl, rfl, rfl⟩ := hrel
    go_wp2
    go_ret
    exact ⟨ret_bool rfl, Below.refl _ _⟩

theorem termsFit_any {l : List TermL} {v : Value} {w : World} (h : TermsIs w v l) (hlen : l.length ≤ 9223372036854775807) :
    Calls Try.prog 43 #[v] w (RetB w (termsB l)) := by
  rcases h with ⟨xa, cap, rfl, rfl⟩ | ⟨b, off, cap, rfl, _, hc⟩
  · exact termsFit_none xa cap w
  · exact termsFit_some l b off cap w hlen hc

set_option maxRecDepth 100000 in
set_option maxHeartbeats 1600000 in
theorem castFits_any (c : CardL) (xa : Option Addr) (xc : Nat) (w : World) :
    Calls Try.prog 72 #[cagg c (.slice xa c.terms.length xc)] w (RetB w (castB c)) := by
  unfold cagg
  go_enter Try.func72, Try.ntmps72
  go_wp2
  all_goals
    go_ret
    exact ⟨ret_bool (by simp [castB, *]), (Below.refl _ _).alloc (Nat.le_refl _) _⟩

set_option maxRecDepth 100000 in
set_option maxHeartbeats 1600000 in
theorem whenFits_any {c : CardL} {v : Value} {w : World} (h : CardIs w v c) (hlen : c.terms.length ≤ 9223372036854775807) :
    Calls Try.prog 71 #[v] w (RetB w (whenB c)) := by
  obtain ⟨xa, xn, xc, rfl, ht⟩ := h
  have hn : xn = c.terms.length := by
    rcases ht with ⟨_, _, h1, h2⟩ | ⟨_, _, _, h1, _⟩
    · injection h1 with _ h1 _; rw [h2, h1]; rfl
    · injection h1
  subst hn
  have HA := Lib.hid (show CardIs (w.alloc (.cells #[.int .i64 c.kind, .int .i64 c.cost, .int .i64 c.power, .int .i64 c.tough, .int .i64 c.keys, .int .i64 c.whn, .slice xa c.terms.length xc] 24)) (cagg c (.slice xa c.terms.length xc)) c from ⟨_, _, _, rfl, ht.later ((Below.refl _ _).alloc (Nat.le_refl _) _)⟩)
  clear ht
  by_cases h0 : c.whn = 0
  · have hb : (c.whn == 0) = true := by simp [h0]
    have HW : Hid (whenB c = decide (c.terms.length = 0)) := Lib.hid (by simp [whenB, h0])
    rw [HW.out]
    clear h0
    unfold cagg
    go_enter Try.func71, Try.ntmps71
    go_wp2
    go_ret
    exact ⟨ret_bool (len_zero _), (Below.refl _ _).alloc (Nat.le_refl _) _⟩
  · have hb : (c.whn == 0) = false := by simp [h0]
    by_cases h1 : c.whn = 1
    · have hb1 : (c.whn == 1) = true := by simp [h1]
      have HW : Hid (whenB c = decide (0 < c.terms.length)) := Lib.hid (by simp [whenB, h1])
      rw [HW.out]
      clear h0 h1
      unfold cagg
      go_enter Try.func71, Try.ntmps71
      go_wp2
      go_ret
      exact ⟨ret_bool rfl, (Below.refl _ _).alloc (Nat.le_refl _) _⟩
    · have hb1 : (c.whn == 1) = false := by simp [h1]
      have HW : Hid (whenB c = (decide (0 < c.terms.length) && decide (aimedAt c.terms = 0))) := Lib.hid (by simp [whenB, h0, h1])
      rw [HW.out]
      clear h0 h1
      by_cases hp : 0 < c.terms.length
      · have hd : decide ((0 : Int) < c.terms.length) = true := by simp; omega
        have HP := Lib.hid (show decide (0 < c.terms.length) = true by simpa using hp)
        unfold cagg
        go_enter Try.func71, Try.ntmps71
        go_wp2_with fail
        refine (aimed_any HA.out hlen).mono ?_
        rintro e w2 ⟨rfl, hb2⟩
        go_wp2
        go_ret
        exact ⟨ret_bool (by rw [HP.out, Bool.true_and]; rfl), (below_new w _).trans (hb2.mono (by simp))⟩
      · have hd : decide ((0 : Int) < c.terms.length) = false := decide_eq_false (by omega)
        have HP := Lib.hid (show decide (0 < c.terms.length) = false by simpa using hp)
        unfold cagg
        go_enter Try.func71, Try.ntmps71
        go_wp2_with fail
        go_ret
        exact ⟨ret_bool (by rw [HP.out]; simp), (Below.refl _ _).alloc (Nat.le_refl _) _⟩
end Go.Proofs.Ytekbdbcomfleeaa

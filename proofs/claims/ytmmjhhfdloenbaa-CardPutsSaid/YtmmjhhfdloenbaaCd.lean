/- The contracts of Aimed and numbers (layer 2, card), of any card, and what a list of terms in memory is. -/
import Derived.Test.YtmmjhhfdloenbaaCc
namespace Go.Proofs.Ytmmjhhfdloenbaa
open Go.RowKit

/-- A list of terms in memory, or no list; what it holds. -/
def TermsIs (w : World) (v : Value) (l : List TermL) : Prop :=
  (∃ xa cap, v = .slice xa 0 cap ∧ l = []) ∨ ∃ b off cap, v = .slice (some ⟨b, off, none⟩) l.length cap ∧ b < w.heap.size ∧
    ∀ i (h : i < l.length), w.cell? ⟨b, off + i * 3, none⟩ = some (.int .i64 l[i].op) ∧ w.cell? ⟨b, off + i * 3 + 1, none⟩ = some (.int .i64 l[i].n) ∧ w.cell? ⟨b, off + i * 3 + 2, none⟩ = some (.int .i64 l[i].on)
theorem TermsIs.later {w w' : World} {v : Value} {l : List TermL} (h : TermsIs w v l) (hb : Below w.heap.size w w') : TermsIs w' v l := by
  rcases h with h | ⟨b, off, cap, rfl, hlt, hc⟩
  · exact .inl h
  · exact .inr ⟨b, off, cap, rfl, Nat.lt_of_lt_of_le hlt hb.size, fun i hi => ⟨cell_stays hb (hc i hi).1, cell_stays hb (hc i hi).2.1, cell_stays hb (hc i hi).2.2⟩⟩

def cagg (c : CardL) (tv : Value) : Value := .agg #[.int .i64 c.kind, .int .i64 c.cost, .int .i64 c.power, .int .i64 c.tough, .int .i64 c.keys, .int .i64 c.whn, tv]
def CardIs (w : World) (v : Value) (c : CardL) : Prop := ∃ xa xn xc, v = cagg c (.slice xa xn xc) ∧ TermsIs w (.slice xa xn xc) c.terms

theorem below_alloc2 {A w : World} (h : Below A.heap.size A w) (o : Obj) : Below A.heap.size A (w.alloc o) := h.alloc h.size o
theorem take_last {α : Type} (l : List α) (k : Nat) (h : k < l.length) : l.take (k + 1) = l.take k ++ [l[k]] := List.take_succ_eq_append_getElem h
theorem aimed_here (l : List TermL) (k : Nat) (h : k < l.length) (h0 : aimedN (l.take k) = 0) (h1 : l[k].on ≠ 0) : aimedAt l = l[k].on := by
  have e : aimedAt l = aimedAt (l.take k ++ l[k] :: l.drop (k + 1)) := by
    rw [← List.drop_eq_getElem_cons h, List.take_append_drop]
  rw [e, aimedAt_none _ _ h0]
  simp [aimedAt, h1]
theorem ret_int {k : IntKind} {a b : Int} (h : a = b) : Ending.returned (.int k a) = .returned (.int k b) := by rw [h]
theorem ret_bool {a b : Bool} (h : a = b) : Ending.returned (.bool a) = .returned (.bool b) := by rw [h]
theorem aimed_next (l : List TermL) (k : Nat) (h : k < l.length) (h0 : aimedN (l.take k) = 0) (h1 : l[k].on = 0) : aimedN (l.take (k + 1)) = 0 := by
  rw [take_last l k h, aimedN_snoc, h0, if_pos h1]

set_option maxRecDepth 100000 in
set_option maxHeartbeats 800000 in
theorem aimed_some (c : CardL) (b off cap : Nat) (w : World) (hlen : c.terms.length ≤ 9223372036854775807)
    (hc : ∀ i (h : i < c.terms.length), w.cell? ⟨b, off + i * 3, none⟩ = some (.int .i64 c.terms[i].op) ∧ w.cell? ⟨b, off + i * 3 + 1, none⟩ = some (.int .i64 c.terms[i].n) ∧ w.cell? ⟨b, off + i * 3 + 2, none⟩ = some (.int .i64 c.terms[i].on)) :
    Calls Try.prog 50 #[cagg c (.slice (some ⟨b, off, none⟩) c.terms.length cap)] w fun e w' => e = .returned (.int .i64 (aimedAt c.terms)) ∧ Below w.heap.size w w' := by
  have HC := Lib.hid hc
  clear hc
  unfold cagg
  go_enter Try.func50, Try.ntmps50
  go_wp2
  go_loopw [8] (fun i wr => ∃ k : Nat, k ≤ c.terms.length ∧ i = .int .i64 k ∧ Hid (aimedN (c.terms.take k) = 0) ∧ Hid (Below w.heap.size w wr)) (fun i _ => c.terms.length - (intOf i).toNat)
  case atStart => exact ⟨0, Nat.zero_le _, rfl, Lib.hid rfl, Lib.hid ((Below.refl _ _).alloc (Nat.le_refl _) _)⟩
  case round =>
    obtain ⟨k, hk, rfl, HN, HB⟩ := hrel
    by_cases hlt : k < c.terms.length
    · have h3 := HC.out k hlt
      have c0 := cell_stays HB.out h3.1
      have c1 := cell_stays HB.out h3.2.1
      have c2 := cell_stays HB.out h3.2.2
      clear h3
      by_cases h0 : c.terms[k].on = 0
      · have HN2 := Lib.hid (aimed_next _ k hlt HN.out h0)
        have hb : (c.terms[k].on != 0) = false := by simp [h0]
        clear h0
        go_wp2
        go_roundw
        case rel => exact ⟨k + 1, by omega, by go_num, HN2, Lib.hid (below_alloc2 HB.out _)⟩
        case measure => simp [intOf]; omega
      · have HA := Lib.hid (aimed_here _ k hlt HN.out h0)
        have hb : (c.terms[k].on != 0) = true := by simp [h0]
        clear h0
        go_wp2
        go_ret
        exact ⟨ret_int HA.out.symm, below_alloc2 HB.out _⟩
    · obtain rfl : k = c.terms.length := by omega
      have HA : Hid (aimedAt c.terms = 0) := Lib.hid ((aimedAt_zero _).2 (by have := HN.out; rwa [List.take_length] at this))
      go_wp2
      go_ret
      exact ⟨ret_int HA.out.symm, HB.out⟩

set_option maxRecDepth 100000 in
set_option maxHeartbeats 800000 in
theorem aimed_none (c : CardL) (hn : c.terms = []) (xa : Option Addr) (cap : Nat) (w : World) :
    Calls Try.prog 50 #[cagg c (.slice xa 0 cap)] w fun e w' => e = .returned (.int .i64 (aimedAt c.terms)) ∧ Below w.heap.size w w' := by
  rw [hn]
  clear hn
  unfold cagg
  go_enter Try.func50, Try.ntmps50
  go_wp2
  go_loopw [8] (fun i wr => i = .int .i64 0 ∧ Hid (Below w.heap.size w wr)) (fun _ _ => 0)
  case atStart => exact ⟨rfl, Lib.hid ((Below.refl _ _).alloc (Nat.le_refl _) _)⟩
  case round =>
    obtain ⟨rfl, HB⟩ := hrel
    go_wp2
    go_ret
    exact ⟨rfl, HB.out⟩

theorem aimed_any {c : CardL} {v : Value} {w : World} (h : CardIs w v c) (hlen : c.terms.length ≤ 9223372036854775807) :
    Calls Try.prog 50 #[v] w fun e w' => e = .returned (.int .i64 (aimedAt c.terms)) ∧ Below w.heap.size w w' := by
  obtain ⟨xa, xn, xc, rfl, ⟨ya, cap, hs, he⟩ | ⟨b, off, cap, hs, _, hc⟩⟩ := h
  · rw [hs]; exact aimed_none c he ya cap w
  · rw [hs]; exact aimed_some c b off cap w hlen hc

def nums6 (c : CardL) : Value := .agg #[.int .i64 c.kind, .int .i64 c.cost, .int .i64 c.power, .int .i64 c.tough, .int .i64 c.keys, .int .i64 c.whn]

set_option maxRecDepth 100000 in
set_option maxHeartbeats 800000 in
theorem numbers_any (c : CardL) (xa : Option Addr) (xn xc : Nat) (w : World) :
    Calls Try.prog 106 #[cagg c (.slice xa xn xc)] w fun e w' => e = .returned (nums6 c) ∧ Below w.heap.size w w' := by
  unfold cagg nums6
  go_enter Try.func106, Try.ntmps106
  go_wp2
  exact bodyPost_ret (by simp [results, Try.results106, go_sem]) rfl ⟨rfl, below_alloc2 ((Below.refl _ _).alloc (Nat.le_refl _) _) _⟩
end Go.Proofs.Ytmmjhhfdloenbaa

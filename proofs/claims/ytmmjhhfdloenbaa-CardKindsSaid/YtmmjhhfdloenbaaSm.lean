/- The contract of card.Same (layer 2): whether two cards are one. -/
import Derived.Test.YtmmjhhfdloenbaaEq
import Derived.WalkSmall
import Derived.Test.YtmmjhhfdloenbaaCs
namespace Go.Proofs.Ytmmjhhfdloenbaa
open Go.RowKit

theorem keep14 {A w1 w2 : World} {p0 p1 p2 p3 p4 p5 p6 p7 p8 p9 p10 p11 p12 p13 : Addr} {v0 v1 v2 v3 v4 v5 v6 v7 v8 v9 v10 v11 v12 v13 : Value} (hb : Below w1.heap.size w1 w2)
    (h : Below A.heap.size A w1 ∧ w1.cell? p0 = some v0 ∧ w1.cell? p1 = some v1 ∧ w1.cell? p2 = some v2 ∧ w1.cell? p3 = some v3 ∧ w1.cell? p4 = some v4 ∧ w1.cell? p5 = some v5 ∧ w1.cell? p6 = some v6 ∧ w1.cell? p7 = some v7 ∧ w1.cell? p8 = some v8 ∧ w1.cell? p9 = some v9 ∧ w1.cell? p10 = some v10 ∧ w1.cell? p11 = some v11 ∧ w1.cell? p12 = some v12 ∧ w1.cell? p13 = some v13) :
    Below A.heap.size A w2 ∧ w2.cell? p0 = some v0 ∧ w2.cell? p1 = some v1 ∧ w2.cell? p2 = some v2 ∧ w2.cell? p3 = some v3 ∧ w2.cell? p4 = some v4 ∧ w2.cell? p5 = some v5 ∧ w2.cell? p6 = some v6 ∧ w2.cell? p7 = some v7 ∧ w2.cell? p8 = some v8 ∧ w2.cell? p9 = some v9 ∧ w2.cell? p10 = some v10 ∧ w2.cell? p11 = some v11 ∧ w2.cell? p12 = some v12 ∧ w2.cell? p13 = some v13 := by
  obtain ⟨h, c0, c1, c2, c3, c4, c5, c6, c7, c8, c9, c10, c11, c12, c13⟩ := h
  exact ⟨h.trans (hb.mono h.size), cell_stays hb c0, cell_stays hb c1, cell_stays hb c2, cell_stays hb c3, cell_stays hb c4, cell_stays hb c5, cell_stays hb c6, cell_stays hb c7, cell_stays hb c8, cell_stays hb c9, cell_stays hb c10, cell_stays hb c11, cell_stays hb c12, cell_stays hb c13⟩

theorem numbers_ints (i0 i1 i2 i3 i4 i5 : Int) (xa : Option Addr) (xn xc : Nat) (w : World) :
    Calls Try.prog 106 #[.agg #[.int .i64 i0, .int .i64 i1, .int .i64 i2, .int .i64 i3, .int .i64 i4, .int .i64 i5, .slice xa xn xc]] w fun e w' => e = .returned (.agg #[.int .i64 i0, .int .i64 i1, .int .i64 i2, .int .i64 i3, .int .i64 i4, .int .i64 i5]) ∧ Below w.heap.size w w' :=
  numbers_any ⟨i0, i1, i2, i3, i4, i5, []⟩ xa xn xc w
theorem equal_below {v u : Value} {l r : List TermL} {w : World} (hl : TermsIs w v l) (hr : TermsIs w u r) (hn : l.length ≤ 9223372036854775807) :
    Calls Try.prog 107 #[v, u] w (RetB w (sameL l r)) :=
  (equal_any hl hr hn).mono fun _ _ ⟨he, n, hw⟩ => ⟨he, by rw [hw]; exact below_drewN (Below.refl _ _) n⟩
def six2 (a b : CardL) : Bool := a.kind == b.kind && (a.cost == b.cost && (a.power == b.power && (a.tough == b.tough && (a.keys == b.keys && a.whn == b.whn))))
theorem same_six (a b : CardL) : sameB a b = (six2 a b && sameL a.terms b.terms) := by simp only [sameB, six2, Bool.and_assoc]

set_option maxRecDepth 100000 in
set_option maxHeartbeats 4000000 in
theorem same_any {a b : CardL} {v u : Value} {w : World} (ha : CardIs w v a) (hb : CardIs w u b) (hla : a.terms.length ≤ 9223372036854775807) :
    Calls Try.prog 47 #[v, u] w (RetB w (sameB a b)) := by
  obtain ⟨xa, xn, xc, rfl, hta⟩ := ha
  obtain ⟨ya, yn, yc, rfl, htb⟩ := hb
  obtain rfl := CardIs.len hta
  obtain rfl := CardIs.len htb
  have HTA := Lib.hid hta
  have HTB := Lib.hid htb
  have HLA := Lib.hid hla
  have he := fun W => (show (binOp .eql 141 (.agg #[.int .i64 a.kind, .int .i64 a.cost, .int .i64 a.power, .int .i64 a.tough, .int .i64 a.keys, .int .i64 a.whn]) (.agg #[.int .i64 b.kind, .int .i64 b.cost, .int .i64 b.power, .int .i64 b.tough, .int .i64 b.keys, .int .i64 b.whn])).run Try.prog W = .ok (.bool (six2 a b)) W by rw [run_eql_struct, equal6 9998]; rfl)
  have hg := eqg6
  have HSIX := Lib.hid (same_six a b)
  rw [HSIX.out]
  clear hta htb hla
  have hinit : Below w.heap.size w ((w.alloc (.cells #[.int .i64 a.kind, .int .i64 a.cost, .int .i64 a.power, .int .i64 a.tough, .int .i64 a.keys, .int .i64 a.whn, .slice xa a.terms.length xc] 65)).alloc (.cells #[.int .i64 b.kind, .int .i64 b.cost, .int .i64 b.power, .int .i64 b.tough, .int .i64 b.keys, .int .i64 b.whn, .slice ya b.terms.length yc] 65)) ∧ ((w.alloc (.cells #[.int .i64 a.kind, .int .i64 a.cost, .int .i64 a.power, .int .i64 a.tough, .int .i64 a.keys, .int .i64 a.whn, .slice xa a.terms.length xc] 65)).alloc (.cells #[.int .i64 b.kind, .int .i64 b.cost, .int .i64 b.power, .int .i64 b.tough, .int .i64 b.keys, .int .i64 b.whn, .slice ya b.terms.length yc] 65)).cell? ⟨w.heap.size, 0, none⟩ = some (.int .i64 a.kind) ∧ ((w.alloc (.cells #[.int .i64 a.kind, .int .i64 a.cost, .int .i64 a.power, .int .i64 a.tough, .int .i64 a.keys, .int .i64 a.whn, .slice xa a.terms.length xc] 65)).alloc (.cells #[.int .i64 b.kind, .int .i64 b.cost, .int .i64 b.power, .int .i64 b.tough, .int .i64 b.keys, .int .i64 b.whn, .slice ya b.terms.length yc] 65)).cell? ⟨w.heap.size, 1, none⟩ = some (.int .i64 a.cost) ∧ ((w.alloc (.cells #[.int .i64 a.kind, .int .i64 a.cost, .int .i64 a.power, .int .i64 a.tough, .int .i64 a.keys, .int .i64 a.whn, .slice xa a.terms.length xc] 65)).alloc (.cells #[.int .i64 b.kind, .int .i64 b.cost, .int .i64 b.power, .int .i64 b.tough, .int .i64 b.keys, .int .i64 b.whn, .slice ya b.terms.length yc] 65)).cell? ⟨w.heap.size, 2, none⟩ = some (.int .i64 a.power) ∧ ((w.alloc (.cells #[.int .i64 a.kind, .int .i64 a.cost, .int .i64 a.power, .int .i64 a.tough, .int .i64 a.keys, .int .i64 a.whn, .slice xa a.terms.length xc] 65)).alloc (.cells #[.int .i64 b.kind, .int .i64 b.cost, .int .i64 b.power, .int .i64 b.tough, .int .i64 b.keys, .int .i64 b.whn, .slice ya b.terms.length yc] 65)).cell? ⟨w.heap.size, 3, none⟩ = some (.int .i64 a.tough) ∧ ((w.alloc (.cells #[.int .i64 a.kind, .int .i64 a.cost, .int .i64 a.power, .int .i64 a.tough, .int .i64 a.keys, .int .i64 a.whn, .slice xa a.terms.length xc] 65)).alloc (.cells #[.int .i64 b.kind, .int .i64 b.cost, .int .i64 b.power, .int .i64 b.tough, .int .i64 b.keys, .int .i64 b.whn, .slice ya b.terms.length yc] 65)).cell? ⟨w.heap.size, 4, none⟩ = some (.int .i64 a.keys) ∧ ((w.alloc (.cells #[.int .i64 a.kind, .int .i64 a.cost, .int .i64 a.power, .int .i64 a.tough, .int .i64 a.keys, .int .i64 a.whn, .slice xa a.terms.length xc] 65)).alloc (.cells #[.int .i64 b.kind, .int .i64 b.cost, .int .i64 b.power, .int .i64 b.tough, .int .i64 b.keys, .int .i64 b.whn, .slice ya b.terms.length yc] 65)).cell? ⟨w.heap.size, 5, none⟩ = some (.int .i64 a.whn) ∧ ((w.alloc (.cells #[.int .i64 a.kind, .int .i64 a.cost, .int .i64 a.power, .int .i64 a.tough, .int .i64 a.keys, .int .i64 a.whn, .slice xa a.terms.length xc] 65)).alloc (.cells #[.int .i64 b.kind, .int .i64 b.cost, .int .i64 b.power, .int .i64 b.tough, .int .i64 b.keys, .int .i64 b.whn, .slice ya b.terms.length yc] 65)).cell? ⟨w.heap.size, 6, none⟩ = some (.slice xa a.terms.length xc) ∧ ((w.alloc (.cells #[.int .i64 a.kind, .int .i64 a.cost, .int .i64 a.power, .int .i64 a.tough, .int .i64 a.keys, .int .i64 a.whn, .slice xa a.terms.length xc] 65)).alloc (.cells #[.int .i64 b.kind, .int .i64 b.cost, .int .i64 b.power, .int .i64 b.tough, .int .i64 b.keys, .int .i64 b.whn, .slice ya b.terms.length yc] 65)).cell? ⟨w.heap.size + 1, 0, none⟩ = some (.int .i64 b.kind) ∧ ((w.alloc (.cells #[.int .i64 a.kind, .int .i64 a.cost, .int .i64 a.power, .int .i64 a.tough, .int .i64 a.keys, .int .i64 a.whn, .slice xa a.terms.length xc] 65)).alloc (.cells #[.int .i64 b.kind, .int .i64 b.cost, .int .i64 b.power, .int .i64 b.tough, .int .i64 b.keys, .int .i64 b.whn, .slice ya b.terms.length yc] 65)).cell? ⟨w.heap.size + 1, 1, none⟩ = some (.int .i64 b.cost) ∧ ((w.alloc (.cells #[.int .i64 a.kind, .int .i64 a.cost, .int .i64 a.power, .int .i64 a.tough, .int .i64 a.keys, .int .i64 a.whn, .slice xa a.terms.length xc] 65)).alloc (.cells #[.int .i64 b.kind, .int .i64 b.cost, .int .i64 b.power, .int .i64 b.tough, .int .i64 b.keys, .int .i64 b.whn, .slice ya b.terms.length yc] 65)).cell? ⟨w.heap.size + 1, 2, none⟩ = some (.int .i64 b.power) ∧ ((w.alloc (.cells #[.int .i64 a.kind, .int .i64 a.cost, .int .i64 a.power, .int .i64 a.tough, .int .i64 a.keys, .int .i64 a.whn, .slice xa a.terms.length xc] 65)).alloc (.cells #[.int .i64 b.kind, .int .i64 b.cost, .int .i64 b.power, .int .i64 b.tough, .int .i64 b.keys, .int .i64 b.whn, .slice ya b.terms.length yc] 65)).cell? ⟨w.heap.size + 1, 3, none⟩ = some (.int .i64 b.tough) ∧ ((w.alloc (.cells #[.int .i64 a.kind, .int .i64 a.cost, .int .i64 a.power, .int .i64 a.tough, .int .i64 a.keys, .int .i64 a.whn, .slice xa a.terms.length xc] 65)).alloc (.cells #[.int .i64 b.kind, .int .i64 b.cost, .int .i64 b.power, .int .i64 b.tough, .int .i64 b.keys, .int .i64 b.whn, .slice ya b.terms.length yc] 65)).cell? ⟨w.heap.size + 1, 4, none⟩ = some (.int .i64 b.keys) ∧ ((w.alloc (.cells #[.int .i64 a.kind, .int .i64 a.cost, .int .i64 a.power, .int .i64 a.tough, .int .i64 a.keys, .int .i64 a.whn, .slice xa a.terms.length xc] 65)).alloc (.cells #[.int .i64 b.kind, .int .i64 b.cost, .int .i64 b.power, .int .i64 b.tough, .int .i64 b.keys, .int .i64 b.whn, .slice ya b.terms.length yc] 65)).cell? ⟨w.heap.size + 1, 5, none⟩ = some (.int .i64 b.whn) ∧ ((w.alloc (.cells #[.int .i64 a.kind, .int .i64 a.cost, .int .i64 a.power, .int .i64 a.tough, .int .i64 a.keys, .int .i64 a.whn, .slice xa a.terms.length xc] 65)).alloc (.cells #[.int .i64 b.kind, .int .i64 b.cost, .int .i64 b.power, .int .i64 b.tough, .int .i64 b.keys, .int .i64 b.whn, .slice ya b.terms.length yc] 65)).cell? ⟨w.heap.size + 1, 6, none⟩ = some (.slice ya b.terms.length yc) := by
    refine ⟨((Below.refl _ _).alloc (Nat.le_refl _) _).alloc (by simp) _, ?_⟩
    simp [go_sem]
  have HI := Lib.hid hinit
  clear hinit
  unfold cagg
  cases hs : six2 a b
  · rw [hs] at he
    clear hs
    obtain ⟨_, i0, i1, i2, i3, i4, i5, i6, j0, j1, j2, j3, j4, j5, j6⟩ := HI.out
    go_enter Try.func47, Try.ntmps47
    go_wp2
    first
    | go_region_with (first
      | (go_at_call 106; refine (numbers_ints _ _ _ _ _ _ _ _ _ _).mono ?_; rintro e w2 ⟨rfl, hb2⟩; (first | (have HJ := Lib.hid (keep14 hb2 HJ.out)) | (have HJ := Lib.hid (keep14 hb2 (keep14 ((Below.refl _ _).drew) HI.out)))); obtain ⟨_, i0, i1, i2, i3, i4, i5, i6, j0, j1, j2, j3, j4, j5, j6⟩ := HJ.out))
    | fail "with"
    all_goals
      have hB := HJ.out.1
      go_wp2
      go_ret
      exact ⟨rfl, hB⟩
  · rw [hs] at he
    clear hs
    go_enter Try.func47, Try.ntmps47
    go_wp2
    go_region_held3 (fun w' => Below w.heap.size w w' ∧ w'.cell? ⟨w.heap.size, 0, none⟩ = some (.int .i64 a.kind) ∧ w'.cell? ⟨w.heap.size, 1, none⟩ = some (.int .i64 a.cost) ∧ w'.cell? ⟨w.heap.size, 2, none⟩ = some (.int .i64 a.power) ∧ w'.cell? ⟨w.heap.size, 3, none⟩ = some (.int .i64 a.tough) ∧ w'.cell? ⟨w.heap.size, 4, none⟩ = some (.int .i64 a.keys) ∧ w'.cell? ⟨w.heap.size, 5, none⟩ = some (.int .i64 a.whn) ∧ w'.cell? ⟨w.heap.size, 6, none⟩ = some (.slice xa a.terms.length xc) ∧ w'.cell? ⟨w.heap.size + 1, 0, none⟩ = some (.int .i64 b.kind) ∧ w'.cell? ⟨w.heap.size + 1, 1, none⟩ = some (.int .i64 b.cost) ∧ w'.cell? ⟨w.heap.size + 1, 2, none⟩ = some (.int .i64 b.power) ∧ w'.cell? ⟨w.heap.size + 1, 3, none⟩ = some (.int .i64 b.tough) ∧ w'.cell? ⟨w.heap.size + 1, 4, none⟩ = some (.int .i64 b.keys) ∧ w'.cell? ⟨w.heap.size + 1, 5, none⟩ = some (.int .i64 b.whn) ∧ w'.cell? ⟨w.heap.size + 1, 6, none⟩ = some (.slice ya b.terms.length yc))
        (first | assumption | (with_reducible exact HI.out) | exact keep14 ((Below.refl _ _).drew) HI.out | exact keep14 (by assumption) (by assumption))
        (first
          | (go_at_call 106; refine (numbers_ints _ _ _ _ _ _ _ _ _ _).mono ?_; rintro e w2 ⟨rfl, hb2⟩)
          | (go_at_call 107; refine (equal_below (HTA.out.later (And.left (by assumption))) (HTB.out.later (And.left (by assumption))) HLA.out).mono ?_; rintro e w2 ⟨rfl, hb2⟩))
    have hB : Below w.heap.size w w2 := And.left (by assumption)
    go_wp2
    go_ret
    exact ⟨rfl, hB⟩
end Go.Proofs.Ytmmjhhfdloenbaa

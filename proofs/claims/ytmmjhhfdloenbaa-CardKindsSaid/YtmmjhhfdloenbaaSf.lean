/- The law CardSame (layer 2), walked: for every two cards it returns true, and only new memory is made. -/
import Derived.Test.YtmmjhhfdloenbaaSm
import Derived.Test.YtmmjhhfdloenbaaKp
import Derived.Test.YtmmjhhfdloenbaaMp
namespace Go.Proofs.Ytmmjhhfdloenbaa
open Go.RowKit

def Box7 (W : World) (b : Nat) (c : CardL) (v : Value) : Prop := W.cell? ⟨b, 0, none⟩ = some (.int .i64 c.kind) ∧ W.cell? ⟨b, 1, none⟩ = some (.int .i64 c.cost) ∧ W.cell? ⟨b, 2, none⟩ = some (.int .i64 c.power) ∧ W.cell? ⟨b, 3, none⟩ = some (.int .i64 c.tough) ∧ W.cell? ⟨b, 4, none⟩ = some (.int .i64 c.keys) ∧ W.cell? ⟨b, 5, none⟩ = some (.int .i64 c.whn) ∧ W.cell? ⟨b, 6, none⟩ = some (v)
theorem Box7.later {W W' : World} {b : Nat} {c : CardL} {v : Value} (h : Box7 W b c v) (hb : Below W.heap.size W W') : Box7 W' b c v := by
  obtain ⟨c0, c1, c2, c3, c4, c5, c6⟩ := h
  exact ⟨cell_stays hb c0, cell_stays hb c1, cell_stays hb c2, cell_stays hb c3, cell_stays hb c4, cell_stays hb c5, cell_stays hb c6⟩
theorem Box7.far {W : World} {b : Nat} {c : CardL} {v : Value} (h : Box7 W b c v) {p : Addr} (hp : p.block ≠ b) (u : Value) : Box7 (W.setCell p u) b c v := by
  obtain ⟨c0, c1, c2, c3, c4, c5, c6⟩ := h
  have e : ∀ j, (W.setCell p u).cell? ⟨b, j, none⟩ = W.cell? ⟨b, j, none⟩ := fun j => World.cell?_setCell_other _ _ _ _ (fun h => hp (by rw [h]))
  exact ⟨(e _).trans c0, (e _).trans c1, (e _).trans c2, (e _).trans c3, (e _).trans c4, (e _).trans c5, (e _).trans c6⟩
theorem Box7.new (W : World) (c : CardL) (xa : Option Addr) (xn xc : Nat) : Box7 (W.alloc (.cells #[.int .i64 c.kind, .int .i64 c.cost, .int .i64 c.power, .int .i64 c.tough, .int .i64 c.keys, .int .i64 c.whn, .slice xa xn xc] 65)) W.heap.size c (.slice xa xn xc) := card_cells (Below.refl _ _)
/-- The law's first two boxes, in a later world. -/
def Two (w W : World) (a b : CardL) (va vb : Value) : Prop := Below w.heap.size w W ∧ Box7 W w.heap.size a va ∧ Box7 W (w.heap.size + 1) b vb
theorem Two.later {w W W' : World} {a b : CardL} {va vb : Value} (h : Two w W a b va vb) (hb : Below W.heap.size W W') : Two w W' a b va vb :=
  ⟨h.1.trans (hb.mono h.1.size), h.2.1.later hb, h.2.2.later hb⟩
theorem Two.far {w W : World} {a b : CardL} {va vb : Value} (h : Two w W a b va vb) {p : Addr} (hp : w.heap.size + 2 ≤ p.block) (u : Value) : Two w (W.setCell p u) a b va vb :=
  ⟨h.1.setCell (by omega) u, h.2.1.far (by omega) u, h.2.2.far (by omega) u⟩
theorem Two.new (w : World) (a b : CardL) (xa ya : Option Addr) (xn xc yn yc : Nat) : Two w ((w.alloc (.cells #[.int .i64 a.kind, .int .i64 a.cost, .int .i64 a.power, .int .i64 a.tough, .int .i64 a.keys, .int .i64 a.whn, .slice xa xn xc] 65)).alloc (.cells #[.int .i64 b.kind, .int .i64 b.cost, .int .i64 b.power, .int .i64 b.tough, .int .i64 b.keys, .int .i64 b.whn, .slice ya yn yc] 65)) a b (.slice xa xn xc) (.slice ya yn yc) :=
  ⟨below_alloc2 (below_new w _) _, (Box7.new w a xa xn xc).later (below_alloc1 _ _), by
    have := Box7.new (w.alloc (.cells #[.int .i64 a.kind, .int .i64 a.cost, .int .i64 a.power, .int .i64 a.tough, .int .i64 a.keys, .int .i64 a.whn, .slice xa xn xc] 65)) b ya yn yc
    simpa using this⟩
def flipI (x : Int) : Int := IntKind.i64.wrap ((BitVec.ofInt 64 x ^^^ BitVec.ofInt 64 1).toNat : Int)
def flipT (t : TermL) : TermL := ⟨flipI t.op, t.n, t.on⟩
def flipTo (k : Nat) (l : List TermL) : List TermL := (l.take k).map flipT ++ l.drop k
theorem flipTo_zero (l : List TermL) : flipTo 0 l = l := by simp [flipTo]
theorem flipTo_len (k : Nat) (l : List TermL) : (flipTo k l).length = l.length := by simp [flipTo]; omega
theorem flipTo_all (l : List TermL) : flipTo l.length l = l.map flipT := by simp [flipTo]
theorem flipTo_get (k : Nat) (l : List TermL) (j : Nat) (h : j < l.length) (h' : j < (flipTo k l).length) : (flipTo k l)[j] = if j < k then flipT l[j] else l[j] := by
  have e : (flipTo k l)[j]? = some (if j < k then flipT l[j] else l[j]) := by
    unfold flipTo
    by_cases hj : j < k
    · rw [if_pos hj, List.getElem?_append_left (by simp; omega)]; simp [hj, h]
    · have hm : min k l.length = k := by omega
      rw [if_neg hj, List.getElem?_append_right (by simp; omega)]; simp only [List.length_map, List.length_take, hm, List.getElem?_drop]
      rw [show k + (j - k) = j by omega]; exact List.getElem?_eq_getElem h
  rw [List.getElem?_eq_getElem h'] at e
  exact Option.some.inj e
theorem flipI_ne (x : Int) : flipI x ≠ x := by
  intro h
  have h1 : BitVec.ofInt 64 (flipI x) = BitVec.ofInt 64 x ^^^ BitVec.ofInt 64 1 := by
    unfold flipI
    generalize BitVec.ofInt 64 x ^^^ BitVec.ofInt 64 1 = r
    have : IntKind.i64.wrap (r.toNat : Int) = r.toInt := by
      simp [IntKind.wrap, IntKind.signed, IntKind.bits, BitVec.toInt_eq_toNat_bmod, Int.bmod]
      split <;> split <;> omega
    rw [this, BitVec.ofInt_toInt]
  rw [h] at h1
  have h2 : BitVec.ofInt 64 x ^^^ BitVec.ofInt 64 x = BitVec.ofInt 64 x ^^^ (BitVec.ofInt 64 x ^^^ BitVec.ofInt 64 1) := by rw [← h1]
  rw [← BitVec.xor_assoc, BitVec.xor_self, BitVec.zero_xor] at h2
  exact absurd h2 (by decide)
theorem flip_not (a : CardL) (h : 0 < a.terms.length) : sameB { a with terms := a.terms.map flipT } a = false := by
  cases hs : sameB { a with terms := a.terms.map flipT } a
  · rfl
  · have e := (sameB_iff _ _).1 hs
    have e2 : a.terms.map flipT = a.terms := congrArg CardL.terms e
    have e3 : (a.terms.map flipT)[0]'(by simpa using h) = a.terms[0] := by simp only [e2]
    rw [List.getElem_map] at e3
    exact absurd (congrArg TermL.op e3) (flipI_ne _)
theorem RowC.flip {w : World} {g k : Nat} {l : List TermL} (h : RowC w g (flipTo k l)) (hk : k < l.length) : RowC (w.setCell ⟨g, k * 3, none⟩ (.int .i64 (flipI l[k].op))) g (flipTo (k + 1) l) := by
  obtain ⟨C, T, hC, hc⟩ := h
  refine ⟨C.setIfInBounds (k * 3) (.int .i64 (flipI l[k].op)), T, by simp [World.setCell, Array.getElem?_modify, hC], fun j hj => ?_⟩
  have hj' : j < l.length := by rwa [flipTo_len] at hj
  have hj2 : j < (flipTo k l).length := by rwa [flipTo_len]
  have h3 := hc j hj2
  have hk3 := hc k (by rwa [flipTo_len])
  have hsz : k * 3 < C.size := (Array.getElem?_eq_some_iff.1 hk3.1).1
  rw [flipTo_get k l j hj' hj2] at h3
  rw [flipTo_get (k + 1) l j hj' hj]
  simp only [Array.getElem?_setIfInBounds]
  by_cases e : j = k
  · subst e
    have n0 : ¬ j < j := by omega
    have n1 : ¬ j * 3 = j * 3 + 1 := by omega
    have n2 : ¬ j * 3 = j * 3 + 2 := by omega
    have n3 : j < j + 1 := by omega
    rw [if_neg n0] at h3
    rw [if_pos rfl, if_pos hsz, if_pos n3, if_neg n1, if_neg n2]
    exact ⟨rfl, h3.2.1, h3.2.2⟩
  · have n0 : ¬ k * 3 = j * 3 := by omega
    have n1 : ¬ k * 3 = j * 3 + 1 := by omega
    have n2 : ¬ k * 3 = j * 3 + 2 := by omega
    rw [if_neg n0, if_neg n1, if_neg n2]
    by_cases hlt : j < k
    · have n3 : j < k + 1 := by omega
      rw [if_pos hlt] at h3; rw [if_pos n3]; exact h3
    · have n3 : ¬ j < k + 1 := by omega
      rw [if_neg hlt] at h3; rw [if_neg n3]; exact h3
theorem bytes_inj {a b : CardL} (fa : hfit a = true) (a4 : a.terms.length ≤ 4) (ta : a.terms.all tfit = true) (fb : hfit b = true) (b4 : b.terms.length ≤ 4) (tb : b.terms.all tfit = true)
    (h : cardBytes a = cardBytes b) : a = b := by
  have ha := (rdC (a := 0) fa a4 ta (ReadsAt.of [] (cardBytes a) [])).1
  have hb := (rdC (a := 0) fb b4 tb (ReadsAt.of [] (cardBytes b) [])).1
  rw [h] at ha
  exact ha.symm.trans hb
end Go.Proofs.Ytmmjhhfdloenbaa

/- The contracts of List at the codec of cards, and of Put of what it answers (layers 1 and 2). -/
import Derived.Test.YtekbdbcomfleeaaCi
import Derived.Test.YtekbdbcomfleeaaPd
namespace Go.Proofs.Ytekbdbcomfleeaa
open Go.RowKit

def dP (r : Nat) : Value := .func (.func 29) #[] #[.pointer (some ⟨r, 0, none⟩)]
def dN (r : Nat) : Value := .func (.func 31) #[] #[.pointer (some ⟨r, 0, none⟩)]
def dAgg (p q : Nat) : Value := .agg #[.func (.func 47) #[] #[.pointer (some ⟨p, 0, none⟩), .pointer (some ⟨q, 0, none⟩)], .func (.func 49) #[] #[.pointer (some ⟨p, 0, none⟩), .pointer (some ⟨q, 0, none⟩)]]
/-- What the two functions of a codec of lists of terms hold. -/
def DHas (w : World) (r p q : Nat) : Prop := w.cell? ⟨p, 0, none⟩ = some (dP r) ∧ w.cell? ⟨p, 1, none⟩ = some (dN r) ∧ w.cell? ⟨q, 0, none⟩ = some (.int .i64 (20 : Nat)) ∧ CHas w r
theorem DHas.later {w w' : World} {r p q : Nat} (h : DHas w r p q) (hb : Below w.heap.size w w') : DHas w' r p q := ⟨cell_stays hb h.1, cell_stays hb h.2.1, cell_stays hb h.2.2.1, h.2.2.2.later hb⟩

set_option maxRecDepth 100000 in
set_option maxHeartbeats 800000 in
theorem make_d (f0 : Fn) (fi0 ca0 : Array Value) (f1 : Fn) (fi1 ca1 : Array Value) (w : World) :
    Calls Try.prog 46 #[.func f0 fi0 ca0, .func f1 fi1 ca1] w fun e w' => e = .returned (.agg #[.func f0 fi0 ca0, .func f1 fi1 ca1]) ∧ Below w.heap.size w w' := by
  have e1 := @eg_func
  have e2 := @eqp_d
  have e3 := @eqn_d
  go_enter Try.func46, Try.ntmps46
  go_wp2
  exact bodyPost_ret (by simp [results, Try.results46, go_sem]) rfl ⟨rfl, (Below.refl _ _).alloc (Nat.le_refl _) _⟩

set_option maxRecDepth 100000 in
set_option maxHeartbeats 800000 in
theorem list_c {r : Nat} {w : World} (hh : CHas w r) : Calls Try.prog 22 #[cAgg r, .int .i64 20] w fun e w' => e = .returned (dAgg w.heap.size (w.heap.size + 1)) ∧ DHas w' r w.heap.size (w.heap.size + 1) ∧ Below w.heap.size w w' := by
  have hmf := @mk_func
  have e1 := @eg_func
  have HHH := Lib.hid hh
  clear hh
  unfold cAgg dAgg
  go_enter Try.func22, Try.ntmps22
  go_wp2_with (first | (go_at_call 33; refine (none_c _ _ _ _ _).mono ?_; rintro e w' ⟨rfl, rfl⟩) | (go_at_call 46; refine (make_d _ _ _ _ _ _ _).mono ?_; rintro e w2 ⟨rfl, hb⟩; have hcells := bcell hb))
  have hz := hb.size
  simp at hz
  refine bodyPost_ret (by simp [results, Try.results22, go_sem, hcells, World.cell?_setCell_other]) rfl ⟨rfl, ⟨?_, ?_, ?_, ?_⟩, ?_⟩
  · rw [World.cell?_setCell_other _ _ _ _ (by simp), World.cell?_setCell_other _ _ _ _ (by simp), hcells.1 _ _ (by simp; omega)]
    simp [go_sem, dP]
  · rw [World.cell?_setCell_other _ _ _ _ (by simp), World.cell?_setCell_other _ _ _ _ (by simp), hcells.1 _ _ (by simp; omega)]
    simp [go_sem, dN]
  · rw [World.cell?_setCell_other _ _ _ _ (by simp), World.cell?_setCell_other _ _ _ _ (by simp), hcells.1 _ _ (by simp)]
    simp [go_sem]
    rfl
  · refine HHH.out.later ?_
    exact (((((((Below.refl _ _).alloc (Nat.le_refl _) _).alloc (by simp) _).alloc (by simp; omega) _).alloc (by simp; omega) _).trans (hb.mono (by simp; omega))).setCell (by simp; omega) _).setCell (by simp; omega) _
  · exact (((((((Below.refl _ _).alloc (Nat.le_refl _) _).alloc (by simp) _).alloc (by simp; omega) _).alloc (by simp; omega) _).trans (hb.mono (by simp; omega))).setCell (by simp; omega) _).setCell (by simp; omega) _

set_option maxRecDepth 100000 in
set_option maxHeartbeats 800000 in
theorem list1_c {r p q : Nat} {v : Value} {l : List CardL} {w : World} (hh : DHas w r p q) (h : CardsAt w v l) (htl : ∀ c ∈ l, c.terms.length ≤ 9223372036854775807) (hlen : l.length ≤ 9223372036854775807) :
    Calls Try.prog 47 #[v, .pointer (some ⟨p, 0, none⟩), .pointer (some ⟨q, 0, none⟩)] w fun e w' => e = ret2 (aput cput 20 l) ∧ Below w.heap.size w w' := by
  have HP := Lib.hid (putList_cards (most := 20) (by decide) hh.2.2.2 h htl hlen)
  obtain ⟨c1, c2, c3, _⟩ := hh
  unfold dP at c1
  unfold dN at c2
  unfold cAgg at HP
  clear h
  go_enter Try.func47, Try.ntmps47
  go_wp2_with fail
  refine HP.out.mono ?_
  rintro e w2 ⟨rfl, hb⟩
  unfold ret2
  go_wp2
  go_ret2
  exact ⟨rfl, hb⟩

theorem enters_dp : Enters 47 := fun _ _ => by kernel_rfl
theorem enters_dn : Enters 49 := fun _ _ => by kernel_rfl

theorem nrm2_aput (most : Nat) : ∀ l : List CardL, nrm2 (aput cput most l) = aput cput most l := by
  have key : ∀ (l : List CardL) (acc : List UInt8), nrm2 (aputFrom cput acc l) = aputFrom cput acc l := by
    intro l
    induction l with
    | nil => intro acc; rfl
    | cons c l ih =>
      intro acc
      unfold aputFrom
      split
      · exact ih _
      · rename_i h
        unfold nrm2 outS
        rw [if_neg (by simpa [nrm2, outS] using h)]
  intro l
  unfold aput
  split
  · rfl
  · exact key _ _
theorem put_d {r p q : Nat} {v : Value} {l : List CardL} {w : World} (hh : DHas w r p q) (h : CardsAt w v l) (htl : ∀ c ∈ l, c.terms.length ≤ 9223372036854775807) (hlen : l.length ≤ 9223372036854775807) :
    Calls Try.prog 23 #[dAgg p q, v] w fun e w' => e = ret2 (aput cput 20 l) ∧ Below w.heap.size w w' := by
  have hn := nrm2_aput 20 l
  rw [← hn]
  exact putc_d 47 enters_dp #[] #[_, _] _ v (aput cput 20 l).1 (aput cput 20 l).2 w fun w1 h1 => list1_c (hh.later h1) (h.later h1) htl hlen
end Go.Proofs.Ytekbdbcomfleeaa

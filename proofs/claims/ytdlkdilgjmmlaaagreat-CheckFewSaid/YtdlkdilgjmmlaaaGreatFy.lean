/- A store's Field; what the layers say; a team that loses: what seat q's program did not hold. -/
import Derived.Test.YtdlkdilgjmmlaaaGreatHs
import Derived.Test.YtdlkdilgjmmlaaaGreatSd
import Derived.Test.YtdlkdilgjmmlaaaGreatTk
import Derived.RangeFuncRecord
import Derived.RangeFuncLeaves
import Derived.RangeFuncFrom
namespace Go.Proofs.YtdlkdilgjmmlaaaGreat
open Go.RowKit Go.Maps
set_option maxRecDepth 100000 in
set_option maxHeartbeats 2000000 in
theorem layers_any (x : Int) (o : ObjL) (w : World) : Calls Tryz.prog 44 #[.int .i64 x, oagg o] w (RetV w (.int .i64 (layZ x o.count o.boost))) := by
  obtain ⟨x0, x1, x2, x3, x4, x5, x6, x7, x8, x9, x10⟩ := o
  unfold oagg layZ
  dsimp only
  have HR := Lib.hid raise_any
  go_enter Tryz.func44, Tryz.ntmps44
  go_wp2
  go_region_with ((go_at_call 75; refine (HR.out _ _ _).mono ?_; rintro e w1 ⟨rfl, rfl⟩; dsimp only))
  all_goals
    go_wp2
    go_ret
    exact ⟨rfl, by first | assumption | exact (below_new w _).drew | exact (below_new w _)⟩
end Go.Proofs.YtdlkdilgjmmlaaaGreat
namespace Go.Proofs.YtdlkdilgjmmlaaaGreat
open Go.RowKit Go.Maps
attribute [local go_sem] Oper.semAt_some
theorem clone_at {w : World} {v : Value} {L : List Int} (h : IntsAt w v L) (hL : L.length ≤ 1000) : Calls Tryz.prog 64 #[v] w (RetList w L) := by
  rcases h with ⟨xa, xc, rfl, h0⟩ | ⟨b, off, cap, rfl, hlt, hc⟩
  · have : L = [] := by simpa [intsV] using h0
    subst this
    cases xa with
    | none =>
      refine (Tryz.slices_Clone_int_nil 0 xc w).mono ?_
      rintro e w' ⟨rfl, rfl⟩
      exact ⟨_, rfl, World.ownsRow_nil _ _ _ _, Below.refl _ _⟩
    | some a =>
      refine (Tryz.slices_Clone_int_zero a xc w).mono ?_
      rintro e w' ⟨v', rfl, ho, _, hb'⟩
      exact ⟨_, rfl, ho, hb'⟩
  · rw [intsV_len]
    refine (Tryz.slices_Clone_int b off L.length cap L w (Nat.le_refl _) (by omega) (fun j hj => ?_)).mono ?_
    · rw [hc j (by rw [intsV_len]; exact hj)]
      simp [intsV, List.getD, hj]
    · rintro e w' ⟨v', rfl, ho, _, hb'⟩
      rw [List.take_length] at ho
      exact ⟨_, rfl, ho, hb'⟩
/-- What Field returns: its iterator, the store's address and a list of owners of its own in boxes. -/
def RetFld (w : World) (p : Option Addr) (os : List Int) (e : Ending) (w' : World) : Prop :=
  e = .returned (.func (.func 65) #[] #[.pointer (some ⟨w.heap.size, 0, none⟩), .pointer (some ⟨w.heap.size + 1, 0, none⟩)]) ∧ HdAt w' w.heap.size (.pointer p) ∧ (∃ u, HdAt w' (w.heap.size + 1) u ∧ IntsAt w' u os) ∧ Below w.heap.size w w'
theorem ints_set {w : World} {v u : Value} {l : List Int} {lo : Nat} {p : Addr} (h : w.ownsRow lo 3 1 v l.length (intsV l)) (hp : p.block < lo) : IntsAt (w.setCell p u) v l :=
  own_ints (own11_later h fun k hk => heap_setCell_other w p k u (fun e => by have := (World.ownsRow.lt h k hk).1; omega))
set_option maxRecDepth 100000 in
set_option maxHeartbeats 2000000 in
theorem field_any {w : World} {v : Value} {os : List Int} (p : Option Addr) (h : IntsAt w v os) (hl : os.length ≤ 1000) : Calls Tryz.prog 30 #[.pointer p, v] w (RetFld w p os) := by
  have hmf := @mk_func
  obtain ⟨xa, xc, rfl⟩ := h.form
  have HC := Lib.hid (fun (w' : World) (hb : Below w.heap.size w w') => clone_at (h.later hb) hl)
  have hs0 := (HdAt.new w (.pointer p) 32).later (below_new _ (.cells #[.slice xa os.length xc] 24))
  have ho0 := HdAt.new (w.alloc (.cells #[.pointer p] 32)) (.slice xa os.length xc) 24
  simp only [World.size_alloc] at ho0
  have HS0 := Lib.hid hs0
  have HO0 := Lib.hid ho0
  clear h hs0 ho0
  go_enter Tryz.func30, Tryz.ntmps30
  go_wp2_with fail
  refine (HC.out _ (below_alloc2 (below_new w _) _)).mono ?_
  rintro e w1 ⟨u, rfl, ho, hb1⟩
  have h1 := HO0.out.later hb1
  have c1 := h1.cell
  have f1 := h1.frozen
  have hsz := hb1.size
  have HU := Lib.hid (show IntsAt (w1.setCell ⟨w.heap.size + 1, 0, none⟩ u) u os from ints_set ho (by simp))
  have HSZ := Lib.hid (show Below w.heap.size w (w1.setCell ⟨w.heap.size + 1, 0, none⟩ u) from (stepB (below_alloc2 (below_new w _) _) hb1).setCell (by simp) _)
  have HA := Lib.hid ((HS0.out.later hb1).other (show w.heap.size ≠ w.heap.size + 1 by omega) (j := 0) u)
  have HB := Lib.hid (h1.set u)
  obtain ⟨ua, uc, rfl⟩ := own_form ho
  clear ho hb1 h1 hsz
  dsimp only
  go_wp2
  go_ret
  exact ⟨rfl, HA.out, ⟨_, HB.out, HU.out⟩, HSZ.out⟩
/-! No store: nothing is on its Field. -/
end Go.Proofs.YtdlkdilgjmmlaaaGreat
namespace Go.Proofs.YtdlkdilgjmmlaaaGreat
open Go.RowKit Go.Maps
attribute [local go_sem] Oper.semAt_some
theorem one_int (w : World) (x : Int) : IntsAt (w.alloc (.cells #[.int .i64 x] 3)) (.slice (some ⟨w.heap.size, 0, none⟩) 1 1) [x] :=
  .inr ⟨w.heap.size, 0, 1, rfl, by simp, fun i hi => by
    have : i = 0 := by simp [intsV] at hi; omega
    subst this
    rw [cell_of_row _ _ _ _ _ _ (heap_alloc_new w _)]; rfl⟩
theorem field_mem {S : StoreL} (h : WfS S) (hn : 1 ≤ S.seats) {os : List Int} {x : ObjL} (hx : x ∈ fieldL S os) : ∃ k, ∃ hk : k < S.objs.length, x = S.objs[k] ∧ x.id = (k : Int) + 1 ∧ x.zone = 3 ∧ ∃ n : Nat, x.card = n ∧ n < S.T.length := by
  unfold fieldL selO at hx
  obtain ⟨hx, _⟩ := List.mem_filter.1 hx
  obtain ⟨i, hi, rfl⟩ := List.mem_map.1 hx
  obtain ⟨k, hk, e, ho, hz⟩ := h.onField hn hi
  have hid := h.ids k hk
  rw [ho]
  exact ⟨k, hk, rfl, hid.1, hz, S.objs[k].card.toNat, by omega, by omega⟩
end Go.Proofs.YtdlkdilgjmmlaaaGreat
namespace Go.Proofs.YtdlkdilgjmmlaaaGreat
open Go.RowKit
set_option maxRecDepth 100000 in
set_option maxHeartbeats 4000000 in
theorem tlose_any {w : World} {lo b s r : Nat} {T : TeamL} (h : TeamAt w lo b s r T) (k : Int) : Calls Tryz.prog 23 #[.pointer (some ⟨b, 0, none⟩), .int .i64 k] w (RetT w lo b s r (.bool (!lostT T k)) (loseT T k)) := by
  have HI := Lib.hid (tlost_any h k)
  cases hi : lostT T k with
  | true =>
    have e : loseT T k = T := by
      unfold loseT
      split
      · rename_i h1
        obtain ⟨n, rfl, hn⟩ := in_nat h1
        rw [lostT_in hn] at hi
        rw [Int.toNat_natCast, shAt_in hn, ← hi]
        exact putT_self hn
      · rfl
    rw [hi] at HI
    rw [e]
    have HH := Lib.hid h
    clear h hi e
    go_enter Tryz.func23, Tryz.ntmps23
    go_wp2_with fail
    refine HI.out.mono ?_
    rintro e w1 ⟨rfl, rfl⟩
    go_wp2
    go_ret
    exact ⟨rfl, HH.out, World.grownBy.refl _ _⟩
  | false =>
    have h1 : inT T k = true := by
      cases h1 : inT T k with
      | true => rfl
      | false => simp [lostT, h1] at hi
    obtain ⟨n, rfl, hn⟩ := in_nat h1
    rw [hi] at HI
    have e : loseT T n = putT T n ⟨T.sh[n].life, T.sh[n].poison, true⟩ := by rw [loseT, if_pos h1, Int.toNat_natCast, shAt_in hn]
    rw [e]
    obtain ⟨hp1, hp2, hp3⟩ := h.put n 2 hn (by decide) (.bool true) ⟨T.sh[n].life, T.sh[n].poison, true⟩ rfl
    obtain ⟨c1, c2, k0, k1⟩ := h.heads
    obtain ⟨_, _, c0⟩ := h.cells n hn
    have HP := Lib.hid (And.intro hp1 hp2)
    have h2 := h.n2
    clear h hi h1 e hp1 hp2
    go_enter Tryz.func23, Tryz.ntmps23
    go_wp2_with fail
    refine HI.out.mono ?_
    rintro e w1 ⟨rfl, rfl⟩
    go_wp2
    go_ret
    exact ⟨rfl, HP.out.1, HP.out.2⟩
end Go.Proofs.YtdlkdilgjmmlaaaGreat
namespace Go.Proofs.YtdlkdilgjmmlaaaGreat
open Go.RowKit
attribute [local go_sem] Oper.semAt_some
end Go.Proofs.YtdlkdilgjmmlaaaGreat

/- Perms (layer 4): what it returns, and that its function value keeps the contract of the law on ranges; what a round that appends to a list of lists keeps. -/
import Derived.Test.YtokjghfpdolojaaEs
import Derived.Maps.AppendAt
namespace Go.Proofs.Ytokjghfpdolojaa
open Go.RowKit

def PermsTo (L : List Int) (w : World) (e : Ending) (w' : World) : Prop :=
  e = .returned (.func (.func 24) #[] #[.pointer (some ⟨w.heap.size, 0, none⟩)]) ∧ (∃ lv, w'.cell? ⟨w.heap.size, 0, none⟩ = some lv ∧ RoomAt w' lv L) ∧ Below w.heap.size w w' ∧ w.heap.size < w'.heap.size
set_option maxRecDepth 100000 in
set_option maxHeartbeats 2000000 in
theorem perms_any {v : Value} {L : List Int} {w : World} (hv : IntsAt w v L) (hL : L.length ≤ 1000) : Calls Try.prog 19 #[v] w (PermsTo L w) := by
  obtain ⟨xa, xc, rfl⟩ := hv.form
  have hmf := @mk_func
  have HV := Lib.hid (hv.later (below_new w (.cells #[.slice xa L.length xc] 22)))
  clear hv
  go_enter Try.func19, Try.ntmps19
  go_wp2_with fail
  refine (own_nums HV.out hL).mono ?_
  rintro e w1 ⟨rfl, hr, hb⟩
  have hrow : RowAt w1 w.heap.size 22 [.slice xa L.length xc] := (RowAt.new w 22 [.slice xa L.length xc]).later hb
  have c0 := hrow.cell 0 (by simp)
  have f0 := hrow.free 0
  simp only [List.getElem_cons_zero] at c0
  have hsz : (w.alloc (.cells #[.slice xa L.length xc] 22)).heap.size = w.heap.size + 1 := by simp
  rw [hsz] at hr
  have HR := Lib.hid hr
  have HB := Lib.hid hb
  have HROW := Lib.hid hrow
  clear hr hb hrow hsz
  go_wp2
  go_ret
  refine ⟨rfl, ⟨_, (HROW.out.set 0 _).cell 0 (by simp), room_first (HR.out.other (show w.heap.size + 1 ≠ w.heap.size by omega) _)⟩, ?_, ?_⟩
  · exact ((below_new w _).trans (HB.out.mono (by simp))).setCell (p := ⟨w.heap.size, 0, none⟩) (Nat.le_refl _) _
  · have := HROW.out.lt
    simpa using this

theorem RoomAt.grown {A B : World} {v : Value} {p : List Int} (h : RoomAt A v p) {row : Option Nat} (hg : A.grownBy B row) (hr : ∀ r, row = some r → ∃ o : Obj, A.heap[r]? = some o ∧ o.isCells = false) : RoomAt B v p :=
  h.kept (n₀ := 0) (s := 0) ⟨hg.size, fun k hk _ => by omega, fun k C fr h3 => (grownBy_keeps_cells hg hr h3 rfl).trans h3⟩
theorem permsDone_own (B : Nat) (L : List Int) (n : Nat) : OwnFrom B (PermsDone L n) :=
  fun _ _ _ _ hs hg hr => ⟨hs.1, fun x hx => (hs.2 x hx).grown hg (fun r e => (hr r e).2)⟩
theorem permsPart_own (B : Nat) (L : List Int) (n : Nat) : OwnFrom B (PermsPart L n) :=
  fun _ _ _ _ hs hg hr => ⟨hs.1, fun x hx => (hs.2 x hx).grown hg (fun r e => (hr r e).2)⟩

/-- The function value that Perms returns keeps the contract of the law on ranges. -/
theorem perms_seq (n : Nat) (hn : 1 ≤ n) {w : World} {b s n₀ : Nat} {L : List Int} {lv : Value} (hL : L.length < 6) (hbs : b ≠ s) (hb : b < n₀) (hU : n₀ ≤ w.heap.size) (hr : w.cell? ⟨b, 0, none⟩ = some lv) (hl : RoomAt w lv L) :
    SeqW Fence.wide n Try.prog 24 #[.pointer (some ⟨b, 0, none⟩)] (fun x : PItem => #[x.val]) (KpP n₀ s) (PermsDone L L.length) (PermsPart L L.length) (ordersL L.length).length w := by
  intro l J Jx W hW hJ _ hY h0
  refine perms1_in n hn l b s n₀ L hL hbs hb J Jx ?_ hY W (Nat.le_trans hU hW.size) (cell_stays hW hr) (hl.later hW) h0
  intro pre A B hA hb
  exact hJ pre A B none hA ⟨hb.os, hb.tape, hb.output, hb.size, fun k hk _ => hb.block k hk⟩ (fun r e => by cases e)

theorem KpP.grown {n₀ s : Nat} {A B : World} {row : Option Nat} (hg : A.grownBy B row) (hr : ∀ r, row = some r → n₀ ≤ r ∧ ∃ C fr, A.heap[r]? = some (.cells C 22 fr)) (hn : n₀ ≤ A.heap.size) : KpP n₀ s A B :=
  ⟨hg.size, fun k hk _ => hg.block k (by omega) (fun e => by have := (hr k e.symm).1; omega), fun k C fr h3 => (hg.block k (Array.getElem?_eq_some_iff.1 h3).1 (fun e => by
    obtain ⟨_, C', fr', h'⟩ := hr k e.symm
    rw [h3] at h'; cases h')).trans h3⟩
theorem KpP.box {n₀ s : Nat} {A : World} {v : Value} (v' : Value) (h : Boxed A s 38 v) : KpP n₀ s A (A.setCell ⟨s, 0, none⟩ v') :=
  ⟨by simp, fun k hk hs => heap_setCell_other A ⟨s, 0, none⟩ k v' hs, fun k C fr h3 => by
    have hne : k ≠ s := fun e => by subst e; rw [show A.heap[k]? = _ from h] at h3; cases h3
    exact (heap_setCell_other A ⟨s, 0, none⟩ k v' hne).trans h3⟩
theorem KpP.alloc {n₀ s : Nat} {A : World} (hn : n₀ ≤ A.heap.size) (o : Obj) : KpP n₀ s A (A.alloc o) := KpP.of_below hn (below_new A o)
theorem own_rowL {W : World} {base : Nat} {v : Value} {k : Nat} {xs : List Value} (h : W.ownsRow base 22 1 v k xs) : ∀ r, v.ownBlock = some r → base ≤ r ∧ ∃ C fr, W.heap[r]? = some (.cells C 22 fr) := by
  intro r e
  rcases h.2 with ⟨rfl, _⟩ | ⟨g, cap, cur, rfl, hb, hg, _⟩
  · simp [Value.ownBlock] at e
  · obtain rfl : g = r := by simpa [Value.ownBlock] using e
    exact ⟨hb, _, _, hg⟩
/-- The headers that a slice of slices owns, cell for cell. -/
theorem headsP {W : World} {base : Nat} {v : Value} {zs : List PItem} (h : W.ownsRow base 22 1 v zs.length (zs.map PItem.val)) :
    ∃ a c, v = .slice a zs.length c ∧ ∀ (k : Nat) (hk : k < zs.length), ∃ g, a = some ⟨g, 0, none⟩ ∧ g < W.heap.size ∧ W.cell? ⟨g, k, none⟩ = some zs[k].val := by
  rcases h.2 with ⟨rfl, h0⟩ | ⟨g, cap, cur, rfl, hB, hg, hn, hm, hs, ht⟩
  · exact ⟨none, 0, by rw [h0], fun k hk => by omega⟩
  · refine ⟨_, cap, rfl, fun k hk => ⟨g, rfl, (Array.getElem?_eq_some_iff.1 hg).1, ?_⟩⟩
    have hc : cur[k]? = some zs[k].val := by
      have := congrArg (fun (x : List Value) => x[k]?) ht
      simp only [List.getElem?_map, Nat.mul_one] at this
      rw [List.getElem?_take_of_lt (by omega)] at this
      rw [← Array.getElem?_toList, this, List.getElem?_eq_getElem hk]
      simp
    simp [World.cell?, hg, hc]
end Go.Proofs.Ytokjghfpdolojaa

/- A store's Field; what the layers say; a team that loses: what seat q's program did not hold. -/
import Derived.Test.YtjgjhfeopmakaaaGreatHs
import Derived.Test.YtjgjhfeopmakaaaGreatSd
import Derived.Test.YtjgjhfeopmakaaaGreatTk
import Derived.RangeFuncRecord
import Derived.RangeFuncLeaves
import Derived.RangeFuncFrom
namespace Go.Proofs.YtjgjhfeopmakaaaGreat
open Go.RowKit Go.Maps
set_option maxRecDepth 100000 in
set_option maxHeartbeats 2000000 in
theorem layers_any (x : Int) (o : ObjL) (w : World) : Calls Tryz.prog 44 #[.int .i64 x, oagg o] w (RetV w (.int .i64 (layZ x o.count o.boost))) := by
  obtain ⟨x0, x1, x2, x3, x4, x5, x6, x7, x8, x9, x10⟩ := o
  unfold oagg layZ
  dsimp only
  have HR := Lib.hid raise_any
  go_enter Tryz.func44, Tryz.ntmps44
  go_wp2
  go_region_with ((go_at_call 80; refine (HR.out _ _ _).mono ?_; rintro e w1 ⟨rfl, rfl⟩; dsimp only))
  all_goals
    go_wp2
    go_ret
    exact ⟨rfl, by first | assumption | exact (below_new w _).drew | exact (below_new w _)⟩
end Go.Proofs.YtjgjhfeopmakaaaGreat
namespace Go.Proofs.YtjgjhfeopmakaaaGreat
open Go.RowKit Go.Maps
attribute [local go_sem] Oper.semAt_some
theorem clone_at {w : World} {v : Value} {L : List Int} (h : IntsAt w v L) (hL : L.length ≤ 1000) : Calls Tryz.prog 60 #[v] w (RetList w L) := by
  rcases h with ⟨xa, xc, rfl, h0⟩ | ⟨b, off, cap, rfl, hlt, hc⟩
  · have : L = [] := by simpa [intsV] using h0
    subst this
    cases xa with
    | none =>
      refine (Tryz.slices_Clone_int_nil 0 xc w).mono ?_
      rintro e w' ⟨rfl, rfl⟩
      exact ⟨_, rfl, World.ownsRow_nil _ _ _ _, Below.refl _ _⟩
    | some a =>
      refine (Tryz.slices_Clone_int_zero a xc w).mono ?_
      rintro e w' ⟨v', rfl, ho, _, hb'⟩
      exact ⟨_, rfl, ho, hb'⟩
  · rw [intsV_len]
    refine (Tryz.slices_Clone_int b off L.length cap L w (Nat.le_refl _) (by omega) (fun j hj => ?_)).mono ?_
    · rw [hc j (by rw [intsV_len]; exact hj)]
      simp [intsV, List.getD, hj]
    · rintro e w' ⟨v', rfl, ho, _, hb'⟩
      rw [List.take_length] at ho
      exact ⟨_, rfl, ho, hb'⟩
/-- What Field returns: its iterator, the store's address and a list of owners of its own in boxes. -/
def RetFld (w : World) (p : Option Addr) (os : List Int) (e : Ending) (w' : World) : Prop :=
  e = .returned (.func (.func 123) #[] #[.pointer (some ⟨w.heap.size, 0, none⟩), .pointer (some ⟨w.heap.size + 1, 0, none⟩)]) ∧ HdAt w' w.heap.size (.pointer p) ∧ (∃ u, HdAt w' (w.heap.size + 1) u ∧ IntsAt w' u os) ∧ Below w.heap.size w w'
theorem ints_set {w : World} {v u : Value} {l : List Int} {lo : Nat} {p : Addr} (h : w.ownsRow lo 3 1 v l.length (intsV l)) (hp : p.block < lo) : IntsAt (w.setCell p u) v l :=
  own_ints (own11_later h fun k hk => heap_setCell_other w p k u (fun e => by have := (World.ownsRow.lt h k hk).1; omega))
set_option maxRecDepth 100000 in
set_option maxHeartbeats 2000000 in
theorem field_any {w : World} {v : Value} {os : List Int} (p : Option Addr) (h : IntsAt w v os) (hl : os.length ≤ 1000) : Calls Tryz.prog 115 #[.pointer p, v] w (RetFld w p os) := by
  have hmf := @mk_func
  obtain ⟨xa, xc, rfl⟩ := h.form
  have HC := Lib.hid (fun (w' : World) (hb : Below w.heap.size w w') => clone_at (h.later hb) hl)
  have hs0 := (HdAt.new w (.pointer p) 34).later (below_new _ (.cells #[.slice xa os.length xc] 79))
  have ho0 := HdAt.new (w.alloc (.cells #[.pointer p] 34)) (.slice xa os.length xc) 79
  simp only [World.size_alloc] at ho0
  have HS0 := Lib.hid hs0
  have HO0 := Lib.hid ho0
  clear h hs0 ho0
  go_enter Tryz.func115, Tryz.ntmps115
  go_wp2_with fail
  refine (HC.out _ (below_alloc2 (below_new w _) _)).mono ?_
  rintro e w1 ⟨u, rfl, ho, hb1⟩
  have h1 := HO0.out.later hb1
  have c1 := h1.cell
  have f1 := h1.frozen
  have hsz := hb1.size
  have HU := Lib.hid (show IntsAt (w1.setCell ⟨w.heap.size + 1, 0, none⟩ u) u os from ints_set ho (by simp))
  have HSZ := Lib.hid (show Below w.heap.size w (w1.setCell ⟨w.heap.size + 1, 0, none⟩ u) from (stepB (below_alloc2 (below_new w _) _) hb1).setCell (by simp) _)
  have HA := Lib.hid ((HS0.out.later hb1).other (show w.heap.size ≠ w.heap.size + 1 by omega) (j := 0) u)
  have HB := Lib.hid (h1.set u)
  obtain ⟨ua, uc, rfl⟩ := own_form ho
  clear ho hb1 h1 hsz
  dsimp only
  go_wp2
  go_ret
  exact ⟨rfl, HA.out, ⟨_, HB.out, HU.out⟩, HSZ.out⟩
/-! No store: nothing is on its Field. -/
set_option maxRecDepth 100000 in
set_option maxHeartbeats 2000000 in
theorem onFieldNil_in (w : World) (u : Value) (os : List Int) (hu : IntsAt w u os) :
    CallsIn Fence.wide 8 Tryz.prog 125 #[.pointer none, u] w (fun e w' => e = .returned (.slice none 0 0) ∧ Below w.heap.size w w') := by
  obtain ⟨ua, uc, rfl⟩ := hu.form
  have hb1 := below_new w (.cells #[.pointer none] 34)
  have hb2 := below_new (w.alloc (.cells #[.pointer none] 34)) (.cells #[.slice ua os.length uc] 79)
  have hb3 := below_new ((w.alloc (.cells #[.pointer none] 34)).alloc (.cells #[.slice ua os.length uc] 79)) (.cells #[.slice none 0 0] 75)
  have hl0 := HdAt.new ((w.alloc (.cells #[.pointer none] 34)).alloc (.cells #[.slice ua os.length uc] 79)) (.slice none 0 0) 75
  have hbb := stepB (stepB hb1 hb2) hb3
  simp only [World.size_alloc] at hl0
  have HL0 := Lib.hid hl0
  have HBB := Lib.hid hbb
  clear hb1 hb2 hb3 hl0 hbb hu
  refine callsIn_of_wp_marks Tryz.func125 rfl trivial ?_ rfl
  simp only [Tryz.ntmps125, List.size_toArray, List.length_cons, List.length_nil, Nat.reduceAdd, Nat.reduceSub, Array.replicate_succ, Array.replicate_zero, List.push_toArray, List.append_toArray, List.nil_append, List.cons_append]
  gi_wp2_with fail
  refine ⟨trivial, (callsIn_wide.2 (pileAt_none 0 3 _)).mono ?_⟩
  rintro e wq ⟨rfl, rfl⟩
  dsimp only
  gi_wp2_with fail
  refine ⟨trivial, (callsIn_wide.2 (all_any none _)).mono ?_⟩
  rintro e wr ⟨rfl, hfr, hbr⟩
  have HF := Lib.hid hfr
  have HBR := Lib.hid (stepB HBB.out hbr)
  have HLB := Lib.hid (HL0.out.later hbr)
  obtain ⟨cq, hcq⟩ : ∃ cq, ((((w.alloc (.cells #[.pointer none] 34)).alloc (.cells #[.slice ua os.length uc] 79)).alloc (.cells #[.slice none 0 0] 75))).heap.size = cq := ⟨_, rfl⟩
  rw [hcq] at HF ⊢
  have HSEQ := Lib.hid (nil_seq 7 (by omega) (fun l => KpP (fun k => False ∨ k = l) (fun _ => False)) HF.out)
  have HSZ := Lib.hid (show w.heap.size ≤ wr.heap.size from HBR.out.size)
  clear hfr hbr hcq HBB HL0
  dsimp only
  gi_wp2_with fail
  refine range_world2 rfl (by omega) (I := fun (_ : List AItem) W => Below w.heap.size w W ∧ HdAt W (w.heap.size + 2) (.slice none 0 0)) (Ix := fun _ _ _ => False) (gf := 131) (lb := #[.pointer (some ⟨cq, 0, none⟩)]) rfl trivial (fun _ _ => by kernel_rfl) HSEQ.out KpP.trans (fun W' o o' ho hc _ => KpP.put o' (.inr rfl) ho hc) (Below.refl _ _) (fun _ => rfl)
    (fun s A B row hs hg hr => ⟨ownFrom_below (β := Unit) (Nat.le_refl _) HSZ.out () A B row hs.1 hg hr, hs.2.grown hg (fun r e => (hr r e).2)⟩) (fun c s A B row hs hg hr => hs) (fun s A B row hs hg hr => hs) (fun s A B row hs hg hr => hs) ⟨HBR.out, HLB.out⟩ ?round ?done ?stop
  case stop =>
    rintro D c pre W hD hS hI hK
    exact hI.elim
  case round =>
    rintro pre x Wa W K _ hT hsz hK
    exact hT.elim
  case done =>
    rintro D ys W hD hS ⟨b0, l0⟩ hK
    have cl := l0.cell
    have HB1 := Lib.hid b0
    clear l0 b0
    gi_wp2
    refine ⟨by simp, .inl ⟨_, _, rfl, run_takeDeferred hK, ?_⟩⟩
    refine ⟨_, results_tmp rfl _ _ _, rfl, ?_⟩
    exact HB1.out.trans (belowK_b (w := w) (Nat.le_refl _) W D _ _ (by have := HSZ.out; omega) hK rfl rfl)
theorem onFieldNil_any (w : World) (u : Value) (os : List Int) (hu : IntsAt w u os) :
    Calls Tryz.prog 125 #[.pointer none, u] w (fun e w' => e = .returned (.slice none 0 0) ∧ Below w.heap.size w w') := (callsIn_wide (n := 8)).1 (onFieldNil_in w u os hu)
set_option maxRecDepth 100000 in
set_option maxHeartbeats 2000000 in
theorem fieldNil_seq (n : Nat) (hn : 2 ≤ n) {w : World} {c1 c2 : Nat} {u : Value} {os : List Int} (E H : Nat → Prop) (hE : ∀ k, E k → k < w.heap.size) (h1 : HdAt w c1 (.pointer none)) (h2 : HdAt w c2 u) (hu : IntsAt w u os) (hH : Heads H w) :
    SeqW Fence.wide n Tryz.prog 123 #[.pointer (some ⟨c1, 0, none⟩), .pointer (some ⟨c2, 0, none⟩)] encO (fun l => KpP (fun k => E k ∨ k = l) H) (fun _ _ => False) (fun xs _ => xs = []) (fun _ _ => False) w := by
  intro l J Jx W hW hl1 hl2 hJ _ hY h0
  have HJ := Lib.hid hJ
  have H0 := Lib.hid h0
  have HON := Lib.hid (onFieldNil_any W u os (hu.later hW))
  have k1 := (h1.later hW).cell
  have k2 := (h2.later hW).cell
  have HH := Lib.hid (hH.later hW)
  have HE := Lib.hid (show ∀ k, E k ∨ k = l → k < W.heap.size from fun k hk => by rcases hk with hk | rfl; exact Nat.lt_of_lt_of_le (hE k hk) hW.size; exact hl2)
  obtain ⟨ua, uc, rfl⟩ := hu.form
  clear hJ h0 h1 h2 hu hY hE hH hW
  have hn1 : 1 ≤ n := by omega
  refine callsIn_of_wp Tryz.func123 rfl trivial ?_ rfl
  simp only [Tryz.ntmps123, List.size_toArray, List.length_cons, List.length_nil, Nat.reduceAdd, Nat.reduceSub, Array.replicate_succ, Array.replicate_zero, List.push_toArray, List.append_toArray, List.nil_append, List.cons_append]
  gi_wp2_with fail
  refine ⟨trivial, (callsIn_wide.2 HON.out).mono ?_⟩
  rintro e w1 ⟨rfl, hb1⟩
  have HT := Lib.hid (tell_in (n - 1) l W.heap.size (.slice none 0 0) [] (fun k => E k ∨ k = l) H w1 (World.ownsRow_nil _ _ _ _) (fun k hk => by simp [Value.ownBlock] at hk) (by decide) J (fun _ _ => False) HJ.out (fun pre x W1 _ hx => by simp at hx) (OwnFrom.later HJ.out H0.out hb1) (by omega))
  clear hb1
  dsimp only
  gi_wp2_with fail
  refine ⟨trivial, HT.out.mono ?_⟩
  rintro e w2 ⟨⟨z, rfl⟩, hor⟩
  have HJJ := Lib.hid (show J [] w2 by
    rcases hor with h | ⟨pre, hp, hx⟩
    · exact h
    · exact hx.elim)
  clear hor
  gi_wp2
  go_end0
  exact ⟨⟨_, rfl⟩, .inl ⟨_, rfl, HJJ.out⟩⟩
end Go.Proofs.YtjgjhfeopmakaaaGreat
namespace Go.Proofs.YtjgjhfeopmakaaaGreat
open Go.RowKit Go.Maps
attribute [local go_sem] Oper.semAt_some
theorem one_int (w : World) (x : Int) : IntsAt (w.alloc (.cells #[.int .i64 x] 3)) (.slice (some ⟨w.heap.size, 0, none⟩) 1 1) [x] :=
  .inr ⟨w.heap.size, 0, 1, rfl, by simp, fun i hi => by
    have : i = 0 := by simp [intsV] at hi; omega
    subst this
    rw [cell_of_row _ _ _ _ _ _ (heap_alloc_new w _)]; rfl⟩
theorem field_mem {S : StoreL} (h : WfS S) (hn : 1 ≤ S.seats) {os : List Int} {x : ObjL} (hx : x ∈ fieldL S os) : ∃ k, ∃ hk : k < S.objs.length, x = S.objs[k] ∧ x.id = (k : Int) + 1 ∧ x.zone = 3 ∧ ∃ n : Nat, x.card = n ∧ n < S.T.length := by
  unfold fieldL selO at hx
  obtain ⟨hx, _⟩ := List.mem_filter.1 hx
  obtain ⟨i, hi, rfl⟩ := List.mem_map.1 hx
  obtain ⟨k, hk, e, ho, hz⟩ := h.onField hn hi
  have hid := h.ids k hk
  rw [ho]
  exact ⟨k, hk, rfl, hid.1, hz, S.objs[k].card.toNat, by omega, by omega⟩
theorem fieldL_len {S : StoreL} (hS : WfS S) (hl : S.objs.length ≤ 1000) (hn : 1 ≤ S.seats) (os : List Int) : (fieldL S os).length ≤ 1000 :=
  Nat.le_trans (selO_len _ _ _) ((hS.short hl).2 0 3 ⟨by omega, by decide, by decide, fun _ => rfl⟩)
end Go.Proofs.YtjgjhfeopmakaaaGreat
namespace Go.Proofs.YtjgjhfeopmakaaaGreat
open Go.RowKit
end Go.Proofs.YtjgjhfeopmakaaaGreat
namespace Go.Proofs.YtjgjhfeopmakaaaGreat
open Go.RowKit
attribute [local go_sem] Oper.semAt_some
end Go.Proofs.YtjgjhfeopmakaaaGreat

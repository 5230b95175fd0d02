/- Untap (layer 7), of any seats; of no store. -/
import Derived.Test.YtkhgdfalbmkgcaaJh
namespace Go.Proofs.Ytkhgdfalbmkgcaa
open Go.RowKit Go.Maps
attribute [local go_sem] Oper.semAt_some

set_option maxRecDepth 100000 in
theorem untap_none {p : Option Addr} (xa : Option Addr) (xc : Nat) (w : World) : Calls Try.prog 33 #[.pointer p, .slice xa 0 xc] w (RetV w (.int .i64 0)) := by
  go_enter Try.func33, Try.ntmps33
  go_wp2
  go_ret
  exact ⟨rfl, below_new w _⟩
theorem untap_any {w : World} {lo b : Nat} {G : Ghost} {S : StoreL} {v : Value} {os : List Int} (h : StoreAt w lo b G S) (hS : WfS S) (hl : S.objs.length ≤ 1000) (hv : IntsAt w v os) (hol : os.length ≤ 1000) :
    Calls Try.prog 33 #[.pointer (some ⟨b, 0, none⟩), v] w (RetS w lo b G (untapL S os) (.int .i64 (untapN S os))) := by
  by_cases he : os = []
  · subst he
    obtain ⟨va, vc, rfl⟩ := hv.form
    rw [untapL_none, untapN_none]
    refine (untap_none va vc w).mono ?_
    rintro e w' ⟨rfl, hb⟩
    exact ⟨rfl, G, h.later hb, Turned.of_below hb⟩
  · rw [← untap_eq hS h.n1 he, ← untapN_eq hS h.n1 he]
    exact (callsIn_wide (n := 9)).1 (untap_in h hS hl hv hol (List.length_pos_iff.2 he))
set_option maxRecDepth 100000 in
set_option maxHeartbeats 4000000 in
theorem untapNil_in {w : World} {v : Value} {os : List Int} (hv : IntsAt w v os) (hol : os.length ≤ 1000) (hpos : 0 < os.length) :
    CallsIn Fence.wide 9 Try.prog 33 #[.pointer none, v] w (RetV w (.int .i64 0)) := by
  obtain ⟨va, vc, rfl⟩ := hv.form
  have hb1 := below_new w (.cells #[.pointer none] 26)
  have hb2 := below_new (w.alloc (.cells #[.pointer none] 26)) (.cells #[.int .i64 0] 3)
  have hc0 := HdAt.new (w.alloc (.cells #[.pointer none] 26)) (.int .i64 0) 3
  have hbb := stepB hb1 hb2
  simp only [World.size_alloc] at hc0
  have HFA := Lib.hid (field_any none (hv.later hbb) hol)
  have HC0 := Lib.hid hc0
  have HBB := Lib.hid hbb
  have e0 : ((os.length : Int) == 0) = false := beq_eq_false_iff_ne.2 (by omega)
  clear hb1 hb2 hc0 hbb hv hpos
  refine callsIn_of_wp_marks Try.func33 rfl trivial ?_ rfl
  simp only [Try.ntmps33, List.size_toArray, List.length_cons, List.length_nil, Nat.reduceAdd, Nat.reduceSub, Array.replicate_succ, Array.replicate_zero, List.push_toArray, List.append_toArray, List.nil_append, List.cons_append]
  gi_wp2_with fail
  refine ⟨trivial, (callsIn_wide.2 HFA.out).mono ?_⟩
  rintro e wr ⟨rfl, hf1, ⟨u, hf2, hu⟩, hbr⟩
  have HBR := Lib.hid (stepB HBB.out hbr)
  have HCB := Lib.hid (HC0.out.later hbr)
  obtain ⟨q, hq⟩ : ∃ q, w.heap.size = q := ⟨_, rfl⟩
  have HQQ := Lib.hid hq
  simp only [World.size_alloc, hq] at hf1 hf2
  simp only [hq] at HCB
  have HSR := Lib.hid (show q + 4 ≤ wr.heap.size by have := hf2.lt; omega)
  have HSEQ := Lib.hid (fieldNil_seq 8 (by omega) (w := wr) (fun _ => False) (fun _ => False) (fun _ e => e.elim) hf1 hf2 hu (fun c hc => hc.elim))
  clear hf1 hf2 hu hbr HC0 HFA HBB
  simp only [World.size_alloc, hq]
  gi_wp2_with fail
  refine range_world3 rfl (by omega) (I := fun (_ : List ObjL) W => Below w.heap.size w W ∧ HdAt W (q + 1) (.int .i64 0)) (Ix := fun _ _ _ => False) (gf := 40) (lb := _) rfl trivial (fun _ _ => by kernel_rfl) HSEQ.out KpP.trans (fun W' o o' ho hc _ => KpP.put o' (.inr rfl) ho hc) (fun W W' hb => KpP.of_below _ _ hb) (Below.refl _ _) (fun _ => rfl)
    (fun s A B row hs hg hr => ⟨ownFrom_below (β := Unit) (Nat.le_refl _) (HBR.out.size) () A B row hs.1 hg hr, hs.2.grown hg (fun r e => (hr r e).2)⟩) (fun c s A B row hs hg hr => hs) (fun s A B row hs hg hr => hs) (fun s A B row hs hg hr => hs) ⟨HBR.out, HCB.out⟩ ?round ?done ?stop
  case stop =>
    rintro D c pre W hD hS hI hK
    exact hI.elim
  case round =>
    rintro pre x W K hI hT hsz hK
    exact hT.elim
  case done =>
    rintro D ys W hD hS ⟨b0, l0⟩ hK
    have cl := l0.cell
    have HB1 := Lib.hid b0
    clear l0 b0
    gi_wp2
    refine ⟨by simp, .inl ⟨_, _, rfl, run_takeDeferred hK, ?_⟩⟩
    refine ⟨_, results_tmp rfl _ _ _, rfl, ?_⟩
    exact HB1.out.trans (belowK_b (w := w) (Nat.le_refl _) W D _ _ (by have := HSR.out; have := HQQ.out; omega) hK rfl rfl)
theorem untapNil_any {w : World} {v : Value} {os : List Int} (hv : IntsAt w v os) (hol : os.length ≤ 1000) : Calls Try.prog 33 #[.pointer none, v] w (RetV w (.int .i64 0)) := by
  by_cases he : os = []
  · subst he
    obtain ⟨va, vc, rfl⟩ := hv.form
    exact untap_none va vc w
  · exact (callsIn_wide (n := 9)).1 (untapNil_in hv hol (List.length_pos_iff.2 he))
end Go.Proofs.Ytkhgdfalbmkgcaa

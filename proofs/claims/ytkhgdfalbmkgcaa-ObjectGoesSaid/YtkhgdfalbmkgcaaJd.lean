/- Taps, and what no store has (layer 7). -/
import Derived.Test.YtkhgdfalbmkgcaaJc
namespace Go.Proofs.Ytkhgdfalbmkgcaa
open Go.RowKit Go.Maps
attribute [local go_sem] Oper.semAt_some

def tapO (o : ObjL) : ObjL := ⟨o.id, o.card, o.owner, o.zone, true, o.sick, o.hurt, o.count, o.boost, o.block, o.attacks⟩
def setL (S : StoreL) (k : Nat) (x : ObjL) : StoreL := { S with objs := S.objs.set k x }
theorem RetS.of {w w0 : World} {lo b : Nat} {G G0 : Ghost} {S : StoreL} {v : Value} {e : Ending} {w' : World} (h : RetS w lo b G S v e w') (ht : Turned w0 w G0 G) : RetS w0 lo b G0 S v e w' := by
  obtain ⟨rfl, G', h1, h2⟩ := h
  exact ⟨rfl, G', h1, ht.trans h2⟩
set_option maxRecDepth 100000 in
set_option maxHeartbeats 4000000 in
theorem taps_ok {w : World} {lo b : Nat} {G : Ghost} {S : StoreL} (h : StoreAt w lo b G S) (hS : WfS S) (hl : S.objs.length ≤ 1000) (k : Nat) (hk : k < S.objs.length) (hz : S.objs[k].zone = 3) (ht : S.objs[k].tapped = false) :
    Calls Try.prog 32 #[.pointer (some ⟨b, 0, none⟩), .int .i64 ((k : Int) + 1)] w (RetS w lo b G (setL S k (tapO S.objs[k])) (.int .i64 0)) := by
  have HG := Lib.hid (get_in h hl k hk)
  have hid := (hS.ids k hk).1
  obtain ⟨x, hx⟩ : ∃ x, S.objs[k] = x := ⟨_, rfl⟩
  have HST := Lib.hid (fun (w' : World) (hb : Below w.heap.size w w') (y : ObjL) (h0 : y.id = (k : Int) + 1) (h1 : y.card = x.card) (h2 : y.owner = x.owner) (h3 : y.zone = x.zone) =>
    set_any (h.later hb) hl k hk y h0 (h1.trans (by rw [hx])) (h2.trans (by rw [hx])) (h3.trans (by rw [hx])))
  rw [hx] at HG hz ht hid ⊢
  obtain ⟨x0, x1, x2, x3, x4, x5, x6, x7, x8, x9, x10⟩ := x
  dsimp only at hz ht hid
  subst hz ht hid
  unfold RetGet oagg at HG
  unfold tapO setL
  dsimp only at HG ⊢
  clear h hx hS
  go_enter Try.func32, Try.ntmps32
  go_wp2_with fail
  refine HG.out.mono ?_
  rintro e w1 ⟨rfl, hb1⟩
  have HB := Lib.hid hb1
  clear hb1
  dsimp only
  go_wp2_with fail
  refine ((HST.out _ (below_alloc2 HB.out _) ⟨(k : Int) + 1, x1, x2, 3, true, x5, x6, x7, x8, x9, x10⟩ rfl rfl rfl rfl).mono ?_)
  rintro e w2 ⟨rfl, G', h1, h2⟩
  dsimp only
  go_wp2
  go_ret
  exact ⟨rfl, G', h1, (Turned.of_below (below_alloc2 HB.out _)).trans h2⟩
set_option maxRecDepth 100000 in
set_option maxHeartbeats 4000000 in
/-- What isn't on the Field, or is tapped, is refused. -/
theorem taps_not {w : World} {lo b : Nat} {G : Ghost} {S : StoreL} (h : StoreAt w lo b G S) (hl : S.objs.length ≤ 1000) (k : Nat) (hk : k < S.objs.length) :
    (S.objs[k].zone ≠ 3 → Calls Try.prog 32 #[.pointer (some ⟨b, 0, none⟩), .int .i64 ((k : Int) + 1)] w (RetV w (.int .i64 10))) ∧
    (S.objs[k].zone = 3 → S.objs[k].tapped = true → Calls Try.prog 32 #[.pointer (some ⟨b, 0, none⟩), .int .i64 ((k : Int) + 1)] w (RetV w (.int .i64 15))) := by
  have HG := Lib.hid (get_in h hl k hk)
  obtain ⟨x, hx⟩ : ∃ x, S.objs[k] = x := ⟨_, rfl⟩
  rw [hx] at HG ⊢
  obtain ⟨x0, x1, x2, x3, x4, x5, x6, x7, x8, x9, x10⟩ := x
  unfold RetGet oagg at HG
  dsimp only at HG ⊢
  clear h hx
  refine ⟨fun hz => ?_, fun hz ht => ?_⟩
  · have e3 : (x3 != 3) = true := bne_iff_ne.2 hz
    clear hz
    go_enter Try.func32, Try.ntmps32
    go_wp2_with fail
    refine HG.out.mono ?_
    rintro e w1 ⟨rfl, hb1⟩
    dsimp only
    go_wp2
    go_ret
    exact ⟨rfl, below_alloc2 hb1 _⟩
  · subst hz ht
    go_enter Try.func32, Try.ntmps32
    go_wp2_with fail
    refine HG.out.mono ?_
    rintro e w1 ⟨rfl, hb1⟩
    dsimp only
    go_wp2
    go_ret
    exact ⟨rfl, below_alloc2 hb1 _⟩
theorem taps_out {w : World} {p : Option Addr} {i n : Int} (hn : n ≠ 0) (h : Calls Try.prog 13 #[.pointer p, .int .i64 i] w (RetGet w zeroO n)) :
    Calls Try.prog 32 #[.pointer p, .int .i64 i] w (RetV w (.int .i64 n)) := by
  have HG := Lib.hid h
  have e0 : (n != 0) = true := bne_iff_ne.2 hn
  unfold RetGet oagg zeroO at HG
  dsimp only at HG
  clear h hn
  go_enter Try.func32, Try.ntmps32
  go_wp2_with fail
  refine HG.out.mono ?_
  rintro e w1 ⟨rfl, hb1⟩
  dsimp only
  go_wp2
  go_ret
  exact ⟨rfl, below_alloc2 hb1 _⟩
set_option maxRecDepth 100000 in
set_option maxHeartbeats 4000000 in
theorem landsNil_in (seat : Int) (w : World) : CallsIn Fence.wide 9 Try.prog 26 #[.pointer none, .int .i64 seat] w (RetList w []) := by
  have hb1 := below_new w (.cells #[.pointer none] 26)
  have hb2 := below_new (w.alloc (.cells #[.pointer none] 26)) (.cells #[.slice none 0 0] 37)
  have hb3 := below_new ((w.alloc (.cells #[.pointer none] 26)).alloc (.cells #[.slice none 0 0] 37)) (.cells #[.int .i64 seat] 3)
  have hi0 := one_int ((w.alloc (.cells #[.pointer none] 26)).alloc (.cells #[.slice none 0 0] 37)) seat
  have hl0 := HdAt.new (w.alloc (.cells #[.pointer none] 26)) (.slice none 0 0) 37
  have hbb := stepB (stepB hb1 hb2) hb3
  simp only [World.size_alloc] at hi0 hl0
  have HFA := Lib.hid (field_any none hi0 (by simp))
  have HL0 := Lib.hid (hl0.later hb3)
  have HBB := Lib.hid hbb
  clear hb1 hb2 hb3 hl0 hbb hi0
  refine callsIn_of_wp_marks Try.func26 rfl trivial ?_ rfl
  simp only [Try.ntmps26, List.size_toArray, List.length_cons, List.length_nil, Nat.reduceAdd, Nat.reduceSub, Array.replicate_succ, Array.replicate_zero, List.push_toArray, List.append_toArray, List.nil_append, List.cons_append]
  gi_wp2_with fail
  refine ⟨trivial, (callsIn_wide.2 HFA.out).mono ?_⟩
  rintro e wr ⟨rfl, hf1, ⟨u, hf2, hu⟩, hbr⟩
  have HBR := Lib.hid (stepB HBB.out hbr)
  have HLB := Lib.hid (HL0.out.later hbr)
  obtain ⟨q, hq⟩ : ∃ q, w.heap.size = q := ⟨_, rfl⟩
  have HQQ := Lib.hid hq
  simp only [World.size_alloc, hq] at hf1 hf2
  simp only [hq] at HLB
  have HSEQ := Lib.hid (fieldNil_seq 8 (by omega) (w := wr) (fun _ => False) (fun _ => False) (fun _ e => e.elim) hf1 hf2 hu (fun c hc => hc.elim))
  have HSR := Lib.hid (show q + 5 ≤ wr.heap.size by have := hf2.lt; omega)
  clear hf1 hf2 hu hbr HL0 HFA HBB
  simp only [World.size_alloc, hq]
  gi_wp2_with fail
  refine range_world3 rfl (by omega) (I := fun (_ : List ObjL) W => Below w.heap.size w W ∧ HdAt W (q + 1) (.slice none 0 0)) (Ix := fun _ _ _ => False) (gf := 40) (lb := _) rfl trivial (fun _ _ => by kernel_rfl) HSEQ.out KpP.trans (fun W' o o' ho hc _ => KpP.put o' (.inr rfl) ho hc) (fun W W' hb => KpP.of_below _ _ hb) (Below.refl _ _) (fun _ => rfl)
    (fun s A B row hs hg hr => ⟨ownFrom_below (β := Unit) (Nat.le_refl _) (HBR.out.size) () A B row hs.1 hg hr, hs.2.grown hg (fun r e => (hr r e).2)⟩) (fun c s A B row hs hg hr => hs) (fun s A B row hs hg hr => hs) (fun s A B row hs hg hr => hs) ⟨HBR.out, HLB.out⟩ ?round ?done ?stop
  case stop =>
    rintro D c pre W hD hS hI hK
    exact hI.elim
  case round =>
    rintro pre x W K hI hT hsz hK
    exact hT.elim
  case done =>
    rintro D ys W hD hS ⟨b0, l0⟩ hK
    have cl := l0.cell
    have HB1 := Lib.hid b0
    have HLI := Lib.hid l0
    clear l0 b0
    gi_wp2_with fail
    refine ⟨trivial, (callsIn_wide.2 (Try.slices_Sort_int_none none 0 W)).mono ?_⟩
    rintro e w5 ⟨rfl, rfl⟩
    dsimp only
    gi_wp2
    refine ⟨by simp, .inl ⟨_, _, rfl, run_takeDeferred hK, ?_⟩⟩
    refine ⟨_, results_tmp rfl _ _ _, _, rfl, World.ownsRow_nil _ _ _ _, ?_⟩
    exact HB1.out.trans (belowK_b (w := w) (Nat.le_refl _) w5 D _ _ (by have := HSR.out; have := HQQ.out; omega) hK rfl rfl)
theorem landsNil_any (seat : Int) (w : World) : Calls Try.prog 26 #[.pointer none, .int .i64 seat] w (RetList w []) := (callsIn_wide (n := 9)).1 (landsNil_in seat w)
/-- Has and Can, by what Lands tells. -/
theorem has_of {w : World} {p : Option Addr} {seat : Int} {l : List Int} (h : Calls Try.prog 26 #[.pointer p, .int .i64 seat] w (RetList w l)) (_hl : l.length ≤ 1000) :
    Calls Try.prog 27 #[.pointer p, .int .i64 seat] w (RetV w (.int .i64 l.length)) := by
  have H := Lib.hid h
  clear h
  go_enter Try.func27, Try.ntmps27
  go_wp2_with fail
  refine H.out.mono ?_
  rintro e w1 ⟨v, rfl, ho, hb1⟩
  obtain ⟨xa, xc, rfl⟩ := own_form ho
  clear ho
  dsimp only
  go_wp2
  go_ret
  exact ⟨rfl, hb1⟩
theorem can_of {w : World} {p : Option Addr} {seat cost : Int} {l : List Int} (h : Calls Try.prog 26 #[.pointer p, .int .i64 seat] w (RetList w l)) (hl : l.length ≤ 1000) :
    Calls Try.prog 28 #[.pointer p, .int .i64 seat, .int .i64 cost] w (RetV w (.bool (decide (0 ≤ cost) && decide (cost ≤ l.length)))) := by
  have H := Lib.hid (has_of h hl)
  clear h
  by_cases h0 : 0 ≤ cost
  · have d0 : decide (0 ≤ cost) = true := decide_eq_true h0
    rw [d0]
    clear h0
    go_enter Try.func28, Try.ntmps28
    go_wp2_with fail
    refine H.out.mono ?_
    rintro e w1 ⟨rfl, hb1⟩
    dsimp only
    go_wp2
    go_ret
    exact ⟨ret_bool (by simp), hb1⟩
  · have d0 : decide (0 ≤ cost) = false := decide_eq_false h0
    rw [d0]
    clear h0
    go_enter Try.func28, Try.ntmps28
    go_wp2
    go_ret
    exact ⟨rfl, Below.refl _ _⟩
end Go.Proofs.Ytkhgdfalbmkgcaa

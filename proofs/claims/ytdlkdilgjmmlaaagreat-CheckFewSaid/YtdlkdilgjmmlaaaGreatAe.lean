/- First (layer 10); the teams of the laws; the document's example; the document's words on lists: Ints, Has. -/
import Derived.Test.YtdlkdilgjmmlaaaGreatAd
import Derived.Test.YtdlkdilgjmmlaaaGreatJm
namespace Go.Proofs.YtdlkdilgjmmlaaaGreat
open Go.RowKit Go.Maps
attribute [local go_sem] Oper.semAt_some

set_option maxRecDepth 100000 in
theorem hasRef_any {u : Value} {L : List Int} (x : Int) {w : World} (hu : IntsAt w u L) (hl : L.length ≤ 1000) :
    Calls Tryz.prog 31 #[u, .int .i64 x] w (Same w (.bool (decide (x ∈ L)))) := by
  obtain ⟨ya, yc, rfl⟩ := hu.form
  have HU := Lib.hid hu
  clear hu
  go_enter Tryz.func31, Tryz.ntmps31
  go_wp2
  go_loop [5] (fun i => ∃ k : Nat, k ≤ L.length ∧ i = .int .i64 k ∧ Hid (x ∉ L.take k)) (fun i => L.length - (intOf i).toNat)
  case atStart => exact ⟨0, Nat.zero_le _, rfl, Lib.hid (by simp)⟩
  case round =>
    obtain ⟨k, hk, rfl, HX⟩ := hrel
    by_cases hlt : k < L.length
    · obtain ⟨r, off, rfl, _, c0⟩ := HU.out.at k hlt
      obtain ⟨y, hy⟩ : ∃ y, L[k] = y := ⟨_, rfl⟩
      rw [hy] at c0
      by_cases hyx : y = x
      · subst hyx
        have HD := Lib.hid (show decide (y ∈ L) = true from decide_eq_true (by rw [← hy]; exact List.getElem_mem hlt))
        clear hy
        go_wp2
        go_ret
        exact ⟨by rw [HD.out]; rfl, rfl⟩
      · have HN := Lib.hid (mem_take hlt HX.out (by rw [hy]; exact hyx))
        have e0 : (y == x) = false := beq_eq_false_iff_ne.2 hyx
        clear hy
        go_wp2
        go_round
        case rel => exact ⟨k + 1, by omega, by go_num, HN⟩
        case measure => simp [intOf]; omega
    · obtain rfl : k = L.length := by omega
      have HD := Lib.hid (show decide (x ∈ L) = false from decide_eq_false (by have := HX.out; rwa [List.take_length] at this))
      go_wp2
      go_ret
      exact ⟨by rw [HD.out]; rfl, rfl⟩
theorem ints_no_at {v u : Value} {l m : List Int} {w : World} (hv : IntsAt w v l) (hu : IntsAt w u m) (hl : l.length ≤ 1000) (h : l = m) : Calls Tryz.prog 26 #[v, u] w (RetV w (.bool true)) := by
  subst h
  refine (ints_same hv hu hl).mono ?_
  rintro e w' ⟨rfl, n, rfl⟩
  exact ⟨rfl, below_drewN (Below.refl _ _) n⟩
/-- What First tells: the first one of a list, and whether there is one. -/
def RetFirst (w : World) (L : List Int) (e : Ending) (w' : World) : Prop := e = .returned (.tuple #[.int .i64 (L.getD 0 0), .bool (decide (L ≠ []))]) ∧ Below w.heap.size w w'
theorem results_c89 {fn : Func} {tmps : Array Value} {W : World} {b c : Nat} {x : Int} {v : Bool} (h : fn.results = #[.cell 8 3, .cell 9 4]) (h8 : tmps.getD 8 undef = .pointer (some ⟨b, 0, none⟩)) (h9 : tmps.getD 9 undef = .pointer (some ⟨c, 0, none⟩)) (hb : HdAt W b (.int .i64 x)) (hc : HdAt W c (.bool v)) :
    (results fn tmps).run Tryz.prog W = .ok (.tuple #[.int .i64 x, .bool v]) W := by
  have hb := hb.cell
  have hc := hc.cell
  simp only [Array.getD_eq_getD_getElem?] at h8 h9
  simp [results, h, go_sem, h8, h9, hb, hc]
theorem kpP_set2 {E : Nat → Prop} {W : World} {l : Nat} (u : Value) (hl : E l) : KpP E (fun _ => False) W (W.setCell ⟨l, 0, none⟩ u) := (kpP_setE u).mono (fun k e => by subst e; exact hl)
set_option maxRecDepth 100000 in
set_option maxHeartbeats 16000000 in
theorem first_any {w : World} {lo b tlo tb s r : Nat} {G : Ghost} {S : StoreL} {T : TeamL} (h : StoreAt w lo b G S) (hS : WfS S) (hl : S.objs.length ≤ 1000) (ht : TeamAt w tlo tb s r T) (seat on : Int) :
    Calls Tryz.prog 99 #[.pointer (some ⟨b, 0, none⟩), .pointer (some ⟨tb, 0, none⟩), .int .i64 seat, .int .i64 on] w (RetFirst w (aimL T S seat on)) := by
  have HS := Lib.hid h
  have HT := Lib.hid ht
  have HW := Lib.hid hS
  have HL := Lib.hid hl
  obtain ⟨L, hL⟩ : ∃ L, aimL T S seat on = L := ⟨_, rfl⟩
  rw [hL]
  have HLL := Lib.hid hL
  clear h ht hS hl hL
  refine (callsIn_wide (n := 9)).1 ?_
  refine callsIn_of_wp_marks Tryz.func99 rfl trivial ?_ rfl
  simp only [Tryz.ntmps99, List.size_toArray, List.length_cons, List.length_nil, Nat.reduceAdd, Nat.reduceSub, Array.replicate_succ, Array.replicate_zero, List.push_toArray, List.append_toArray, List.nil_append, List.cons_append]
  refine wpIn_wide.2 ?_
  have b2 := below_alloc2 (below_new w (.cells #[.int .i64 0] 3)) (.cells #[.bool false] 4)
  have HB2 := Lib.hid b2
  have HX2 := Lib.hid (show HdAt ((w.alloc (.cells #[.int .i64 0] 3)).alloc (.cells #[.bool false] 4)) w.heap.size (.int .i64 0) ∧ HdAt ((w.alloc (.cells #[.int .i64 0] 3)).alloc (.cells #[.bool false] 4)) (w.heap.size + 1) (.bool false) from ⟨(HdAt.new w _ _).later (below_new _ _), HdAt.next (by simp)⟩)
  have HS2 := Lib.hid (HS.out.later b2)
  have HT2 := Lib.hid (HT.out.later b2)
  clear b2
  go_wp2_with fail
  obtain ⟨W2, hW2⟩ : ∃ W2, (w.alloc (.cells #[.int .i64 0] 3)).alloc (.cells #[.bool false] 4) = W2 := ⟨_, rfl⟩
  have HSZ2 := Lib.hid (show W2.heap.size = w.heap.size + 2 by rw [← hW2]; simp)
  rw [hW2] at HB2 HX2 HS2 HT2 ⊢
  clear hW2
  refine (aimAll_any (some ⟨b, 0, none⟩) (some ⟨tb, 0, none⟩) seat on W2).mono ?_
  rintro e w3 ⟨rfl, hd1, hd2, hd3, hd4, hb3, hs3⟩
  have hlt := HT.out.lt
  have hls := HT.out.sd.1
  have hlr := HT.out.ltr
  have HSEQ := Lib.hid (aim_seq 8 (by omega) (fun k => k = w.heap.size ∨ k = w.heap.size + 1) (fun _ => False) (fun k hk => by have := HSZ2.out; rcases hk with rfl | rfl <;> omega) (fun k hk => HS.out.high k (by omega)) (fun c hc => hc.elim) (fun _ _ => off_none _ _) (fun q hq => ⟨by rcases hq with rfl | rfl | rfl <;> omega, off_none _ _⟩) (fun c hc => ⟨fun e => by have := HSZ2.out; omega, off_none _ _⟩) hd1 hd2 hd3 hd4 (HS2.out.later hb3) HW.out HL.out (HT2.out.later hb3))
  rw [HLL.out] at HSEQ
  unfold TellsF at HSEQ
  have HX3 := Lib.hid (And.intro (HX2.out.1.later hb3) (HX2.out.2.later hb3))
  have HB3 := Lib.hid (stepB HB2.out hb3)
  have HSZ3 := Lib.hid (show w3.heap.size = w.heap.size + 6 by rw [hs3, HSZ2.out])
  clear hd1 hd2 hd3 hd4 hb3 hs3 hlt hls hlr
  go_wp2_with fail
  refine (wpIn_wide (n := 9)).1 ?_
  obtain ⟨q8, hq8⟩ : ∃ q8, w.heap.size = q8 := ⟨_, rfl⟩
  obtain ⟨q9, hq9⟩ : ∃ q9, w.heap.size + 1 = q9 := ⟨_, rfl⟩
  have HQ := Lib.hid (And.intro hq8 hq9)
  simp only [hq9] at HX3 HSEQ ⊢
  simp only [hq8] at HX3 HSEQ HSZ3 ⊢
  clear hq8 hq9
  refine range_world3 rfl (by omega) (I := fun pre W => pre = [] ∧ HdAt W q8 (.int .i64 0) ∧ HdAt W q9 (.bool false) ∧ Below w.heap.size w W) (Ix := fun c pre W => c = .ret ∧ ∃ x, pre = [x] ∧ HdAt W q8 (.int .i64 x) ∧ HdAt W q9 (.bool true) ∧ Below w.heap.size w W) (gf := 152) (lb := _) rfl trivial (fun _ _ => by kernel_rfl) HSEQ.out KpP.trans (fun W' o o' ho hc _ => KpP.put o' (.inr rfl) ho hc) (fun W W' hb => KpP.of_below _ _ hb) (Below.refl _ _) (fun _ => rfl)
    (fun s A B row hs hg hr => ⟨hs.1, hs.2.1.grown hg (fun r e => (hr r e).2), hs.2.2.1.grown hg (fun r e => (hr r e).2), ownFrom_below (w₀ := w) (n₀ := w.heap.size) (B := w3.heap.size) (Nat.le_refl _) HB3.out.size s A B row hs.2.2.2 hg hr⟩)
    (fun c s A B row hs hg hr => ⟨hs.1, by obtain ⟨x, h1, h2, h3, h4⟩ := hs.2; exact ⟨x, h1, h2.grown hg (fun r e => (hr r e).2), h3.grown hg (fun r e => (hr r e).2), ownFrom_below (w₀ := w) (n₀ := w.heap.size) (B := w3.heap.size) (Nat.le_refl _) HB3.out.size s A B row h4 hg hr⟩⟩)
    (fun s A B row hs hg hr => hs) (fun s A B row hs hg hr => hs) ⟨rfl, HX3.out.1, HX3.out.2, HB3.out⟩ ?round ?done ?stop
  case round =>
    rintro pre x Wr K hI hT hsz hK
    have HK := Lib.hid hK
    clear hK hT hI
    simp only [encF]
    simp
    gi_wp2
    refine HK.out _ _ (Below.refl _ _) ?_
    clear HK
    intro Wb hsz2 hrest hkw ⟨hp, h8, h9, hb⟩
    subst hp
    have HKW := Lib.hid hkw
    have k8 := h8.cell
    have f8 := h8.frozen
    have k9 := h9.cell
    have f9 := h9.frozen
    have hne : q9 ≠ q8 := by have := HQ.out; omega
    have HP : Hid (KpP (fun k => k = q8 ∨ k = q9) (fun _ => False) Wb ((Wb.setCell ⟨q8, 0, none⟩ (.int .i64 x)).setCell ⟨q9, 0, none⟩ (.bool true)) ∧ HdAt ((Wb.setCell ⟨q8, 0, none⟩ (.int .i64 x)).setCell ⟨q9, 0, none⟩ (.bool true)) q8 (.int .i64 x) ∧ HdAt ((Wb.setCell ⟨q8, 0, none⟩ (.int .i64 x)).setCell ⟨q9, 0, none⟩ (.bool true)) q9 (.bool true) ∧ Below w.heap.size w ((Wb.setCell ⟨q8, 0, none⟩ (.int .i64 x)).setCell ⟨q9, 0, none⟩ (.bool true))) := Lib.hid
      ⟨(kpP_set2 _ (.inl rfl)).trans (kpP_set2 _ (.inr rfl)), (h8.set _).other (fun e => hne e.symm) _, (h9.other hne _).set _, (hb.setCell (by rw [← HQ.out.1]; exact Nat.le_refl _) _).setCell (by rw [← HQ.out.2]; exact Nat.le_succ _) _⟩
    have hn1 : ¬ q9 = q8 := hne
    have hn2 : ¬ q8 = q9 := fun e => hne e.symm
    clear hsz2 hrest hkw h8 h9 hb hne
    gi_wp2
    exact ⟨HP.out.1.from (fun k e => by have := HSZ3.out; have := HQ.out; omega), HKW.out.trans (HP.out.1.mono (fun k e => .inl e)), rfl, x, rfl, HP.out.2.1, HP.out.2.2.1, HP.out.2.2.2⟩
  case done =>
    rintro D xs W' hD hS ⟨hp, h8, h9, hb⟩ hK
    subst hp
    have HLE := Lib.hid hS
    have HDD := Lib.hid (show w.heap.size ≤ D ∧ W'.heap[D]? = some (.deferred (some [])) ∧ q8 < D ∧ q9 < D from ⟨by have := HSZ3.out; have := HQ.out; omega, hK, by have := HSZ3.out; have := HQ.out; omega, by have := HSZ3.out; have := HQ.out; omega⟩)
    have k8 := h8.cell
    have f8 := h8.frozen
    have k9 := h9.cell
    have f9 := h9.frozen
    have hne : q9 ≠ q8 := by have := HQ.out; omega
    have HP : Hid (HdAt ((W'.setCell ⟨q8, 0, none⟩ (.int .i64 0)).setCell ⟨q9, 0, none⟩ (.bool false)) q8 (.int .i64 0) ∧ HdAt ((W'.setCell ⟨q8, 0, none⟩ (.int .i64 0)).setCell ⟨q9, 0, none⟩ (.bool false)) q9 (.bool false) ∧ Below w.heap.size w ((W'.setCell ⟨q8, 0, none⟩ (.int .i64 0)).setCell ⟨q9, 0, none⟩ (.bool false)) ∧ ((W'.setCell ⟨q8, 0, none⟩ (.int .i64 0)).setCell ⟨q9, 0, none⟩ (.bool false)).heap[D]? = some (.deferred (some []))) := Lib.hid
      ⟨(h8.set _).other (fun e => hne e.symm) _, (h9.other hne _).set _, (hb.setCell (by rw [← HQ.out.1]; exact Nat.le_refl _) _).setCell (by rw [← HQ.out.2]; exact Nat.le_succ _) _, (heap_setCell_other _ ⟨q9, 0, none⟩ D _ (by have := HDD.out; show D ≠ q9; omega)).trans ((heap_setCell_other _ ⟨q8, 0, none⟩ D _ (by have := HDD.out; show D ≠ q8; omega)).trans HDD.out.2.1)⟩
    have hn1 : ¬ q9 = q8 := hne
    have hn2 : ¬ q8 = q9 := fun e => hne e.symm
    clear h8 h9 hb hne hS hK hD
    go_wp2
    refine leaves_marksO (B := w.heap.size) [D] _ (by simp) (fun D' hD' => by obtain rfl := List.mem_singleton.1 hD'; exact HDD.out.1) (fun D' hD' => by obtain rfl := List.mem_singleton.1 hD'; exact HP.out.2.2.2) (fun W2 hb hc => ?_)
    refine ⟨_, results_c89 rfl rfl rfl (by obtain ⟨t, h⟩ := HP.out.1; exact ⟨t, hc _ _ h rfl⟩) (by obtain ⟨t, h⟩ := HP.out.2.1; exact ⟨t, hc _ _ h rfl⟩), ?_⟩
    refine ⟨?_, HP.out.2.2.1.trans hb⟩
    rw [← HLE.out]
    rfl
  case stop =>
    rintro D c pre W' hD hS ⟨rfl, x, rfl, h8, h9, hb⟩ hK
    have HLE := Lib.hid hS
    have HDD := Lib.hid (show w.heap.size ≤ D ∧ W'.heap[D]? = some (.deferred (some [])) from ⟨by have := HSZ3.out; have := HQ.out; omega, hK⟩)
    have HP := Lib.hid (And.intro h8 (And.intro h9 hb))
    clear h8 h9 hb hS hK hD
    refine wpIn_wide.2 ?_
    go_wp2
    refine leaves_marksO (B := w.heap.size) [D] _ (by simp) (fun D' hD' => by obtain rfl := List.mem_singleton.1 hD'; exact HDD.out.1) (fun D' hD' => by obtain rfl := List.mem_singleton.1 hD'; exact HDD.out.2) (fun W2 hb hc => ?_)
    refine ⟨_, results_c89 rfl rfl rfl (by obtain ⟨t, h⟩ := HP.out.1; exact ⟨t, hc _ _ h rfl⟩) (by obtain ⟨t, h⟩ := HP.out.2.1; exact ⟨t, hc _ _ h rfl⟩), ?_⟩
    refine ⟨?_, HP.out.2.2.trans hb⟩
    obtain ⟨r, hr⟩ := HLE.out
    rw [← hr]
    rfl
end Go.Proofs.YtdlkdilgjmmlaaaGreat

/- The law CardLists (layer 2), walked. -/
import Derived.Test.YtekbdbcomfleeaaNh
import Derived.Test.YtekbdbcomfleeaaLp
import Derived.Test.YtekbdbcomfleeaaOs
import Derived.Deep.CutRange
namespace Go.Proofs.Ytekbdbcomfleeaa
open Go.RowKit
attribute [local go_sem] Oper.semAt_some

set_option maxRecDepth 100000 in
set_option maxHeartbeats 32000000 in
theorem cardLists_walk (l : List CardL) (xa : Option Addr) (xc : Nat) (t : ByteArray) (w : World) (hl : CardsAt w (.slice xa l.length xc) l) (hll : l.length ≤ 9223372036854775807) (hlt : ∀ c ∈ l, c.terms.length ≤ 9223372036854775807) (ht : t.size ≤ maxLen) :
    Calls Try.prog 7 #[.slice xa l.length xc, .string t] w (RetB w true) := by
  have HL := Lib.hid hl
  have HLT := Lib.hid hlt
  have HTS := Lib.hid ht
  clear hl hlt ht
  refine (callsIn_wide (n := 9)).1 ?_
  refine callsIn_of_wp_marks Try.func7 rfl trivial ?_ rfl
  simp only [Try.ntmps7, List.size_toArray, List.length_cons, List.length_nil, Nat.reduceAdd, Nat.reduceSub, Array.replicate_succ, Array.replicate_zero, List.push_toArray, List.append_toArray, List.nil_append, List.cons_append]
  refine wpIn_wide.2 ?_
  go_wp2_with fail
  refine (awake2_any _).mono ?_
  rintro e w1 ⟨rfl, hb1⟩
  have HX := Lib.hid ((HdAt.new w (.slice xa l.length xc) 47).later ((below_new _ (.cells #[.bool false] 4)).trans (hb1.mono (by simp))))
  have HR := Lib.hid (show HdAt w1 (w.heap.size + 1) (.bool false) from by have h := HdAt.new (w.alloc (.cells #[.slice xa l.length xc] 47)) (.bool false) 4; rw [World.size_alloc] at h; exact h.later hb1)
  have HB := Lib.hid ((below_alloc2 (below_new w (.cells #[.slice xa l.length xc] 47)) (.cells #[.bool false] 4)).trans (hb1.mono (by simp; omega)))
  clear hb1
  have c0 := HX.out.cell
  have c1 := HR.out.cell
  have f1 := HR.out.frozen
  by_cases h20 : l.length ≤ 20
  case neg =>
    have d0 : decide ((20 : Int) < l.length) = true := decide_eq_true (by omega)
    go_wp2
    exact ⟨_, results_b4 rfl rfl (HR.out.set (.bool true)), rfl, HB.out.setCell (by dsimp only; omega) _⟩
  have d0 : decide ((20 : Int) < l.length) = false := decide_eq_false (by omega)
  by_cases h50 : t.size ≤ 50
  case neg =>
    have d1 : decide ((50 : Int) < t.size) = true := decide_eq_true (by omega)
    go_wp2
    exact ⟨_, results_b4 rfl rfl (HR.out.set (.bool true)), rfl, HB.out.setCell (by dsimp only; omega) _⟩
  have d1 : decide ((50 : Int) < t.size) = false := decide_eq_false (by omega)
  go_wp2
  go_loopw [5, 29] (fun s i wr => ∃ k : Nat, k ≤ l.length ∧ i = .int .i64 k ∧ (∃ q, s = .string q ∧ Hid (q = ⟨(joined (l.take k)).toArray⟩)) ∧ Hid (∀ c ∈ l.take k, mayB c = true) ∧ Hid (Below w.heap.size w wr) ∧ Hid (HdAt wr w.heap.size (.slice xa l.length xc)) ∧ Hid (HdAt wr (w.heap.size + 1) (.bool false))) (fun _ i _ => l.length - (intOf i).toNat)
  case atStart => exact ⟨0, Nat.zero_le _, rfl, ⟨_, rfl, Lib.hid rfl⟩, Lib.hid (by simp), HB, HX, HR⟩
  case round =>
    obtain ⟨k, hk, rfl, ⟨q, rfl, HQ⟩, HM, HBR, HXR, HRR⟩ := hrel
    clear HB HX HR c0 c1 f1
    have c0 := HXR.out.cell
    have c1 := HRR.out.cell
    have f1 := HRR.out.frozen
    by_cases hlt : k < l.length
    · obtain ⟨b, off, rfl, hcc⟩ : ∃ b off, xa = some ⟨b, off, none⟩ ∧ ∀ i (h : i < l.length), CardCells w b (off + i * 7) l[i] := by
        rcases HL.out with ⟨_, _, _, h2⟩ | ⟨b, off, cap, h1, _, h3⟩
        · rw [h2] at hlt; simp at hlt
        · injection h1 with h1 _ _; exact ⟨b, off, h1, h3⟩
      obtain ⟨ya, yc, k0, k1, k2, k3, k4, k5, k6, hte⟩ := (hcc k hlt).later HBR.out
      have HC := Lib.hid (joined_succ l k hlt)
      have HK1 := Lib.hid (show l.take (k + 1) = l.take k ++ [l[k]] from List.take_succ_eq_append_getElem hlt)
      have hlc := HLT.out l[k] (List.getElem_mem hlt)
      obtain ⟨c, hc⟩ : ∃ c, l[k] = c := ⟨_, rfl⟩
      rw [hc] at k0 k1 k2 k3 k4 k5 k6 hte HC HK1 hlc
      have HTE := Lib.hid hte
      have HLC := Lib.hid hlc
      have e0 : (0 : Int) ≤ k := by omega
      have e1 : (k : Int) < l.length := by omega
      have hbn := BoxC.new wr c ya yc
      have HBN := Lib.hid hbn
      obtain ⟨hbx, n0, n1, n2, n3, n4, n5, n6⟩ := hbn
      have HBX := Lib.hid hbx
      have m0 := (HXR.out.later hbx).cell
      have m1 := (HRR.out.later hbx).cell
      have g1 := (HRR.out.later hbx).frozen
      clear hc hcc hte hlc hbx
      by_cases h30 : c.terms.length ≤ 30
      case neg =>
        have d2 : decide ((30 : Int) < c.terms.length) = true := decide_eq_true (by omega)
        go_wp2
        exact ⟨_, results_b4 rfl rfl ((HRR.out.later HBX.out).set (.bool true)), rfl, (HBR.out.trans (HBX.out.mono HBR.out.size)).setCell (by dsimp only; omega) _⟩
      have d2 : decide ((30 : Int) < c.terms.length) = false := decide_eq_false (by omega)
      go_wp2_with fail
      refine (check_any ⟨ya, _, yc, rfl, HTE.out.later HBX.out⟩ HLC.out).mono ?_
      rintro e w4 ⟨rfl, hb4⟩
      have HX4 := Lib.hid (HBN.out.later hb4)
      have HL4 := Lib.hid (HXR.out.later HX4.out.1)
      have HR4 := Lib.hid (HRR.out.later HX4.out.1)
      have HB4 := Lib.hid (HBR.out.trans (HX4.out.1.mono HBR.out.size))
      obtain ⟨hbx, n0, n1, n2, n3, n4, n5, n6⟩ := HX4.out
      have m1 := HR4.out.cell
      have g1 := HR4.out.frozen
      clear hb4 HBN HBX hbx m0 c0 c1 f1 k0 k1 k2 k3 k4 k5 k6
      cases hm : mayB c
      · have d3 : cardE false = 8 := rfl
        rw [d3]
        go_wp2
        exact ⟨_, results_b4 rfl rfl (HR4.out.set (.bool true)), rfl, HB4.out.setCell (by dsimp only; omega) _⟩
      · have d3 : cardE true = 0 := rfl
        obtain ⟨S, hS⟩ : ∃ S, (⟨(cardBytes c).toArray⟩ : ByteArray) = S := ⟨_, rfl⟩
        have HPUT := Lib.hid (show cput c = (S, 0) by rw [← hS]; exact cput_may c hm)
        have HSS := Lib.hid hS
        have hs19 : S.size ≤ 19 := by
          rw [← hS]
          obtain ⟨_, h4, _⟩ := may_fits hm
          show (cardBytes c).toArray.size ≤ 19
          rw [List.size_toArray, cardBytes_len]; omega
        have hq19 : q.size ≤ 380 := by
          rw [HQ.out]
          show (joined (l.take k)).toArray.size ≤ 380
          have h1 := joined_le (l.take k) HM.out
          rw [List.length_take] at h1
          rw [List.size_toArray]; omega
        have HMM := Lib.hid hm
        rw [d3]
        clear hm hS
        go_wp2
        go_region_held3 (fun w' => Below wr.heap.size wr w' ∧ w'.cell? ⟨wr.heap.size, 0, none⟩ = some (.int .i64 c.kind) ∧ w'.cell? ⟨wr.heap.size, 1, none⟩ = some (.int .i64 c.cost) ∧ w'.cell? ⟨wr.heap.size, 2, none⟩ = some (.int .i64 c.power) ∧ w'.cell? ⟨wr.heap.size, 3, none⟩ = some (.int .i64 c.tough) ∧ w'.cell? ⟨wr.heap.size, 4, none⟩ = some (.int .i64 c.keys) ∧ w'.cell? ⟨wr.heap.size, 5, none⟩ = some (.int .i64 c.whn) ∧ w'.cell? ⟨wr.heap.size, 6, none⟩ = some (.slice ya c.terms.length yc))
          (first | assumption | exact HX4.out.later (Below.refl w4.heap.size w4).drew | exact keep7 (by assumption) (by assumption))
          (first
            | (go_at_call 9; refine (codec_any _).mono ?_; rintro e w2 ⟨r, rfl, hcod, hb2⟩)
            | (go_at_call 10; refine (put_c (by assumption) ⟨ya, _, yc, rfl, HTE.out.later (And.left (by assumption))⟩ HLC.out).mono ?_; rw [HPUT.out]; unfold ret2; rintro e w3 ⟨rfl, hb3⟩))
        have hX3 : BoxC wr w3 wr.heap.size c ya yc := by assumption
        have HX3 := Lib.hid hX3
        have HX5 := Lib.hid (HXR.out.later HX3.out.1)
        have HR5 := Lib.hid (HRR.out.later HX3.out.1)
        have HB5 := Lib.hid (HBR.out.trans (HX3.out.1.mono HBR.out.size))
        obtain ⟨hb3', n0, n1, n2, n3, n4, n5, n6⟩ := hX3
        clear hcod hb3'
        go_wp2
        go_roundw
        case rel => exact ⟨k + 1, by omega, by go_num, ⟨_, rfl, Lib.hid (by rw [HC.out, HQ.out, ← HSS.out, str_app])⟩, Lib.hid (by rw [HK1.out]; intro x hx; rcases List.mem_append.1 hx with hx | hx; exact HM.out x hx; simp at hx; subst hx; exact HMM.out), HB5, HX5, HR5⟩
        case measure => simp [intOf]; omega
    · obtain rfl : k = l.length := by omega
      obtain ⟨wA, rfl⟩ : ∃ wA, wA = wr := ⟨_, rfl⟩
      have hM := HM.out
      have hq := HQ.out
      rw [List.take_length] at hM hq
      have HMA := Lib.hid hM
      have HQA := Lib.hid hq
      have HPUT := Lib.hid (aput_may l hM h20)
      have hj := joined_le l hM
      have hq19 : q.size ≤ 380 := by
        rw [hq]
        show (joined l).toArray.size ≤ 380
        rw [List.size_toArray]; omega
      obtain ⟨S, hS⟩ : ∃ S, (⟨(UInt8.ofNat l.length :: joined l).toArray⟩ : ByteArray) = S := ⟨_, rfl⟩
      rw [hS] at HPUT
      have HSS := Lib.hid hS
      have hSz : S.size = 1 + (joined l).length := by rw [← hS]; show (UInt8.ofNat l.length :: joined l).toArray.size = _; rw [List.size_toArray, List.length_cons]; omega
      have hSr : ReadsAt S 0 (UInt8.ofNat l.length :: joined l) := by rw [← hS]; simpa using ReadsAt.of [] (UInt8.ofNat l.length :: joined l) []
      have HSZ := Lib.hid hSz
      have HSR := Lib.hid hSr
      have hS1 : 1 ≤ S.size := by omega
      have hS400 : S.size ≤ 400 := by omega
      have hsx : (!(S.extract 1 S.size).toList == q.toList) = false := by
        rw [show S.extract 1 S.size = q by rw [← hS, hq]; exact ext1 _ _]
        simp
      clear hlt hk hM hq HM HQ hj hS hSz hSr
      go_wp2_with fail
      refine (codec_any _).mono ?_
      rintro e w2 ⟨r, rfl, hcod, hb2⟩
      have HCOD := Lib.hid hcod
      have HB2 := Lib.hid hb2
      clear hcod hb2
      go_wp2_with fail
      refine (list_c HCOD.out).mono ?_
      rintro e w3 ⟨rfl, hd, hb3⟩
      unfold dAgg
      have hb3' := hb3.trans ((below_new w3 (.cells #[.func (.func 47) #[] #[.pointer (some ⟨w2.heap.size, 0, none⟩), .pointer (some ⟨w2.heap.size + 1, 0, none⟩)], .func (.func 49) #[] #[.pointer (some ⟨w2.heap.size, 0, none⟩), .pointer (some ⟨w2.heap.size + 1, 0, none⟩)]] 51)).mono hb3.size)
      have HD := Lib.hid (hd.later (below_new w3 (.cells #[.func (.func 47) #[] #[.pointer (some ⟨w2.heap.size, 0, none⟩), .pointer (some ⟨w2.heap.size + 1, 0, none⟩)], .func (.func 49) #[] #[.pointer (some ⟨w2.heap.size, 0, none⟩), .pointer (some ⟨w2.heap.size + 1, 0, none⟩)]] 51)))
      have HB3 := Lib.hid (stepB HB2.out hb3')
      have m0 := (HXR.out.later HB3.out).cell
      clear hb3 hb3' hd c0 c1 f1
      go_wp2_with fail
      refine (put_d HD.out (HL.out.later (stepB HBR.out HB3.out)) HLT.out hll).mono ?_
      rw [HPUT.out]
      unfold ret2
      rintro e w4 ⟨rfl, hb4⟩
      have HB4 := Lib.hid hb4
      have HD4 := Lib.hid (HD.out.later hb4)
      have hrow4 : w4.heap[w3.heap.size]? = some (.cells #[.func (.func 47) #[] #[.pointer (some ⟨w2.heap.size, 0, none⟩), .pointer (some ⟨w2.heap.size + 1, 0, none⟩)], .func (.func 49) #[] #[.pointer (some ⟨w2.heap.size, 0, none⟩), .pointer (some ⟨w2.heap.size + 1, 0, none⟩)]] 51 (0, 0)) := (hb4.block _ (by simp)).trans (World.alloc_heap_new w3 _)
      have y0 : w4.cell? ⟨w3.heap.size, 0, none⟩ = some (.func (.func 47) #[] #[.pointer (some ⟨w2.heap.size, 0, none⟩), .pointer (some ⟨w2.heap.size + 1, 0, none⟩)]) := by simp [World.cell?, hrow4]
      have y1 : w4.cell? ⟨w3.heap.size, 1, none⟩ = some (.func (.func 49) #[] #[.pointer (some ⟨w2.heap.size, 0, none⟩), .pointer (some ⟨w2.heap.size + 1, 0, none⟩)]) := by simp [World.cell?, hrow4]
      clear hb4 hrow4
      go_wp2_with fail
      refine (get_d S l HD4.out (by unfold maxLen; omega) h20 HMA.out HSR.out HSZ.out).mono ?_
      rintro e w5 ⟨za, zn, zc, rfl, hz, hb5⟩
      obtain rfl : zn = l.length := by
        rcases hz with ⟨_, _, h1, h2⟩ | ⟨_, _, _, h1, _⟩
        · injection h1 with _ h1 _; rw [h1, h2]; rfl
        · injection h1 with _ h1 _
      have hb6 := hb5.trans ((below_new w5 (.cells #[.slice za l.length zc] 47)).mono hb5.size)
      have HZ := Lib.hid hz
      have HB5 := Lib.hid (stepB HB3.out (HB4.out.trans (hb5.mono HB4.out.size)))
      have HZ13 := Lib.hid (HdAt.new w5 (.slice za l.length zc) 47)
      have HB6 := Lib.hid (stepB HB3.out (HB4.out.trans (hb6.mono HB4.out.size)))
      have m0 := (HXR.out.later HB6.out).cell
      have m1 := (HRR.out.later HB6.out).cell
      have g1 := (HRR.out.later HB6.out).frozen
      have z0 := HZ13.out.cell
      clear hz hb5 hb6
      go_wp2_with fail
      have hbi := (below_new w5 (.cells #[.slice za l.length zc] 47)).trans ((below_new (w5.alloc (.cells #[.slice za l.length zc] 47)) (.cells #[.int .i64 0] 3)).mono (by simp))
      have HBI := Lib.hid hbi
      have HI0 := Lib.hid (show HdAt ((w5.alloc (.cells #[.slice za l.length zc] 47)).alloc (.cells #[.int .i64 0] 3)) (w5.heap.size + 1) (.int .i64 0) from by
        have h := HdAt.new (w5.alloc (.cells #[.slice za l.length zc] 47)) (.int .i64 0) 3
        rw [World.size_alloc] at h
        exact h)
      have HZ13' := Lib.hid (HZ13.out.later (below_new (w5.alloc (.cells #[.slice za l.length zc] 47)) (.cells #[.int .i64 0] 3)))
      clear hbi m0 m1 g1 z0 y0 y1
      refine (codec_any _).mono ?_
      rintro e w7 ⟨r2, rfl, hcod, hb7⟩
      have HCE := Lib.hid (show CHasE (fun k => k = w5.heap.size + 1) w7 r2 from hcod.off (fun k hk => by
        subst hk
        exact ⟨_, (HI0.out.later hb7).cell, (fun p q h => by unfold lP at h; cases h), (fun h => by unfold tP at h; cases h), (fun h => by injection h with _ h; revert h; decide)⟩))
      have HB7 := Lib.hid (HBI.out.trans (hb7.mono HBI.out.size))
      have HI7 := Lib.hid (HI0.out.later hb7)
      have HZ7 := Lib.hid (HZ13'.out.later hb7)
      clear hcod hb7 HI0 HZ13' HBI
      go_wp2_with fail
      refine (all_c r2 (q ++ t) w7).mono ?_
      rintro e w8 ⟨rfl, rfl⟩
      have hCE8 := HCE.out.later ((below_new w7 (.cells #[.func (.func 29) #[] #[.pointer (some ⟨r2, 0, none⟩)], .func (.func 31) #[] #[.pointer (some ⟨r2, 0, none⟩)]] 31)).trans ((below_new _ (.cells #[.string (q ++ t)] 9)).mono (by simp)))
      have h8 := (below_new w7 (.cells #[.func (.func 29) #[] #[.pointer (some ⟨r2, 0, none⟩)], .func (.func 31) #[] #[.pointer (some ⟨r2, 0, none⟩)]] 31)).trans ((below_new _ (.cells #[.string (q ++ t)] 9)).mono (by simp))
      have hw57 : w5.heap.size + 2 ≤ w7.heap.size := (HI7.out.lt : w5.heap.size + 1 < _)
      have hqt : (q ++ t).size ≤ maxLen := by rw [ByteArray.size_append]; unfold maxLen; omega
      have hb1 : ((w7.alloc (.cells #[.func (.func 29) #[] #[.pointer (some ⟨r2, 0, none⟩)], .func (.func 31) #[] #[.pointer (some ⟨r2, 0, none⟩)]] 31)).alloc (.cells #[.string (q ++ t)] 9)).heap[w7.heap.size]? = some (.cells #[.func (.func 29) #[] #[.pointer (some ⟨r2, 0, none⟩)], .func (.func 31) #[] #[.pointer (some ⟨r2, 0, none⟩)]] 31 (0, 0)) :=
        ((below_new _ _).block _ (by simp)).trans (World.alloc_heap_new w7 _)
      have hb2 : ((w7.alloc (.cells #[.func (.func 29) #[] #[.pointer (some ⟨r2, 0, none⟩)], .func (.func 31) #[] #[.pointer (some ⟨r2, 0, none⟩)]] 31)).alloc (.cells #[.string (q ++ t)] 9)).heap[w7.heap.size + 1]? = some (.cells #[.string (q ++ t)] 9 (0, 0)) := by
        have h := World.alloc_heap_new (w7.alloc (.cells #[.func (.func 29) #[] #[.pointer (some ⟨r2, 0, none⟩)], .func (.func 31) #[] #[.pointer (some ⟨r2, 0, none⟩)]] 31)) (.cells #[.string (q ++ t)] 9)
        rw [World.size_alloc] at h
        exact h
      have HSEQ := Lib.hid (call_seq 8 (by omega) (fun k => k = w5.heap.size + 1) (q ++ t) hqt (fun k hk => ⟨by omega, by omega⟩) hCE8 hb1 hb2)
      have HI8 := Lib.hid (show ListI w5 l za zc [] _ from ⟨Nat.zero_le _, HI7.out.later h8, HB7.out.trans (h8.mono HB7.out.size), HZ7.out.later h8⟩)
      have HRD := Lib.hid (show ReadsAt (q ++ t) 0 (joined l) from by
        rw [HQA.out, show t = ⟨t.data.toList.toArray⟩ by simp, str_app]
        exact ReadsAt.of [] (joined l) _)
      have HW57 := Lib.hid hw57
      have HFIN := Lib.hid (show ∀ (D : Nat) (W2 : World) (fn : Func) (tmps : Array Value), w.heap.size ≤ D → D ≠ w.heap.size + 1 → W2.heap[D]? = some (.deferred (some [])) → Below w5.heap.size w5 W2 → fn.results = #[.cell 4 4] → tmps.getD 4 undef = .pointer (some ⟨w.heap.size + 1, 0, none⟩) →
          LeavesInM Fence.wide 9 Try.prog fn tmps (RetB w true) [{ target := .collected D, args := #[] }] .returning (W2.setCell ⟨w.heap.size + 1, 0, none⟩ (.bool true)) from fun D W2 fn tmps hD hne hK hb2 h1 h2 => by
        have hbw := stepB HB5.out hb2
        obtain ⟨tr, hr⟩ := (HRR.out.later hbw).set (.bool true)
        refine leaves_marks (B := w.heap.size) [D] _ (by simp) (fun D' hD' => by simp at hD'; omega) (fun D' hD' => ?_) (fun W' hb hc => ?_)
        · obtain rfl := List.mem_singleton.1 hD'
          exact (heap_setCell_other W2 ⟨w.heap.size + 1, 0, none⟩ D' _ hne).trans hK
        · exact ⟨_, results_b4 h1 h2 ⟨tr, hc _ _ hr rfl⟩, rfl, ((HBR.out.trans (hbw.mono HBR.out.size)).setCell (by dsimp only; omega) _).trans hb⟩)
      clear hCE8 h8 hb1 hb2 hqt HI7 HB7 HZ7 HCE HZ13
      try dsimp only
      go_wp2_with fail
      refine (wpIn_wide (n := 9)).1 ?_
      try simp only [World.size_alloc]
      refine range_worldT rfl (by omega) (I := ListI w5 l za zc) (Ix := ListX w5 l) (gf := 54) (lb := _) rfl trivial (fun _ _ => by kernel_rfl) HSEQ.out KpQ.trans (fun W' o o' ho hc _ => KpQ.put W' o o' ho hc) (fun W W' h => KpQ.below h) (Below.refl _ _) (fun _ => rfl)
        (listI_own (by simp; omega)) (fun c => listX_own (by simp; omega)) (fun s A B row hs hg hr => hs) (fun s A B row hs hg hr => hs) HI8.out ?_ ?_ ?_
      --ROUND
      · rintro pre ⟨x1, m, ya, yn, yc⟩ W K hI ⟨a, hch, hn, hlt, ht⟩ hsz hK
        have HK := Lib.hid hK
        have HCH := Lib.hid hch
        have HN := Lib.hid hn
        have HT := Lib.hid ht
        have HWS := Lib.hid hsz
        clear hK hI hch hn ht hsz hlt
        simp only [encC, Val_c]
        simp
        gi_wp2
        refine HK.out _ _ (below_new W _) ?_
        clear HK
        intro Wb hsz2 hrest hkw ⟨hlen, hi, hb, hz⟩
        have HYR := Lib.hid ((hrest W.heap.size (by have := HWS.out; simp only [World.size_alloc] at this ⊢; omega)).trans (World.alloc_heap_new W _))
        have HKW := Lib.hid hkw
        have HIB := Lib.hid hi
        have HB := Lib.hid hb
        have HZB := Lib.hid hz
        have HTY := Lib.hid (HT.out.kept hkw (fun k hk => by have := HW57.out; simp; omega)).is
        have HBW := Lib.hid (stepB (stepB HBR.out HB5.out) hb)
        have bl0 := (HXR.out.later (stepB HB5.out hb)).cell
        have bi0 := hi.cell
        have bf0 := hi.frozen
        clear hsz2 hrest hkw hi hb hz HT HWS
        try dsimp only
        by_cases hpl : pre.length < l.length
        case neg =>
          have hpe : pre.length = l.length := by omega
          rw [hpe] at bi0 HIB
          gi_wp2
          exact ⟨⟨Nat.le_refl _, fun _ _ _ h _ => h⟩, HKW.out, rfl, HIB.out, HB.out⟩
        have HSNOC := Lib.hid (show (pre ++ [(x1, m, ya, yn, yc)]).length = pre.length + 1 by simp)
        obtain ⟨k, hk⟩ : ∃ k, pre.length = k := ⟨_, rfl⟩
        obtain rfl : x1 = l[pre.length] := by
          have h1 := chain_off HMA.out HRD.out pre 0 a (by rw [offB_zero]; exact HCH.out) (by omega)
          have h2 := next_item (a := 0) HMA.out HRD.out pre.length hpl
          rw [show ((0 : Nat) : Int) + offB l pre.length = a by rw [h1, Nat.zero_add]; omega, HN.out] at h2
          exact congrArg (fun (r : CardL × Int × Int) => r.1) h2
        obtain ⟨b, off, rfl, hcc⟩ : ∃ b off, xa = some ⟨b, off, none⟩ ∧ ∀ i (h : i < l.length), CardCells w b (off + i * 7) l[i] := by
          rcases HL.out with ⟨_, _, _, h2⟩ | ⟨b, off, cap, h1, _, h3⟩
          · rw [h2] at hpl; simp at hpl
          · injection h1 with h1 _ _; exact ⟨b, off, h1, h3⟩
        obtain ⟨la, lc, k0, k1, k2, k3, k4, k5, k6, hte⟩ := (hcc pre.length hpl).later HBW.out
        obtain ⟨bz, offz, rfl, hzc⟩ : ∃ bz offz, za = some ⟨bz, offz, none⟩ ∧ ∀ i (h : i < l.length), ∃ ya yn yc, w5.cell? ⟨bz, offz + i * 7, none⟩ = some (.int .i64 l[i].kind) ∧ w5.cell? ⟨bz, offz + i * 7 + 1, none⟩ = some (.int .i64 l[i].cost) ∧ w5.cell? ⟨bz, offz + i * 7 + 2, none⟩ = some (.int .i64 l[i].power) ∧ w5.cell? ⟨bz, offz + i * 7 + 3, none⟩ = some (.int .i64 l[i].tough) ∧
            w5.cell? ⟨bz, offz + i * 7 + 4, none⟩ = some (.int .i64 l[i].keys) ∧ w5.cell? ⟨bz, offz + i * 7 + 5, none⟩ = some (.int .i64 l[i].whn) ∧ w5.cell? ⟨bz, offz + i * 7 + 6, none⟩ = some (.slice ya yn yc) ∧ TermsIs w5 (.slice ya yn yc) l[i].terms := by
          rcases HZ.out with ⟨_, _, _, h2⟩ | ⟨bz, offz, cap, h1, _, _, h3⟩
          · rw [h2] at hpl; simp at hpl
          · injection h1 with h1 _ _
            refine ⟨bz, offz, h1, fun i hi => ?_⟩
            obtain ⟨ya, yn, yc, c0, c1, c2, c3, c4, c5, c6, ht⟩ := h3 i hi
            exact ⟨ya, yn, yc, c0, c1, c2, c3, c4, c5, c6, ht.is⟩
        obtain ⟨sa, sn, sc, z0, z1, z2, z3, z4, z5, z6, htz⟩ := hzc pre.length hpl
        have hlc := HLT.out l[pre.length] (List.getElem_mem hpl)
        obtain ⟨c, hc⟩ : ∃ c, l[pre.length] = c := ⟨_, rfl⟩
        have HYR2 := HYR.out
        have HTY2 := HTY.out
        try dsimp only at HTY2
        rw [hc] at k0 k1 k2 k3 k4 k5 k6 hte z0 z1 z2 z3 z4 z5 htz hlc HYR2 HTY2
        rw [hk] at k0 k1 k2 k3 k4 k5 k6 z0 z1 z2 z3 z4 z5 z6 bi0
        have HYC := Lib.hid (show Wb.cell? ⟨W.heap.size, 0, none⟩ = some (.int .i64 c.kind) ∧ Wb.cell? ⟨W.heap.size, 1, none⟩ = some (.int .i64 c.cost) ∧ Wb.cell? ⟨W.heap.size, 2, none⟩ = some (.int .i64 c.power) ∧ Wb.cell? ⟨W.heap.size, 3, none⟩ = some (.int .i64 c.tough) ∧ Wb.cell? ⟨W.heap.size, 4, none⟩ = some (.int .i64 c.keys) ∧ Wb.cell? ⟨W.heap.size, 5, none⟩ = some (.int .i64 c.whn) ∧ Wb.cell? ⟨W.heap.size, 6, none⟩ = some (.slice ya yn yc) from by refine ⟨?_, ?_, ?_, ?_, ?_, ?_, ?_⟩ <;> simp [World.cell?, HYR2])
        have HLC := Lib.hid (show Wb.cell? ⟨b, off + k * 7, none⟩ = some (.int .i64 c.kind) ∧ Wb.cell? ⟨b, off + k * 7 + 1, none⟩ = some (.int .i64 c.cost) ∧ Wb.cell? ⟨b, off + k * 7 + 2, none⟩ = some (.int .i64 c.power) ∧ Wb.cell? ⟨b, off + k * 7 + 3, none⟩ = some (.int .i64 c.tough) ∧ Wb.cell? ⟨b, off + k * 7 + 4, none⟩ = some (.int .i64 c.keys) ∧ Wb.cell? ⟨b, off + k * 7 + 5, none⟩ = some (.int .i64 c.whn) ∧ Wb.cell? ⟨b, off + k * 7 + 6, none⟩ = some (.slice la c.terms.length lc) from ⟨k0, k1, k2, k3, k4, k5, k6⟩)
        have HXC := Lib.hid (show Wb.cell? ⟨bz, offz + k * 7, none⟩ = some (.int .i64 c.kind) ∧ Wb.cell? ⟨bz, offz + k * 7 + 1, none⟩ = some (.int .i64 c.cost) ∧ Wb.cell? ⟨bz, offz + k * 7 + 2, none⟩ = some (.int .i64 c.power) ∧ Wb.cell? ⟨bz, offz + k * 7 + 3, none⟩ = some (.int .i64 c.tough) ∧ Wb.cell? ⟨bz, offz + k * 7 + 4, none⟩ = some (.int .i64 c.keys) ∧ Wb.cell? ⟨bz, offz + k * 7 + 5, none⟩ = some (.int .i64 c.whn) ∧ Wb.cell? ⟨bz, offz + k * 7 + 6, none⟩ = some (.slice sa sn sc) from ⟨cell_stays HB.out z0, cell_stays HB.out z1, cell_stays HB.out z2, cell_stays HB.out z3, cell_stays HB.out z4, cell_stays HB.out z5, cell_stays HB.out z6⟩)
        have HBL := Lib.hid bl0
        have HBI := Lib.hid bi0
        have HBX := Lib.hid HZB.out.cell
        have hsame : sameB c c = true := (sameB_iff c c).2 rfl
        have HS1 := Lib.hid (fun (w' : World) (hb : Below Wb.heap.size Wb w') => refSame_any (w := w') (v := cagg c (.slice ya yn yc)) (u := cagg c (.slice la c.terms.length lc)) ⟨ya, yn, yc, rfl, HTY2.later hb⟩ ⟨la, _, lc, rfl, hte.later hb⟩ hlc hlc)
        have HS2 := Lib.hid (fun (w' : World) (hb : Below Wb.heap.size Wb w') => refSame_any (w := w') (v := cagg c (.slice sa sn sc)) (u := cagg c (.slice la c.terms.length lc)) ⟨sa, sn, sc, rfl, (htz.later HB.out).later hb⟩ ⟨la, _, lc, rfl, hte.later hb⟩ hlc hlc)
        rw [hsame] at HS1 HS2
        have HTL := Lib.hid hk
        have e0 : (0 : Int) ≤ k := by omega
        have e1 : (k : Int) < l.length := by omega
        clear k0 k1 k2 k3 k4 k5 k6 z0 z1 z2 z3 z4 z5 z6 hte htz hlc HYR2 HTY2 hsame hcc hzc HYR HTY HN HCH
        gi_wp2
        refine wpIn_region_any (by kernel_rfl) ?_
        change wpAnyIn _ _ _ _ _ _ _ _ _ (World.drew _)
        refine anyS.any (S := fun w' => Below Wb.heap.size Wb w') ?_
        refine anyS_take (i := 0) (v := ?_) (by kernel_rfl) rfl (by kernel_rfl) (by kernel_rfl) (by kernel_rfl) (fun _ _ _ h => h) (by kernel_rfl) (fun _ => by kernel_rfl) ?_ ?_
        rotate_left
        · intro w' hS
          have y0 := cell_stays hS HYC.out.1
          have y1 := cell_stays hS HYC.out.2.1
          have y2 := cell_stays hS HYC.out.2.2.1
          have y3 := cell_stays hS HYC.out.2.2.2.1
          have y4 := cell_stays hS HYC.out.2.2.2.2.1
          have y5 := cell_stays hS HYC.out.2.2.2.2.2.1
          have y6 := cell_stays hS HYC.out.2.2.2.2.2.2
          go_simp
          try with_reducible rfl
        refine anyS_take (i := 1) (v := ?_) (by kernel_rfl) rfl (by kernel_rfl) (by kernel_rfl) (by kernel_rfl) (fun _ _ _ h => h) (by kernel_rfl) (fun _ => by kernel_rfl) ?_ ?_
        rotate_left
        · intro w' hS
          have bl := cell_stays hS HBL.out
          go_simp
          try with_reducible rfl
        refine anyS_take (i := 2) (v := ?_) (by kernel_rfl) rfl (by kernel_rfl) (by kernel_rfl) (by kernel_rfl) (fun _ _ _ h => h) (by kernel_rfl) (fun _ => by kernel_rfl) ?_ ?_
        rotate_left
        · intro w' hS
          have bi := cell_stays hS HBI.out
          go_simp
          try with_reducible rfl
        refine anyS_take (i := 3) (v := ?_) (by kernel_rfl) rfl (by kernel_rfl) (by kernel_rfl) (by kernel_rfl) (fun _ _ _ h => h) (by kernel_rfl) (fun _ => by kernel_rfl) ?_ ?_
        rotate_left
        · intro w' hS
          go_simp
          try with_reducible rfl
        refine anyS_take (i := 4) (v := ?_) (by kernel_rfl) rfl (by kernel_rfl) (by kernel_rfl) (by kernel_rfl) (fun _ _ _ h => h) (by kernel_rfl) (fun _ => by kernel_rfl) ?_ ?_
        rotate_left
        · intro w' hS
          have k0 := cell_stays hS HLC.out.1
          have k1 := cell_stays hS HLC.out.2.1
          have k2 := cell_stays hS HLC.out.2.2.1
          have k3 := cell_stays hS HLC.out.2.2.2.1
          have k4 := cell_stays hS HLC.out.2.2.2.2.1
          have k5 := cell_stays hS HLC.out.2.2.2.2.2.1
          have k6 := cell_stays hS HLC.out.2.2.2.2.2.2
          go_simp
          try with_reducible rfl
        refine anyS_one (i := 5) (by kernel_rfl) rfl ((Below.refl _ _).drew) (fun K hK => ?_)
        go_simp
        gi_wp2_with ((refine ⟨trivial, ?_⟩; gi_at_call 15; refine CallsIn.mono (F := Fence.wide) (callsIn_wide.2 (HS1.out _ (Below.refl _ _).drew)) ?_; rintro e w9 ⟨rfl, hb9⟩; have HB9 := Lib.hid (stepB (Below.refl _ _).drew hb9); clear hb9))
        refine anyS_take (i := 6) (v := ?_) (by kernel_rfl) rfl (by kernel_rfl) (by kernel_rfl) (by kernel_rfl) (fun _ _ _ h => h) (by kernel_rfl) (fun _ => by kernel_rfl) ?_ ?_
        rotate_left
        · intro w' hS
          go_simp
          try with_reducible rfl
        refine anyS_take (i := 7) (v := ?_) (by kernel_rfl) rfl (by kernel_rfl) (by kernel_rfl) (by kernel_rfl) (fun _ _ _ h => h) (by kernel_rfl) (fun _ => by kernel_rfl) ?_ ?_
        rotate_left
        · intro w' hS
          go_simp
          try with_reducible rfl
        refine anyS_take (i := 8) (v := ?_) (by kernel_rfl) rfl (by kernel_rfl) (by kernel_rfl) (by kernel_rfl) (fun _ _ _ h => h) (by kernel_rfl) (fun _ => by kernel_rfl) ?_ ?_
        rotate_left
        · intro w' hS
          have bx := cell_stays hS HBX.out
          go_simp
          try with_reducible rfl
        refine anyS_take (i := 9) (v := ?_) (by kernel_rfl) rfl (by kernel_rfl) (by kernel_rfl) (by kernel_rfl) (fun _ _ _ h => h) (by kernel_rfl) (fun _ => by kernel_rfl) ?_ ?_
        rotate_left
        · intro w' hS
          have bi := cell_stays hS HBI.out
          go_simp
          try with_reducible rfl
        refine anyS_take (i := 10) (v := ?_) (by kernel_rfl) rfl (by kernel_rfl) (by kernel_rfl) (by kernel_rfl) (fun _ _ _ h => h) (by kernel_rfl) (fun _ => by kernel_rfl) ?_ ?_
        rotate_left
        · intro w' hS
          go_simp
          try with_reducible rfl
        refine anyS_take (i := 11) (v := ?_) (by kernel_rfl) rfl (by kernel_rfl) (by kernel_rfl) (by kernel_rfl) (fun _ _ _ h => h) (by kernel_rfl) (fun _ => by kernel_rfl) ?_ ?_
        rotate_left
        · intro w' hS
          have z0 := cell_stays hS HXC.out.1
          have z1 := cell_stays hS HXC.out.2.1
          have z2 := cell_stays hS HXC.out.2.2.1
          have z3 := cell_stays hS HXC.out.2.2.2.1
          have z4 := cell_stays hS HXC.out.2.2.2.2.1
          have z5 := cell_stays hS HXC.out.2.2.2.2.2.1
          have z6 := cell_stays hS HXC.out.2.2.2.2.2.2
          go_simp
          try with_reducible rfl
        refine anyS_take (i := 12) (v := ?_) (by kernel_rfl) rfl (by kernel_rfl) (by kernel_rfl) (by kernel_rfl) (fun _ _ _ h => h) (by kernel_rfl) (fun _ => by kernel_rfl) ?_ ?_
        rotate_left
        · intro w' hS
          have bl := cell_stays hS HBL.out
          go_simp
          try with_reducible rfl
        refine anyS_take (i := 13) (v := ?_) (by kernel_rfl) rfl (by kernel_rfl) (by kernel_rfl) (by kernel_rfl) (fun _ _ _ h => h) (by kernel_rfl) (fun _ => by kernel_rfl) ?_ ?_
        rotate_left
        · intro w' hS
          have bi := cell_stays hS HBI.out
          go_simp
          try with_reducible rfl
        refine anyS_take (i := 14) (v := ?_) (by kernel_rfl) rfl (by kernel_rfl) (by kernel_rfl) (by kernel_rfl) (fun _ _ _ h => h) (by kernel_rfl) (fun _ => by kernel_rfl) ?_ ?_
        rotate_left
        · intro w' hS
          go_simp
          try with_reducible rfl
        refine anyS_take (i := 15) (v := ?_) (by kernel_rfl) rfl (by kernel_rfl) (by kernel_rfl) (by kernel_rfl) (fun _ _ _ h => h) (by kernel_rfl) (fun _ => by kernel_rfl) ?_ ?_
        rotate_left
        · intro w' hS
          have k0 := cell_stays hS HLC.out.1
          have k1 := cell_stays hS HLC.out.2.1
          have k2 := cell_stays hS HLC.out.2.2.1
          have k3 := cell_stays hS HLC.out.2.2.2.1
          have k4 := cell_stays hS HLC.out.2.2.2.2.1
          have k5 := cell_stays hS HLC.out.2.2.2.2.2.1
          have k6 := cell_stays hS HLC.out.2.2.2.2.2.2
          go_simp
          try with_reducible rfl
        refine anyS_one (i := 16) (by kernel_rfl) rfl (HB9.out) (fun K hK => ?_)
        go_simp
        gi_wp2_with ((refine ⟨trivial, ?_⟩; gi_at_call 15; refine CallsIn.mono (F := Fence.wide) (callsIn_wide.2 (HS2.out _ HB9.out)) ?_; rintro e w10 ⟨rfl, hb10⟩; have HB10 := Lib.hid (stepB HB9.out hb10); clear hb10))
        refine anyS_take (i := 17) (v := ?_) (by kernel_rfl) rfl (by kernel_rfl) (by kernel_rfl) (by kernel_rfl) (fun _ _ _ h => h) (by kernel_rfl) (fun _ => by kernel_rfl) ?_ ?_
        rotate_left
        · intro w' hS
          go_simp
          try with_reducible rfl
        refine anyS_take (i := 18) (v := ?_) (by kernel_rfl) rfl (by kernel_rfl) (by kernel_rfl) (by kernel_rfl) (fun _ _ _ h => h) (by kernel_rfl) (fun _ => by kernel_rfl) ?_ ?_
        rotate_left
        · intro w' hS
          go_simp
          try with_reducible rfl
        refine anyS_done (by kernel_rfl) (HB10.out) ?_ _
        have HI10 := Lib.hid (HIB.out.later HB10.out)
        rw [HTL.out] at HI10
        have ci := HI10.out.cell
        have cf := HI10.out.frozen
        gi_wp2
        have hset := HI10.out.set (.int .i64 ((k : Int) + 1))
        have hsb := (stepB HB.out HB10.out).setCell (p := ⟨w5.heap.size + 1, 0, none⟩) (by dsimp only; omega) (.int .i64 ((k : Int) + 1))
        have hbx := (HZB.out.later HB10.out).other (c := w5.heap.size + 1) (j := 0) (by omega) (.int .i64 ((k : Int) + 1))
        refine ⟨⟨by have := HB10.out.size; simpa using this, fun j o hB ho _ => (heap_setCell_other w10 ⟨w5.heap.size + 1, 0, none⟩ j _ (by have := HW57.out; simp at hB; show j ≠ w5.heap.size + 1; omega)).trans ((HB10.out.block j (Array.getElem?_eq_some_iff.1 ho).1).trans ho)⟩, HKW.out.trans ⟨by have := HB10.out.size; simpa using this, fun j o ho hE _ => (heap_setCell_other w10 ⟨w5.heap.size + 1, 0, none⟩ j _ hE).trans ((HB10.out.block j (Array.getElem?_eq_some_iff.1 ho).1).trans ho)⟩, ?_, ?_, hsb, hbx⟩
        · rw [HSNOC.out]; omega
        · rw [HSNOC.out, HTL.out]; exact hset
      · rintro D xs W2 hD ⟨b0, hch, hend⟩ ⟨hlen, hi2, hb2, hz2⟩ hK
        have hxl : xs.length = l.length := by
          refine Classical.byContradiction fun hne => ?_
          have hlt : xs.length < l.length := by omega
          have hb := chain_off HMA.out HRD.out xs 0 b0 (by rw [offB_zero]; exact hch) (by omega)
          have hn := next_item (a := 0) HMA.out HRD.out xs.length hlt
          rw [show ((0 : Nat) : Int) + offB l xs.length = b0 by rw [hb, Nat.zero_add]; omega] at hn
          rw [hn, offB_succ l _ hlt] at hend
          rw [Nat.zero_add] at hb
          rcases hend with h | h
          · exact h rfl
          · simp at h; omega
        rw [hxl] at hi2
        have m0 := (HXR.out.later (stepB HB5.out hb2)).cell
        have m1 := (HRR.out.later (stepB HB5.out hb2)).cell
        have g1 := (HRR.out.later (stepB HB5.out hb2)).frozen
        have ci := hi2.cell
        have hDw : w.heap.size ≤ D ∧ D ≠ w.heap.size + 1 := by
          have h1 := HBR.out.size
          have h2 := HB5.out.size
          have h3 := HW57.out
          have h4 := HRR.out.lt
          simp at hD
          omega
        have HK2 := Lib.hid (HFIN.out D W2)
        have HDW := Lib.hid hDw
        have HKK := Lib.hid hK
        have HB2' := Lib.hid hb2
        clear HSEQ HI8 hK hb2 hi2 hz2 hend hch
        go_wp2
        exact HK2.out _ _ HDW.out.1 HDW.out.2 HKK.out HB2'.out rfl rfl
      · rintro D c xs W2 hD _ ⟨rfl, hi2, hb2⟩ hK
        have m0 := (HXR.out.later (stepB HB5.out hb2)).cell
        have m1 := (HRR.out.later (stepB HB5.out hb2)).cell
        have g1 := (HRR.out.later (stepB HB5.out hb2)).frozen
        have ci := hi2.cell
        have hDw : w.heap.size ≤ D ∧ D ≠ w.heap.size + 1 := by
          have h1 := HBR.out.size
          have h2 := HB5.out.size
          have h3 := HW57.out
          have h4 := HRR.out.lt
          simp at hD
          omega
        have HK2 := Lib.hid (HFIN.out D W2)
        have HDW := Lib.hid hDw
        have HKK := Lib.hid hK
        have HB2' := Lib.hid hb2
        clear HSEQ HI8 hK hb2 hi2
        refine wpIn_wide.2 ?_
        go_wp2
        exact HK2.out _ _ HDW.out.1 HDW.out.2 HKK.out HB2'.out rfl rfl
end Go.Proofs.Ytekbdbcomfleeaa

/- The law OctetCuts (layer 1), walked: for every width, bytes and text it returns true, and only new memory is made. -/
import Derived.Test.YtplkodmmedhemaaY
import Derived.Test.YtplkodmmedhemaaZ
import Derived.Test.YtplkodmmedhemaaR
import Derived.Deep.RegionHeld3
import Derived.Lib.OthersKept
namespace Go.Proofs.Ytplkodmmedhemaa
open Go.RowKit

theorem LCodecOk.shape {W : World} {v : Value} {g : List Int → ByteArray × Int} {h : ByteArray → Nat → List Int × Int × Int} (hc : LCodecOk W v g h) : ∃ k f c k' f' c', v = .agg #[.func (.func k) f c, .func (.func k') f' c'] := by
  obtain ⟨pv, nv, rfl, ⟨k, f, c, rfl, _⟩, ⟨k', f', c', rfl, _⟩⟩ := hc
  exact ⟨k, f, c, k', f', c', rfl⟩

theorem lget_cut {h : Nat} {l : List Int} (hl : l.length ≤ 60) (hf : ∀ x ∈ l, fitsN h x = true) (k : Nat) (hk : k < (listStr h l).size) : lgetOf (lnextI (nextN h) 60) ((listStr h l).extract 0 k) = ([], 3) := by
  obtain ⟨h1, h2⟩ := lnext_cut (most := 60) hl hl hf k hk
  have e : lnextAt (lnextI (nextN h) 60) ((listStr h l).extract 0 k) 0 = ([], 0, 3) := by
    unfold lnextAt lnextI
    rw [if_pos ⟨Int.le_refl _, by omega⟩]
    simp only [Int.toNat_zero, Int.natCast_zero]
    rw [h2]
    simp [keepL, keepM]
  unfold lgetOf
  simp [e]
theorem str_more (h : Nat) (l : List Int) (more : ByteArray) : listStr h l ++ more = BA (UInt8.ofNat l.length :: (body h l ++ more.data.toList)) := by
  rw [← BA_of more, listStr, BA_append, BA_of]; rfl
theorem lnextAt_more {h : Nat} {l : List Int} (hl : l.length ≤ 60) (hf : ∀ x ∈ l, fitsN h x = true) (more : ByteArray) : lnextAt (lnextI (nextN h) 60) (listStr h l ++ more) 0 = (l, ((listStr h l).size : Int), 0) := by
  unfold lnextAt lnextI
  rw [if_pos ⟨Int.le_refl _, by omega⟩]
  simp only [Int.toNat_zero, Int.natCast_zero]
  rw [str_more, lnext_list hl hl hf]
  simp [keepL, keepM]
theorem lget_more {h : Nat} {l : List Int} (hl : l.length ≤ 60) (hf : ∀ x ∈ l, fitsN h x = true) (more : ByteArray) (hm : more.size ≠ 0) : lgetOf (lnextI (nextN h) 60) (listStr h l ++ more) = ([], 4) := by
  unfold lgetOf
  rw [lnextAt_more hl hf]
  have : ((listStr h l).size : Int) ≠ ((listStr h l ++ more).size : Int) := by rw [ByteArray.size_append]; omega
  exact (if_pos rfl).trans (if_neg this)
theorem lget_whole {h : Nat} {l : List Int} (hl : l.length ≤ 60) (hf : ∀ x ∈ l, fitsN h x = true) : lgetOf (lnextI (nextN h) 60) (listStr h l ++ ⟨#[]⟩) = (l, 0) := by
  unfold lgetOf
  rw [lnextAt_more hl hf]
  have : ((listStr h l).size : Int) = ((listStr h l ++ ⟨#[]⟩).size : Int) := by rw [ByteArray.size_append]; rfl
  exact (if_pos rfl).trans (if_pos this)

theorem keepS2 {w w1 w2 : World} {b : Nat} {v1 v2 : Value} (hb : Below w1.heap.size w1 w2)
    (h : Below w.heap.size w w1 ∧ w1.cell? ⟨b, 0, none⟩ = some v1 ∧ w1.cell? ⟨b, 1, none⟩ = some v2) :
    Below w.heap.size w w2 ∧ w2.cell? ⟨b, 0, none⟩ = some v1 ∧ w2.cell? ⟨b, 1, none⟩ = some v2 :=
  ⟨below_step h.1 hb, cell_keeps hb h.2.1, cell_keeps hb h.2.2⟩

/-- A row of numbers that a call has gathered is a slice of them. -/
theorem is_of_owns {w : World} {B n : Nat} {v : Value} {l : List Int} (h : w.ownsRow B 3 1 v n (l.map (Value.int .i64))) (hl : l.length = n) : SliceIs w v l := by
  rcases h.2 with ⟨rfl, h0⟩ | ⟨g, cap, cur, rfl, hB, hg, hn, hm, hs, ht⟩
  · exact .inl ⟨rfl, List.eq_nil_of_length_eq_zero (by omega)⟩
  · have hlt : g < w.heap.size := by
      rcases Nat.lt_or_ge g w.heap.size with h' | h'
      · exact h'
      · simp [Array.getElem?_eq_none h'] at hg
    refine .inr ⟨g, 0, cap, by rw [hl], hlt, fun i hi => ?_⟩
    have hc : cur[i]? = some (.int .i64 (l.getD i 0)) := by
      have := congrArg (fun (x : List Value) => x[i]?) ht
      simp only [List.getElem?_map, Nat.mul_one] at this
      rw [List.getElem?_take_of_lt (by omega)] at this
      rw [← Array.getElem?_toList, this, List.getElem?_eq_getElem hi]
      simp [List.getD, List.getElem?_eq_getElem hi]
    simp [World.cell?, hg, hc]

set_option maxHeartbeats 4000000 in
set_option maxRecDepth 100000 in
theorem octetCuts_walk (width : Int) (oa : Option Addr) (cap : Nat) (zs : List Int) (more : ByteArray) (w : World) (hs : more.size ≤ maxLen)
    (hz : ∀ x ∈ zs, 0 ≤ x ∧ x < 256)
    (harg : 0 < zs.length → ∃ b off, oa = some ⟨b, off, none⟩ ∧ b < w.heap.size ∧ ∀ i, i < zs.length → w.cell? ⟨b, off + i, none⟩ = some (.int .u8 (zs.getD i 0))) :
    Calls Try.prog 5 #[.int .i64 width, .slice oa zs.length cap, .string more] w fun e w' => e = .returned (.bool true) ∧ Below w.heap.size w w' := by
  unfold maxLen at hs
  by_cases hl1 : 60 < zs.length
  · have hd : decide ((60 : Int) < zs.length) = true := by simp; omega
    go_enter Try.func5, Try.ntmps5
    go_wp2_with fail
    refine (awake_any _).mono ?_
    rintro e w1 ⟨rfl, hb1⟩
    go_wp2
    go_ret
    exact ⟨rfl, hb1⟩
  · have hd : decide ((60 : Int) < zs.length) = false := by simp; omega
    by_cases hl2 : 100 < more.size
    · have hd2 : decide ((100 : Int) < more.size) = true := by simp; omega
      go_enter Try.func5, Try.ntmps5
      go_wp2_with fail
      refine (awake_any _).mono ?_
      rintro e w1 ⟨rfl, hb1⟩
      go_wp2
      go_ret
      exact ⟨rfl, hb1⟩
    · have hd2 : decide ((100 : Int) < more.size) = false := by simp; omega
      have HARG := Lib.hid harg
      have HZ := Lib.hid hz
      clear harg hz
      obtain ⟨i0, hi, hz0, hz1, hz2⟩ := info_parts info3
      go_enter Try.func5, Try.ntmps5
      go_wp2_with fail
      refine (awake_any _).mono ?_
      rintro e w1 ⟨rfl, hb1⟩
      have HW1 := Lib.hid hb1
      clear hb1
      go_wp2_with fail
      refine (num_codec width _).mono ?_
      rintro e w2 ⟨vc, rfl, hcod, hb2⟩
      have HW2 := Lib.hid (below_step HW1.out hb2)
      have HC2 := Lib.hid hcod
      clear hcod hb2
      go_wp2_with fail
      refine (list_codec HC2.out (Below.refl _ _) (putN_size _ (heldN_bd width).2) 60).mono ?_
      rintro e w3 ⟨v3, rfl, hcod, hb3⟩
      rw [show mostN 60 = 60 from rfl] at hcod
      have HW3 := Lib.hid (below_step HW2.out hb3)
      have HC3 := Lib.hid hcod
      obtain ⟨k0, f0, a0, k1, f1, a1, rfl⟩ := hcod.shape
      clear hcod hb3
      go_wp2
      have hU := below_alloc w3 (.cells #[.func (.func k0) f0 a0, .func (.func k1) f1 a1] 45)
      have HWu := Lib.hid (below_step HW3.out hU)
      have HCu := Lib.hid (HC3.out.later hU)
      have HAu := Lib.hid (Has2.new w3 (.func (.func k0) f0 a0) (.func (.func k1) f1 a1) 45)
      clear hU
      generalize w3.alloc (.cells #[.func (.func k0) f0 a0, .func (.func k1) f1 a1] 45) = U at HWu HCu HAu ⊢
      go_loopw [8, 36] (fun nv i wr => ∃ k : Nat, k ≤ zs.length ∧ i = .int .i64 k ∧ Hid (wr.ownsRow U.heap.size 3 1 nv k ((zs.map (Value.int .i64)).take k)) ∧ Hid (Below U.heap.size U wr)) (fun _ i _ => zs.length - (RowKit.intOf i).toNat)
      case atStart => exact ⟨0, Nat.zero_le _, rfl, Lib.hid (World.ownsRow_nil _ _ _ _), Lib.hid (Below.refl _ _)⟩
      case round =>
        obtain ⟨k, hk, rfl, HOWN, HB⟩ := hrel
        by_cases hkn : k < zs.length
        · obtain ⟨b, off, rfl, hbw, hcells⟩ := HARG.out (by omega)
          have hwU := HWu.out
          have c1 := (HB.out.cell (p := ⟨b, off + k, none⟩) (Nat.lt_of_lt_of_le hbw hwU.size)).trans ((hwU.cell (p := ⟨b, off + k, none⟩) hbw).trans (hcells k hkn))
          have hzk := HZ.out zs[k] (List.getElem_mem hkn)
          have HX : Hid ((zs.map (Value.int .i64)).take (k + 1) = (zs.map (Value.int .i64)).take k ++ [.int .i64 zs[k]]) := Lib.hid (by rw [List.take_succ_eq_append_getElem (by simpa using hkn)]; simp)
          clear hwU hcells
          have hsz := HB.out.size
          have hown := HOWN.out
          go_wp2_with (at_builtin; refine wpList_append_own _ rfl _ _ 51 rfl U.heap.size 3 i0 (.int .i64 0) 1 8 Try.underlying51 hi hz0 hz1 hz2 rfl (by decide) _ _ _ rfl (hown.alloc _) ⟨wr.heap.size, 0, none⟩ 1 1 [.int .i64 zs[k]] rfl rfl ?c1 ?c2 ?c3 ?c4 ?c5 ?_)
          case c1 =>
            intro j u hj
            match j, hj with
            | 0, hj => simp at hj; subst hj; simp [Addr.add]
          case c2 => intro u hu; simp at hu; subst hu; rfl
          case c3 => unfold maxLen; omega
          case c4 => omega
          case c5 => simp; omega
          intro v' w4 hown' hgrow _
          rw [← HX.out] at hown'
          have HOWN4 := Lib.hid hown'
          have HB4 := Lib.hid ((HB.out.alloc hsz (.cells #[.int .i64 zs[k]] 3)).grown hgrow (by simp; omega) (fun q hq => (hown.lt q hq).1))
          clear hown' hgrow hown
          go_wp2
          go_roundw
          case rel => exact ⟨k + 1, by omega, by go_num, HOWN4, HB4⟩
          case measure => simp [RowKit.intOf]; omega
        · obtain rfl : k = zs.length := by omega
          clear hi hz0 hz1 hz2
          have HIS := Lib.hid (is_of_owns (l := zs) (by have h := HOWN.out; rw [List.take_of_length_le (by simp)] at h; exact h) rfl)
          obtain ⟨na, nc, rfl⟩ := HIS.out.shape
          have c0 := (HAu.out.later HB.out).1
          have c1 := (HAu.out.later HB.out).2
          have hfit : ∀ y ∈ zs, fitsN (heldN width) y = true := fun y hy => by
            have h1 := HZ.out y hy
            have h2 := heldN_bd width
            have h3 : (256 : Int) ≤ powN (heldN width) := by rcases (by omega : heldN width = 1 ∨ heldN width = 2 ∨ heldN width = 3 ∨ heldN width = 4) with h | h | h | h <;> rw [h] <;> decide
            simp [fitsN]
            omega
          have HFIT := Lib.hid hfit
          have HPUT := Lib.hid (lput_list (h := heldN width) (most := 60) (by omega) hfit)
          obtain ⟨S, hS⟩ : ∃ S, listStr (heldN width) zs = S := ⟨_, rfl⟩
          have hSsz : S.size ≤ 241 := by
            have := heldN_bd width
            rw [← hS, listStr, BA_size, List.length_cons, body_length]
            have : heldN width * zs.length ≤ 4 * 60 := Nat.mul_le_mul (by omega) (by omega)
            omega
          have HSS := Lib.hid hS
          clear hfit hS
          go_wp2_with fail
          refine (lput_codec HCu.out HB.out zs _ HIS.out).mono ?_
          rw [HPUT.out, HSS.out]
          rintro e w4 ⟨rfl, hb4⟩
          have HB4 := Lib.hid (below_step HB.out hb4)
          have HIS4 := Lib.hid (HIS.out.later hb4)
          clear hb4 c0 c1
          unfold ret2
          have hrg := @run_range_string Try.prog
          go_wp2
          go_loopw [13] (fun _ wr => ∃ pos : Nat, Hid (wr.heap[w4.heap.size]? = some (.stringIter S pos)) ∧ Hid (Below w4.heap.size w4 wr)) (fun _ wr => S.size - wr.iterPos w4.heap.size)
          case atStart => exact ⟨0, Lib.hid (World.iter_heap _ _ _), Lib.hid (below_alloc _ _)⟩
          case round =>
            obtain ⟨pos, HIT, HV⟩ := hrel
            by_cases hp : pos < S.size
            · have hnx := fun ty => Lib.run_next_any_at (P := Try.prog) _ w4.heap.size S pos ty HIT.out hp
              have HV2 := Lib.hid (Lib.below_iterAt HV.out (Nat.le_refl _) S (pos + (Utf8.decode S pos).2))
              have HIT2 := Lib.hid (Lib.iterAt_heap _ w4.heap.size S pos (pos + (Utf8.decode S pos).2) HIT.out)
              have hpos63 : (pos : Int) ≤ S.size := by omega
              have hsl : ∀ u : World, (Instr.slice 9 (.string S) none (some (.int .i64 pos)) none).run Try.prog u = .ok (.string (S.extract 0 pos)) u := fun u => by
                simp [Instr.slice, run_underlying Try.underlying9, go_sem, hpos63]
              have HCUT : Hid (lgetOf (lnextI (nextN (heldN width)) 60) (S.extract 0 pos) = ([], 3)) := by
                refine Lib.hid ?_
                have h1 := lget_cut (h := heldN width) (l := zs) (by omega) HFIT.out pos (by rw [HSS.out]; exact hp)
                rw [HSS.out] at h1
                exact h1
              have HZS := Lib.hid (show (S.extract 0 pos).size ≤ maxLen by rw [ByteArray.size_extract]; unfold maxLen; omega)
              go_wp2
              generalize wr.iterAt w4.heap.size S (pos + (Utf8.decode S pos).2) = V at HV2 HIT2 ⊢
              have c0 := ((HAu.out.later HB4.out).later HV2.out).1
              have c1 := ((HAu.out.later HB4.out).later HV2.out).2
              go_region_held3 (fun w' => Below V.heap.size V w' ∧ w'.cell? ⟨w3.heap.size, 0, none⟩ = some (.func (.func k0) f0 a0) ∧ w'.cell? ⟨w3.heap.size, 1, none⟩ = some (.func (.func k1) f1 a1)) (first | exact ⟨below_drew _, c0, c1⟩ | exact keepS2 (by assumption) (by assumption)) ((go_at_call 22; refine (lget_codec HCu.out (below_step (below_step HB4.out HV2.out) (And.left (by assumption))) _ HZS.out).mono ?_; rw [HCUT.out]; rintro e w5 ⟨xa, xn, xc, rfl, hsl5, hb5⟩))
              obtain rfl : xn = 0 := by
                rcases hsl5 with ⟨h1, _⟩ | ⟨_, _, _, h1, _⟩
                · simp at h1; exact h1.2.1
                · simp at h1; exact h1.2.1
              have hV5 : Below V.heap.size V w5 := And.left (by assumption)
              have HV5 := Lib.hid (below_step HV2.out hV5)
              have HIT5 : Hid (w5.heap[w4.heap.size]? = some (.stringIter S (pos + (Utf8.decode S pos).2))) := by
                refine Lib.hid ?_
                rw [hV5.block _ (Array.getElem?_eq_some_iff.1 HIT2.out).1]
                exact HIT2.out
              clear hb5 hsl5 hnx hsl
              have hdec : 1 ≤ (Utf8.decode S pos).2 := by
                rcases Nat.lt_or_ge (S[pos]'hp).toNat 128 with h | h
                · rw [decode_ascii S pos hp h]; exact Nat.le_refl _
                · exact (decode_high S pos hp h).2
              go_wp2
              go_roundw
              case rel => exact ⟨pos + (Utf8.decode S pos).2, HIT5, HV5⟩
              case measure =>
                unfold World.iterPos
                rw [HIT5.out, HIT.out]
                simp
                omega
            · have hnx := fun ty => Lib.run_next_end_at (P := Try.prog) _ w4.heap.size S pos ty HIT.out hp
              have c0 := ((HAu.out.later HB4.out).later HV.out).1
              have c1 := ((HAu.out.later HB4.out).later HV.out).2
              have HSM := Lib.hid (show (S ++ more).size ≤ maxLen by rw [ByteArray.size_append]; unfold maxLen; omega)
              have HNX := lnextAt_more (h := heldN width) (l := zs) (by omega) HFIT.out more
              rw [HSS.out] at HNX
              have HNXH := Lib.hid HNX
              clear HNX
              go_wp2_with fail
              refine (lnext_codec HCu.out (below_step HB4.out HV.out) (S ++ more) 0 HSM.out).mono ?_
              rw [HNXH.out]
              rintro e w6 ⟨xa, xn, xc, rfl, hsl6, hb6⟩
              have HV6 := Lib.hid (below_step HV.out hb6)
              have HX6 := Lib.hid hsl6.is
              have HN6 := Lib.hid ((HIS4.out.later HV.out).later hb6)
              clear hsl6 hb6 c0 c1 hnx
              unfold ret3s
              have c0 := ((HAu.out.later HB4.out).later HV6.out).1
              have c1 := ((HAu.out.later HB4.out).later HV6.out).2
              by_cases hm : more.size = 0
              · obtain rfl : more = ⟨#[]⟩ := by
                  apply ByteArray.ext
                  exact Array.eq_empty_of_size_eq_zero hm
                have HGM := lget_whole (h := heldN width) (l := zs) (by omega) HFIT.out
                rw [HSS.out] at HGM
                have HGMH := Lib.hid HGM
                clear HGM
                go_wp2_with fail
                refine (lget_codec HCu.out (below_step HB4.out HV6.out) _ HSM.out).mono ?_
                rw [HGMH.out]
                rintro e w7 ⟨ya, yn, yc, rfl, hsl7, hb7⟩
                have HV7 := Lib.hid (below_step HV6.out hb7)
                have HX7 := Lib.hid (HX6.out.later hb7)
                have HN7 := Lib.hid (HN6.out.later hb7)
                clear hsl7 hb7 c0 c1
                go_wp2_with fail
                refine (ints_same HX7.out HN7.out (by omega)).mono ?_
                rintro e w8 ⟨rfl, hb8⟩
                have HV8 := Lib.hid (below_step HV7.out hb8)
                clear hb8
                go_wp2
                go_ret
                exact ⟨by simp, below_step HWu.out (below_step HB4.out HV8.out)⟩
              · skip
                have HGM := lget_more (h := heldN width) (l := zs) (by omega) HFIT.out more hm
                rw [HSS.out] at HGM
                have HGMH := Lib.hid HGM
                clear HGM
                go_wp2_with fail
                refine (lget_codec HCu.out (below_step HB4.out HV6.out) _ HSM.out).mono ?_
                rw [HGMH.out]
                rintro e w7 ⟨ya, yn, yc, rfl, hsl7, hb7⟩
                have HV7 := Lib.hid (below_step HV6.out hb7)
                have HX7 := Lib.hid (HX6.out.later hb7)
                have HN7 := Lib.hid (HN6.out.later hb7)
                clear hsl7 hb7 c0 c1
                go_wp2_with fail
                refine (ints_same HX7.out HN7.out (by omega)).mono ?_
                rintro e w8 ⟨rfl, hb8⟩
                have HV8 := Lib.hid (below_step HV7.out hb8)
                clear hb8
                have hmb : (more.toList == []) = false := by
                  cases h : more.toList with
                  | nil =>
                    exfalso
                    apply hm
                    rw [ByteArray.toList_eq] at h
                    have := congrArg List.length h
                    rw [Array.length_toList] at this
                    exact this
                  | cons _ _ => rfl
                have hmb2 : more.toList.isEmpty = false := by
                  cases h : more.toList with
                  | nil => simp [h] at hmb
                  | cons _ _ => rfl
                go_wp2
                go_ret
                exact ⟨by simp, below_step HWu.out (below_step HB4.out HV8.out)⟩
end Go.Proofs.Ytplkodmmedhemaa

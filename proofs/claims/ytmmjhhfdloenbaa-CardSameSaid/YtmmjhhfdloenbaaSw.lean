/- The law CardSame (layer 2), walked. -/
import Derived.Test.YtmmjhhfdloenbaaSf
namespace Go.Proofs.Ytmmjhhfdloenbaa
open Go.RowKit

set_option maxRecDepth 100000 in
set_option maxHeartbeats 16000000 in
theorem cardSame_at {a b : CardL} (xa ya : Option Addr) (xc yc : Nat) (w : World) (hta : TermsIs w (.slice xa a.terms.length xc) a.terms) (htb : TermsIs w (.slice ya b.terms.length yc) b.terms)
    (ha30 : a.terms.length ≤ 30) (hb30 : b.terms.length ≤ 30) (sa sb : ByteArray) (ea eb : Int) (hpa : cput a = (sa, ea)) (hpb : cput b = (sb, eb)) (p1 p2 p3 q : Bool) (h1 : (ea != 0) = p1) (h2 : (eb != 0) = p2) (h3 : (sa.toList == sb.toList) = p3) (hq : sameB a b = q) (hall : (p1 || (p2 || (p3 == q))) = true) :
    Calls Try.prog 9 #[cagg a (.slice xa a.terms.length xc), cagg b (.slice ya b.terms.length yc)] w (RetB w true) := by
  have HTA := Lib.hid hta
  have HTB := Lib.hid htb
  have HLA := Lib.hid (show a.terms.length ≤ 9223372036854775807 by omega)
  have HLB := Lib.hid (show b.terms.length ≤ 9223372036854775807 by omega)
  have HA30 := Lib.hid ha30
  have HPA := Lib.hid hpa
  have HPB := Lib.hid hpb
  have HQ := Lib.hid hq
  have HSA := Lib.hid ((sameB_iff a a).2 rfl)
  have HALL := Lib.hid hall
  have H123 := Lib.hid (And.intro h1 (And.intro h2 h3))
  have e1 : decide ((30 : Int) < a.terms.length) = false := decide_eq_false (by omega)
  have e2 : decide ((30 : Int) < b.terms.length) = false := decide_eq_false (by omega)
  clear hta htb hpa hpb hq hall h1 h2 h3 hb30
  unfold cagg
  go_enter Try.func9, Try.ntmps9
  go_wp2_with fail
  refine (awake2_any _).mono ?_
  rintro e w1 ⟨rfl, hb1⟩
  have HX1 := Lib.hid ((Two.new w a b xa ya a.terms.length xc b.terms.length yc).later hb1)
  obtain ⟨_, ⟨i0, i1, i2, i3, i4, i5, i6⟩, ⟨j0, j1, j2, j3, j4, j5, j6⟩⟩ := HX1.out
  clear hb1
  go_wp2_with fail
  refine (refSame_any ⟨xa, _, xc, rfl, HTA.out.later HX1.out.1⟩ ⟨ya, _, yc, rfl, HTB.out.later HX1.out.1⟩ HLA.out HLB.out).mono ?_
  rw [HQ.out]
  rintro e w2 ⟨rfl, hb2⟩
  have HX2 := Lib.hid (HX1.out.later hb2)
  clear hb2 i0 i1 i2 i3 i4 i5 i6 j0 j1 j2 j3 j4 j5 j6
  obtain ⟨_, ⟨i0, i1, i2, i3, i4, i5, i6⟩, _⟩ := HX2.out
  go_wp2_with fail
  refine (copy_any (HTA.out.later HX2.out.1) HA30.out).mono ?_
  rintro e w3 ⟨v, rfl, hrow, hb3⟩
  have HX3 := Lib.hid (HX2.out.later hb3)
  clear hb3 i0 i1 i2 i3 i4 i5 i6
  unfold cagg
  rcases hrow with ⟨rfl, hnil⟩ | ⟨g, cap, rfl, hpos, hB, hlt, hr⟩
  · have HX4 := Lib.hid (HX3.out.later (below_alloc1 w3 (.cells #[.int .i64 a.kind, .int .i64 a.cost, .int .i64 a.power, .int .i64 a.tough, .int .i64 a.keys, .int .i64 a.whn, .slice none 0 0] 65)))
    have HC4 := Lib.hid (Box7.new w3 a none 0 0)
    have HN := Lib.hid (show ∀ W, TermsIs W (.slice none 0 0) a.terms from fun W => .inl ⟨none, 0, rfl, hnil⟩)
    clear hnil
    obtain ⟨_, ⟨i0, i1, i2, i3, i4, i5, i6⟩, ⟨j0, j1, j2, j3, j4, j5, j6⟩⟩ := HX4.out
    go_wp2_with fail
    refine (same_any ⟨xa, _, xc, rfl, HTA.out.later HX4.out.1⟩ ⟨ya, _, yc, rfl, HTB.out.later HX4.out.1⟩ HLA.out).mono ?_
    rw [HQ.out]
    rintro e w5 ⟨rfl, hb5⟩
    have HX5 := Lib.hid (HX4.out.later hb5)
    have HC5 := Lib.hid (HC4.out.later hb5)
    clear hb5 i0 i1 i2 i3 i4 i5 i6 j0 j1 j2 j3 j4 j5 j6
    obtain ⟨_, ⟨i0, i1, i2, i3, i4, i5, i6⟩, _⟩ := HX5.out
    obtain ⟨k0, k1, k2, k3, k4, k5, k6⟩ := HC5.out
    go_wp2_with fail
    refine (refSame_any ⟨none, 0, 0, rfl, HN.out _⟩ ⟨xa, _, xc, rfl, HTA.out.later HX5.out.1⟩ HLA.out HLA.out).mono ?_
    rw [HSA.out]
    rintro e w6 ⟨rfl, hb6⟩
    have HX6 := Lib.hid (HX5.out.later hb6)
    have HC6 := Lib.hid (HC5.out.later hb6)
    clear hb6 i0 i1 i2 i3 i4 i5 i6 k0 k1 k2 k3 k4 k5 k6
    obtain ⟨k0, k1, k2, k3, k4, k5, k6⟩ := HC6.out
    go_wp2
    clear k0 k1 k2 k3 k4 k5 k6
    go_loopw [43] (fun i wr => i = .int .i64 0 ∧ wr = w6) (fun _ _ => 0)
    case atStart => exact ⟨rfl, rfl⟩
    case round =>
      obtain ⟨rfl, rfl⟩ := hrel
      obtain ⟨k0, k1, k2, k3, k4, k5, k6⟩ := HC6.out
      have HX8 := Lib.hid HX6.out
      obtain ⟨_, ⟨i0, i1, i2, i3, i4, i5, i6⟩, _⟩ := HX8.out
      have HTA8 := Lib.hid (HTA.out.later HX8.out.1)
      go_wp2
      go_region_held3 (fun w' => Below wr.heap.size wr w' ∧ w'.cell? ⟨w.heap.size, 0, none⟩ = some (.int .i64 a.kind) ∧ w'.cell? ⟨w.heap.size, 1, none⟩ = some (.int .i64 a.cost) ∧ w'.cell? ⟨w.heap.size, 2, none⟩ = some (.int .i64 a.power) ∧ w'.cell? ⟨w.heap.size, 3, none⟩ = some (.int .i64 a.tough) ∧ w'.cell? ⟨w.heap.size, 4, none⟩ = some (.int .i64 a.keys) ∧ w'.cell? ⟨w.heap.size, 5, none⟩ = some (.int .i64 a.whn) ∧ w'.cell? ⟨w.heap.size, 6, none⟩ = some (.slice xa a.terms.length xc))
        (first | assumption | exact ⟨(Below.refl _ _).drew, by assumption, by assumption, by assumption, by assumption, by assumption, by assumption, by assumption⟩ | exact keep7 (by assumption) (by assumption))
        (first
          | (go_at_call 38; refine (codec_any _).mono ?_; rintro e wc ⟨r, rfl, hcod, hbc⟩)
          | (go_at_call 39; refine (put_c (by assumption) ⟨_, _, _, rfl, HTA8.out.later (And.left (by assumption))⟩ HLA.out).mono ?_; rw [HPA.out]; unfold ret2; rintro e wa ⟨rfl, hbp⟩))
      have hW : Below wr.heap.size wr wa := And.left (by assumption)
      have HX9 := Lib.hid (HX8.out.later hW)
      clear hW hbc hbp hcod i0 i1 i2 i3 i4 i5 i6
      obtain ⟨_, _, ⟨i0, i1, i2, i3, i4, i5, i6⟩⟩ := HX9.out
      have HTB9 := Lib.hid (HTB.out.later HX9.out.1)
      go_wp2
      go_region_held3 (fun w' => Below wa.heap.size wa w' ∧ w'.cell? ⟨w.heap.size + 1, 0, none⟩ = some (.int .i64 b.kind) ∧ w'.cell? ⟨w.heap.size + 1, 1, none⟩ = some (.int .i64 b.cost) ∧ w'.cell? ⟨w.heap.size + 1, 2, none⟩ = some (.int .i64 b.power) ∧ w'.cell? ⟨w.heap.size + 1, 3, none⟩ = some (.int .i64 b.tough) ∧ w'.cell? ⟨w.heap.size + 1, 4, none⟩ = some (.int .i64 b.keys) ∧ w'.cell? ⟨w.heap.size + 1, 5, none⟩ = some (.int .i64 b.whn) ∧ w'.cell? ⟨w.heap.size + 1, 6, none⟩ = some (.slice ya b.terms.length yc))
        (first | assumption | exact ⟨(Below.refl _ _).drew, by assumption, by assumption, by assumption, by assumption, by assumption, by assumption, by assumption⟩ | exact keep7 (by assumption) (by assumption))
        (first
          | (go_at_call 38; refine (codec_any _).mono ?_; rintro e wc ⟨r, rfl, hcod, hbc⟩)
          | (go_at_call 39; refine (put_c (by assumption) ⟨_, _, _, rfl, HTB9.out.later (And.left (by assumption))⟩ HLB.out).mono ?_; rw [HPB.out]; unfold ret2; rintro e wb ⟨rfl, hbp⟩))
      have hW : Below wa.heap.size wa wb := And.left (by assumption)
      have HX10 := Lib.hid (HX9.out.1.trans (hW.mono HX9.out.1.size))
      clear hW hbc hbp hcod i0 i1 i2 i3 i4 i5 i6
      obtain ⟨h1, h2, h3⟩ := H123.out
      have hall := HALL.out
      cases p1
      · cases p2
        · have hpq : (p3 == q) = true := by simpa using hall
          go_wp2
          go_ret
          exact ⟨rfl, HX10.out⟩
        · go_wp2
          go_ret
          exact ⟨rfl, HX10.out⟩
      · go_wp2
        go_ret
        exact ⟨rfl, HX10.out⟩
  · have HR3 := Lib.hid hr
    have HX4 := Lib.hid (HX3.out.later (below_alloc1 w3 (.cells #[.int .i64 a.kind, .int .i64 a.cost, .int .i64 a.power, .int .i64 a.tough, .int .i64 a.keys, .int .i64 a.whn, .slice (some ⟨g, 0, none⟩) a.terms.length cap] 65)))
    have HC4 := Lib.hid (Box7.new w3 a (some ⟨g, 0, none⟩) a.terms.length cap)
    have HR4 := Lib.hid (hr.later (below_alloc1 w3 (.cells #[.int .i64 a.kind, .int .i64 a.cost, .int .i64 a.power, .int .i64 a.tough, .int .i64 a.keys, .int .i64 a.whn, .slice (some ⟨g, 0, none⟩) a.terms.length cap] 65)))
    have hgw : w.heap.size + 2 ≤ g := by
      have := World.block_lt_of_cell? _ _ HX2.out.2.2.1
      simp at this
      omega
    clear hr
    obtain ⟨_, ⟨i0, i1, i2, i3, i4, i5, i6⟩, ⟨j0, j1, j2, j3, j4, j5, j6⟩⟩ := HX4.out
    go_wp2_with fail
    refine (same_any ⟨xa, _, xc, rfl, HTA.out.later HX4.out.1⟩ ⟨ya, _, yc, rfl, HTB.out.later HX4.out.1⟩ HLA.out).mono ?_
    rw [HQ.out]
    rintro e w5 ⟨rfl, hb5⟩
    have HX5 := Lib.hid (HX4.out.later hb5)
    have HC5 := Lib.hid (HC4.out.later hb5)
    have HR5 := Lib.hid (HR4.out.later hb5)
    clear hb5 i0 i1 i2 i3 i4 i5 i6 j0 j1 j2 j3 j4 j5 j6
    obtain ⟨_, ⟨i0, i1, i2, i3, i4, i5, i6⟩, _⟩ := HX5.out
    obtain ⟨k0, k1, k2, k3, k4, k5, k6⟩ := HC5.out
    go_wp2_with fail
    refine (refSame_any ⟨_, _, cap, rfl, HR5.out.is⟩ ⟨xa, _, xc, rfl, HTA.out.later HX5.out.1⟩ HLA.out HLA.out).mono ?_
    rw [HSA.out]
    rintro e w6 ⟨rfl, hb6⟩
    have HX6 := Lib.hid (HX5.out.later hb6)
    have HC6 := Lib.hid (HC5.out.later hb6)
    have HR6 := Lib.hid (HR5.out.later hb6)
    clear hb6 i0 i1 i2 i3 i4 i5 i6 k0 k1 k2 k3 k4 k5 k6
    obtain ⟨k0, k1, k2, k3, k4, k5, k6⟩ := HC6.out
    obtain ⟨bt, off, rfl, hx0⟩ := terms_at HTA.out 0 hpos
    clear hx0
    go_wp2
    clear k0 k1 k2 k3 k4 k5 k6
    have HGW := Lib.hid hgw
    have HG3 := Lib.hid hlt
    have HPOS := Lib.hid hpos
    clear hgw hlt hpos
    go_loopw [43] (fun i wr => ∃ k : Nat, k ≤ a.terms.length ∧ i = .int .i64 k ∧ Hid (Two w wr a b (.slice (some ⟨bt, off, none⟩) a.terms.length xc) (.slice ya b.terms.length yc) ∧ Box7 wr w3.heap.size a (.slice (some ⟨g, 0, none⟩) a.terms.length cap) ∧ RowC wr g (flipTo k a.terms))) (fun i _ => a.terms.length - (intOf i).toNat)
    case atStart => exact ⟨0, Nat.zero_le _, rfl, Lib.hid ⟨HX6.out, HC6.out, by rw [flipTo_zero]; exact HR6.out⟩⟩
    case round =>
      obtain ⟨k, hk, rfl, HW⟩ := hrel
      by_cases hlt : k < a.terms.length
      · obtain ⟨_, _, hs, x0, _, _⟩ := terms_at (HTA.out.later HW.out.1.1) k hlt
        injection hs with hs
        injection hs with hs1 hs2 _
        subst hs1 hs2
        have i6 := HW.out.1.2.1.2.2.2.2.2.2
        have k6 := HW.out.2.1.2.2.2.2.2.2
        have r0 := (HW.out.2.2.cells k (by rw [flipTo_len]; exact hlt)).1
        have f0 := HW.out.2.2.frozen (k * 3)
        have d0 : (0 : Int) ≤ k := by omega
        have d1 : (k : Int) < a.terms.length := by omega
        go_wp2
        go_region
        go_wp2
        go_roundw
        case rel =>
          refine ⟨k + 1, by omega, by go_num, Lib.hid ⟨?_, ?_, ?_⟩⟩
          · exact (HW.out.1.later ((Below.refl _ _).drew)).far HGW.out _
          · exact (HW.out.2.1.later ((Below.refl _ _).drew)).far (by have := HG3.out; simp; omega) _
          · exact RowC.flip (HW.out.2.2.later ((Below.refl _ _).drew)) hlt
        case measure => simp [intOf]; omega
      · obtain rfl : k = a.terms.length := by omega
        have HR7 := Lib.hid HW.out.2.2
        rw [flipTo_all] at HR7
        have HX7 := Lib.hid HW.out.1
        have HC7 := Lib.hid HW.out.2.1
        clear HW
        obtain ⟨_, ⟨i0, i1, i2, i3, i4, i5, i6⟩, _⟩ := HX7.out
        obtain ⟨k0, k1, k2, k3, k4, k5, k6⟩ := HC7.out
        have e3 : decide ((0 : Int) < a.terms.length) = true := decide_eq_true (by have := HPOS.out; omega)
        have e4 : decide (0 < a.terms.length) = true := decide_eq_true HPOS.out
        have HTF := Lib.hid (show TermsIs wr (.slice (some ⟨g, 0, none⟩) a.terms.length cap) (a.terms.map flipT) by
          have h := HR7.out.is (cap := cap)
          rwa [List.length_map] at h)
        have HNF := Lib.hid (flip_not a HPOS.out)
        have HLF := Lib.hid (show (a.terms.map flipT).length ≤ 9223372036854775807 by rw [List.length_map]; exact HLA.out)
        go_wp2_with fail
        refine (refSame_any (a := { a with terms := a.terms.map flipT }) (b := a) ⟨some ⟨g, 0, none⟩, a.terms.length, cap, rfl, HTF.out⟩ ⟨some ⟨bt, off, none⟩, _, xc, rfl, HTA.out.later HX7.out.1⟩ HLF.out HLA.out).mono ?_
        rw [HNF.out]
        rintro e w8 ⟨rfl, hb8⟩
        have HX8 := Lib.hid (HX7.out.later hb8)
        clear hb8 i0 i1 i2 i3 i4 i5 i6 k0 k1 k2 k3 k4 k5 k6 e3 e4
        obtain ⟨_, ⟨i0, i1, i2, i3, i4, i5, i6⟩, _⟩ := HX8.out
        have HTA8 := Lib.hid (HTA.out.later HX8.out.1)
        go_wp2
        go_region_held3 (fun w' => Below w8.heap.size w8 w' ∧ w'.cell? ⟨w.heap.size, 0, none⟩ = some (.int .i64 a.kind) ∧ w'.cell? ⟨w.heap.size, 1, none⟩ = some (.int .i64 a.cost) ∧ w'.cell? ⟨w.heap.size, 2, none⟩ = some (.int .i64 a.power) ∧ w'.cell? ⟨w.heap.size, 3, none⟩ = some (.int .i64 a.tough) ∧ w'.cell? ⟨w.heap.size, 4, none⟩ = some (.int .i64 a.keys) ∧ w'.cell? ⟨w.heap.size, 5, none⟩ = some (.int .i64 a.whn) ∧ w'.cell? ⟨w.heap.size, 6, none⟩ = some (.slice (some ⟨bt, off, none⟩) a.terms.length xc))
          (first | assumption | exact ⟨(Below.refl _ _).drew, by assumption, by assumption, by assumption, by assumption, by assumption, by assumption, by assumption⟩ | exact keep7 (by assumption) (by assumption))
          (first
            | (go_at_call 38; refine (codec_any _).mono ?_; rintro e wc ⟨r, rfl, hcod, hbc⟩)
            | (go_at_call 39; refine (put_c (by assumption) ⟨_, _, _, rfl, HTA8.out.later (And.left (by assumption))⟩ HLA.out).mono ?_; rw [HPA.out]; unfold ret2; rintro e wa ⟨rfl, hbp⟩))
        have hW : Below w8.heap.size w8 wa := And.left (by assumption)
        have HX9 := Lib.hid (HX8.out.later hW)
        clear hW hbc hbp hcod i0 i1 i2 i3 i4 i5 i6
        obtain ⟨_, _, ⟨i0, i1, i2, i3, i4, i5, i6⟩⟩ := HX9.out
        have HTB9 := Lib.hid (HTB.out.later HX9.out.1)
        go_wp2
        go_region_held3 (fun w' => Below wa.heap.size wa w' ∧ w'.cell? ⟨w.heap.size + 1, 0, none⟩ = some (.int .i64 b.kind) ∧ w'.cell? ⟨w.heap.size + 1, 1, none⟩ = some (.int .i64 b.cost) ∧ w'.cell? ⟨w.heap.size + 1, 2, none⟩ = some (.int .i64 b.power) ∧ w'.cell? ⟨w.heap.size + 1, 3, none⟩ = some (.int .i64 b.tough) ∧ w'.cell? ⟨w.heap.size + 1, 4, none⟩ = some (.int .i64 b.keys) ∧ w'.cell? ⟨w.heap.size + 1, 5, none⟩ = some (.int .i64 b.whn) ∧ w'.cell? ⟨w.heap.size + 1, 6, none⟩ = some (.slice ya b.terms.length yc))
          (first | assumption | exact ⟨(Below.refl _ _).drew, by assumption, by assumption, by assumption, by assumption, by assumption, by assumption, by assumption⟩ | exact keep7 (by assumption) (by assumption))
          (first
            | (go_at_call 38; refine (codec_any _).mono ?_; rintro e wc ⟨r, rfl, hcod, hbc⟩)
            | (go_at_call 39; refine (put_c (by assumption) ⟨_, _, _, rfl, HTB9.out.later (And.left (by assumption))⟩ HLB.out).mono ?_; rw [HPB.out]; unfold ret2; rintro e wb ⟨rfl, hbp⟩))
        have hW : Below wa.heap.size wa wb := And.left (by assumption)
        have HX10 := Lib.hid (HX9.out.1.trans (hW.mono HX9.out.1.size))
        clear hW hbc hbp hcod i0 i1 i2 i3 i4 i5 i6
        obtain ⟨h1, h2, h3⟩ := H123.out
        have hall := HALL.out
        cases p1
        · cases p2
          · have hpq : (p3 == q) = true := by simpa using hall
            go_wp2
            go_ret
            exact ⟨rfl, HX10.out⟩
          · go_wp2
            go_ret
            exact ⟨rfl, HX10.out⟩
        · go_wp2
          go_ret
          exact ⟨rfl, HX10.out⟩
end Go.Proofs.Ytmmjhhfdloenbaa

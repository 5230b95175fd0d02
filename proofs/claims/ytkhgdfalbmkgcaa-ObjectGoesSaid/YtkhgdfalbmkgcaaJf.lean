/- Pay (layer 7): the first lands are tapped, or nothing is. -/
import Derived.Test.YtkhgdfalbmkgcaaJe
namespace Go.Proofs.Ytkhgdfalbmkgcaa
open Go.RowKit Go.Maps

theorem pay_neg {w : World} (p : Option Addr) (seat cost : Int) (h : p = none ∨ cost < 0) : Calls Try.prog 29 #[.pointer p, .int .i64 seat, .int .i64 cost] w (Same w (.int .i64 1)) := by
  cases p with
  | none =>
    clear h
    go_enter Try.func29, Try.ntmps29
    go_wp2
    go_ret
    exact ⟨rfl, rfl⟩
  | some a =>
    have d0 : decide (cost < 0) = true := decide_eq_true (h.resolve_left (by simp))
    clear h
    go_enter Try.func29, Try.ntmps29
    go_wp2
    go_ret
    exact ⟨rfl, rfl⟩
set_option maxRecDepth 100000 in
set_option maxHeartbeats 2000000 in
theorem pay_no {w : World} {lo b : Nat} {G : Ghost} {S : StoreL} (h : StoreAt w lo b G S) (hS : WfS S) (hl : S.objs.length ≤ 1000) (seat cost : Int) (h0 : 0 ≤ cost) (hc : ((mineL S seat).length : Int) < cost) :
    Calls Try.prog 29 #[.pointer (some ⟨b, 0, none⟩), .int .i64 seat, .int .i64 cost] w (RetV w (.int .i64 11)) := by
  have HL := Lib.hid (lands_mine h hS hl seat)
  obtain ⟨L, hL⟩ : ∃ L, mineL S seat = L := ⟨_, rfl⟩
  rw [hL] at HL hc
  have hlen : L.length ≤ 1000 := by rw [← hL]; exact Nat.le_trans (mine_len seat) hl
  have d0 : decide (cost < 0) = false := decide_eq_false (by omega)
  have d1 : decide ((L.length : Int) < cost) = true := decide_eq_true hc
  clear h hS hL hc h0 hl
  go_enter Try.func29, Try.ntmps29
  go_wp2_with fail
  refine HL.out.mono ?_
  rintro e w1 ⟨v, rfl, ho, hb1⟩
  obtain ⟨xa, xc, rfl⟩ := own_form ho
  clear ho
  dsimp only
  go_wp2
  go_ret
  exact ⟨rfl, hb1⟩
set_option maxRecDepth 100000 in
set_option maxHeartbeats 4000000 in
theorem pay_ok {w : World} {lo b : Nat} {G : Ghost} {S : StoreL} (h : StoreAt w lo b G S) (hS : WfS S) (hl : S.objs.length ≤ 1000) (seat : Int) (cost : Nat) (hc : cost ≤ (mineL S seat).length) :
    Calls Try.prog 29 #[.pointer (some ⟨b, 0, none⟩), .int .i64 seat, .int .i64 cost] w (RetS w lo b G (tapAll S ((mineL S seat).take cost)) (.int .i64 0)) := by
  have HL := Lib.hid (lands_mine h hS hl seat)
  have HMEM := Lib.hid (fun i => (mine_mem hS (seat := seat) (i := i)).1)
  have HND := Lib.hid (mine_nodup hS seat)
  have hlen0 := Nat.le_trans (mine_len (S := S) seat) hl
  obtain ⟨L, hL⟩ : ∃ L, mineL S seat = L := ⟨_, rfl⟩
  rw [hL] at HL hc HMEM HND hlen0 ⊢
  have d0 : decide ((cost : Int) < 0) = false := decide_eq_false (by omega)
  have d1 : decide ((L.length : Int) < cost) = false := decide_eq_false (by omega)
  have d1' : decide (L.length < cost) = false := decide_eq_false (by omega)
  have HH := Lib.hid h
  have HW := Lib.hid hS
  clear h hS hL
  go_enter Try.func29, Try.ntmps29
  go_wp2_with fail
  refine HL.out.mono ?_
  rintro e w1 ⟨v, rfl, ho, hb1⟩
  have HB1 := Lib.hid hb1
  have H1 := Lib.hid (HH.out.later hb1)
  have HO := Lib.hid ho
  have HOH := Lib.hid (show ∀ k, v.ownBlock = some k → G.tag k = .no from fun k hk => HH.out.high k (World.ownsRow.lt ho k hk).1)
  have hform : (L = [] ∧ ∃ xa, v = .slice xa 0 0) ∨ ∃ g xc, v = .slice (some ⟨g, 0, none⟩) L.length xc ∧ 0 < xc ∧ L.length ≤ xc ∧ xc ≤ maxLen := by
    rcases ho.2 with ⟨e, e0⟩ | ⟨g, cap, cur, e, _, _, h1, h2, _⟩
    · exact .inl ⟨List.eq_nil_of_length_eq_zero e0, none, e⟩
    · by_cases h0 : cap = 0
      · have e1 : L = [] := List.eq_nil_of_length_eq_zero (by omega)
        exact .inl ⟨e1, some ⟨g, 0, none⟩, by rw [e, e1, h0]; rfl⟩
      · exact .inr ⟨g, cap, e, by omega, h1, h2⟩
  clear ho hb1 HL
  rcases hform with ⟨rfl, xa, rfl⟩ | ⟨g, xc, rfl, hx0, hxl, hxm⟩
  · obtain rfl : cost = 0 := by simpa using hc
    dsimp only
    go_wp2
    go_loopw [27] (fun i wr => i = .int .i64 0 ∧ wr = w1) (fun _ _ => 0)
    case atStart => exact ⟨rfl, rfl⟩
    case round =>
      obtain ⟨rfl, rfl⟩ := hrel
      go_wp2
      go_ret
      refine ⟨rfl, G, ?_, Turned.of_below HB1.out⟩
      rw [List.take_nil, tapAll_nil]
      exact H1.out
  · have hcx : cost ≤ xc := Nat.le_trans hc hxl
    unfold maxLen at hxm
    dsimp only
    go_wp2
    go_loopw [27] (fun i wr => ∃ (j : Nat) (G' : Ghost), j ≤ cost ∧ i = .int .i64 j ∧ Hid (StoreAt wr lo b G' (tapAll S (L.take j))) ∧ Hid (Turned w1 wr G G')) (fun i _ => cost - (intOf i).toNat)
    case atStart =>
      exact ⟨0, G, Nat.zero_le _, rfl, Lib.hid (by rw [List.take_zero, tapAll_nil]; exact H1.out), Lib.hid (Turned.of_below (Below.refl _ _))⟩
    case round =>
      obtain ⟨j, G', hj, rfl, HR, HT⟩ := hrel
      by_cases hlt : j < cost
      · have hjl : j < L.length := by omega
        have hown := own11_later HO.out fun k hk => HT.out.chg.block k (World.ownsRow.lt HO.out k hk).2 (.inl (HOH.out k hk))
        obtain ⟨g', off, hgg, _, cj⟩ := (own_ints hown).at j hjl
        injection hgg with hgg
        injection hgg with hg1 hg2
        subst hg1 hg2
        simp only [Nat.zero_add] at cj
        obtain ⟨k, hk, hkk, hb⟩ := HMEM.out L[j] (List.getElem_mem hjl)
        obtain ⟨_, hz, ht, _⟩ := mineB_iff.1 hb
        have hnot : (L.take j).contains ((k : Int) + 1) = false := by
          have hnd := HND.out
          rw [← List.take_append_drop j L, List.nodup_append] at hnd
          have hm : L[j] ∈ L.drop j := by rw [List.drop_eq_getElem_cons hjl]; exact List.mem_cons_self
          have hx := fun hx => hnd.2.2 _ hx _ hm rfl
          rw [hkk] at hx
          simpa using hx
        have hget := tapAll_get HW.out (L.take j) k hk
        rw [if_neg (by rw [hnot]; decide)] at hget
        have hsn := tapAll_snoc HW.out (L.take j) k hk
        have htk := take_last L j hjl
        rw [hkk] at cj htk
        have HTP := Lib.hid (taps_ok HR.out (tapAll_wf HW.out _) (by rw [tapAll_len]; exact hl) k (by rw [tapAll_len]; exact hk) (by rw [hget]; exact hz) (by rw [hget]; exact ht))
        rw [hsn, ← htk] at HTP
        clear hown hkk hb hz ht hnot hget hsn htk
        go_wp2_with fail
        refine HTP.out.mono ?_
        rintro e w3 ⟨rfl, G3, hs3, ht3⟩
        have HR3 := Lib.hid hs3
        have HT3 := Lib.hid (HT.out.trans ht3)
        clear hs3 ht3 cj
        dsimp only
        go_wp2
        go_roundw
        case rel => exact ⟨j + 1, G3, by omega, by go_num, HR3, HT3⟩
        case measure => simp [intOf]; omega
      · obtain rfl : j = cost := by omega
        go_wp2
        go_ret
        exact ⟨rfl, G', HR.out, (Turned.of_below HB1.out).trans HT.out⟩
end Go.Proofs.Ytkhgdfalbmkgcaa

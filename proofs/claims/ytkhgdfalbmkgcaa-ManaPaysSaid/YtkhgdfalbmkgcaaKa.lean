/- The law ManaPays (layer 7), walked: for all things, seats and costs it returns true, and only new memory is made. -/
import Derived.Test.YtkhgdfalbmkgcaaJz
namespace Go.Proofs.Ytkhgdfalbmkgcaa
open Go.RowKit Go.Maps

theorem drew_belowP {w w' : World} {v : Value} {e : Ending} (h : Drew w v e w') : e = .returned v ∧ Below w.heap.size w w' := by
  obtain ⟨h1, n, rfl⟩ := h
  exact ⟨h1, below_drewN (Below.refl _ _) n⟩
theorem ints_take {w : World} {xa : Option Addr} {n xc c : Nat} {l : List Int} (h : IntsAt w (.slice xa n xc) l) (hl : l.length = n) (hc : c ≤ n) : IntsAt w (.slice xa c xc) (l.take c) := by
  rcases h with ⟨ya, cap, h1, h2⟩ | ⟨b, off, cap, h1, h2, h3⟩
  · have e : l = [] := by simpa [intsV] using h2
    subst e
    obtain rfl : n = 0 := by simpa using hl.symm
    obtain rfl : c = 0 := by omega
    exact .inl ⟨xa, xc, rfl, by simp [intsV]⟩
  · injection h1 with h1 h4 h5
    subst h1 h5
    refine .inr ⟨b, off, xc, by rw [intsV_len, List.length_take, hl, Nat.min_eq_left hc], h2, fun i hi => ?_⟩
    rw [intsV_len, List.length_take] at hi
    rw [h3 i (by rw [intsV_len]; omega)]
    simp [intsV]
theorem ints_drop {w : World} {b n cap c : Nat} {l : List Int} (h : IntsAt w (.slice (some ⟨b, 0, none⟩) n cap) l) (hl : l.length = n) (hc : c < n) : IntsAt w (.slice (some ⟨b, c, none⟩) (n - c) (cap - c)) (l.drop c) := by
  rcases h with ⟨ya, cap, h1, h2⟩ | ⟨b, off, cap, h1, h2, h3⟩
  · have e : l = [] := by simpa [intsV] using h2
    subst e
    simp at hl
    omega
  · injection h1 with h1 h4 h5
    injection h1 with h1
    injection h1 with h1 h6
    subst h1 h5 h6
    refine .inr ⟨_, c, _, by rw [intsV_len, List.length_drop, hl], h2, fun i hi => ?_⟩
    rw [intsV_len, List.length_drop] at hi
    have := h3 (c + i) (by rw [intsV_len]; omega)
    rw [Nat.zero_add] at this
    rw [this]
    simp [intsV]
theorem ints_none (w : World) (xa : Option Addr) (xc : Nat) : IntsAt w (.slice xa 0 xc) [] := .inl ⟨xa, xc, rfl, rfl⟩
/-- How a list that began as none stands. -/
def LandV (v : Value) (n : Nat) : Prop := (v = .slice none 0 0 ∧ n = 0) ∨ ∃ g cap, v = .slice (some ⟨g, 0, none⟩) n cap ∧ 0 < n ∧ n ≤ cap
theorem own_room {w : World} {base g n cap : Nat} {xs : List Value} (h : w.ownsRow base 3 1 (.slice (some ⟨g, 0, none⟩) n cap) n xs) : n ≤ cap := by
  rcases h.2 with ⟨h, _⟩ | ⟨g', cap', cur, e, _, _, h1, _⟩
  · cases h
  · injection e with _ _ e; subst e; exact h1
set_option maxRecDepth 100000 in
set_option maxHeartbeats 32000000 in
theorem manaPays_walk {u : Value} {l : List ThingL} {seat cost : Int} {w : World} (hu : ThingsAt w u l) (hw : ∀ x ∈ l, Wf x.owner ∧ Wf x.zone) (hl : l.length ≤ 9223372036854775807) :
    Calls Try.prog 6 #[u, .int .i64 seat, .int .i64 cost] w (RetV w (.bool true)) := by
  have HM := Lib.hid (fun (w' : World) (hb : Below w.heap.size w w') => made_any (hu.later hb) hw hl)
  have HU := Lib.hid hu
  obtain ⟨ua, uc, rfl⟩ := hu.form
  clear hu hw
  go_enter Try.func6, Try.ntmps6
  go_wp2_with fail
  refine (awake7_any _).mono ?_
  rintro e w1 ⟨rfl, hb1⟩
  have HB1 := Lib.hid hb1
  clear hb1
  dsimp only
  go_wp2_with fail
  refine (HM.out _ HB1.out).mono ?_
  rintro e w2 (⟨hpl, bb, lo, G, S, rfl, hs, hm, hlo, hle, hb2⟩ | ⟨_, rfl, hb2⟩)
  case inr =>
    have HB2 := Lib.hid (stepB HB1.out hb2)
    clear hb2
    dsimp only
    go_wp2
    go_ret
    exact ⟨rfl, HB2.out⟩
  have HB2 := Lib.hid (stepB HB1.out hb2)
  have HFAR := Lib.hid (show ∀ k, G.tag k ≠ .no → w.heap.size ≤ k from fun k hk => Nat.le_trans (Nat.le_trans HB1.out.size hlo) (hs.low k hk))
  have HSL := Lib.hid (show S.objs.length ≤ 1000 by rw [hm.len]; have := hpl.1; omega)
  have HWF := Lib.hid hm.wf
  have HLN := Lib.hid hm.len
  have HS2 := Lib.hid hs
  have HPL := Lib.hid hpl
  have HLT := Lib.hid (mine_landsT hm hpl seat)
  have hl40 : l.length ≤ 40 := hpl.1
  have HCP := Lib.hid (copyS_any hs (hm.wf.short HSL.out))
  clear hs hm hlo hle hb2 hpl HM
  dsimp only
  go_wp2_with fail
  refine HCP.out.mono ?_
  rintro e w3 ⟨tb, H, rfl, ht3, hb3⟩
  have HAP := Lib.hid (apart_copy HS2.out ht3)
  have HT3 := Lib.hid ht3
  have HS3 := Lib.hid (HS2.out.later hb3)
  have HB3 := Lib.hid (stepB HB2.out hb3)
  clear ht3 hb3 HCP
  obtain ⟨lt, hlt⟩ : ∃ lt, w2.heap.size = lt := ⟨_, rfl⟩
  rw [hlt] at HT3
  clear hlt
  have HTW := Lib.hid (HU.out.later HB3.out)
  dsimp only
  go_wp2
  go_loopw [9, 29] (fun c i wr => ∃ k : Nat, k ≤ l.length ∧ i = .int .i64 k ∧ Hid (LandV c (landsT seat (l.take k)).length) ∧ Hid (wr.ownsRow w3.heap.size 3 1 c (landsT seat (l.take k)).length (intsV (landsT seat (l.take k)))) ∧ Hid (Below w3.heap.size w3 wr)) (fun _ i _ => l.length - (intOf i).toNat)
  case atStart => exact ⟨0, Nat.zero_le _, rfl, Lib.hid (.inl ⟨rfl, rfl⟩), Lib.hid (World.ownsRow_nil _ _ _ _), Lib.hid (Below.refl _ _)⟩
  case round =>
    obtain ⟨k, hk, rfl, HLV, HO, HBR⟩ := hrel
    by_cases hlt : k < l.length
    · obtain ⟨xb, off, hta, t0, t1, t2, t3, t4⟩ := (HTW.out.later HBR.out).at k hlt
      have hsn := landsT_snoc seat (l.take k) l[k]
      have htk := take_last l k hlt
      have hll := landsT_len seat (l.take k)
      rw [List.length_take, Nat.min_eq_left hk] at hll
      rw [show ((l.take k).length : Int) = k by rw [List.length_take, Nat.min_eq_left hk]] at hsn
      obtain ⟨x, hx⟩ : ∃ x, l[k] = x := ⟨_, rfl⟩
      rw [hx] at t0 t1 t2 t3 t4 htk hsn
      rw [← htk] at hsn
      obtain ⟨x0, x1, x2, tp, sk⟩ := x
      have HSN := Lib.hid hsn
      obtain ⟨L0, hL0⟩ : ∃ L0, landsT seat (l.take k) = L0 := ⟨_, rfl⟩
      rw [hL0] at HSN hll HLV HO
      have hL40 : L0.length ≤ 40 := by omega
      cases hta
      clear hx htk hsn hL0 hll
      have HB5 := Lib.hid (below_alloc2 HBR.out (.cells #[.int .i64 x0, .int .i64 x1, .int .i64 x2, .bool tp, .bool sk] 62))
      by_cases hall : x0 = 0 ∧ x1 = seat ∧ x2 = 3 ∧ tp = false
      · obtain ⟨rfl, rfl, rfl, rfl⟩ := hall
        have HE := Lib.hid (show landsT x1 (l.take (k + 1)) = L0 ++ [(k : Int) + 1] by rw [HSN.out]; simp [landT])
        have HI1 : Hid (IntsAt ((wr.alloc (.cells #[.int .i64 0, .int .i64 x1, .int .i64 3, .bool false, .bool sk] 62)).alloc (.cells #[.int .i64 ((k : Int) + 1)] 3)) (.slice (some ⟨wr.heap.size + 1, 0, none⟩) 1 1) [(k : Int) + 1]) := Lib.hid (by
          have h := (RowAt.new (wr.alloc (.cells #[.int .i64 0, .int .i64 x1, .int .i64 3, .bool false, .bool sk] 62)) 3 (intsV [(k : Int) + 1])).vals 1
          rw [World.size_alloc] at h
          exact h)
        clear HSN
        go_wp2_with (at_builtin; refine wpList_append_ints rfl _ _ rfl rfl w3.heap.size _ _ (intsV L0) rfl ((HO.out.alloc _).alloc _) _ 1 1 [(k : Int) + 1] rfl rfl HI1.out (by simp; omega) (by have := HBR.out.size; simp; omega) ?f)
        case f =>
          intro v' w5 hown hgrow _
          have HO5 := Lib.hid (show w5.ownsRow w3.heap.size 3 1 v' (landsT x1 (l.take (k + 1))).length (intsV (landsT x1 (l.take (k + 1)))) from by
            rw [HE.out, List.length_append]; unfold intsV; rw [List.map_append]; exact hown)
          have HB6 := Lib.hid ((HB5.out.alloc HB5.out.size (.cells #[.int .i64 ((k : Int) + 1)] 3)).grown hgrow (Nat.le_trans HB5.out.size (by simp)) (fun g e => (World.ownsRow.lt ((HO.out.alloc (.cells #[.int .i64 0, .int .i64 x1, .int .i64 3, .bool false, .bool sk] 62)).alloc (.cells #[.int .i64 ((k : Int) + 1)] 3)) g e).1))
          obtain ⟨g', cap', rfl⟩ := ownsRow_succ hown
          have HLV5 := Lib.hid (show LandV (.slice (some ⟨g', 0, none⟩) (L0.length + 1) cap') (landsT x1 (l.take (k + 1))).length from .inr ⟨g', cap', by rw [HE.out, List.length_append]; rfl, by rw [HE.out, List.length_append]; simp, by rw [HE.out, List.length_append]; exact own_room hown⟩)
          clear hown hgrow
          go_wp2
          go_roundw
          case rel => exact ⟨k + 1, by omega, by go_num, HLV5, HO5, HB6⟩
          case measure => simp [intOf]; omega
      · have HE := Lib.hid (show landsT seat (l.take (k + 1)) = L0 by
          rw [HSN.out, if_neg]
          intro h
          simp [landT] at h
          exact hall h)
        clear HSN
        have hcase : (x0 == 0) = false ∨ (x0 = 0 ∧ (x1 == seat) = false) ∨ (x0 = 0 ∧ x1 = seat ∧ (x2 == 3) = false) ∨ (x0 = 0 ∧ x1 = seat ∧ x2 = 3 ∧ tp = true) := by
          by_cases h0 : x0 = 0
          · by_cases h1 : x1 = seat
            · by_cases h2 : x2 = 3
              · right; right; right
                refine ⟨h0, h1, h2, ?_⟩
                cases tp
                · exact absurd ⟨h0, h1, h2, rfl⟩ hall
                · rfl
              · exact .inr (.inr (.inl ⟨h0, h1, beq_eq_false_iff_ne.2 h2⟩))
            · exact .inr (.inl ⟨h0, beq_eq_false_iff_ne.2 h1⟩)
          · exact .inl (beq_eq_false_iff_ne.2 h0)
        clear hall
        rcases hcase with h0 | ⟨rfl, h1⟩ | ⟨rfl, rfl, h2⟩ | ⟨rfl, rfl, rfl, rfl⟩
        all_goals
          go_wp2
          go_roundw
          case rel => exact ⟨k + 1, by omega, by go_num, by rw [HE.out]; exact HLV, by rw [HE.out]; exact Lib.hid (HO.out.alloc _), HB5⟩
          case measure => simp [intOf]; omega
    · obtain rfl : k = l.length := by omega
      obtain ⟨wA, rfl⟩ : ∃ wA, wA = wr := ⟨_, rfl⟩
      have hlv := HLV.out
      have ho := HO.out
      rw [List.take_length] at hlv ho
      have hlen := landsT_len seat l
      have hlt := HLT.out
      obtain ⟨L, hL⟩ : ∃ L, landsT seat l = L := ⟨_, rfl⟩
      rw [hL] at hlv ho hlen hlt
      have HML := Lib.hid hlt
      have HSA := Lib.hid (HS3.out.later HBR.out)
      have HTA := Lib.hid (HT3.out.later HBR.out)
      have HBA := Lib.hid (stepB HB3.out HBR.out)
      have hkept : KeptI wA G u9 L := ⟨⟨_, ho⟩, fun g e => HS3.out.high g (World.ownsRow.lt ho g e).1⟩
      have HKA := Lib.hid hkept
      have hl1000 : L.length ≤ 1000 := by omega
      clear hkept ho hlt hL HO HLV HBR HS3 HT3 HB3 HLT
      by_cases hc0 : cost < 0
      · have d0 : decide (0 ≤ cost) = false := decide_eq_false (by omega)
        have d2 : decide (cost < 0) = true := decide_eq_true hc0
        have DB := Lib.hid (show (decide (0 ≤ cost) && decide (cost ≤ (L.length : Int))) = false by rw [d0]; rfl)
        have HP := Lib.hid (fun (w' : World) => pay_neg (w := w') (some ⟨bb, 0, none⟩) seat cost (.inr hc0))
        clear hc0
        obtain ⟨xa, xc, rfl⟩ : ∃ xa xc, u9 = .slice xa L.length xc := by
          rcases hlv with ⟨rfl, h⟩ | ⟨g, cap, rfl, _⟩
          · exact ⟨none, 0, by rw [h]⟩
          · exact ⟨_, _, rfl⟩
        clear hlv
        have hL5 := lands_mine HSA.out HWF.out HSL.out seat
        rw [HML.out] at hL5
        have HL5 := Lib.hid hL5
        clear hL5
        go_wp2_with fail
        refine HL5.out.mono ?_
        rintro e w5 ⟨v5, rfl, ho5, hb5⟩
        have HI5 := Lib.hid (ints_same (own_ints ho5) (HKA.out.later hb5).ints hl1000)
        obtain ⟨ya, yc, rfl⟩ := own_form ho5
        have HB5 := Lib.hid hb5
        clear ho5 hb5 HL5
        dsimp only
        go_wp2_with fail
        refine HI5.out.mono ?_
        rintro e w6 hd
        obtain ⟨rfl, hb6⟩ := drew_belowP hd
        have HB6 := Lib.hid (stepB HB5.out hb6)
        have hh := has_of (lands_mine (HSA.out.later HB6.out) HWF.out HSL.out seat) (Nat.le_trans (mine_len _) HSL.out)
        rw [HML.out] at hh
        have HH6 := Lib.hid hh
        clear hd hb6 HI5 HB5 hh
        dsimp only
        go_wp2_with fail
        refine HH6.out.mono ?_
        rintro e w7 ⟨rfl, hb7⟩
        have HB7 := Lib.hid (stepB HB6.out hb7)
        have hcan := can_of (cost := cost) (lands_mine (HSA.out.later HB7.out) HWF.out HSL.out seat) (Nat.le_trans (mine_len _) HSL.out)
        rw [HML.out, DB.out] at hcan
        have HC7 := Lib.hid hcan
        clear hb7 hcan HH6
        dsimp only
        go_wp2_with fail
        refine HC7.out.mono ?_
        rintro e w8 ⟨rfl, hb8⟩
        have HB8 := Lib.hid (stepB HB7.out hb8)
        have HS8 := Lib.hid (HSA.out.later HB8.out)
        have HT8 := Lib.hid (HTA.out.later HB8.out)
        have HK8 := Lib.hid (HKA.out.later HB8.out)
        have HBW8 := Lib.hid (stepB HBA.out HB8.out)
        clear hb8 HC7 HSA HTA HKA HBA HB6 HB7 HB8
        dsimp only
        go_wp2_with fail
        refine (HP.out _).mono ?_
        rintro e w9 ⟨rfl, rfl⟩
        have HSM := Lib.hid (same_true HS8.out HT8.out (HWF.out.short HSL.out))
        dsimp only
        go_wp2_with fail
        refine HSM.out.mono ?_
        rintro e w10 ⟨rfl, hb10⟩
        have HB10 := Lib.hid (stepB HBW8.out hb10)
        clear hb10 HSM
        dsimp only
        go_wp2
        go_ret
        exact ⟨rfl, HB10.out⟩
      by_cases hcl : (L.length : Int) < cost
      · have d0 : decide (0 ≤ cost) = true := decide_eq_true (by omega)
        have d1 : decide (cost ≤ (L.length : Int)) = false := decide_eq_false (by omega)
        have d2 : decide (cost < 0) = false := decide_eq_false hc0
        have DB := Lib.hid (show (decide (0 ≤ cost) && decide (cost ≤ (L.length : Int))) = false by rw [d0, d1]; rfl)
        have HP := Lib.hid (fun (w' : World) (hs : StoreAt w' lo bb G S) => pay_no hs HWF.out HSL.out seat cost (by omega) (by rw [HML.out]; exact hcl))
        clear hc0 hcl
        obtain ⟨xa, xc, rfl⟩ : ∃ xa xc, u9 = .slice xa L.length xc := by
          rcases hlv with ⟨rfl, h⟩ | ⟨g, cap, rfl, _⟩
          · exact ⟨none, 0, by rw [h]⟩
          · exact ⟨_, _, rfl⟩
        clear hlv
        have hL5 := lands_mine HSA.out HWF.out HSL.out seat
        rw [HML.out] at hL5
        have HL5 := Lib.hid hL5
        clear hL5
        go_wp2_with fail
        refine HL5.out.mono ?_
        rintro e w5 ⟨v5, rfl, ho5, hb5⟩
        have HI5 := Lib.hid (ints_same (own_ints ho5) (HKA.out.later hb5).ints hl1000)
        obtain ⟨ya, yc, rfl⟩ := own_form ho5
        have HB5 := Lib.hid hb5
        clear ho5 hb5 HL5
        dsimp only
        go_wp2_with fail
        refine HI5.out.mono ?_
        rintro e w6 hd
        obtain ⟨rfl, hb6⟩ := drew_belowP hd
        have HB6 := Lib.hid (stepB HB5.out hb6)
        have hh := has_of (lands_mine (HSA.out.later HB6.out) HWF.out HSL.out seat) (Nat.le_trans (mine_len _) HSL.out)
        rw [HML.out] at hh
        have HH6 := Lib.hid hh
        clear hd hb6 HI5 HB5 hh
        dsimp only
        go_wp2_with fail
        refine HH6.out.mono ?_
        rintro e w7 ⟨rfl, hb7⟩
        have HB7 := Lib.hid (stepB HB6.out hb7)
        have hcan := can_of (cost := cost) (lands_mine (HSA.out.later HB7.out) HWF.out HSL.out seat) (Nat.le_trans (mine_len _) HSL.out)
        rw [HML.out, DB.out] at hcan
        have HC7 := Lib.hid hcan
        clear hb7 hcan HH6
        dsimp only
        go_wp2_with fail
        refine HC7.out.mono ?_
        rintro e w8 ⟨rfl, hb8⟩
        have HB8 := Lib.hid (stepB HB7.out hb8)
        have HS8 := Lib.hid (HSA.out.later HB8.out)
        have HT8 := Lib.hid (HTA.out.later HB8.out)
        have HK8 := Lib.hid (HKA.out.later HB8.out)
        have HBW8 := Lib.hid (stepB HBA.out HB8.out)
        clear hb8 HC7 HSA HTA HKA HBA HB6 HB7 HB8
        dsimp only
        go_wp2_with fail
        refine (HP.out _ HS8.out).mono ?_
        rintro e w9 ⟨rfl, hb9⟩
        have HB9 := Lib.hid (stepB HBW8.out hb9)
        have HSM := Lib.hid (same_true (HS8.out.later hb9) (HT8.out.later hb9) (HWF.out.short HSL.out))
        clear hb9
        dsimp only
        go_wp2_with fail
        refine HSM.out.mono ?_
        rintro e w10 ⟨rfl, hb10⟩
        have HB10 := Lib.hid (stepB HB9.out hb10)
        clear hb10 HSM
        dsimp only
        go_wp2
        go_ret
        exact ⟨rfl, HB10.out⟩
      obtain ⟨n, rfl⟩ : ∃ n : Nat, cost = n := ⟨cost.toNat, by omega⟩
      have hnl : n ≤ L.length := by omega
      have d0 : decide ((0 : Int) ≤ (n : Int)) = true := decide_eq_true (by omega)
      have d1 : decide ((n : Int) ≤ (L.length : Int)) = true := decide_eq_true (by omega)
      have d1' : decide (n ≤ L.length) = true := decide_eq_true hnl
      have d2 : decide ((n : Int) < 0) = false := decide_eq_false (by omega)
      have DB := Lib.hid (show (decide ((0 : Int) ≤ (n : Int)) && decide ((n : Int) ≤ (L.length : Int))) = true by rw [d0, d1]; rfl)
      have HP := Lib.hid (fun (w' : World) (hs : StoreAt w' lo bb G S) => pay_ok hs HWF.out HSL.out seat n (by rw [HML.out]; exact hnl))
      rw [HML.out] at HP
      have hslc : (∃ xa xc, u9 = .slice xa L.length xc ∧ L = [] ∧ n = 0 ∧ xa = none ∧ xc = 0) ∨ ∃ g cap, u9 = .slice (some ⟨g, 0, none⟩) L.length cap ∧ 0 < cap ∧ L.length ≤ cap ∧ (n < L.length ∨ (n = L.length ∧ n < cap) ∨ (n = L.length ∧ n = cap)) := by
        rcases hlv with ⟨rfl, h⟩ | ⟨g, cap, rfl, h1, h2⟩
        · exact .inl ⟨none, 0, by rw [h], List.eq_nil_of_length_eq_zero h, by omega, rfl, rfl⟩
        · exact .inr ⟨g, cap, rfl, by omega, h2, by omega⟩
      clear hc0 hcl hlv
      have HRS := Lib.hid (mine_rest HWF.out seat n)
      rw [HML.out] at HRS
      rcases hslc with ⟨xa, xc, rfl, rfl, rfl, rfl, rfl⟩ | ⟨g, cap, rfl, hcp, hlc, hn | ⟨rfl, hn⟩ | ⟨rfl, rfl⟩⟩
      · have hL5 := lands_mine HSA.out HWF.out HSL.out seat
        rw [HML.out] at hL5
        have HL5 := Lib.hid hL5
        clear hL5
        go_wp2_with fail
        refine HL5.out.mono ?_
        rintro e w5 ⟨v5, rfl, ho5, hb5⟩
        have HI5 := Lib.hid (ints_same (own_ints ho5) (HKA.out.later hb5).ints hl1000)
        obtain ⟨ya, yc, rfl⟩ := own_form ho5
        have HB5 := Lib.hid hb5
        clear ho5 hb5 HL5
        dsimp only
        go_wp2_with fail
        refine HI5.out.mono ?_
        rintro e w6 hd
        obtain ⟨rfl, hb6⟩ := drew_belowP hd
        have HB6 := Lib.hid (stepB HB5.out hb6)
        have hh := has_of (lands_mine (HSA.out.later HB6.out) HWF.out HSL.out seat) (Nat.le_trans (mine_len _) HSL.out)
        rw [HML.out] at hh
        have HH6 := Lib.hid hh
        clear hd hb6 HI5 HB5 hh
        dsimp only
        go_wp2_with fail
        refine HH6.out.mono ?_
        rintro e w7 ⟨rfl, hb7⟩
        have HB7 := Lib.hid (stepB HB6.out hb7)
        have hcan := can_of (cost := ((0 : Nat) : Int)) (lands_mine (HSA.out.later HB7.out) HWF.out HSL.out seat) (Nat.le_trans (mine_len _) HSL.out)
        rw [HML.out, DB.out] at hcan
        have HC7 := Lib.hid hcan
        clear hb7 hcan HH6
        dsimp only
        go_wp2_with fail
        refine HC7.out.mono ?_
        rintro e w8 ⟨rfl, hb8⟩
        have HB8 := Lib.hid (stepB HB7.out hb8)
        have HS8 := Lib.hid (HSA.out.later HB8.out)
        have HT8 := Lib.hid (HTA.out.later HB8.out)
        have HK8 := Lib.hid (HKA.out.later HB8.out)
        have HBW8 := Lib.hid (stepB HBA.out HB8.out)
        clear hb8 HC7 HSA HTA HKA HBA HB6 HB7 HB8
        dsimp only
        go_wp2_with fail
        refine (HP.out _ HS8.out).mono ?_
        rintro e w9 ⟨rfl, G9, hs9, ht9⟩
        have HS9 := Lib.hid hs9
        have HT9 := Lib.hid (HT8.out.far HAP.out ht9).1
        have HK9 := Lib.hid (HK8.out.turn ht9)
        have HB9 := Lib.hid (ht9.below HBW8.out HFAR.out)
        have HLD : Hid (∀ w', Below w9.heap.size w9 w' → Calls Try.prog 26 #[.pointer (some ⟨bb, 0, none⟩), .int .i64 seat] w' (RetList w' (List.drop 0 []))) := Lib.hid fun w' hb => by
          have h := lands_mine (hs9.later hb) (tapAll_wf HWF.out _) (by rw [tapAll_len]; exact HSL.out) seat
          rw [HRS.out] at h
          exact h
        have HDR : Hid (∀ w', Below w9.heap.size w9 w' → IntsAt w' (.slice none 0 0) (List.drop 0 [])) := Lib.hid fun w' hb => by
          have h := (HK9.out.later hb).ints
          exact ints_none _ _ _
        have HTKI : Hid (∀ w', Below w9.heap.size w9 w' → IntsAt w' (.slice none 0 0) (List.take 0 [])) := Lib.hid fun w' hb => by
          have h := (HK9.out.later hb).ints
          exact ints_none _ _ _
        clear hs9 ht9 HP HT8 HS8 HK8
        dsimp only
        go_wp2
        go_region_held3 (fun w' => Below w9.heap.size w9 w') (first | assumption | exact (Below.refl _ _).drew | exact stepB (by assumption) (by assumption))
          (first
          | (go_at_call 26; refine (HLD.out _ (by assumption)).mono ?_; rintro e w10 ⟨v10, rfl, ho10, hb10⟩; obtain ⟨ya, yc, rfl⟩ := own_form ho10)
          | (go_at_call 17; refine (ints_same (own_ints (by assumption)) (HDR.out _ (by assumption)) (by simp)).mono ?_; rintro e w11 hd; obtain ⟨rfl, hb11⟩ := drew_belowP hd))
        all_goals
          have HB11 := Lib.hid (show Below w9.heap.size w9 w11 by assumption)
          obtain ⟨wB, hwB⟩ : ∃ wB, w11 = wB := ⟨_, rfl⟩
          subst hwB

          clear ho10 hb10 HDR HLD
          go_wp2
          go_loopw [127] (fun i wr => ∃ k : Nat, k ≤ l.length ∧ i = .int .i64 k ∧ Hid (Below w9.heap.size w9 wr)) (fun i _ => l.length - (intOf i).toNat)
          case atStart => exact ⟨0, Nat.zero_le _, rfl, HB11⟩
          case round =>
            obtain ⟨k, hk, rfl, HBR⟩ := hrel
            by_cases hlt : k < l.length
            · have hks : k < S.objs.length := by rw [HLN.out]; exact hlt
              have hg1 := get_in (HS9.out.later HBR.out) (by rw [tapAll_len]; exact HSL.out) k (by rw [tapAll_len]; exact hks)
              rw [tapAll_get HWF.out (List.take 0 []) k hks] at hg1
              have HG2 := Lib.hid (fun (w' : World) (hb : Below wr.heap.size wr w') => get_in (HT9.out.later (stepB HBR.out hb)) HSL.out k hks)
              obtain ⟨x, hx⟩ : ∃ x, S.objs[k] = x := ⟨_, rfl⟩
              rw [hx] at hg1 HG2
              obtain ⟨x0, x1, x2, x3, x4, x5, x6, x7, x8, x9, x10⟩ := x
              have HHS := Lib.hid (fun (w' : World) (hb : Below wr.heap.size wr w') => hasRef_any ((k : Int) + 1) (HTKI.out w' (stepB HBR.out hb)) (by first | (simp; done) | (rw [List.length_take]; omega)))
              clear hx
              by_cases hm : ((k : Int) + 1) ∈ (List.take 0 [])
              · rw [if_pos (List.contains_iff_mem.2 hm)] at hg1
                rw [decide_eq_true hm] at HHS
                unfold tapO at hg1
                have HG1 := Lib.hid hg1
                unfold RetGet oagg at HG1 HG2
                dsimp only at HG1 HG2
                have hE : ∀ W, (binOp .neq 32 (.agg #[.int .i64 x0, .int .i64 x1, .int .i64 x2, .int .i64 x3, .bool true, .bool x5, .int .i64 x6, .int .i64 x7, .int .i64 x8, .int .i64 x9, .bool x10]) (.agg #[.int .i64 x0, .int .i64 x1, .int .i64 x2, .int .i64 x3, .bool true, .bool x5, .int .i64 x6, .int .i64 x7, .int .i64 x8, .int .i64 x9, .bool x10])).run Try.prog W = .ok (.bool false) W := fun W => by rw [neqObj]; simp
                have hN := @neqgO
                clear hg1 hm
                go_wp2_with fail
                refine HG1.out.mono ?_
                rintro e wa ⟨rfl, hba⟩
                have HBa := Lib.hid hba
                clear hba
                dsimp only
                go_wp2_with fail
                refine (HG2.out _ (stepB HBa.out (below_new wa _))).mono ?_
                rintro e wb ⟨rfl, hbb⟩
                have HX15 := Lib.hid (hbb.block wa.heap.size (by simp) |>.trans (heap_alloc_new wa (.cells (ocs ⟨x0, x1, x2, x3, true, x5, x6, x7, x8, x9, x10⟩) 32)))
                have HBb := Lib.hid (stepB (stepB HBa.out (below_new wa _)) hbb)
                have HLTb := Lib.hid (show wa.heap.size < wb.heap.size by have := hbb.size; simp at this; omega)
                obtain ⟨q1, hq1⟩ : ∃ q1, wa.heap.size = q1 := ⟨_, rfl⟩
                rw [hq1] at HX15 HLTb ⊢
                clear hbb hq1
                have HBc := Lib.hid (stepB HBb.out (below_new wb (.cells (ocs ⟨x0, x1, x2, x3, x4, x5, x6, x7, x8, x9, x10⟩) 32)))
                have HHw := Lib.hid (HHS.out _ HBc.out)
                dsimp only
                go_wp2_with fail
                refine HHw.out.mono ?_
                rintro e wc ⟨rfl, rfl⟩
                dsimp only
                have hc15 := (below_new wb (.cells (ocs ⟨x0, x1, x2, x3, x4, x5, x6, x7, x8, x9, x10⟩) 32)).block q1 HLTb.out |>.trans HX15.out
                have hc17 := heap_alloc_new wb (.cells (ocs ⟨x0, x1, x2, x3, x4, x5, x6, x7, x8, x9, x10⟩) 32)
                obtain ⟨WW, hWW⟩ : ∃ WW, wb.alloc (.cells (ocs ⟨x0, x1, x2, x3, x4, x5, x6, x7, x8, x9, x10⟩) 32) = WW := ⟨_, rfl⟩
                obtain ⟨q2, hq2⟩ : ∃ q2, wb.heap.size = q2 := ⟨_, rfl⟩
                rw [hWW] at hc15 hc17 HBc
                rw [hq2] at hc17 HLTb
                rw [hWW]
                rw [hq2]
                obtain ⟨p0, p1, p2, p3, p4, p5, p6, p7, p8, p9, p10⟩ := obj_of_row ((heap_setCell_other WW ⟨q2, 4, none⟩ q1 (.bool true) (by show q1 ≠ q2; have := HLTb.out; omega)).trans hc15)
                obtain ⟨o0, o1, o2, o3, o4, o5, o6, o7, o8, o9, o10⟩ := obj_of_row hc17
                have fo := frozen_of_row WW q2 4 _ _ hc17
                simp only [Nat.zero_add] at p1 p2 p3 p4 p5 p6 p7 p8 p9 p10 o1 o2 o3 o4 o5 o6 o7 o8 o9 o10
                dsimp only at p0 p1 p2 p3 p4 p5 p6 p7 p8 p9 p10 o0 o1 o2 o3 o4 o5 o6 o7 o8 o9 o10
                have HBd := Lib.hid (HBc.out.setCell (p := ⟨q2, 4, none⟩) (show wr.heap.size ≤ q2 by rw [← hq2]; exact HBb.out.size) (.bool true))
                have HBE := Lib.hid (stepB HBR.out HBd.out)
                clear hc15 hc17 hWW hq2
                go_wp2
                go_roundw
                case rel => exact ⟨k + 1, by omega, by go_num, HBE⟩
                case measure => simp [intOf]; omega
              · rw [if_neg (fun h => hm (List.contains_iff_mem.1 h))] at hg1
                rw [decide_eq_false hm] at HHS
                have HG1 := Lib.hid hg1
                unfold RetGet oagg at HG1 HG2
                dsimp only at HG1 HG2
                have hE : ∀ W, (binOp .neq 32 (.agg #[.int .i64 x0, .int .i64 x1, .int .i64 x2, .int .i64 x3, .bool x4, .bool x5, .int .i64 x6, .int .i64 x7, .int .i64 x8, .int .i64 x9, .bool x10]) (.agg #[.int .i64 x0, .int .i64 x1, .int .i64 x2, .int .i64 x3, .bool x4, .bool x5, .int .i64 x6, .int .i64 x7, .int .i64 x8, .int .i64 x9, .bool x10])).run Try.prog W = .ok (.bool false) W := fun W => by rw [neqObj]; simp
                have hN := @neqgO
                clear hg1 hm
                go_wp2_with fail
                refine HG1.out.mono ?_
                rintro e wa ⟨rfl, hba⟩
                have HBa := Lib.hid hba
                clear hba
                dsimp only
                go_wp2_with fail
                refine (HG2.out _ (stepB HBa.out (below_new wa _))).mono ?_
                rintro e wb ⟨rfl, hbb⟩
                have HX15 := Lib.hid (hbb.block wa.heap.size (by simp) |>.trans (heap_alloc_new wa (.cells (ocs ⟨x0, x1, x2, x3, x4, x5, x6, x7, x8, x9, x10⟩) 32)))
                have HBb := Lib.hid (stepB (stepB HBa.out (below_new wa _)) hbb)
                have HLTb := Lib.hid (show wa.heap.size < wb.heap.size by have := hbb.size; simp at this; omega)
                obtain ⟨q1, hq1⟩ : ∃ q1, wa.heap.size = q1 := ⟨_, rfl⟩
                rw [hq1] at HX15 HLTb ⊢
                clear hbb hq1
                have HBc := Lib.hid (stepB HBb.out (below_new wb (.cells (ocs ⟨x0, x1, x2, x3, x4, x5, x6, x7, x8, x9, x10⟩) 32)))
                have HHw := Lib.hid (HHS.out _ HBc.out)
                dsimp only
                go_wp2_with fail
                refine HHw.out.mono ?_
                rintro e wc ⟨rfl, rfl⟩
                dsimp only
                have hc15 := (below_new wb (.cells (ocs ⟨x0, x1, x2, x3, x4, x5, x6, x7, x8, x9, x10⟩) 32)).block q1 HLTb.out |>.trans HX15.out
                have hc17 := heap_alloc_new wb (.cells (ocs ⟨x0, x1, x2, x3, x4, x5, x6, x7, x8, x9, x10⟩) 32)
                obtain ⟨WW, hWW⟩ : ∃ WW, wb.alloc (.cells (ocs ⟨x0, x1, x2, x3, x4, x5, x6, x7, x8, x9, x10⟩) 32) = WW := ⟨_, rfl⟩
                obtain ⟨q2, hq2⟩ : ∃ q2, wb.heap.size = q2 := ⟨_, rfl⟩
                rw [hWW] at hc15 hc17 HBc
                rw [hq2] at hc17 HLTb
                rw [hWW]
                rw [hq2]
                obtain ⟨p0, p1, p2, p3, p4, p5, p6, p7, p8, p9, p10⟩ := obj_of_row hc15
                obtain ⟨o0, o1, o2, o3, o4, o5, o6, o7, o8, o9, o10⟩ := obj_of_row hc17
                simp only [Nat.zero_add] at p1 p2 p3 p4 p5 p6 p7 p8 p9 p10 o1 o2 o3 o4 o5 o6 o7 o8 o9 o10
                dsimp only at p0 p1 p2 p3 p4 p5 p6 p7 p8 p9 p10 o0 o1 o2 o3 o4 o5 o6 o7 o8 o9 o10
                have HBE := Lib.hid (stepB HBR.out HBc.out)
                clear hc15 hc17 hWW hq2
                go_wp2
                go_roundw
                case rel => exact ⟨k + 1, by omega, by go_num, HBE⟩
                case measure => simp [intOf]; omega
            · obtain rfl : k = l.length := by omega
              go_wp2
              go_ret
              exact ⟨rfl, stepB HB9.out HBR.out⟩
      · have hL5 := lands_mine HSA.out HWF.out HSL.out seat
        rw [HML.out] at hL5
        have HL5 := Lib.hid hL5
        clear hL5
        go_wp2_with fail
        refine HL5.out.mono ?_
        rintro e w5 ⟨v5, rfl, ho5, hb5⟩
        have HI5 := Lib.hid (ints_same (own_ints ho5) (HKA.out.later hb5).ints hl1000)
        obtain ⟨ya, yc, rfl⟩ := own_form ho5
        have HB5 := Lib.hid hb5
        clear ho5 hb5 HL5
        dsimp only
        go_wp2_with fail
        refine HI5.out.mono ?_
        rintro e w6 hd
        obtain ⟨rfl, hb6⟩ := drew_belowP hd
        have HB6 := Lib.hid (stepB HB5.out hb6)
        have hh := has_of (lands_mine (HSA.out.later HB6.out) HWF.out HSL.out seat) (Nat.le_trans (mine_len _) HSL.out)
        rw [HML.out] at hh
        have HH6 := Lib.hid hh
        clear hd hb6 HI5 HB5 hh
        dsimp only
        go_wp2_with fail
        refine HH6.out.mono ?_
        rintro e w7 ⟨rfl, hb7⟩
        have HB7 := Lib.hid (stepB HB6.out hb7)
        have hcan := can_of (cost := ((n : Nat) : Int)) (lands_mine (HSA.out.later HB7.out) HWF.out HSL.out seat) (Nat.le_trans (mine_len _) HSL.out)
        rw [HML.out, DB.out] at hcan
        have HC7 := Lib.hid hcan
        clear hb7 hcan HH6
        dsimp only
        go_wp2_with fail
        refine HC7.out.mono ?_
        rintro e w8 ⟨rfl, hb8⟩
        have HB8 := Lib.hid (stepB HB7.out hb8)
        have HS8 := Lib.hid (HSA.out.later HB8.out)
        have HT8 := Lib.hid (HTA.out.later HB8.out)
        have HK8 := Lib.hid (HKA.out.later HB8.out)
        have HBW8 := Lib.hid (stepB HBA.out HB8.out)
        clear hb8 HC7 HSA HTA HKA HBA HB6 HB7 HB8
        dsimp only
        go_wp2_with fail
        refine (HP.out _ HS8.out).mono ?_
        rintro e w9 ⟨rfl, G9, hs9, ht9⟩
        have HS9 := Lib.hid hs9
        have HT9 := Lib.hid (HT8.out.far HAP.out ht9).1
        have HK9 := Lib.hid (HK8.out.turn ht9)
        have HB9 := Lib.hid (ht9.below HBW8.out HFAR.out)
        have HLD : Hid (∀ w', Below w9.heap.size w9 w' → Calls Try.prog 26 #[.pointer (some ⟨bb, 0, none⟩), .int .i64 seat] w' (RetList w' (L.drop n))) := Lib.hid fun w' hb => by
          have h := lands_mine (hs9.later hb) (tapAll_wf HWF.out _) (by rw [tapAll_len]; exact HSL.out) seat
          rw [HRS.out] at h
          exact h
        have HDR : Hid (∀ w', Below w9.heap.size w9 w' → IntsAt w' (.slice (some ⟨g, n, none⟩) (L.length - n) (cap - n)) (L.drop n)) := Lib.hid fun w' hb => by
          have h := (HK9.out.later hb).ints
          exact ints_drop h rfl hn
        have HTKI : Hid (∀ w', Below w9.heap.size w9 w' → IntsAt w' (.slice (some ⟨g, 0, none⟩) n cap) (L.take n)) := Lib.hid fun w' hb => by
          have h := (HK9.out.later hb).ints
          exact ints_take h rfl (by omega)
        clear hs9 ht9 HP HT8 HS8 HK8
        dsimp only
        go_wp2
        go_region_held3 (fun w' => Below w9.heap.size w9 w') (first | assumption | exact (Below.refl _ _).drew | exact stepB (by assumption) (by assumption))
          (first
          | (go_at_call 26; refine (HLD.out _ (by assumption)).mono ?_; rintro e w10 ⟨v10, rfl, ho10, hb10⟩; obtain ⟨ya, yc, rfl⟩ := own_form ho10; rw [List.length_drop] at ho10)
          | (go_at_call 17; refine (ints_same (own_ints (by assumption)) (HDR.out _ (by assumption)) (by rw [List.length_drop]; omega)).mono ?_; rintro e w11 hd; obtain ⟨rfl, hb11⟩ := drew_belowP hd))
        all_goals
          have HB11 := Lib.hid (show Below w9.heap.size w9 w11 by assumption)
          obtain ⟨wB, hwB⟩ : ∃ wB, w11 = wB := ⟨_, rfl⟩
          subst hwB

          clear ho10 hb10 HDR HLD
          go_wp2
          go_loopw [127] (fun i wr => ∃ k : Nat, k ≤ l.length ∧ i = .int .i64 k ∧ Hid (Below w9.heap.size w9 wr)) (fun i _ => l.length - (intOf i).toNat)
          case atStart => exact ⟨0, Nat.zero_le _, rfl, HB11⟩
          case round =>
            obtain ⟨k, hk, rfl, HBR⟩ := hrel
            by_cases hlt : k < l.length
            · have hks : k < S.objs.length := by rw [HLN.out]; exact hlt
              have hg1 := get_in (HS9.out.later HBR.out) (by rw [tapAll_len]; exact HSL.out) k (by rw [tapAll_len]; exact hks)
              rw [tapAll_get HWF.out (L.take n) k hks] at hg1
              have HG2 := Lib.hid (fun (w' : World) (hb : Below wr.heap.size wr w') => get_in (HT9.out.later (stepB HBR.out hb)) HSL.out k hks)
              obtain ⟨x, hx⟩ : ∃ x, S.objs[k] = x := ⟨_, rfl⟩
              rw [hx] at hg1 HG2
              obtain ⟨x0, x1, x2, x3, x4, x5, x6, x7, x8, x9, x10⟩ := x
              have HHS := Lib.hid (fun (w' : World) (hb : Below wr.heap.size wr w') => hasRef_any ((k : Int) + 1) (HTKI.out w' (stepB HBR.out hb)) (by first | (simp; done) | (rw [List.length_take]; omega)))
              clear hx
              by_cases hm : ((k : Int) + 1) ∈ (L.take n)
              · rw [if_pos (List.contains_iff_mem.2 hm)] at hg1
                rw [decide_eq_true hm] at HHS
                unfold tapO at hg1
                have HG1 := Lib.hid hg1
                unfold RetGet oagg at HG1 HG2
                dsimp only at HG1 HG2
                have hE : ∀ W, (binOp .neq 32 (.agg #[.int .i64 x0, .int .i64 x1, .int .i64 x2, .int .i64 x3, .bool true, .bool x5, .int .i64 x6, .int .i64 x7, .int .i64 x8, .int .i64 x9, .bool x10]) (.agg #[.int .i64 x0, .int .i64 x1, .int .i64 x2, .int .i64 x3, .bool true, .bool x5, .int .i64 x6, .int .i64 x7, .int .i64 x8, .int .i64 x9, .bool x10])).run Try.prog W = .ok (.bool false) W := fun W => by rw [neqObj]; simp
                have hN := @neqgO
                clear hg1 hm
                go_wp2_with fail
                refine HG1.out.mono ?_
                rintro e wa ⟨rfl, hba⟩
                have HBa := Lib.hid hba
                clear hba
                dsimp only
                go_wp2_with fail
                refine (HG2.out _ (stepB HBa.out (below_new wa _))).mono ?_
                rintro e wb ⟨rfl, hbb⟩
                have HX15 := Lib.hid (hbb.block wa.heap.size (by simp) |>.trans (heap_alloc_new wa (.cells (ocs ⟨x0, x1, x2, x3, true, x5, x6, x7, x8, x9, x10⟩) 32)))
                have HBb := Lib.hid (stepB (stepB HBa.out (below_new wa _)) hbb)
                have HLTb := Lib.hid (show wa.heap.size < wb.heap.size by have := hbb.size; simp at this; omega)
                obtain ⟨q1, hq1⟩ : ∃ q1, wa.heap.size = q1 := ⟨_, rfl⟩
                rw [hq1] at HX15 HLTb ⊢
                clear hbb hq1
                have HBc := Lib.hid (stepB HBb.out (below_new wb (.cells (ocs ⟨x0, x1, x2, x3, x4, x5, x6, x7, x8, x9, x10⟩) 32)))
                have HHw := Lib.hid (HHS.out _ HBc.out)
                dsimp only
                go_wp2_with fail
                refine HHw.out.mono ?_
                rintro e wc ⟨rfl, rfl⟩
                dsimp only
                have hc15 := (below_new wb (.cells (ocs ⟨x0, x1, x2, x3, x4, x5, x6, x7, x8, x9, x10⟩) 32)).block q1 HLTb.out |>.trans HX15.out
                have hc17 := heap_alloc_new wb (.cells (ocs ⟨x0, x1, x2, x3, x4, x5, x6, x7, x8, x9, x10⟩) 32)
                obtain ⟨WW, hWW⟩ : ∃ WW, wb.alloc (.cells (ocs ⟨x0, x1, x2, x3, x4, x5, x6, x7, x8, x9, x10⟩) 32) = WW := ⟨_, rfl⟩
                obtain ⟨q2, hq2⟩ : ∃ q2, wb.heap.size = q2 := ⟨_, rfl⟩
                rw [hWW] at hc15 hc17 HBc
                rw [hq2] at hc17 HLTb
                rw [hWW]
                rw [hq2]
                obtain ⟨p0, p1, p2, p3, p4, p5, p6, p7, p8, p9, p10⟩ := obj_of_row ((heap_setCell_other WW ⟨q2, 4, none⟩ q1 (.bool true) (by show q1 ≠ q2; have := HLTb.out; omega)).trans hc15)
                obtain ⟨o0, o1, o2, o3, o4, o5, o6, o7, o8, o9, o10⟩ := obj_of_row hc17
                have fo := frozen_of_row WW q2 4 _ _ hc17
                simp only [Nat.zero_add] at p1 p2 p3 p4 p5 p6 p7 p8 p9 p10 o1 o2 o3 o4 o5 o6 o7 o8 o9 o10
                dsimp only at p0 p1 p2 p3 p4 p5 p6 p7 p8 p9 p10 o0 o1 o2 o3 o4 o5 o6 o7 o8 o9 o10
                have HBd := Lib.hid (HBc.out.setCell (p := ⟨q2, 4, none⟩) (show wr.heap.size ≤ q2 by rw [← hq2]; exact HBb.out.size) (.bool true))
                have HBE := Lib.hid (stepB HBR.out HBd.out)
                clear hc15 hc17 hWW hq2
                go_wp2
                go_roundw
                case rel => exact ⟨k + 1, by omega, by go_num, HBE⟩
                case measure => simp [intOf]; omega
              · rw [if_neg (fun h => hm (List.contains_iff_mem.1 h))] at hg1
                rw [decide_eq_false hm] at HHS
                have HG1 := Lib.hid hg1
                unfold RetGet oagg at HG1 HG2
                dsimp only at HG1 HG2
                have hE : ∀ W, (binOp .neq 32 (.agg #[.int .i64 x0, .int .i64 x1, .int .i64 x2, .int .i64 x3, .bool x4, .bool x5, .int .i64 x6, .int .i64 x7, .int .i64 x8, .int .i64 x9, .bool x10]) (.agg #[.int .i64 x0, .int .i64 x1, .int .i64 x2, .int .i64 x3, .bool x4, .bool x5, .int .i64 x6, .int .i64 x7, .int .i64 x8, .int .i64 x9, .bool x10])).run Try.prog W = .ok (.bool false) W := fun W => by rw [neqObj]; simp
                have hN := @neqgO
                clear hg1 hm
                go_wp2_with fail
                refine HG1.out.mono ?_
                rintro e wa ⟨rfl, hba⟩
                have HBa := Lib.hid hba
                clear hba
                dsimp only
                go_wp2_with fail
                refine (HG2.out _ (stepB HBa.out (below_new wa _))).mono ?_
                rintro e wb ⟨rfl, hbb⟩
                have HX15 := Lib.hid (hbb.block wa.heap.size (by simp) |>.trans (heap_alloc_new wa (.cells (ocs ⟨x0, x1, x2, x3, x4, x5, x6, x7, x8, x9, x10⟩) 32)))
                have HBb := Lib.hid (stepB (stepB HBa.out (below_new wa _)) hbb)
                have HLTb := Lib.hid (show wa.heap.size < wb.heap.size by have := hbb.size; simp at this; omega)
                obtain ⟨q1, hq1⟩ : ∃ q1, wa.heap.size = q1 := ⟨_, rfl⟩
                rw [hq1] at HX15 HLTb ⊢
                clear hbb hq1
                have HBc := Lib.hid (stepB HBb.out (below_new wb (.cells (ocs ⟨x0, x1, x2, x3, x4, x5, x6, x7, x8, x9, x10⟩) 32)))
                have HHw := Lib.hid (HHS.out _ HBc.out)
                dsimp only
                go_wp2_with fail
                refine HHw.out.mono ?_
                rintro e wc ⟨rfl, rfl⟩
                dsimp only
                have hc15 := (below_new wb (.cells (ocs ⟨x0, x1, x2, x3, x4, x5, x6, x7, x8, x9, x10⟩) 32)).block q1 HLTb.out |>.trans HX15.out
                have hc17 := heap_alloc_new wb (.cells (ocs ⟨x0, x1, x2, x3, x4, x5, x6, x7, x8, x9, x10⟩) 32)
                obtain ⟨WW, hWW⟩ : ∃ WW, wb.alloc (.cells (ocs ⟨x0, x1, x2, x3, x4, x5, x6, x7, x8, x9, x10⟩) 32) = WW := ⟨_, rfl⟩
                obtain ⟨q2, hq2⟩ : ∃ q2, wb.heap.size = q2 := ⟨_, rfl⟩
                rw [hWW] at hc15 hc17 HBc
                rw [hq2] at hc17 HLTb
                rw [hWW]
                rw [hq2]
                obtain ⟨p0, p1, p2, p3, p4, p5, p6, p7, p8, p9, p10⟩ := obj_of_row hc15
                obtain ⟨o0, o1, o2, o3, o4, o5, o6, o7, o8, o9, o10⟩ := obj_of_row hc17
                simp only [Nat.zero_add] at p1 p2 p3 p4 p5 p6 p7 p8 p9 p10 o1 o2 o3 o4 o5 o6 o7 o8 o9 o10
                dsimp only at p0 p1 p2 p3 p4 p5 p6 p7 p8 p9 p10 o0 o1 o2 o3 o4 o5 o6 o7 o8 o9 o10
                have HBE := Lib.hid (stepB HBR.out HBc.out)
                clear hc15 hc17 hWW hq2
                go_wp2
                go_roundw
                case rel => exact ⟨k + 1, by omega, by go_num, HBE⟩
                case measure => simp [intOf]; omega
            · obtain rfl : k = l.length := by omega
              go_wp2
              go_ret
              exact ⟨rfl, stepB HB9.out HBR.out⟩
      · have hL5 := lands_mine HSA.out HWF.out HSL.out seat
        rw [HML.out] at hL5
        have HL5 := Lib.hid hL5
        clear hL5
        go_wp2_with fail
        refine HL5.out.mono ?_
        rintro e w5 ⟨v5, rfl, ho5, hb5⟩
        have HI5 := Lib.hid (ints_same (own_ints ho5) (HKA.out.later hb5).ints hl1000)
        obtain ⟨ya, yc, rfl⟩ := own_form ho5
        have HB5 := Lib.hid hb5
        clear ho5 hb5 HL5
        dsimp only
        go_wp2_with fail
        refine HI5.out.mono ?_
        rintro e w6 hd
        obtain ⟨rfl, hb6⟩ := drew_belowP hd
        have HB6 := Lib.hid (stepB HB5.out hb6)
        have hh := has_of (lands_mine (HSA.out.later HB6.out) HWF.out HSL.out seat) (Nat.le_trans (mine_len _) HSL.out)
        rw [HML.out] at hh
        have HH6 := Lib.hid hh
        clear hd hb6 HI5 HB5 hh
        dsimp only
        go_wp2_with fail
        refine HH6.out.mono ?_
        rintro e w7 ⟨rfl, hb7⟩
        have HB7 := Lib.hid (stepB HB6.out hb7)
        have hcan := can_of (cost := ((L.length : Nat) : Int)) (lands_mine (HSA.out.later HB7.out) HWF.out HSL.out seat) (Nat.le_trans (mine_len _) HSL.out)
        rw [HML.out, DB.out] at hcan
        have HC7 := Lib.hid hcan
        clear hb7 hcan HH6
        dsimp only
        go_wp2_with fail
        refine HC7.out.mono ?_
        rintro e w8 ⟨rfl, hb8⟩
        have HB8 := Lib.hid (stepB HB7.out hb8)
        have HS8 := Lib.hid (HSA.out.later HB8.out)
        have HT8 := Lib.hid (HTA.out.later HB8.out)
        have HK8 := Lib.hid (HKA.out.later HB8.out)
        have HBW8 := Lib.hid (stepB HBA.out HB8.out)
        clear hb8 HC7 HSA HTA HKA HBA HB6 HB7 HB8
        dsimp only
        go_wp2_with fail
        refine (HP.out _ HS8.out).mono ?_
        rintro e w9 ⟨rfl, G9, hs9, ht9⟩
        have HS9 := Lib.hid hs9
        have HT9 := Lib.hid (HT8.out.far HAP.out ht9).1
        have HK9 := Lib.hid (HK8.out.turn ht9)
        have HB9 := Lib.hid (ht9.below HBW8.out HFAR.out)
        have HLD : Hid (∀ w', Below w9.heap.size w9 w' → Calls Try.prog 26 #[.pointer (some ⟨bb, 0, none⟩), .int .i64 seat] w' (RetList w' (([] : List Int)))) := Lib.hid fun w' hb => by
          have h := lands_mine (hs9.later hb) (tapAll_wf HWF.out _) (by rw [tapAll_len]; exact HSL.out) seat
          rw [HRS.out] at h
          rw [List.drop_length] at h; exact h
        have HDR : Hid (∀ w', Below w9.heap.size w9 w' → IntsAt w' (.slice (some ⟨g, L.length, none⟩) 0 (cap - L.length)) (([] : List Int))) := Lib.hid fun w' hb => by
          have h := (HK9.out.later hb).ints
          exact ints_none _ _ _
        have HTKI : Hid (∀ w', Below w9.heap.size w9 w' → IntsAt w' (.slice (some ⟨g, 0, none⟩) L.length cap) (L.take L.length)) := Lib.hid fun w' hb => by
          have h := (HK9.out.later hb).ints
          rw [List.take_length]; exact h
        clear hs9 ht9 HP HT8 HS8 HK8
        dsimp only
        go_wp2
        go_region_held3 (fun w' => Below w9.heap.size w9 w') (first | assumption | exact (Below.refl _ _).drew | exact stepB (by assumption) (by assumption))
          (first
          | (go_at_call 26; refine (HLD.out _ (by assumption)).mono ?_; rintro e w10 ⟨v10, rfl, ho10, hb10⟩; obtain ⟨ya, yc, rfl⟩ := own_form ho10)
          | (go_at_call 17; refine (ints_same (own_ints (by assumption)) (HDR.out _ (by assumption)) (by simp)).mono ?_; rintro e w11 hd; obtain ⟨rfl, hb11⟩ := drew_belowP hd))
        all_goals
          have HB11 := Lib.hid (show Below w9.heap.size w9 w11 by assumption)
          obtain ⟨wB, hwB⟩ : ∃ wB, w11 = wB := ⟨_, rfl⟩
          subst hwB

          clear ho10 hb10 HDR HLD
          go_wp2
          go_loopw [127] (fun i wr => ∃ k : Nat, k ≤ l.length ∧ i = .int .i64 k ∧ Hid (Below w9.heap.size w9 wr)) (fun i _ => l.length - (intOf i).toNat)
          case atStart => exact ⟨0, Nat.zero_le _, rfl, HB11⟩
          case round =>
            obtain ⟨k, hk, rfl, HBR⟩ := hrel
            by_cases hlt : k < l.length
            · have hks : k < S.objs.length := by rw [HLN.out]; exact hlt
              have hg1 := get_in (HS9.out.later HBR.out) (by rw [tapAll_len]; exact HSL.out) k (by rw [tapAll_len]; exact hks)
              rw [tapAll_get HWF.out (L.take L.length) k hks] at hg1
              have HG2 := Lib.hid (fun (w' : World) (hb : Below wr.heap.size wr w') => get_in (HT9.out.later (stepB HBR.out hb)) HSL.out k hks)
              obtain ⟨x, hx⟩ : ∃ x, S.objs[k] = x := ⟨_, rfl⟩
              rw [hx] at hg1 HG2
              obtain ⟨x0, x1, x2, x3, x4, x5, x6, x7, x8, x9, x10⟩ := x
              have HHS := Lib.hid (fun (w' : World) (hb : Below wr.heap.size wr w') => hasRef_any ((k : Int) + 1) (HTKI.out w' (stepB HBR.out hb)) (by first | (simp; done) | (rw [List.length_take]; omega)))
              clear hx
              by_cases hm : ((k : Int) + 1) ∈ (L.take L.length)
              · rw [if_pos (List.contains_iff_mem.2 hm)] at hg1
                rw [decide_eq_true hm] at HHS
                unfold tapO at hg1
                have HG1 := Lib.hid hg1
                unfold RetGet oagg at HG1 HG2
                dsimp only at HG1 HG2
                have hE : ∀ W, (binOp .neq 32 (.agg #[.int .i64 x0, .int .i64 x1, .int .i64 x2, .int .i64 x3, .bool true, .bool x5, .int .i64 x6, .int .i64 x7, .int .i64 x8, .int .i64 x9, .bool x10]) (.agg #[.int .i64 x0, .int .i64 x1, .int .i64 x2, .int .i64 x3, .bool true, .bool x5, .int .i64 x6, .int .i64 x7, .int .i64 x8, .int .i64 x9, .bool x10])).run Try.prog W = .ok (.bool false) W := fun W => by rw [neqObj]; simp
                have hN := @neqgO
                clear hg1 hm
                go_wp2_with fail
                refine HG1.out.mono ?_
                rintro e wa ⟨rfl, hba⟩
                have HBa := Lib.hid hba
                clear hba
                dsimp only
                go_wp2_with fail
                refine (HG2.out _ (stepB HBa.out (below_new wa _))).mono ?_
                rintro e wb ⟨rfl, hbb⟩
                have HX15 := Lib.hid (hbb.block wa.heap.size (by simp) |>.trans (heap_alloc_new wa (.cells (ocs ⟨x0, x1, x2, x3, true, x5, x6, x7, x8, x9, x10⟩) 32)))
                have HBb := Lib.hid (stepB (stepB HBa.out (below_new wa _)) hbb)
                have HLTb := Lib.hid (show wa.heap.size < wb.heap.size by have := hbb.size; simp at this; omega)
                obtain ⟨q1, hq1⟩ : ∃ q1, wa.heap.size = q1 := ⟨_, rfl⟩
                rw [hq1] at HX15 HLTb ⊢
                clear hbb hq1
                have HBc := Lib.hid (stepB HBb.out (below_new wb (.cells (ocs ⟨x0, x1, x2, x3, x4, x5, x6, x7, x8, x9, x10⟩) 32)))
                have HHw := Lib.hid (HHS.out _ HBc.out)
                dsimp only
                go_wp2_with fail
                refine HHw.out.mono ?_
                rintro e wc ⟨rfl, rfl⟩
                dsimp only
                have hc15 := (below_new wb (.cells (ocs ⟨x0, x1, x2, x3, x4, x5, x6, x7, x8, x9, x10⟩) 32)).block q1 HLTb.out |>.trans HX15.out
                have hc17 := heap_alloc_new wb (.cells (ocs ⟨x0, x1, x2, x3, x4, x5, x6, x7, x8, x9, x10⟩) 32)
                obtain ⟨WW, hWW⟩ : ∃ WW, wb.alloc (.cells (ocs ⟨x0, x1, x2, x3, x4, x5, x6, x7, x8, x9, x10⟩) 32) = WW := ⟨_, rfl⟩
                obtain ⟨q2, hq2⟩ : ∃ q2, wb.heap.size = q2 := ⟨_, rfl⟩
                rw [hWW] at hc15 hc17 HBc
                rw [hq2] at hc17 HLTb
                rw [hWW]
                rw [hq2]
                obtain ⟨p0, p1, p2, p3, p4, p5, p6, p7, p8, p9, p10⟩ := obj_of_row ((heap_setCell_other WW ⟨q2, 4, none⟩ q1 (.bool true) (by show q1 ≠ q2; have := HLTb.out; omega)).trans hc15)
                obtain ⟨o0, o1, o2, o3, o4, o5, o6, o7, o8, o9, o10⟩ := obj_of_row hc17
                have fo := frozen_of_row WW q2 4 _ _ hc17
                simp only [Nat.zero_add] at p1 p2 p3 p4 p5 p6 p7 p8 p9 p10 o1 o2 o3 o4 o5 o6 o7 o8 o9 o10
                dsimp only at p0 p1 p2 p3 p4 p5 p6 p7 p8 p9 p10 o0 o1 o2 o3 o4 o5 o6 o7 o8 o9 o10
                have HBd := Lib.hid (HBc.out.setCell (p := ⟨q2, 4, none⟩) (show wr.heap.size ≤ q2 by rw [← hq2]; exact HBb.out.size) (.bool true))
                have HBE := Lib.hid (stepB HBR.out HBd.out)
                clear hc15 hc17 hWW hq2
                go_wp2
                go_roundw
                case rel => exact ⟨k + 1, by omega, by go_num, HBE⟩
                case measure => simp [intOf]; omega
              · rw [if_neg (fun h => hm (List.contains_iff_mem.1 h))] at hg1
                rw [decide_eq_false hm] at HHS
                have HG1 := Lib.hid hg1
                unfold RetGet oagg at HG1 HG2
                dsimp only at HG1 HG2
                have hE : ∀ W, (binOp .neq 32 (.agg #[.int .i64 x0, .int .i64 x1, .int .i64 x2, .int .i64 x3, .bool x4, .bool x5, .int .i64 x6, .int .i64 x7, .int .i64 x8, .int .i64 x9, .bool x10]) (.agg #[.int .i64 x0, .int .i64 x1, .int .i64 x2, .int .i64 x3, .bool x4, .bool x5, .int .i64 x6, .int .i64 x7, .int .i64 x8, .int .i64 x9, .bool x10])).run Try.prog W = .ok (.bool false) W := fun W => by rw [neqObj]; simp
                have hN := @neqgO
                clear hg1 hm
                go_wp2_with fail
                refine HG1.out.mono ?_
                rintro e wa ⟨rfl, hba⟩
                have HBa := Lib.hid hba
                clear hba
                dsimp only
                go_wp2_with fail
                refine (HG2.out _ (stepB HBa.out (below_new wa _))).mono ?_
                rintro e wb ⟨rfl, hbb⟩
                have HX15 := Lib.hid (hbb.block wa.heap.size (by simp) |>.trans (heap_alloc_new wa (.cells (ocs ⟨x0, x1, x2, x3, x4, x5, x6, x7, x8, x9, x10⟩) 32)))
                have HBb := Lib.hid (stepB (stepB HBa.out (below_new wa _)) hbb)
                have HLTb := Lib.hid (show wa.heap.size < wb.heap.size by have := hbb.size; simp at this; omega)
                obtain ⟨q1, hq1⟩ : ∃ q1, wa.heap.size = q1 := ⟨_, rfl⟩
                rw [hq1] at HX15 HLTb ⊢
                clear hbb hq1
                have HBc := Lib.hid (stepB HBb.out (below_new wb (.cells (ocs ⟨x0, x1, x2, x3, x4, x5, x6, x7, x8, x9, x10⟩) 32)))
                have HHw := Lib.hid (HHS.out _ HBc.out)
                dsimp only
                go_wp2_with fail
                refine HHw.out.mono ?_
                rintro e wc ⟨rfl, rfl⟩
                dsimp only
                have hc15 := (below_new wb (.cells (ocs ⟨x0, x1, x2, x3, x4, x5, x6, x7, x8, x9, x10⟩) 32)).block q1 HLTb.out |>.trans HX15.out
                have hc17 := heap_alloc_new wb (.cells (ocs ⟨x0, x1, x2, x3, x4, x5, x6, x7, x8, x9, x10⟩) 32)
                obtain ⟨WW, hWW⟩ : ∃ WW, wb.alloc (.cells (ocs ⟨x0, x1, x2, x3, x4, x5, x6, x7, x8, x9, x10⟩) 32) = WW := ⟨_, rfl⟩
                obtain ⟨q2, hq2⟩ : ∃ q2, wb.heap.size = q2 := ⟨_, rfl⟩
                rw [hWW] at hc15 hc17 HBc
                rw [hq2] at hc17 HLTb
                rw [hWW]
                rw [hq2]
                obtain ⟨p0, p1, p2, p3, p4, p5, p6, p7, p8, p9, p10⟩ := obj_of_row hc15
                obtain ⟨o0, o1, o2, o3, o4, o5, o6, o7, o8, o9, o10⟩ := obj_of_row hc17
                simp only [Nat.zero_add] at p1 p2 p3 p4 p5 p6 p7 p8 p9 p10 o1 o2 o3 o4 o5 o6 o7 o8 o9 o10
                dsimp only at p0 p1 p2 p3 p4 p5 p6 p7 p8 p9 p10 o0 o1 o2 o3 o4 o5 o6 o7 o8 o9 o10
                have HBE := Lib.hid (stepB HBR.out HBc.out)
                clear hc15 hc17 hWW hq2
                go_wp2
                go_roundw
                case rel => exact ⟨k + 1, by omega, by go_num, HBE⟩
                case measure => simp [intOf]; omega
            · obtain rfl : k = l.length := by omega
              go_wp2
              go_ret
              exact ⟨rfl, stepB HB9.out HBR.out⟩
      · have hL5 := lands_mine HSA.out HWF.out HSL.out seat
        rw [HML.out] at hL5
        have HL5 := Lib.hid hL5
        clear hL5
        go_wp2_with fail
        refine HL5.out.mono ?_
        rintro e w5 ⟨v5, rfl, ho5, hb5⟩
        have HI5 := Lib.hid (ints_same (own_ints ho5) (HKA.out.later hb5).ints hl1000)
        obtain ⟨ya, yc, rfl⟩ := own_form ho5
        have HB5 := Lib.hid hb5
        clear ho5 hb5 HL5
        dsimp only
        go_wp2_with fail
        refine HI5.out.mono ?_
        rintro e w6 hd
        obtain ⟨rfl, hb6⟩ := drew_belowP hd
        have HB6 := Lib.hid (stepB HB5.out hb6)
        have hh := has_of (lands_mine (HSA.out.later HB6.out) HWF.out HSL.out seat) (Nat.le_trans (mine_len _) HSL.out)
        rw [HML.out] at hh
        have HH6 := Lib.hid hh
        clear hd hb6 HI5 HB5 hh
        dsimp only
        go_wp2_with fail
        refine HH6.out.mono ?_
        rintro e w7 ⟨rfl, hb7⟩
        have HB7 := Lib.hid (stepB HB6.out hb7)
        have hcan := can_of (cost := ((L.length : Nat) : Int)) (lands_mine (HSA.out.later HB7.out) HWF.out HSL.out seat) (Nat.le_trans (mine_len _) HSL.out)
        rw [HML.out, DB.out] at hcan
        have HC7 := Lib.hid hcan
        clear hb7 hcan HH6
        dsimp only
        go_wp2_with fail
        refine HC7.out.mono ?_
        rintro e w8 ⟨rfl, hb8⟩
        have HB8 := Lib.hid (stepB HB7.out hb8)
        have HS8 := Lib.hid (HSA.out.later HB8.out)
        have HT8 := Lib.hid (HTA.out.later HB8.out)
        have HK8 := Lib.hid (HKA.out.later HB8.out)
        have HBW8 := Lib.hid (stepB HBA.out HB8.out)
        clear hb8 HC7 HSA HTA HKA HBA HB6 HB7 HB8
        dsimp only
        go_wp2_with fail
        refine (HP.out _ HS8.out).mono ?_
        rintro e w9 ⟨rfl, G9, hs9, ht9⟩
        have HS9 := Lib.hid hs9
        have HT9 := Lib.hid (HT8.out.far HAP.out ht9).1
        have HK9 := Lib.hid (HK8.out.turn ht9)
        have HB9 := Lib.hid (ht9.below HBW8.out HFAR.out)
        have HLD : Hid (∀ w', Below w9.heap.size w9 w' → Calls Try.prog 26 #[.pointer (some ⟨bb, 0, none⟩), .int .i64 seat] w' (RetList w' (([] : List Int)))) := Lib.hid fun w' hb => by
          have h := lands_mine (hs9.later hb) (tapAll_wf HWF.out _) (by rw [tapAll_len]; exact HSL.out) seat
          rw [HRS.out] at h
          rw [List.drop_length] at h; exact h
        have HDR : Hid (∀ w', Below w9.heap.size w9 w' → IntsAt w' (.slice (some ⟨g, 0, none⟩) 0 0) (([] : List Int))) := Lib.hid fun w' hb => by
          have h := (HK9.out.later hb).ints
          exact ints_none _ _ _
        have HTKI : Hid (∀ w', Below w9.heap.size w9 w' → IntsAt w' (.slice (some ⟨g, 0, none⟩) L.length L.length) (L.take L.length)) := Lib.hid fun w' hb => by
          have h := (HK9.out.later hb).ints
          rw [List.take_length]; exact h
        clear hs9 ht9 HP HT8 HS8 HK8
        dsimp only
        go_wp2
        go_region_held3 (fun w' => Below w9.heap.size w9 w') (first | assumption | exact (Below.refl _ _).drew | exact stepB (by assumption) (by assumption))
          (first
          | (go_at_call 26; refine (HLD.out _ (by assumption)).mono ?_; rintro e w10 ⟨v10, rfl, ho10, hb10⟩; obtain ⟨ya, yc, rfl⟩ := own_form ho10)
          | (go_at_call 17; refine (ints_same (own_ints (by assumption)) (HDR.out _ (by assumption)) (by simp)).mono ?_; rintro e w11 hd; obtain ⟨rfl, hb11⟩ := drew_belowP hd))
        all_goals
          have HB11 := Lib.hid (show Below w9.heap.size w9 w11 by assumption)
          obtain ⟨wB, hwB⟩ : ∃ wB, w11 = wB := ⟨_, rfl⟩
          subst hwB

          clear ho10 hb10 HDR HLD
          go_wp2
          go_loopw [127] (fun i wr => ∃ k : Nat, k ≤ l.length ∧ i = .int .i64 k ∧ Hid (Below w9.heap.size w9 wr)) (fun i _ => l.length - (intOf i).toNat)
          case atStart => exact ⟨0, Nat.zero_le _, rfl, HB11⟩
          case round =>
            obtain ⟨k, hk, rfl, HBR⟩ := hrel
            by_cases hlt : k < l.length
            · have hks : k < S.objs.length := by rw [HLN.out]; exact hlt
              have hg1 := get_in (HS9.out.later HBR.out) (by rw [tapAll_len]; exact HSL.out) k (by rw [tapAll_len]; exact hks)
              rw [tapAll_get HWF.out (L.take L.length) k hks] at hg1
              have HG2 := Lib.hid (fun (w' : World) (hb : Below wr.heap.size wr w') => get_in (HT9.out.later (stepB HBR.out hb)) HSL.out k hks)
              obtain ⟨x, hx⟩ : ∃ x, S.objs[k] = x := ⟨_, rfl⟩
              rw [hx] at hg1 HG2
              obtain ⟨x0, x1, x2, x3, x4, x5, x6, x7, x8, x9, x10⟩ := x
              have HHS := Lib.hid (fun (w' : World) (hb : Below wr.heap.size wr w') => hasRef_any ((k : Int) + 1) (HTKI.out w' (stepB HBR.out hb)) (by first | (simp; done) | (rw [List.length_take]; omega)))
              clear hx
              by_cases hm : ((k : Int) + 1) ∈ (L.take L.length)
              · rw [if_pos (List.contains_iff_mem.2 hm)] at hg1
                rw [decide_eq_true hm] at HHS
                unfold tapO at hg1
                have HG1 := Lib.hid hg1
                unfold RetGet oagg at HG1 HG2
                dsimp only at HG1 HG2
                have hE : ∀ W, (binOp .neq 32 (.agg #[.int .i64 x0, .int .i64 x1, .int .i64 x2, .int .i64 x3, .bool true, .bool x5, .int .i64 x6, .int .i64 x7, .int .i64 x8, .int .i64 x9, .bool x10]) (.agg #[.int .i64 x0, .int .i64 x1, .int .i64 x2, .int .i64 x3, .bool true, .bool x5, .int .i64 x6, .int .i64 x7, .int .i64 x8, .int .i64 x9, .bool x10])).run Try.prog W = .ok (.bool false) W := fun W => by rw [neqObj]; simp
                have hN := @neqgO
                clear hg1 hm
                go_wp2_with fail
                refine HG1.out.mono ?_
                rintro e wa ⟨rfl, hba⟩
                have HBa := Lib.hid hba
                clear hba
                dsimp only
                go_wp2_with fail
                refine (HG2.out _ (stepB HBa.out (below_new wa _))).mono ?_
                rintro e wb ⟨rfl, hbb⟩
                have HX15 := Lib.hid (hbb.block wa.heap.size (by simp) |>.trans (heap_alloc_new wa (.cells (ocs ⟨x0, x1, x2, x3, true, x5, x6, x7, x8, x9, x10⟩) 32)))
                have HBb := Lib.hid (stepB (stepB HBa.out (below_new wa _)) hbb)
                have HLTb := Lib.hid (show wa.heap.size < wb.heap.size by have := hbb.size; simp at this; omega)
                obtain ⟨q1, hq1⟩ : ∃ q1, wa.heap.size = q1 := ⟨_, rfl⟩
                rw [hq1] at HX15 HLTb ⊢
                clear hbb hq1
                have HBc := Lib.hid (stepB HBb.out (below_new wb (.cells (ocs ⟨x0, x1, x2, x3, x4, x5, x6, x7, x8, x9, x10⟩) 32)))
                have HHw := Lib.hid (HHS.out _ HBc.out)
                dsimp only
                go_wp2_with fail
                refine HHw.out.mono ?_
                rintro e wc ⟨rfl, rfl⟩
                dsimp only
                have hc15 := (below_new wb (.cells (ocs ⟨x0, x1, x2, x3, x4, x5, x6, x7, x8, x9, x10⟩) 32)).block q1 HLTb.out |>.trans HX15.out
                have hc17 := heap_alloc_new wb (.cells (ocs ⟨x0, x1, x2, x3, x4, x5, x6, x7, x8, x9, x10⟩) 32)
                obtain ⟨WW, hWW⟩ : ∃ WW, wb.alloc (.cells (ocs ⟨x0, x1, x2, x3, x4, x5, x6, x7, x8, x9, x10⟩) 32) = WW := ⟨_, rfl⟩
                obtain ⟨q2, hq2⟩ : ∃ q2, wb.heap.size = q2 := ⟨_, rfl⟩
                rw [hWW] at hc15 hc17 HBc
                rw [hq2] at hc17 HLTb
                rw [hWW]
                rw [hq2]
                obtain ⟨p0, p1, p2, p3, p4, p5, p6, p7, p8, p9, p10⟩ := obj_of_row ((heap_setCell_other WW ⟨q2, 4, none⟩ q1 (.bool true) (by show q1 ≠ q2; have := HLTb.out; omega)).trans hc15)
                obtain ⟨o0, o1, o2, o3, o4, o5, o6, o7, o8, o9, o10⟩ := obj_of_row hc17
                have fo := frozen_of_row WW q2 4 _ _ hc17
                simp only [Nat.zero_add] at p1 p2 p3 p4 p5 p6 p7 p8 p9 p10 o1 o2 o3 o4 o5 o6 o7 o8 o9 o10
                dsimp only at p0 p1 p2 p3 p4 p5 p6 p7 p8 p9 p10 o0 o1 o2 o3 o4 o5 o6 o7 o8 o9 o10
                have HBd := Lib.hid (HBc.out.setCell (p := ⟨q2, 4, none⟩) (show wr.heap.size ≤ q2 by rw [← hq2]; exact HBb.out.size) (.bool true))
                have HBE := Lib.hid (stepB HBR.out HBd.out)
                clear hc15 hc17 hWW hq2
                go_wp2
                go_roundw
                case rel => exact ⟨k + 1, by omega, by go_num, HBE⟩
                case measure => simp [intOf]; omega
              · rw [if_neg (fun h => hm (List.contains_iff_mem.1 h))] at hg1
                rw [decide_eq_false hm] at HHS
                have HG1 := Lib.hid hg1
                unfold RetGet oagg at HG1 HG2
                dsimp only at HG1 HG2
                have hE : ∀ W, (binOp .neq 32 (.agg #[.int .i64 x0, .int .i64 x1, .int .i64 x2, .int .i64 x3, .bool x4, .bool x5, .int .i64 x6, .int .i64 x7, .int .i64 x8, .int .i64 x9, .bool x10]) (.agg #[.int .i64 x0, .int .i64 x1, .int .i64 x2, .int .i64 x3, .bool x4, .bool x5, .int .i64 x6, .int .i64 x7, .int .i64 x8, .int .i64 x9, .bool x10])).run Try.prog W = .ok (.bool false) W := fun W => by rw [neqObj]; simp
                have hN := @neqgO
                clear hg1 hm
                go_wp2_with fail
                refine HG1.out.mono ?_
                rintro e wa ⟨rfl, hba⟩
                have HBa := Lib.hid hba
                clear hba
                dsimp only
                go_wp2_with fail
                refine (HG2.out _ (stepB HBa.out (below_new wa _))).mono ?_
                rintro e wb ⟨rfl, hbb⟩
                have HX15 := Lib.hid (hbb.block wa.heap.size (by simp) |>.trans (heap_alloc_new wa (.cells (ocs ⟨x0, x1, x2, x3, x4, x5, x6, x7, x8, x9, x10⟩) 32)))
                have HBb := Lib.hid (stepB (stepB HBa.out (below_new wa _)) hbb)
                have HLTb := Lib.hid (show wa.heap.size < wb.heap.size by have := hbb.size; simp at this; omega)
                obtain ⟨q1, hq1⟩ : ∃ q1, wa.heap.size = q1 := ⟨_, rfl⟩
                rw [hq1] at HX15 HLTb ⊢
                clear hbb hq1
                have HBc := Lib.hid (stepB HBb.out (below_new wb (.cells (ocs ⟨x0, x1, x2, x3, x4, x5, x6, x7, x8, x9, x10⟩) 32)))
                have HHw := Lib.hid (HHS.out _ HBc.out)
                dsimp only
                go_wp2_with fail
                refine HHw.out.mono ?_
                rintro e wc ⟨rfl, rfl⟩
                dsimp only
                have hc15 := (below_new wb (.cells (ocs ⟨x0, x1, x2, x3, x4, x5, x6, x7, x8, x9, x10⟩) 32)).block q1 HLTb.out |>.trans HX15.out
                have hc17 := heap_alloc_new wb (.cells (ocs ⟨x0, x1, x2, x3, x4, x5, x6, x7, x8, x9, x10⟩) 32)
                obtain ⟨WW, hWW⟩ : ∃ WW, wb.alloc (.cells (ocs ⟨x0, x1, x2, x3, x4, x5, x6, x7, x8, x9, x10⟩) 32) = WW := ⟨_, rfl⟩
                obtain ⟨q2, hq2⟩ : ∃ q2, wb.heap.size = q2 := ⟨_, rfl⟩
                rw [hWW] at hc15 hc17 HBc
                rw [hq2] at hc17 HLTb
                rw [hWW]
                rw [hq2]
                obtain ⟨p0, p1, p2, p3, p4, p5, p6, p7, p8, p9, p10⟩ := obj_of_row hc15
                obtain ⟨o0, o1, o2, o3, o4, o5, o6, o7, o8, o9, o10⟩ := obj_of_row hc17
                simp only [Nat.zero_add] at p1 p2 p3 p4 p5 p6 p7 p8 p9 p10 o1 o2 o3 o4 o5 o6 o7 o8 o9 o10
                dsimp only at p0 p1 p2 p3 p4 p5 p6 p7 p8 p9 p10 o0 o1 o2 o3 o4 o5 o6 o7 o8 o9 o10
                have HBE := Lib.hid (stepB HBR.out HBc.out)
                clear hc15 hc17 hWW hq2
                go_wp2
                go_roundw
                case rel => exact ⟨k + 1, by omega, by go_num, HBE⟩
                case measure => simp [intOf]; omega
            · obtain rfl : k = l.length := by omega
              go_wp2
              go_ret
              exact ⟨rfl, stepB HB9.out HBR.out⟩
end Go.Proofs.Ytkhgdfalbmkgcaa

/- The law DeckCounts, proved: for every list of numbers and list of texts it returns true; each argument reads behind the call as it read before. No condition. -/
import Derived.Test.YtcbjekdbkhibbaaDx
import Derived.Test.YtcbjekdbkhibbaaOc
import Derived.Test.YtcbjekdbkhibbaaTk
namespace Go.Proofs.Ytcbjekdbkhibbaa
open Go.ChangeShapes Go.WideShapes Go.ChangeAt Go.RowKit

theorem count_next {α : Type} [BEq α] (l : List α) (x : α) {k : Nat} (hk : k < l.length) : (l.take (k + 1)).count x = (l.take k).count x + if l[k] == x then 1 else 0 := by
  rw [take_last l k hk, List.count_append, List.count_singleton]
theorem below_step {B : Nat} {w0 w w' : World} {r : Nat} (h : Below B w0 w) (hg : w.grownBy w' (some r)) (hr : B ≤ r) (hs : B ≤ w.heap.size) : Below B w0 w' := h.grown hg hs (fun k e => by cases e; exact hr)
theorem below_none {B : Nat} {w0 w w' : World} (h : Below B w0 w) (hg : w.grownBy w' none) (hs : B ≤ w.heap.size) : Below B w0 w' := h.grown hg hs (fun k e => by cases e)
theorem ba_lenC (B : ByteArray) : ∀ (n i : Nat) (r : List UInt8), B.size - i = n → ByteArray.toList.loop B i r = r.reverse ++ (B.data.toList.drop i)
  | 0, i, r, h => by
    rw [ByteArray.toList.loop, if_neg (by omega), List.drop_of_length_le (by have : B.data.toList.length = B.size := rfl; omega), List.append_nil]
  | n + 1, i, r, h => by
    have hi : i < B.data.toList.length := by have : B.data.toList.length = B.size := rfl; omega
    rw [ByteArray.toList.loop, if_pos (by omega), ba_lenC B n (i + 1) _ (by omega), List.reverse_cons, List.append_assoc, List.drop_eq_getElem_cons hi]
    congr 1
    have hb : i < B.data.size := by simpa using hi
    have e : B.get! i = B.data.toList[i] := by
      simp [ByteArray.get!]
      exact getElem!_pos B.data i hb
    rw [e]; rfl
theorem ba_dataC (B : ByteArray) : B.toList = B.data.toList := (ba_lenC B B.size 0 [] rfl).trans (by simp)
theorem ba_listC (x y : ByteArray) : (x.toList == y.toList) = (x == y) := by
  rw [ba_dataC, ba_dataC, Bool.eq_iff_iff, beq_iff_eq, beq_iff_eq]
  exact ⟨fun h => ba_inj h, fun h => by rw [h]⟩
theorem keyOf_str_inv {P : Program} {k : TypeId} (hk : P.underlying k = some .string) {key : Value} {kl : Lit} (h : keyOf P k key = some kl) : ∃ s, key = .string s ∧ kl = .string s.data.toList ∧ s.size ≤ maxLen := by
  cases key <;> simp [keyOf, hk, mapKey] at h
  obtain ⟨hs, rfl⟩ := h
  exact ⟨_, rfl, rfl, hs⟩
theorem wpList_next_ranges_si {Hh : Type} {P : Program} (w : World) {ops : Array Oper} {rest : List Oper} {o : Oper} {a : Act} {Q : Exit → Act → World → Prop} (hg : o.guard = none) (it : Operand) (hop : o.op = Op.next it false) (k e : TypeId) (qe : IntKind) (K : Maps.Keyed P k) (hk : P.underlying k = some .string) (he : P.underlying e = some (.int qe))
    (b r n : Nat) (D : DataW Hh) (left : Lit → Bool) (cnt : Nat) (hit : a.eval it = .pointer (some ⟨r, 0, none⟩)) (h : w.ranges P k (plainElem P e) b r n D left cnt)
    (hDone : cnt = 0 → (∀ kl, left kl = false) → wpList P ops Q rest (a.put o.dst (.tuple #[.bool false])) w)
    (hMore : ∀ (x : ByteArray) (c : Int) (w' : World) (cnt' : Nat), x.size ≤ maxLen → left (.string x.data.toList) = true → (∀ zd, D.atKey (.string x.data.toList) zd = .lit (.int qe c)) → w'.ranges P k (plainElem P e) b r n D (fun z => left z && !z.sameKey (.string x.data.toList)) cnt' → cnt' < cnt →
      w.grownBy w' (some r) → w'.heap.size = w.heap.size → (Instr.entry (.pointer (some ⟨r, 0, none⟩))).run P w' = .ok (.tuple #[.string x, .int qe c]) w' → wpList P ops Q rest (a.put o.dst (.tuple #[.bool true, .string x, .int qe c])) w') :
    wpList P ops Q (o :: rest) a w :=
  wpList_next_ranges w hg it hop k K (plainElem P e) Value.string (Value.int qe) (fun key kl hkey => by obtain ⟨x, rfl, _⟩ := keyOf_str_inv hk hkey; exact ⟨x, rfl⟩) (fun v y hv => by obtain ⟨c, rfl, _⟩ := plainElem_int_inv he hv; exact ⟨c, rfl⟩)
    b r n D left cnt hit h hDone (fun x c kl y w' cnt' hkey hlk hv hat hrg hlt hgr hsz hen => by
      obtain ⟨x', ex, rfl, hwx⟩ := keyOf_str_inv hk hkey
      cases ex
      obtain ⟨c', ec, rfl, _⟩ := plainElem_int_inv he hv
      cases ec
      exact hMore x c w' cnt' hwx hlk hat hrg hlt hgr hsz hen)
set_option maxRecDepth 100000 in
set_option maxHeartbeats 16000000 in
theorem counts_l {v u : Value} {l : List Int} {m : List ByteArray} {w : World} (h : IntsAt w v l) (hu : StrsAt w u m) (hwf : WfI l) (hws : WfS m) (hl : l.length ≤ 9223372036854775807) (hgt : 60 < l.length) :
    Calls Try.prog 14 #[v, u] w (RetB w true) := by
  obtain ⟨xa, xc, rfl⟩ := h.form
  obtain ⟨ya, yc, rfl⟩ := hu.form
  have HL := Lib.hid h
  have HU := Lib.hid hu
  have HWI := Lib.hid hwf
  have HWS := Lib.hid hws
  clear h hu hwf hws
  have b1 : decide ((60 : Int) < l.length) = true := decide_eq_true (by omega)
  clear hgt
  go_enter Try.func14, Try.ntmps14
  go_wp2_with fail
  refine (awake3_any _).mono ?_
  rintro e w1 ⟨rfl, hb1⟩
  have HB1 := Lib.hid hb1
  clear hb1
  go_wp2
  go_ret
  exact ⟨rfl, HB1.out⟩
set_option maxRecDepth 100000 in
set_option maxHeartbeats 16000000 in
theorem counts_m {v u : Value} {l : List Int} {m : List ByteArray} {w : World} (h : IntsAt w v l) (hu : StrsAt w u m) (hwf : WfI l) (hws : WfS m) (hm : m.length ≤ 9223372036854775807) (h1 : ¬ 60 < l.length) (hgt : 60 < m.length) :
    Calls Try.prog 14 #[v, u] w (RetB w true) := by
  obtain ⟨xa, xc, rfl⟩ := h.form
  obtain ⟨ya, yc, rfl⟩ := hu.form
  have HL := Lib.hid h
  have HU := Lib.hid hu
  have HWI := Lib.hid hwf
  have HWS := Lib.hid hws
  clear h hu hwf hws
  have b1 : decide ((60 : Int) < l.length) = false := decide_eq_false (by omega)
  have b2 : decide ((60 : Int) < m.length) = true := decide_eq_true (by omega)
  clear hgt h1
  go_enter Try.func14, Try.ntmps14
  go_wp2_with fail
  refine (awake3_any _).mono ?_
  rintro e w1 ⟨rfl, hb1⟩
  have HB1 := Lib.hid hb1
  clear hb1
  go_wp2
  go_ret
  exact ⟨rfl, HB1.out⟩
set_option maxRecDepth 100000 in
set_option maxHeartbeats 16000000 in
theorem counts_in {v u : Value} {l : List Int} {m : List ByteArray} {w : World} (h : IntsAt w v l) (hu : StrsAt w u m) (hwf : WfI l) (hws : WfS m) (h1 : ¬ 60 < l.length) (h2 : ¬ 60 < m.length) :
    Calls Try.prog 14 #[v, u] w (RetB w true) := by
  obtain ⟨xa, xc, rfl⟩ := h.form
  obtain ⟨ya, yc, rfl⟩ := hu.form
  have HL := Lib.hid h
  have HU := Lib.hid hu
  have HWI := Lib.hid hwf
  have HWS := Lib.hid hws
  clear h hu hwf hws
  have b1 : decide ((60 : Int) < l.length) = false := decide_eq_false (by omega)
  have b2 : decide ((60 : Int) < m.length) = false := decide_eq_false (by omega)
  have l1 : l.length ≤ 60 := by omega
  have m1 : m.length ≤ 60 := by omega
  clear h1 h2
  go_enter Try.func14, Try.ntmps14
  go_wp2_with fail
  refine (awake3_any _).mono ?_
  rintro e w1 ⟨rfl, hb1⟩
  have HB1 := Lib.hid hb1
  clear hb1
  go_wp2_with fail
  refine (count_int (HL.out.later HB1.out) (by omega) HWI.out).mono ?_
  rintro e w2 ⟨c1, rfl, hcm2, hb2⟩
  have HC2 := Lib.hid hcm2
  have HB2 := Lib.hid (stepB HB1.out hb2)
  clear hcm2 hb2
  go_wp2_with fail
  refine (count_str (HU.out.later HB2.out) (by omega) HWS.out).mono ?_
  rintro e w3 ⟨c2, rfl, hcs3, hb3⟩
  have HC3 := Lib.hid (HC2.out.later hb3)
  have HS3 := Lib.hid hcs3
  have HB3 := Lib.hid (stepB HB2.out hb3)
  have HL3 := Lib.hid (HL.out.later HB3.out)
  have HU3 := Lib.hid (HU.out.later HB3.out)
  clear hcs3 hb3
  go_wp2
  go_loop [43, 7, 8] (fun i p q => ∃ k : Nat, k ≤ l.length ∧ i = .int .i64 k ∧ p = .int .i64 (mostFrom l (l.take k)).1 ∧ q = .int .i64 ((mostFrom l (l.take k)).2 : Int)) (fun i _ _ => l.length - (intOf i).toNat)
  case atStart => exact ⟨0, Nat.zero_le _, rfl, rfl, rfl⟩
  case round =>
    obtain ⟨k, hk, rfl, rfl, rfl⟩ := hrel
    by_cases hlt : k < l.length
    · obtain ⟨b, off, rfl, c0⟩ := HL3.out.at k hlt
      have hnx := mostFrom_next hlt
      rw [most_step l _ (List.getElem_mem hlt)] at hnx
      have hwx := HWI.out _ (List.getElem_mem hlt)
      have HLX := Lib.hid HL3.out
      obtain ⟨x, hx⟩ : ∃ x, l[k] = x := ⟨_, rfl⟩
      rw [hx] at c0 hnx hwx
      have hlk := cnt_lookup HC3.out hwx
      have hcl : l.count x ≤ l.length := List.count_le_length
      have hml := mostFrom_le l (l.take k)
      obtain ⟨cn, hcn⟩ : ∃ cn, l.count x = cn := ⟨_, rfl⟩
      rw [hcn] at hnx hlk hcl
      have HCN := Lib.hid hcn
      obtain ⟨mp, hmp⟩ : ∃ mp, mostFrom l (l.take k) = mp := ⟨_, rfl⟩
      rw [hmp] at hnx hml ⊢
      obtain ⟨p1, p2⟩ := mp
      have HNX := Lib.hid hnx
      simp only at hml ⊢
      have HLT := Lib.hid hlt
      have d0 : (0 : Int) ≤ k := by omega
      have d1 : (k : Int) < l.length := by omega
      clear hx hcn hmp hnx
      go_wp2_with fail
      refine (many_any x HLX.out (by omega)).mono ?_
      rw [HCN.out]
      rintro e w4 ⟨rfl, rfl⟩
      by_cases hlt2 : p2 < cn
      · have g1 : decide ((p2 : Int) < (cn : Int)) = true := decide_eq_true (by omega)
        have g2 : decide (p2 < cn) = true := decide_eq_true hlt2
        go_wp2
        go_round
        case rel =>
          have := HLT.out
          exact ⟨k + 1, by omega, by go_num, by rw [HNX.out, if_pos hlt2], by rw [HNX.out, if_pos hlt2]⟩
        case measure => have := HLT.out; simp [intOf]; omega
      · have g1 : decide ((p2 : Int) < (cn : Int)) = false := decide_eq_false (by omega)
        have g2 : decide (p2 < cn) = false := decide_eq_false hlt2
        go_wp2
        go_round
        case rel =>
          have := HLT.out
          exact ⟨k + 1, by omega, by go_num, by rw [HNX.out, if_neg hlt2], by rw [HNX.out, if_neg hlt2]⟩
        case measure => have := HLT.out; simp [intOf]; omega
    · obtain rfl : k = l.length := by omega
      rw [List.take_length]
      have HML := Lib.hid (show mostFrom l l = mostL l from rfl)
      rw [HML.out]
      obtain ⟨mp, hmp⟩ : ∃ mp, mostL l = mp := ⟨_, rfl⟩
      obtain ⟨p1, p2⟩ := mp
      have HMP := Lib.hid hmp
      rw [hmp]
      clear hmp hlt hk
      obtain ⟨D1, hown1, htd1, hat1, _⟩ := HC3.out
      have HAT1 := Lib.hid hat1
      clear htd1 hat1
      go_wp2_with (at_range; refine wpList_range_own _ rfl _ 104 rfl 3 3 (Maps.int_keyed Try.underlying3) Try.underlying104 _ c1 l.length D1 rfl hown1 ?_; intro w4 hrg4 hg4 hs4)
      have HA4 := Lib.hid (show leftN litI (Maps.has D1) l = l.length from leftN_all fun x hx => cnt_has (HAT1.out x (HWI.out x hx)) hx)
      go_loopw [12] (fun a wr => ∃ (left : Lit → Bool) (cnt S : Nat), wr.ranges Try.prog 3 (plainElem Try.prog 3) c1 w3.heap.size l.length D1 left cnt ∧ a = .int .i64 (S : Int) ∧ S + leftN litI left l = l.length ∧ Hid (Below w3.heap.size w3 wr)) (fun _ wr => wr.rangeLeft c1 w3.heap.size)
      case atStart => exact ⟨_, _, 0, hrg4, rfl, by rw [HA4.out]; omega, Lib.hid (below_none (Below.refl _ _) hg4 (Nat.le_refl _))⟩
      case round =>
        obtain ⟨left, cnt, S, hrg, rfl, hSL, HBW⟩ := hrel
        have hSb : S ≤ 60 := by omega
        go_wp2_with (at_next; refine wpList_next_ranges_ii _ rfl _ rfl 3 3 .i64 .i64 (Maps.int_keyed Try.underlying3) Try.underlying3 Try.underlying3 c1 w3.heap.size l.length _ _ _ rfl hrg ?_ ?_)
        · intro _ hl0
          have hS : S = l.length := by have := leftN_none (lit := litI) (l := l) hl0; omega
          subst hS
          obtain ⟨wA, rfl⟩ : ∃ wA, wA = wr := ⟨_, rfl⟩
          have HWA := Lib.hid HBW.out
          have HCA := Lib.hid (HC3.out.later HBW.out)
          have HSA := Lib.hid (HS3.out.later HBW.out)
          have HBA := Lib.hid (stepB HB3.out HBW.out)
          have HLA := Lib.hid (HL.out.later HBA.out)
          have HUA := Lib.hid (HU.out.later HBA.out)
          obtain ⟨D2, hown2, htd2, hat2, _⟩ := HSA.out
          have HAT2 := Lib.hid hat2
          clear hrg hSL hSb HBW htd2 hat2 hl0
          go_wp2_with (at_range; refine wpList_range_own _ rfl _ 106 rfl 9 3 (Maps.string_keyed Try.underlying9) Try.underlying106 _ c2 m.length D2 rfl hown2 ?_; intro x4 hrg4 hg4 hs4)
          go_frame
          have HA5 := Lib.hid (show leftN litS (Maps.has D2) m = m.length from leftN_all fun x hx => cnt_hasS (HAT2.out x (HWS.out x hx)) hx)
          go_loopw [13] (fun a wx => ∃ (left : Lit → Bool) (cnt S : Nat), wx.ranges Try.prog 9 (plainElem Try.prog 3) c2 wA.heap.size m.length D2 left cnt ∧ a = .int .i64 (S : Int) ∧ S + leftN litS left m = m.length ∧ Hid (Below wA.heap.size wA wx)) (fun _ wx => wx.rangeLeft c2 wA.heap.size)
          case atStart => exact ⟨_, _, 0, hrg4, rfl, by rw [HA5.out]; omega, Lib.hid (below_none (Below.refl _ _) hg4 (Nat.le_refl _))⟩
          case round =>
            obtain ⟨left, cnt, S, hrg, rfl, hSL, HBW⟩ := hrel
            have hSb : S ≤ 60 := by omega
            go_wp2_with (at_next; refine wpList_next_ranges_si _ rfl _ rfl 9 3 .i64 (Maps.string_keyed Try.underlying9) Try.underlying9 Try.underlying3 c2 wA.heap.size m.length _ _ _ rfl hrg ?_ ?_)
            · intro _ hl0
              have hS : S = m.length := by have := leftN_none (lit := litS) (l := m) hl0; omega
              subst hS
              obtain ⟨wB, rfl⟩ : ∃ wB, wB = wr := ⟨_, rfl⟩
              have HSB := Lib.hid (HSA.out.later HBW.out)
              have HBB := Lib.hid (stepB HBA.out HBW.out)
              have HLB := Lib.hid (HLA.out.later HBW.out)
              have HUB := Lib.hid (HUA.out.later HBW.out)
              clear hrg hSL hSb HBW hl0
              go_wp2
              go_loop [81] (fun i => ∃ j : Nat, j ≤ m.length ∧ i = .int .i64 j) (fun i => m.length - (intOf i).toNat)
              case atStart => exact ⟨0, Nat.zero_le _, rfl⟩
              case round =>
                obtain ⟨j, hj, rfl⟩ := hrel
                by_cases hlt : j < m.length
                · obtain ⟨b, off, hya, c0⟩ := HUB.out.at j hlt
                  have hwx := HWS.out _ (List.getElem_mem hlt)
                  have HUX := Lib.hid HUB.out
                  obtain ⟨t, ht⟩ : ∃ t, m[j] = t := ⟨_, rfl⟩
                  rw [ht] at c0 hwx
                  have hlk := cnt_lookupS HSB.out hwx
                  have HLT := Lib.hid hlt
                  have HYA := Lib.hid hya
                  have d0 : (0 : Int) ≤ j := by omega
                  have d1 : (j : Int) < m.length := by omega
                  clear ht hya
                  obtain rfl := HYA.out
                  go_wp2
                  go_loop [87, 20] (fun i c => ∃ q : Nat, q ≤ m.length ∧ i = .int .i64 q ∧ c = .int .i64 ((m.take q).count t : Int)) (fun i _ => m.length - (intOf i).toNat)
                  case atStart => exact ⟨0, Nat.zero_le _, rfl, by simp⟩
                  case round =>
                    obtain ⟨q, hq, rfl, rfl⟩ := hrel
                    by_cases hlq : q < m.length
                    · obtain ⟨b', off', hyb, c1'⟩ := HUX.out.at q hlq
                      injection hyb with hyb
                      injection hyb with hb ho
                      subst hb
                      subst ho
                      have hnx := count_next m t hlq
                      have hcb : (m.take q).count t ≤ q := Nat.le_trans List.count_le_length (List.length_take_le _ _)
                      obtain ⟨x, hx⟩ : ∃ x, m[q] = x := ⟨_, rfl⟩
                      rw [hx] at c1' hnx
                      obtain ⟨cn, hcn⟩ : ∃ cn, (m.take q).count t = cn := ⟨_, rfl⟩
                      rw [hcn] at hnx hcb
                      rw [hcn]
                      have HNX := Lib.hid hnx
                      have q0 : (0 : Int) ≤ q := by omega
                      have q1 : (q : Int) < m.length := by omega
                      clear hx hnx hcn
                      go_wp2
                      · rename_i hxt
                        rw [ba_listC] at hxt
                        exact ⟨⟨q + 1, by omega, by go_num, by rw [HNX.out, if_pos hxt]; go_num⟩, by simp [intOf]; omega⟩
                      · rename_i hxt
                        rw [ba_listC] at hxt
                        exact ⟨⟨q + 1, by omega, by go_num, by rw [HNX.out, hxt]; rfl⟩, by simp [intOf]; omega⟩
                    · obtain rfl : q = m.length := by omega
                      rw [List.take_length]
                      obtain ⟨cn, hcn⟩ : ∃ cn, m.count t = cn := ⟨_, rfl⟩
                      rw [hcn] at hlk
                      rw [hcn]
                      clear hcn hlq hq
                      go_wp2
                      go_round
                      case rel => exact ⟨j + 1, by have := HLT.out; omega, by go_num⟩
                      case measure => have := HLT.out; simp [intOf]; omega
                · obtain rfl : j = m.length := by omega
                  have hmp := mostS_pos m
                  obtain ⟨ms, hms⟩ : ∃ ms, mostLS m = ms := ⟨_, rfl⟩
                  obtain ⟨r1, r2⟩ := ms
                  rw [hms] at hmp
                  simp only at hmp
                  have HMS := Lib.hid hms
                  have HMP2 := Lib.hid hmp
                  obtain ⟨pm, hpm⟩ : ∃ pm, decide (0 < m.length) = pm := ⟨_, rfl⟩
                  rw [hpm] at hmp
                  have g1 : decide ((0 : Int) < (r2 : Int)) = pm := by rw [← hmp]; simp
                  have g2 : decide ((0 : Int) < (m.length : Int)) = pm := by rw [← hpm]; simp
                  clear hms
                  go_wp2_with fail
                  refine (most_int HLB.out (by omega) HWI.out).mono ?_
                  rintro e x6 ⟨he, hb6⟩
                  rw [HMP.out] at he
                  subst he
                  have HB6 := Lib.hid hb6
                  clear hb6
                  go_wp2_with fail
                  refine (most_str (HUB.out.later HB6.out) (by omega) HWS.out).mono ?_
                  rintro e x7 ⟨he, hb7⟩
                  rw [HMS.out] at he
                  subst he
                  have HB7 := Lib.hid (stepB HB6.out hb7)
                  clear hb7
                  cases pm
                  all_goals
                    go_wp2
                    go_ret
                    exact ⟨rfl, stepB HBB.out HB7.out⟩
            · intro x c w5 cnt1 hwx hlx hat hrg1 hlt1 hg1 hs1 hen
              have hc : c = (m.count x : Int) := by
                have e := (hat (.lit (.int .i64 0))).symm.trans (HAT2.out x hwx)
                injection e with e
                injection e with _ e
              have hst := leftN_step same_litS (left := left) (x0 := x) hlx m
              have hcl : m.count x ≤ m.length := List.count_le_length
              obtain ⟨cn, hcn⟩ : ∃ cn, m.count x = cn := ⟨_, rfl⟩
              rw [hcn] at hc hst hcl
              subst hc
              have HST := Lib.hid hst
              have HBN := Lib.hid (below_step HBW.out hg1 (Nat.le_refl _) HBW.out.size)
              have HRG := Lib.hid hrg
              have HRG1 := Lib.hid hrg1
              have HSL := Lib.hid hSL
              have HLT1 := Lib.hid hlt1
              clear hcn hst hat hlx hg1 hs1 hrg hrg1 hSL hlt1
              go_wp2
              go_roundw
              case rel => exact ⟨_, cnt1, S + cn, HRG1.out, by go_num, by have h1 := HST.out; have h2 := HSL.out; show _ + leftN litS (fun z => left z && !z.sameKey (litS x)) m = _; omega, HBN⟩
              case measure => rw [HRG1.out.left_eq, HRG.out.left_eq]; exact HLT1.out
        · intro x c w5 cnt1 hwx hwc hlx hat hrg1 hlt1 hg1 hs1 hen
          have hc : c = (l.count x : Int) := by
            have e := (hat (.lit (.int .i64 0))).symm.trans (HAT1.out x hwx)
            injection e with e
            injection e with _ e
          have hst := leftN_step same_litI (left := left) (x0 := x) hlx l
          have hcl : l.count x ≤ l.length := List.count_le_length
          obtain ⟨cn, hcn⟩ : ∃ cn, l.count x = cn := ⟨_, rfl⟩
          rw [hcn] at hc hst hcl
          subst hc
          have HST := Lib.hid hst
          have HBN := Lib.hid (below_step HBW.out hg1 (Nat.le_refl _) HBW.out.size)
          have HRG := Lib.hid hrg
          have HRG1 := Lib.hid hrg1
          have HSL := Lib.hid hSL
          have HLT1 := Lib.hid hlt1
          clear hcn hst hat hlx hg1 hs1 hrg hrg1 hSL hlt1
          go_wp2
          go_roundw
          case rel => exact ⟨_, cnt1, S + cn, HRG1.out, by go_num, by have h1 := HST.out; have h2 := HSL.out; show _ + leftN litI (fun z => left z && !z.sameKey (litI x)) l = _; omega, HBN⟩
          case measure => rw [HRG1.out.left_eq, HRG.out.left_eq]; exact HLT1.out
theorem deckCounts_walk {v u : Value} {l : List Int} {m : List ByteArray} {w : World} (h : IntsAt w v l) (hu : StrsAt w u m) (hwf : WfI l) (hws : WfS m) (hl : l.length ≤ 9223372036854775807) (hm : m.length ≤ 9223372036854775807) :
    Calls Try.prog 14 #[v, u] w (RetB w true) := by
  by_cases h1 : 60 < l.length
  · exact counts_l h hu hwf hws hl h1
  by_cases h2 : 60 < m.length
  · exact counts_m h hu hwf hws hm h1 h2
  · exact counts_in h hu hwf hws h1 h2

set_option maxRecDepth 100000 in
theorem deckCounts_lifted (os : Os) (started : os.Started) (H : Type) (enc : TypeId × Value → H) :
    ReturnsInHanded {} Try.checked os 14 .any (Rows.deckCountsSpec.pre6 enc Try.prog Try.f14 Rows.deckCountsRow.domain false) (Rows.deckCountsSpec.post enc Try.prog Try.f14 false true false false) := by
  refine returnsInHanded_of_change (C := Try.checked) own started (by kernel_rfl) Try.func14
    (ChangeSpec.witness6 (enc := enc) (C := Try.checked) false ⟨#[], #[.slice none 0 0, .slice none 0 0], []⟩ 8 (by kernel_rfl) (by kernel_rfl) (by kernel_rfl) (by kernel_rfl)) ?_
  intro W base args ds gs before hval0 hW hcnd _
  have hval : ∀ (j : Nat) t v, Try.f14.params[j]? = some t → args[j]? = some v → Value.okWide Try.prog W .any base t v := hval0
  have hW' := hW
  obtain ⟨p, q, hA0, hV, rfl, hfz, hnd⟩ := hW
  have hA : DataW.TrodAll enc Try.prog W 0 (fun _ => true) true Try.f14.params.toList args.toList ds p := hA0
  rw [Try.params14] at hA hval
  have hA1 := hA
  obtain ⟨v0, vs0, d0, ds0, p0, q0, hargs0, rfl, rfl, h0, r0⟩ := trodAll_cons hA
  obtain ⟨v1, vs1, d1, ds1, p1, q1, rfl, rfl, rfl, h1, r1⟩ := trodAll_cons r0
  obtain ⟨rfl, rfl, rfl⟩ := trodAll_nil r1
  obtain rfl : args = #[v0, v1] := by cases args; simp_all
  obtain ⟨rfl, rfl⟩ := trodVars_none hV
  obtain ⟨l, hl, hll, hlw⟩ := open_nums (hval 0 51 v0 rfl rfl) h0
  obtain ⟨m, hm, hml, hmw⟩ := open_texts (hval 1 103 v1 rfl rfl) h1
  clear hval0
  simp only [List.append_nil] at hW'
  have hlt := fun x hx => hW'.lt x hx
  unfold maxLen at hll hml
  refine (deckCounts_walk hl hm hlw hmw (by omega) (by omega)).mono fun e W' ⟨he, hb⟩ => ?_
  subst he
  exact ⟨_, rfl, post_below (pr := []) (pv := []) hW' (trodAll_cons_mk (shut_bool Try.underlying4 _) trodAll_mk0)
    (trodAll_stays laidOutT hb (by intro t ht; simp at ht; rcases ht with rfl | rfl <;> exact ⟨by kernel_rfl, of_decide_eq_true (by kernel_rfl)⟩) hA1 (by simpa using hlt)) rfl hb⟩

/-- The law DeckCounts: for every list of numbers and list of texts it returns true; each argument reads behind the call as it read before. -/
theorem deckCounts_holds : Rows.DeckCountsSaid :=
  OpenClaim.holds_of_wide 14 Try.f14 rfl rfl rfl rfl rfl rfl rfl ⟨rfl, rfl, rfl, rfl, rfl⟩ rfl rfl rfl rfl rfl (by kernel_rfl) Try.func14 (by kernel_rfl)
    (of_decide_eq_true (by kernel_rfl)) (by unfold Func.isWrapper; first | (rw [if_pos (by decide +kernel)]; kernel_rfl) | (rw [if_neg (by decide +kernel)]; exact ⟨rfl, rfl⟩))
    (fun os started H enc _ => deckCounts_lifted os started H enc)
end Go.Proofs.Ytcbjekdbkhibbaa

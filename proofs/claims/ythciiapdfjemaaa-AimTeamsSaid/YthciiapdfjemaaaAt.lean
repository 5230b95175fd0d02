/- The law AimTeams (layer 10), walked: for every list of things and every numbers it returns true, and only new memory is made. -/
import Derived.Test.YthciiapdfjemaaaAm
import Derived.Test.YthciiapdfjemaaaAq
import Derived.Deep.CutRange
namespace Go.Proofs.Ythciiapdfjemaaa
open Go.RowKit Go.Maps
attribute [local go_sem] Oper.semAt_some

theorem own_form1 {w : World} {lo n : Nat} {t : TypeId} {v : Value} {xs : List Value} (h : w.ownsRow lo t 1 v n xs) : ∃ xa xc, v = .slice xa n xc := by
  rcases h.2 with ⟨rfl, h0⟩ | ⟨g, cap, cur, rfl, _⟩
  · have : n = 0 := by have := h.1; simp_all
    subst this
    exact ⟨none, 0, rfl⟩
  · exact ⟨_, _, rfl⟩
theorem Marks.consK {B D : Nat} {H : Nat → Prop} {w w' : World} {df : List Deferred} (h : Marks B w df) (hk : KpP (fun _ => False) H w w') (hD : w.heap.size ≤ D) (hB : B ≤ D) (hK : w'.heap[D]? = some (.deferred (some []))) : Marks B w' ({ target := .collected D, args := #[] } :: df) := by
  obtain ⟨Ds, rfl, h2, h3, h4⟩ := h
  refine ⟨D :: Ds, rfl, List.nodup_cons.2 ⟨fun hm => by have := h4.lt hm; omega, h2⟩, fun D' hD' => ?_, fun D' hD' => ?_⟩
  · rcases List.mem_cons.1 hD' with rfl | h
    · exact hB
    · exact h3 _ h
  · rcases List.mem_cons.1 hD' with rfl | h
    · exact hK
    · exact hk.rest D' _ (h4 D' h) (fun e => e) (fun e => by cases e)
theorem mates_val {T : TeamL} {a b : Int} (ha : 0 ≤ ofT T a) : matesT T a b = (ofT T a == ofT T b) := by unfold matesT; rw [decide_eq_true ha, Bool.true_and]
/-- The word for the other seat. -/
def turnZ (m : Bool) (n : Nat) : Nat := if m then n else if n = 2 then 3 else if n = 3 then 2 else n
theorem aim_turnZ {T : TeamL} {S : StoreL} {a b : Nat} {n : Nat} (hS : WfS S) (h4 : S.seats = 4) (h2 : ∀ x : Int, 0 ≤ x → x < 4 → ofT T x = 0 ∨ ofT T x = 1) (ha : a < 4) (hb : b < 4) (hn : n < 5) (h : ¬(matesT T a b = false ∧ n = 4)) :
    aimL T S (a : Int) (n : Int) = aimL T S (b : Int) ((turnZ (matesT T a b) n : Nat) : Int) := by
  have va : 0 ≤ ofT T (a : Int) := by have := h2 a (by omega) (by omega); omega
  cases hm : matesT T (a : Int) (b : Int) with
  | true =>
    unfold turnZ
    rw [if_pos rfl]
    rw [mates_val va] at hm
    exact aim_mates (by simpa using hm) _
  | false =>
    have hn4 : n ≠ 4 := fun e => h ⟨hm, e⟩
    rw [mates_val va] at hm
    obtain ⟨t0, t1, t2, t3⟩ := aim_turned (a := (a : Int)) (b := (b : Int)) hS h4 h2 (by omega) (by omega) (by simpa using hm)
    have hc : n = 0 ∨ n = 1 ∨ n = 2 ∨ n = 3 := by omega
    rcases hc with rfl | rfl | rfl | rfl
    · exact t0
    · exact t1
    · exact t2
    · exact t3
set_option maxRecDepth 100000 in
set_option maxHeartbeats 32000000 in
theorem aimTeams_walk {v : Value} {l : List ThingL} {n n2 : Nat} {w : World} (hv : ThingsAt w v l) (hw : ∀ x ∈ l, Wf x.owner ∧ Wf x.zone) (hlen : l.length ≤ 9223372036854775807) (hn : n < 256) (hn2 : n2 < 256) :
    Calls Try.prog 6 #[v, .int .u8 n, .int .u8 n2] w (RetV w (.bool true)) := by
  have HV := Lib.hid hv
  have HW := Lib.hid hw
  obtain ⟨va, vc, rfl⟩ := hv.form
  obtain ⟨m, hm⟩ : ∃ m, n % 2 = m := ⟨_, rfl⟩
  have hmI : (n : Int) % 2 = m := by omega
  have hm2 : m < 2 := by omega
  obtain ⟨n5, hn5⟩ : ∃ n5, n2 % 5 = n5 := ⟨_, rfl⟩
  have hn5I : (n2 : Int) % 5 = n5 := by omega
  have hn55 : n5 < 5 := by omega
  have HN5 := Lib.hid hn5I
  clear hv hw hm hn5 hn5I
  refine (callsIn_wide (n := 9)).1 ?_
  refine callsIn_of_wp_marks Try.func6 rfl trivial ?_ rfl
  simp only [Try.ntmps6, List.size_toArray, List.length_cons, List.length_nil, Nat.reduceAdd, Nat.reduceSub, Array.replicate_succ, Array.replicate_zero, List.push_toArray, List.append_toArray, List.nil_append, List.cons_append]
  refine wpIn_wide.2 ?_
  go_wp2_with fail
  refine (awake10_any _).mono ?_
  rintro e w1 ⟨rfl, hb1⟩
  have HB1 := Lib.hid hb1
  clear hb1
  have HMA := Lib.hid (made_any (HV.out.later HB1.out) HW.out hlen)
  go_wp2_with fail
  refine HMA.out.mono ?_
  rintro e w2 (⟨hplay, b, lo, G, S, rfl, hs, hmd, hlo, _, hb2⟩ | ⟨hplay, rfl, hb2⟩)
  case inr =>
    have HB2 := Lib.hid (stepB HB1.out hb2)
    clear hb2
    go_wp2_with fail
    refine (sides_any (n := m) (by omega) _).mono ?_
    rintro e w3 ⟨tlo, tb, s, r, rfl, _, _, hb3⟩
    have HB3 := Lib.hid (stepB HB2.out hb3)
    clear hb3
    go_wp2
    exact ⟨_, results_tmp rfl _ _ _, rfl, HB3.out⟩
  have HB2 := Lib.hid (stepB HB1.out hb2)
  have HS2 := Lib.hid hs
  have HM := Lib.hid hmd
  have HL := Lib.hid (show S.objs.length ≤ 1000 by rw [hmd.len]; have := hplay.1; omega)
  clear hs hmd hplay hlo hb2 HMA HV HW
  go_wp2_with fail
  refine (sides_any (n := m) (by omega) _).mono ?_
  rintro e w3 ⟨tlo, tb, s, r, rfl, ht, htlo, hb3⟩
  have HB3 := Lib.hid (stepB HB2.out hb3)
  have HS3 := Lib.hid (HS2.out.later hb3)
  have HT3 := Lib.hid ht
  have HTW := Lib.hid (fun (x : Int) (h0 : 0 ≤ x) (h4 : x < 4) => sides_two (n := m) (by omega) h0 h4)
  obtain ⟨T, hT⟩ : ∃ T, sidesT m = T := ⟨_, rfl⟩
  rw [hT] at HT3 HTW
  clear ht htlo hb3 hT HS2 HB2
  go_wp2
  refine wp_loop (fun a W => a.tmps.size = 80 ∧ a.tmps.getD 7 undef = .pointer (some ⟨b, 0, none⟩) ∧ a.tmps.getD 8 undef = .pointer (some ⟨tb, 0, none⟩) ∧ a.tmps.getD 9 undef = .int .i64 n5 ∧ ∃ k : Nat, k ≤ 4 ∧ a.tmps.getD 10 undef = .int .i64 k ∧ Hid (Below w3.heap.size w3 W) ∧ Hid (Marks w.heap.size W a.defers))
    (fun a _ => 4 - (intOf (a.tmps.getD 10 undef)).toNat) ?start ?round
  case start => exact ⟨rfl, rfl, rfl, congrArg (Value.int .i64) HN5.out, 0, by omega, rfl, Lib.hid (Below.refl _ _), Lib.hid (Marks.none _ _)⟩
  case round =>
    rintro ⟨t, df⟩ wr ⟨hsz, h7, h8, h9, k, hk, h10, HBR, HMK⟩
    dsimp only at hsz h7 h8 h9 h10 HMK
    rw [arr80 t hsz]
    simp only [h7, h8, h9, h10]
    clear hsz h7 h8 h9 h10
    obtain ⟨fr, hfr⟩ : ∃ fr : Nat → Value, fr = fun i => t.getD i undef := ⟨_, rfl⟩
    have hfr2 : ∀ i, t.getD i undef = fr i := fun i => by rw [hfr]
    simp only [hfr2]
    clear hfr hfr2
    by_cases hk4 : k < 4
    case neg =>
      obtain rfl : k = 4 := by omega
      have d0 : decide (((4 : Nat) : Int) < 4) = false := by decide
      go_wp2
      exact HMK.out.leave (stepB HB3.out HBR.out) (fun W' => results_tmp (t := 6) rfl _ _ _)
    have d0 : decide ((k : Int) < 4) = true := decide_eq_true (by omega)
    obtain ⟨wq, rfl⟩ : ∃ wq, wq = wr := ⟨_, rfl⟩
    go_wp2
    refine wp_loop (fun a W => a.tmps.size = 80 ∧ a.tmps.getD 7 undef = .pointer (some ⟨b, 0, none⟩) ∧ a.tmps.getD 8 undef = .pointer (some ⟨tb, 0, none⟩) ∧ a.tmps.getD 9 undef = .int .i64 n5 ∧ a.tmps.getD 10 undef = .int .i64 k ∧ ∃ j : Nat, j ≤ 4 ∧ a.tmps.getD 11 undef = .int .i64 j ∧ Hid (Below w3.heap.size w3 W) ∧ Hid (Marks w.heap.size W a.defers))
      (fun a _ => 4 - (intOf (a.tmps.getD 11 undef)).toNat) ?start2 ?round2
    case start2 => exact ⟨rfl, rfl, rfl, rfl, rfl, 0, by omega, rfl, HBR, HMK⟩
    case round2 =>
      clear HBR HMK
      rintro ⟨t2, df2⟩ wr ⟨hsz, h7, h8, h9, h10, j, hj, h11, HBR, HMK⟩
      dsimp only at hsz h7 h8 h9 h10 h11 HMK
      rw [arr80 t2 hsz]
      simp only [h7, h8, h9, h10, h11]
      clear hsz h7 h8 h9 h10 h11
      obtain ⟨fr2, hfr⟩ : ∃ fr2 : Nat → Value, fr2 = fun i => t2.getD i undef := ⟨_, rfl⟩
      have hfr2 : ∀ i, t2.getD i undef = fr2 i := fun i => by rw [hfr]
      simp only [hfr2]
      clear hfr hfr2
      by_cases hj4 : j < 4
      case neg =>
        obtain rfl : j = 4 := by omega
        have d1 : decide (((4 : Nat) : Int) < 4) = false := by decide
        go_wp2
        refine ⟨⟨rfl, rfl, rfl, rfl, k + 1, by omega, by go_num, HBR, HMK⟩, ?_⟩
        simp [intOf]
        omega
      have d1 : decide ((j : Int) < 4) = true := decide_eq_true (by omega)
      have HMT := Lib.hid (tmates_any (HT3.out.later HBR.out) (k : Int) (j : Int))
      have HEQ := Lib.hid (fun h => aim_turnZ (T := T) (S := S) (a := k) (b := j) (n := n5) HM.out.wf HM.out.seats HTW.out hk4 hj4 hn55 h)
      obtain ⟨mz, hmz⟩ : ∃ mz, matesT T (k : Int) (j : Int) = mz := ⟨_, rfl⟩
      rw [hmz] at HMT HEQ
      clear hmz
      by_cases hcont : mz = false ∧ n5 = 4
      case pos =>
        obtain ⟨rfl, rfl⟩ := hcont
        clear HEQ
        go_wp2_with fail
        refine HMT.out.mono ?_
        rintro e w4 ⟨rfl, rfl⟩
        go_wp2
        refine ⟨⟨rfl, rfl, rfl, rfl, rfl, j + 1, by omega, by go_num, HBR, HMK⟩, ?_⟩
        simp [intOf]
        omega
      have HE := Lib.hid (HEQ.out hcont)
      obtain ⟨tz, htz⟩ : ∃ tz, turnZ mz n5 = tz := ⟨_, rfl⟩
      have HTZ := Lib.hid htz
      rw [htz] at HE
      clear HEQ htz
      go_wp2_with fail
      refine HMT.out.mono ?_
      rintro e w4 ⟨rfl, rfl⟩
      obtain ⟨wr, rfl⟩ : ∃ wr, wr = w4 := ⟨_, rfl⟩
      go_upto_if 48 with fail
      go_cut [12] from 49 to 56 (fun s12 wx => s12 = .int .i64 tz ∧ wr = wx)
      case first =>
        cases mz with
        | true =>
          have hz : tz = n5 := by have := HTZ.out; unfold turnZ at this; rw [if_pos rfl] at this; omega
          have HZ := Lib.hid hz
          clear hz
          go_wp2
          go_meet
          case rel => exact ⟨by rw [HZ.out], rfl⟩
        | false =>
          have hz := HTZ.out
          unfold turnZ at hz
          rw [if_neg (by decide)] at hz
          have hc : n5 = 0 ∨ n5 = 1 ∨ n5 = 2 ∨ n5 = 3 := by
            have : n5 ≠ 4 := fun e => hcont ⟨rfl, e⟩
            omega
          rcases hc with rfl | rfl | rfl | rfl
          all_goals
            simp at hz
            have HZ := Lib.hid hz
            clear hz
            go_wp2
            go_meet
            case rel => exact ⟨by rw [← HZ.out]; rfl, rfl⟩
      case rest =>
      obtain ⟨rfl, rfl⟩ := hcut
      clear HMT HTZ hcont
      have hx1 := below_new wr (.cells #[.slice none 0 0] 32)
      have hx2 := below_alloc2 hx1 (.cells #[.slice none 0 0] 32)
      have HX2 := Lib.hid hx2
      have HLX := Lib.hid ((list_newO wr wr.heap.size))
      have HLX2 : Hid (ListIn ((wr.alloc (.cells #[.slice none 0 0] 32)).alloc (.cells #[.slice none 0 0] 32)) wr.heap.size wr.heap.size (.slice none 0 0) []) := Lib.hid ⟨(below_new _ _).block _ (by simp) |>.trans HLX.out.box, World.ownsRow_nil _ _ _ _⟩
      have HLY2 : Hid (ListIn ((wr.alloc (.cells #[.slice none 0 0] 32)).alloc (.cells #[.slice none 0 0] 32)) wr.heap.size (wr.heap.size + 1) (.slice none 0 0) []) := Lib.hid ⟨by have h := World.alloc_heap_new (wr.alloc (.cells #[.slice none 0 0] 32)) (.cells #[.slice none 0 0] 32); rw [World.size_alloc] at h; exact h, World.ownsRow_nil _ _ _ _⟩
      clear hx1 hx2 HLX
      go_wp2_with fail
      refine (aimAll_any (some ⟨b, 0, none⟩) (some ⟨tb, 0, none⟩) (k : Int) (n5 : Int) _).mono ?_
      rintro e w5 ⟨rfl, hd1, hd2, hd3, hd4, hb5, hs5⟩
      simp only [World.size_alloc] at hd1 hd2 hd3 hd4 hs5
      have HX5 := Lib.hid (stepB HX2.out hb5)
      have HL5 := Lib.hid (show ListIn w5 wr.heap.size wr.heap.size (.slice none 0 0) [] from ⟨(hb5.block _ (Array.getElem?_eq_some_iff.1 HLX2.out.box).1).trans HLX2.out.box, World.ownsRow_nil _ _ _ _⟩)
      have HY5 := Lib.hid (show ListIn w5 wr.heap.size (wr.heap.size + 1) (.slice none 0 0) [] from ⟨(hb5.block _ (Array.getElem?_eq_some_iff.1 HLY2.out.box).1).trans HLY2.out.box, World.ownsRow_nil _ _ _ _⟩)
      have HSR := Lib.hid (HS3.out.later HBR.out)
      have HTR := Lib.hid (HT3.out.later HBR.out)
      have HSEQ := Lib.hid (aim_gather (c1 := wr.heap.size + 1 + 1) 8 (by omega) HL5.out HSR.out (Nat.le_refl _) HTR.out (by omega) hd1 hd2 hd3 hd4 (HSR.out.later HX5.out) HM.out.wf HL.out (HTR.out.later HX5.out))
      unfold TellsF at HSEQ
      have hLL := aimL_len (T := T) (S := S) (k : Int) (n5 : Int) HM.out.wf (by rw [HM.out.seats]; decide) HL.out HT3.out.n2
      obtain ⟨L, hL⟩ : ∃ L, aimL T S (k : Int) (n5 : Int) = L := ⟨_, rfl⟩
      rw [hL] at HSEQ HE hLL
      have HI0 : IntsI wr.heap.size wr w5 [] w5 := ⟨.slice none 0 0, HL5.out, KpP.refl _ _ _, HX5.out, Nat.zero_le _⟩
      have HSZ := Lib.hid (show w5.heap.size = wr.heap.size + 6 by rw [hs5])
      clear hd1 hd2 hd3 hd4 hb5 hs5 HLX2 HLY2 HX2 hL
      try dsimp only
      go_wp2_with fail
      refine (wpIn_wide (n := 9)).1 ?_
      try simp only [World.size_alloc]
      refine range_world3 rfl (by omega) (I := IntsI wr.heap.size wr w5) (Ix := fun _ _ _ => False) (gf := 27) (lb := _) rfl trivial (fun _ _ => by kernel_rfl) HSEQ.out KpP.trans (fun W' o o' ho hc _ => KpP.put o' (.inr rfl) ho hc) (fun W W' hb => KpP.of_below _ _ hb) (Below.refl _ _) (fun _ => rfl)
        (intsI_own HX5.out.size (Nat.le_refl _)) (fun c s A B row hs hg hr => hs) (fun s A B row hs hg hr => hs) (fun s A B row hs hg hr => hs) HI0 ?_ ?_ ?_
      · skip
        rintro pre x W K hI hT hsz hK
        have HPL := Lib.hid (show pre.length + 1 ≤ 1000 from by
          have h1 := hT.length_le
          have h2 := hLL
          simp at h1
          omega)
        have HK := Lib.hid hK
        clear hK hT hI
        simp only [encF]
        simp
        gi_wp2
        refine HK.out _ _ (Below.refl _ _) ?_
        clear HK
        intro Wb hsz2 hrest hkw ⟨v1, l0, k0, b0, hl1⟩
        have cl := l0.head.cell
        have fl := l0.head.frozen
        obtain ⟨xa1, xc1, rfl⟩ := own_form1 l0.own
        have HL1 := Lib.hid l0
        have HK1 := Lib.hid k0
        have HB1 := Lib.hid b0
        have HKB := Lib.hid hkw
        clear hsz2 hrest hkw l0 k0 b0 hl1
        have hlen : pre.length + [x].length ≤ 1000 := by have := HPL.out; simpa using this
        have hlo : wr.heap.size ≤ (Wb.alloc (.cells #[.int .i64 x] 3)).heap.size := by have := HB1.out.size; simp; omega
        gi_wp2_with (gi_at_builtin; refine wpListIn_append_ints rfl _ _ rfl rfl wr.heap.size _ pre.length (intsV pre) rfl (own_later HL1.out.own (below_new Wb _)) _ 1 1 [x] rfl rfl ((RowAt.new _ 3 (intsV [x])).vals 1) hlen hlo ?_)
        intro v' w6x hown hgrow hnew
        have hsep : ∀ c, c = wr.heap.size → (Value.slice xa1 pre.length xc1).ownBlock ≠ some c := fun c hc e => by subst hc; exact (HL1.out.row _ e).2.2 rfl
        obtain ⟨l7, k7, h6⟩ := ListIn.snoc (E := fun _ => False) (H := fun k => k = wr.heap.size) HL1.out rfl hgrow hown (by rw [World.size_alloc]; exact hnew) hsep
        have c6 := h6.cell
        have f6 := h6.frozen
        have HB7 := Lib.hid (show Below wr.heap.size wr (w6x.setCell ⟨wr.heap.size, 0, none⟩ v') from ((HB1.out.alloc HB1.out.size _).grown hgrow (by have := HB1.out.size; simp; omega) (fun c e => by have := (HL1.out.row c e).1; omega)).setCell (Nat.le_refl _) v')
        obtain ⟨xa7, xc7, rfl⟩ := own_form1 hown
        have HL7 := Lib.hid l7
        have HK7 := Lib.hid k7
        clear hown hgrow hnew hsep l7 k7 h6 hlen hlo cl fl
        gi_wp2
        exact ⟨HK7.out.from (fun k e => e.elim), HKB.out.trans (HK7.out.mono (fun k e => e.elim)), _, HL7.out, HK1.out.trans HK7.out, HB7.out, by rw [List.length_append]; exact HPL.out⟩
      · rintro D ys W2 hD hS ⟨v2, l2, k2, b2, hl2⟩ hK
        subst ys
        have HB7 := Lib.hid (stepB HBR.out b2)
        have HB2R := Lib.hid b2
        have HM7 := Lib.hid (HMK.out.cons b2 (by have := HSZ.out; omega) (by have h1 := HB3.out.size; have h2 := HBR.out.size; have := HSZ.out; omega) hK)
        have HY7 := Lib.hid (HY5.out.kept k2 ⟨fun e => e, box_off HL5.out (by omega)⟩ (fun k e => by cases e))
        have HLX7 := Lib.hid l2
        clear HSEQ HI0 k2 b2 hK hl2 l2 HL5 HY5 HX5 HSR HTR hD HSZ HMK
        go_wp2_with fail
        refine (aimAll_any (some ⟨b, 0, none⟩) (some ⟨tb, 0, none⟩) (j : Int) (tz : Int) W2).mono ?_
        rintro e w8 ⟨rfl, hd1, hd2, hd3, hd4, hb8, hs8⟩
        have HBZ := Lib.hid (show Below wr.heap.size wr w8 from HB2R.out.trans (hb8.mono HB2R.out.size))
        have HM8 := Lib.hid (HM7.out.later hb8)
        have HX8 := Lib.hid (show ListIn w8 wr.heap.size wr.heap.size v2 L from ⟨(hb8.block _ (Array.getElem?_eq_some_iff.1 HLX7.out.box).1).trans HLX7.out.box, own_later HLX7.out.own hb8⟩)
        have HY8 := Lib.hid (show ListIn w8 wr.heap.size (wr.heap.size + 1) (.slice none 0 0) [] from ⟨(hb8.block _ (Array.getElem?_eq_some_iff.1 HY7.out.box).1).trans HY7.out.box, World.ownsRow_nil _ _ _ _⟩)
        have HSEQ2 := Lib.hid (aim_gather (c1 := W2.heap.size) 8 (by omega) HY8.out (HS3.out.later HBR.out) (Nat.le_succ _) (HT3.out.later HBR.out) (by have h1 := (Array.getElem?_eq_some_iff.1 HY7.out.box).1; omega) hd1 hd2 hd3 hd4 (((HS3.out.later HBR.out).later HBZ.out)) HM.out.wf HL.out (((HT3.out.later HBR.out).later HBZ.out)))
        rw [← HE.out] at HSEQ2
        unfold TellsF at HSEQ2
        have HI1 : IntsI (wr.heap.size + 1) wr w8 [] w8 := ⟨.slice none 0 0, HY8.out, KpP.refl _ _ _, HBZ.out, Nat.zero_le _⟩
        have HSZ8 := Lib.hid (show w.heap.size ≤ w8.heap.size from by have h1 := HB3.out.size; have h2 := HBR.out.size; have h3 := HBZ.out.size; omega)
        clear hd1 hd2 hd3 hd4 hb8 hs8 HLX7 HY7 HM7 HB2R HB7
        try dsimp only
        go_wp2_with fail
        refine (wpIn_wide (n := 9)).1 ?_
        try simp only [World.size_alloc]
        refine range_world3 rfl (by omega) (I := IntsI (wr.heap.size + 1) wr w8) (Ix := fun _ _ _ => False) (gf := 27) (lb := _) rfl trivial (fun _ _ => by kernel_rfl) HSEQ2.out KpP.trans (fun W' o o' ho hc _ => KpP.put o' (.inr rfl) ho hc) (fun W W' hb => KpP.of_below _ _ hb) (Below.refl _ _) (fun _ => rfl)
          (intsI_own HBZ.out.size (Nat.le_refl _)) (fun c s A B row hs hg hr => hs) (fun s A B row hs hg hr => hs) (fun s A B row hs hg hr => hs) HI1 ?_ ?_ ?_
        · skip
          rintro pre x W K hI hT hsz hK
          have HPL := Lib.hid (show pre.length + 1 ≤ 1000 from by
            have h1 := hT.length_le
            have h2 := hLL
            simp at h1
            omega)
          have HK := Lib.hid hK
          clear hK hT hI
          simp only [encF]
          simp
          gi_wp2
          refine HK.out _ _ (Below.refl _ _) ?_
          clear HK
          intro Wb hsz2 hrest hkw ⟨v1, l0, k0, b0, hl1⟩
          have cl := l0.head.cell
          have fl := l0.head.frozen
          obtain ⟨xa1, xc1, rfl⟩ := own_form1 l0.own
          have HL1 := Lib.hid l0
          have HK1 := Lib.hid k0
          have HB1 := Lib.hid b0
          have HKB := Lib.hid hkw
          clear hsz2 hrest hkw l0 k0 b0 hl1
          have hlen : pre.length + [x].length ≤ 1000 := by have := HPL.out; simpa using this
          have hlo : wr.heap.size ≤ (Wb.alloc (.cells #[.int .i64 x] 3)).heap.size := by have := HB1.out.size; simp; omega
          gi_wp2_with (gi_at_builtin; refine wpListIn_append_ints rfl _ _ rfl rfl wr.heap.size _ pre.length (intsV pre) rfl (own_later HL1.out.own (below_new Wb _)) _ 1 1 [x] rfl rfl ((RowAt.new _ 3 (intsV [x])).vals 1) hlen hlo ?_)
          intro v' w6x hown hgrow hnew
          have hsep : ∀ c, c = (wr.heap.size + 1) → (Value.slice xa1 pre.length xc1).ownBlock ≠ some c := fun c hc e => by subst hc; exact (HL1.out.row _ e).2.2 rfl
          obtain ⟨l7, k7, h6⟩ := ListIn.snoc (E := fun _ => False) (H := fun k => k = (wr.heap.size + 1)) HL1.out rfl hgrow hown (by rw [World.size_alloc]; exact hnew) hsep
          have c6 := h6.cell
          have f6 := h6.frozen
          have HB7 := Lib.hid (show Below wr.heap.size wr (w6x.setCell ⟨(wr.heap.size + 1), 0, none⟩ v') from ((HB1.out.alloc HB1.out.size _).grown hgrow (by have := HB1.out.size; simp; omega) (fun c e => by have := (HL1.out.row c e).1; omega)).setCell (Nat.le_succ _) v')
          obtain ⟨xa7, xc7, rfl⟩ := own_form1 hown
          have HL7 := Lib.hid l7
          have HK7 := Lib.hid k7
          clear hown hgrow hnew hsep l7 k7 h6 hlen hlo cl fl
          gi_wp2
          exact ⟨HK7.out.from (fun k e => e.elim), HKB.out.trans (HK7.out.mono (fun k e => e.elim)), _, HL7.out, HK1.out.trans HK7.out, HB7.out, by rw [List.length_append]; exact HPL.out⟩
        · rintro D2 ys W3 hD2 hS ⟨v3, l3, k3, b3, hl3⟩ hK2
          subst ys
          have HX9 := Lib.hid (HX8.out.kept k3 ⟨fun e => e, box_off HY8.out (by omega)⟩ (fun k hk => ⟨fun e => e, box_off HY8.out (fun e => own_not_box HX8.out.own HY8.out.box (by rw [hk, e]))⟩))
          have HY9 := Lib.hid l3
          have HM9 := Lib.hid (HM8.out.consK k3 hD2 (by have := HSZ8.out; omega) hK2)
          have HB9 := Lib.hid (stepB HBR.out b3)
          have HIN := Lib.hid (ints_no_at (own_ints HX9.out.own) (own_ints HY9.out.own) hLL rfl)
          have cx := HX9.out.head.cell
          have cy := HY9.out.head.cell
          clear HSEQ2 HI1 k3 b3 hK2 hl3 l3 HX8 HY8 HM8 hD2 HSZ8 HBZ HBR
          go_wp2_with fail
          refine HIN.out.mono ?_
          rintro e w9 ⟨rfl, hb9⟩
          have HB10 := Lib.hid (stepB HB9.out hb9)
          have HM10 := Lib.hid (HM9.out.later hb9)
          clear hb9
          go_wp2
          refine ⟨⟨rfl, rfl, rfl, rfl, rfl, j + 1, by omega, by go_num, HB10, HM10⟩, ?_⟩
          simp [intOf]
          omega
        · rintro D c pre W hD hS hI hK
          exact hI.elim
      · rintro D c pre W hD hS hI hK
        exact hI.elim
end Go.Proofs.Ythciiapdfjemaaa

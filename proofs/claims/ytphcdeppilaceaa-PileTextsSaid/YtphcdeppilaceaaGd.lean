/- The law PileTexts (layer 5), walked: for every list of bytes and of calls it returns true, and only new memory is made. -/
import Derived.Test.YtphcdeppilaceaaGc
import Derived.Test.YtphcdeppilaceaaFt
import Derived.Test.YtphcdeppilaceaaFk
import Derived.Test.YtphcdeppilaceaaFl
import Derived.Sort.QuietIn
import Derived.Deep.Cut
import Derived.Deep.CutBlock
import Derived.Deep.RegionHeld3
import Derived.Deep.DeepCutAuto
namespace Go.Proofs.Ytphcdeppilaceaa
open Go.RowKit
attribute [local go_sem] Oper.semAt_some

def u8sV (l : List Int) : List Value := l.map fun x => .int .u8 x
theorem lay_len (A : List Int) (x : Int) : (layL A A.length x).length ≤ A.length + 1 := by
  unfold layL
  split
  · omega
  · rw [insL_len]; exact Nat.le_refl _
theorem lay_le (A : List Int) (i : Nat) (x : Int) : (layL A i x).length ≤ A.length + 1 := by
  unfold layL
  split
  · omega
  · unfold insL
    rw [List.length_append, List.length_cons, List.length_take, List.length_drop]
    omega
theorem u8s_at {w : World} {xa : Option Addr} {xc : Nat} {l : List Int} (h : ValsAt w (.slice xa l.length xc) (u8sV l)) (k : Nat) (hk : k < l.length) : ∃ b off, xa = some ⟨b, off, none⟩ ∧ b < w.heap.size ∧ w.cell? ⟨b, off + k, none⟩ = some (.int .u8 l[k]) := by
  have hl : (u8sV l).length = l.length := by simp [u8sV]
  have h' : ValsAt w (.slice xa (u8sV l).length xc) (u8sV l) := by rw [hl]; exact h
  obtain ⟨b, off, h1, h2, h3⟩ := h'.at k (by rw [hl]; exact hk)
  exact ⟨b, off, h1, h2, by rw [h3]; simp [u8sV]⟩
set_option maxRecDepth 100000 in
set_option maxHeartbeats 16000000 in
theorem pileTexts_walk {u v : Value} {l : List Int} {m : List OpL} {w : World} (hu : ValsAt w u (u8sV l)) (hv : OpsAt w v m) (hl : l.length ≤ 9223372036854775807) (hm : m.length ≤ 9223372036854775807) (hl8 : ∀ x ∈ l, 0 ≤ x ∧ x < 256) :
    Calls Try.prog 5 #[u, v] w (RetV w (.bool true)) := by
  obtain ⟨ya, yc, hue⟩ := hu.form
  rw [show (u8sV l).length = l.length by simp [u8sV]] at hue
  subst hue
  obtain ⟨za, zc, rfl⟩ := hv.form
  have HU := Lib.hid hu
  have HV := Lib.hid hv
  have HL8 := Lib.hid hl8
  clear hu hv hl8
  refine (callsIn_wide (n := 6)).1 ?_
  have hb0 := below_new w (.cells #[.bool false] 4)
  have hr0 := HdAt.new w (.bool false) 4
  refine callsIn_of_wp_marks Try.func5 rfl trivial ?_ rfl
  simp only [Try.ntmps5, List.size_toArray, List.length_cons, List.length_nil, Nat.reduceAdd, Nat.reduceSub, Array.replicate_succ, Array.replicate_zero, List.push_toArray, List.append_toArray, List.nil_append, List.cons_append]
  refine wpIn_wide.2 ?_
  go_wp2_with fail
  refine (awake5_any _).mono ?_
  rintro e w1 ⟨rfl, hb1⟩
  have HB1 := Lib.hid (stepB hb0 hb1)
  have HR1 := Lib.hid (hr0.later hb1)
  clear hb0 hb1 hr0
  by_cases hg : 60 < l.length ∨ 60 < m.length
  · have c1 := HR1.out.cell
    have f1 := HR1.out.frozen
    have HR' := Lib.hid (HR1.out.set (.bool true))
    have HB2 := Lib.hid (HB1.out.setCell (p := ⟨w.heap.size, 0, none⟩) (Nat.le_refl _) (.bool true))
    by_cases hg1 : 60 < l.length
    · have b1 : decide ((60 : Int) < l.length) = true := decide_eq_true (by omega)
      go_wp2
      exact ⟨_, results_box rfl rfl HR'.out, rfl, HB2.out⟩
    · have b1 : decide ((60 : Int) < l.length) = false := decide_eq_false (by omega)
      have b2 : decide ((60 : Int) < m.length) = true := decide_eq_true (by omega)
      go_wp2
      exact ⟨_, results_box rfl rfl HR'.out, rfl, HB2.out⟩
  · have b1 : decide ((60 : Int) < l.length) = false := decide_eq_false (by omega)
    have b2 : decide ((60 : Int) < m.length) = false := decide_eq_false (by omega)
    have HG := Lib.hid (show l.length ≤ 60 ∧ m.length ≤ 60 by omega)
    clear hl hm
    have hn0 := HdAt.new w1 .nilFunc 53
    have hbn := below_new w1 (.cells #[.func (.func 28) #[] #[]] 53)
    have cn := hn0.cell
    have fn := hn0.frozen
    have HN1 := Lib.hid (HdAt.new w1 (.func (.func 28) #[] #[]) 53)
    have HBN := Lib.hid hbn
    have HE := Lib.hid (new_any (v := .slice none 0 0) (l := []) (w := (w1.alloc (.cells #[.func (.func 28) #[] #[]] 53))) (.inl ⟨_, _, rfl, rfl⟩) (by simp))
    have hst : Sem.run Try.prog (store ⟨w1.heap.size, 0, none⟩ (Value.func (Fn.func 28) #[] #[])) (w1.alloc (.cells #[.nilFunc] 53)) = .ok () ((w1.alloc (.cells #[.nilFunc] 53)).setCell ⟨w1.heap.size, 0, none⟩ (.func (.func 28) #[] #[])) := by
      rw [run_store Try.prog _ _ _ _ (by rfl)]
      simp [cn, fn]
    clear hbn hn0
    go_wp2_with fail
    refine Calls.mono HE.out ?_
    rintro e w2 ⟨bp, gp, rfl, hp2, hb2⟩
    have HP2 := Lib.hid hp2
    have HN2 := Lib.hid (HN1.out.later hb2)
    have HB2 := Lib.hid (stepB HBN.out hb2)
    clear hp2 hb2 HE cn fn hst
    go_wp2_with fail
    refine (newS_any w2).mono ?_
    rintro e w3 ⟨rfl, hq3⟩
    have hb3 := hq3.2
    have hbx := below_new w3 (.cells #[.pointer (some ⟨w2.heap.size, 0, none⟩)] 54)
    have hx := HdAt.new w3 (.pointer (some ⟨w2.heap.size, 0, none⟩)) 54
    have hlo := HP2.out.lo
    have hlt := HP2.out.lt
    have hrow := HP2.out.row
    have hsz : (w1.alloc (.cells #[.func (.func 28) #[] #[]] 53)).heap.size = w1.heap.size + 1 := by simp
    rw [hsz] at hlo hrow
    have hqlt := hq3.1.lt
    have hw1 := HR1.out.lt
    have HT : Hid (TxI w (w3.alloc (.cells #[.pointer (some ⟨w2.heap.size, 0, none⟩)] 54)) (w1.heap.size + 1) w.heap.size w1.heap.size w3.heap.size bp w2.heap.size gp none [] []) := Lib.hid
      { hp := by have h := (HP2.out.later (stepB hb3 hbx)); rw [hsz] at h; simpa [onceL] using h
        hq := by obtain ⟨z1, z2, z3, z4, z5⟩ := hq3.1; exact Txt.PileAt.later ⟨z1, z2, z3, Nat.le_trans (by omega) z4, World.ownsRow.mono z5 (by omega)⟩ hbx
        hs := ⟨by omega, fun e => by have := hrow _ e; omega, (fun e => by cases e), fun k e e' => by cases e'⟩
        hr := HR1.out.later (stepB (stepB HB2.out hb3) hbx)
        hn := HN2.out.later (stepB hb3 hbx)
        hb := hx
        off := fun k hk => by rcases hk with rfl | rfl | rfl <;> exact ⟨by omega, by omega, fun e => by have := hrow _ e; omega, (fun e => by cases e)⟩
        below := stepB HB1.out (stepB (stepB HB2.out hb3) hbx)
        low := by omega }
    clear hbx hx hlo hlt hrow hsz hqlt hw1 hb3 hq3 HP2 HB2 HN2 HN1 HBN HR1 HB1
    dsimp only
    go_upto_region 7 with fail
    obtain ⟨wA, hwA⟩ : ∃ wA, w3.alloc (.cells #[.pointer (some ⟨w2.heap.size, 0, none⟩)] 54) = wA := ⟨_, rfl⟩
    obtain ⟨lo, hlo⟩ : ∃ x, w1.heap.size + 1 = x := ⟨_, rfl⟩
    rw [hwA, hlo] at HT
    obtain ⟨nb, hnb⟩ : ∃ x, w1.heap.size = x := ⟨_, rfl⟩
    obtain ⟨qb, hqb⟩ : ∃ x, w3.heap.size = x := ⟨_, rfl⟩
    obtain ⟨bq, hbq⟩ : ∃ x, w2.heap.size = x := ⟨_, rfl⟩
    rw [hnb, hqb, hbq] at HT
    rw [hwA, hnb, hqb, hbq]
    clear hwA hlo hnb hqb hbq
    go_wp2
    go_loopw [33] (fun i wr => ∃ (k : Nat) (gp gq : Option Nat) (A : List Int), k ≤ l.length ∧ i = .int .i64 (k : Int) ∧ Hid (TxI w wr lo w.heap.size nb qb bp bq gp gq A A) ∧ Hid (InB A ∧ A.length ≤ k)) (fun i _ => l.length - (intOf i).toNat)
    case atStart => exact ⟨0, gp, none, [], Nat.zero_le _, rfl, HT, Lib.hid ⟨(fun x hx => by cases hx), Nat.le_refl _⟩⟩
    case round =>
      obtain ⟨k, gp, gq, A, hk, rfl, HTR, HIN⟩ := hrel
      have hlen := HG.out
      by_cases hlt : k < l.length
      · obtain ⟨r, off, hya, hr, c1⟩ := u8s_at (HU.out.later HTR.out.below) k hlt
        obtain ⟨x, hx⟩ : ∃ x, l[k] = x := ⟨_, rfl⟩
        have hxb := HL8.out l[k] (List.getElem_mem hlt)
        rw [hx] at c1 hxb
        obtain ⟨hx0, hx1⟩ := hxb
        have hxr : 0 ≤ x ∧ x < 65536 := ⟨hx0, by omega⟩
        have cn0 := HTR.out.hn.cell
        have cq0 := HTR.out.hb.cell
        have hdec := names_dec (x := x) HIN.out.1 hxr
        obtain ⟨ina, hina⟩ : ∃ b, decide (x ∈ A) = b := ⟨_, rfl⟩
        rw [hina] at hdec
        have HQA := Lib.hid (fun w' (hb : Below wr.heap.size wr w') => by
          have h := under_any x (HTR.out.hp.later hb) (by have := HIN.out.2; omega)
          rw [hina] at h
          exact h)
        have hwx : IntKind.i64.wrap x = x := IntWalk.i64_in _ (by omega)
        have hxor : ((!ina) != (!ina)) = false := by simp
        have HDEC := Lib.hid hdec
        have HLAY := Lib.hid (names_lay (x := x) A.length HIN.out.1 hxr)
        subst hya
        clear hdec hina hx
        go_upto_region 10 with fail
        go_cut [47] from 37 to 47 (fun s47 wx => s47 = .bool false ∧ ∃ gp' gq', Hid (TxI w wx lo w.heap.size nb qb bp bq gp' gq' (layL A A.length x) (layL A A.length x)))
        case first =>
          go_region_held3 (fun w' => w'.cell? ⟨qb, 0, none⟩ = some (.pointer (some ⟨bq, 0, none⟩)) ∧ w'.cell? ⟨nb, 0, none⟩ = some (.func (.func 28) #[] #[]))
            (first | assumption | exact ⟨(HTR.out.later (Below.refl _ _).drew).hb.cell, (HTR.out.later (Below.refl _ _).drew).hn.cell⟩)
            (first
            | (go_at_call 12; refine (HQA.out _ (Below.refl _ _).drew).mono ?_; rintro e w5 ⟨g5, rfl, hp5, hc5, hn5⟩; have HT5 := Lib.hid ((HTR.out.later (Below.refl _ _).drew).stepP hc5 hp5 hn5); have hS5 := And.intro HT5.out.hb.cell HT5.out.hn.cell; clear hp5 hc5 hn5)
            | (go_at_call 28; refine (name_any x _ hx0 (by omega)).mono ?_; rintro e w6 ⟨rfl, hb6⟩; have HT6 := Lib.hid (HT5.out.later hb6); have hS6 := And.intro HT6.out.hb.cell HT6.out.hn.cell; clear hb6)
            | (go_at_call 30; refine (Txt.under_any (nameB x) HT6.out.hq (by rw [List.length_map]; have := HIN.out.2; omega)).mono ?_; rintro e w7 ⟨g7, rfl, hp7, hc7, hn7⟩; rw [HDEC.out]; rw [List.length_map, HLAY.out] at hp7; have HT7 := Lib.hid (HT6.out.stepQ hc7 hp7 hn7); have hS7 := And.intro HT7.out.hb.cell HT7.out.hn.cell; clear hp7 hc7 hn7)
            )
          go_wp2_with fail
          go_meet
          exact ⟨rfl, _, _, HT7⟩
        case rest =>
          obtain ⟨rfl, gp2, gq2, HT7⟩ := hcut
          go_wp2
          go_roundw
          case rel => exact ⟨k + 1, _, _, layL A A.length x, by omega, by go_num, HT7, Lib.hid ⟨inB_lay _ HIN.out.1 hxr, Nat.le_trans (lay_len A x) (by have := HIN.out.2; omega)⟩⟩
          case measure => simp [intOf]; omega
      · obtain rfl : k = l.length := by omega
        obtain ⟨wA, rfl⟩ : ∃ wA, wA = wr := ⟨_, rfl⟩
        go_wp2
        go_loopw [51] (fun i wr => ∃ (k : Nat) (gp gq : Option Nat) (A : List Int), k ≤ m.length ∧ i = .int .i64 (k : Int) ∧ Hid (TxI w wr lo w.heap.size nb qb bp bq gp gq A A) ∧ Hid (InB A ∧ A.length ≤ 60 + k)) (fun i _ => m.length - (intOf i).toNat)
        case atStart => exact ⟨0, gp, gq, A, Nat.zero_le _, rfl, HTR, Lib.hid ⟨HIN.out.1, by have := HIN.out.2; omega⟩⟩
        case round =>
          clear HTR HIN hlt
          obtain ⟨k, gp, gq, A, hk, rfl, HTR, HIN⟩ := hrel
          by_cases hlt : k < m.length
          · obtain ⟨r, off, hza, hop⟩ := (HV.out.later HTR.out.below).at k hlt
            obtain ⟨o, ho⟩ : ∃ o, m[k] = o := ⟨_, rfl⟩
            rw [ho] at hop
            obtain ⟨o0, o1, o2⟩ := hop
            subst hza
            clear ho
            go_upto_region 16 with fail
            obtain ⟨wo, hwo⟩ : ∃ wo, wr.alloc (.cells #[.int .i64 o.k, .int .i64 o.x, .bool o.u] 29) = wo := ⟨_, rfl⟩
            have hbo : Below wr.heap.size wr wo := hwo ▸ below_new wr _
            have HTO := Lib.hid (HTR.out.later hbo)
            obtain ⟨ob, hob⟩ : ∃ ob, wr.heap.size = ob := ⟨_, rfl⟩
            have hrow : wo.heap[ob]? = some (.cells #[.int .i64 o.k, .int .i64 o.x, .bool o.u] 29 (0, 0)) := by rw [← hwo, ← hob]; exact heap_alloc_new wr _
            rw [hwo, hob]
            have HOB := Lib.hid hrow
            clear hbo hwo hob HTR o0 o1 o2 hrow
            have o0 : wo.cell? ⟨ob, 0, none⟩ = some (.int .i64 o.k) := by rw [cell_of_row wo _ 0 _ _ _ HOB.out]; rfl
            have o1 : wo.cell? ⟨ob, 1, none⟩ = some (.int .i64 o.x) := by rw [cell_of_row wo _ 1 _ _ _ HOB.out]; rfl
            go_upto_block 4 with fail
            clear o0 o1
            obtain ⟨kk, xx, uu⟩ := o
            have hx := mask_bd xx
            obtain ⟨x, hxe⟩ : ∃ x, bits BinOp.and IntKind.i64 xx 65535 = x := ⟨_, rfl⟩
            dsimp only at HOB ⊢
            rw [hxe] at hx
            rw [hxe]
            have HX := Lib.hid hx
            clear hx hxe HOB
            go_cut [13, 14] from 60 to 101 (fun s13 s14 wx => ∃ (bb : Bool) (gp' gq' : Option Nat) (A' : List Int), s13 = .bool bb ∧ s14 = .bool bb ∧ Hid (TxI w wx lo w.heap.size nb qb bp bq gp' gq' A' A') ∧ Hid (InB A' ∧ A'.length ≤ 60 + (k + 1)))
            case first =>
              have hdec := names_dec (x := x) HIN.out.1 HX.out
              obtain ⟨ina, hina⟩ : ∃ b, decide (x ∈ A) = b := ⟨_, rfl⟩
              have HDEC := Lib.hid hdec
              have HINA := Lib.hid hina
              have hlen := HG.out
              clear hdec hina
              by_cases h0 : kk = 0
              · subst h0
                go_upto_region 20 with fail
                go_region_held3 (fun w' => w'.cell? ⟨qb, 0, none⟩ = some (.pointer (some ⟨bq, 0, none⟩)) ∧ w'.cell? ⟨nb, 0, none⟩ = some (.func (.func 28) #[] #[]))
                  (first | assumption | exact ⟨(HTO.out.later (Below.refl _ _).drew).hb.cell, (HTO.out.later (Below.refl _ _).drew).hn.cell⟩)
                  (first
                  | (go_at_call 11; refine (push_any x (HTO.out.later (Below.refl _ _).drew).hp (by have := HIN.out.2; omega)).mono ?_; rintro e w5 ⟨g5, rfl, hp5, hc5, hn5⟩; rw [HINA.out]; have HT5 := Lib.hid ((HTO.out.later (Below.refl _ _).drew).stepP hc5 hp5 hn5); have hS5 := And.intro HT5.out.hb.cell HT5.out.hn.cell; clear hp5 hc5 hn5)
                  | (go_at_call 28; refine (name_any x _ HX.out.1 (by have := HX.out.2; omega)).mono ?_; rintro e w6 ⟨rfl, hb6⟩; have HT6 := Lib.hid (HT5.out.later hb6); have hS6 := And.intro HT6.out.hb.cell HT6.out.hn.cell; clear hb6)
                  | (go_at_call 31; refine (Txt.push_any (nameB x) HT6.out.hq (by rw [List.length_map]; have := HIN.out.2; omega)).mono ?_; rintro e w7 ⟨g7, rfl, hp7, hc7, hn7⟩; rw [HDEC.out, HINA.out]; rw [names_lay 0 HIN.out.1 HX.out] at hp7; have HT7 := Lib.hid (HT6.out.stepQ hc7 hp7 hn7); have hS7 := And.intro HT7.out.hb.cell HT7.out.hn.cell; clear hp7 hc7 hn7))
                go_wp2_with fail
                go_meet
                exact ⟨_, _, _, layL A 0 x, rfl, rfl, HT7, Lib.hid ⟨inB_lay _ HIN.out.1 HX.out, Nat.le_trans (lay_le A 0 x) (by have := HIN.out.2; omega)⟩⟩
              · have d0 : (kk == 0) = false := by simp [h0]
                by_cases h1 : kk = 1
                · subst h1
                  go_upto_region 22 with fail
                  go_region_held3 (fun w' => w'.cell? ⟨qb, 0, none⟩ = some (.pointer (some ⟨bq, 0, none⟩)) ∧ w'.cell? ⟨nb, 0, none⟩ = some (.func (.func 28) #[] #[]))
                    (first | assumption | exact ⟨(HTO.out.later (Below.refl _ _).drew).hb.cell, (HTO.out.later (Below.refl _ _).drew).hn.cell⟩)
                    (first
                    | (go_at_call 12; refine (under_any x (HTO.out.later (Below.refl _ _).drew).hp (by have := HIN.out.2; omega)).mono ?_; rintro e w5 ⟨g5, rfl, hp5, hc5, hn5⟩; rw [HINA.out]; have HT5 := Lib.hid ((HTO.out.later (Below.refl _ _).drew).stepP hc5 hp5 hn5); have hS5 := And.intro HT5.out.hb.cell HT5.out.hn.cell; clear hp5 hc5 hn5)
                    | (go_at_call 28; refine (name_any x _ HX.out.1 (by have := HX.out.2; omega)).mono ?_; rintro e w6 ⟨rfl, hb6⟩; have HT6 := Lib.hid (HT5.out.later hb6); have hS6 := And.intro HT6.out.hb.cell HT6.out.hn.cell; clear hb6)
                    | (go_at_call 30; refine (Txt.under_any (nameB x) HT6.out.hq (by rw [List.length_map]; have := HIN.out.2; omega)).mono ?_; rintro e w7 ⟨g7, rfl, hp7, hc7, hn7⟩; rw [HDEC.out, HINA.out]; rw [List.length_map, names_lay _ HIN.out.1 HX.out] at hp7; have HT7 := Lib.hid (HT6.out.stepQ hc7 hp7 hn7); have hS7 := And.intro HT7.out.hb.cell HT7.out.hn.cell; clear hp7 hc7 hn7))
                  go_wp2_with fail
                  go_meet
                  exact ⟨_, _, _, layL A A.length x, rfl, rfl, HT7, Lib.hid ⟨inB_lay _ HIN.out.1 HX.out, Nat.le_trans (lay_len A x) (by have := HIN.out.2; omega)⟩⟩
                · have d1 : (kk == 1) = false := by simp [h1]
                  by_cases h2 : kk = 2
                  · subst h2
                    go_wp2_with fail
                    refine (pop_any HTO.out.hp (by have := HIN.out.2; omega)).mono ?_
                    rintro e w5 ⟨rfl, hp5, hc5⟩
                    have HT5 := Lib.hid (HTO.out.stepP hc5 hp5 (.inl rfl))
                    have q5 := HT5.out.hb.cell
                    clear hp5 hc5
                    dsimp only
                    go_wp2_with fail
                    refine (Txt.pop_any HT5.out.hq (by rw [List.length_map]; have := HIN.out.2; omega)).mono ?_
                    rintro e w7 ⟨rfl, hp7, hc7⟩
                    rw [List.length_map]
                    rw [← List.map_tail] at hp7
                    have HT7 := Lib.hid (HT5.out.stepQ hc7 hp7 (.inl rfl))
                    clear hp7 hc7 q5
                    dsimp only
                    go_wp2_with fail
                    go_meet
                    exact ⟨_, _, _, A.tail, rfl, rfl, HT7, Lib.hid ⟨inB_tail HIN.out.1, by have := HIN.out.2; rw [List.length_tail]; omega⟩⟩
                  · have d2 : (kk == 2) = false := by simp [h2]
                    by_cases h3 : kk = 3
                    · subst h3
                      go_upto_region 27 with fail
                      go_region_held3 (fun w' => w'.cell? ⟨qb, 0, none⟩ = some (.pointer (some ⟨bq, 0, none⟩)) ∧ w'.cell? ⟨nb, 0, none⟩ = some (.func (.func 28) #[] #[]))
                        (first | assumption | exact ⟨(HTO.out.later (Below.refl _ _).drew).hb.cell, (HTO.out.later (Below.refl _ _).drew).hn.cell⟩)
                        (first
                        | (go_at_call 14; refine (drop_any x (HTO.out.later (Below.refl _ _).drew).hp (by have := HIN.out.2; omega)).mono ?_; rintro e w5 ⟨rfl, hp5, hc5⟩; rw [HINA.out]; have HT5 := Lib.hid ((HTO.out.later (Below.refl _ _).drew).stepP hc5 hp5 (.inl rfl)); have hS5 := And.intro HT5.out.hb.cell HT5.out.hn.cell; clear hp5 hc5)
                        | (go_at_call 28; refine (name_any x _ HX.out.1 (by have := HX.out.2; omega)).mono ?_; rintro e w6 ⟨rfl, hb6⟩; have HT6 := Lib.hid (HT5.out.later hb6); have hS6 := And.intro HT6.out.hb.cell HT6.out.hn.cell; clear hb6)
                        | (go_at_call 33; refine (Txt.drop_any (nameB x) HT6.out.hq (by rw [List.length_map]; have := HIN.out.2; omega)).mono ?_; rintro e w7 ⟨rfl, hp7, hc7⟩; rw [HDEC.out, HINA.out]; rw [names_erase HX.out HIN.out.1] at hp7; have HT7 := Lib.hid (HT6.out.stepQ hc7 hp7 (.inl rfl)); have hS7 := And.intro HT7.out.hb.cell HT7.out.hn.cell; clear hp7 hc7))
                      go_wp2_with fail
                      go_meet
                      exact ⟨_, _, _, A.erase x, rfl, rfl, HT7, Lib.hid ⟨inB_erase HIN.out.1, Nat.le_trans (List.erase_sublist.length_le) (by have := HIN.out.2; omega)⟩⟩
                    · have d3 : (kk == 3) = false := by simp [h3]
                      go_wp2_with fail
                      go_meet
                      exact ⟨_, _, _, A, rfl, rfl, HTO, Lib.hid ⟨HIN.out.1, by have := HIN.out.2; omega⟩⟩
            case rest =>
              obtain ⟨bb, gp2, gq2, A2, rfl, rfl, HT2, HI2⟩ := hcut
              go_upto_region 28 with fail
              go_region_held3 (fun w' => w'.cell? ⟨qb, 0, none⟩ = some (.pointer (some ⟨bq, 0, none⟩)) ∧ w'.cell? ⟨nb, 0, none⟩ = some (.func (.func 28) #[] #[]))
                (first | assumption | exact ⟨(HT2.out.later (Below.refl _ _).drew).hb.cell, (HT2.out.later (Below.refl _ _).drew).hn.cell⟩)
                (first
                | (go_at_call 19; refine (len_any (HT2.out.later (Below.refl _ _).drew).hp).mono ?_; rintro e w5 ⟨rfl, rfl⟩)
                | (go_at_call 34; refine (Txt.len_any (HT2.out.later (Below.refl _ _).drew).hq).mono ?_; rw [List.length_map]; rintro e w7 ⟨rfl, rfl⟩))
              have HT3 := Lib.hid (HT2.out.later (Below.refl _ _).drew)
              have hlen := HG.out
              go_wp2
              go_roundw
              case rel => exact ⟨k + 1, _, _, A2, by omega, by go_num, HT3, Lib.hid ⟨HI2.out.1, by have := HI2.out.2; omega⟩⟩
              case measure => simp [intOf]; omega
          · obtain rfl : k = m.length := by omega
            obtain ⟨wB, rfl⟩ : ∃ wB, wB = wr := ⟨_, rfl⟩
            go_wp2_with fail
            refine (all_any (some ⟨bp, 0, none⟩) wB).mono ?_
            rintro e w5 ⟨rfl, hc5, hb5⟩
            have HT5 := Lib.hid (HTR.out.later hb5)
            have HC5 := Lib.hid hc5
            have HIA := Lib.hid (And.intro HIN.out.1 (show A.length ≤ 1000 by have := HIN.out.2; have := HG.out; omega))
            clear hc5 hb5 HTR HIN hlt HT HL8 HU HV hg b1 b2 hk
            dsimp only
            go_wp2_with fail
            refine (wpIn_wide (n := 6)).1 ?_
            have HSEQ := Lib.hid (all_seq 5 (by omega) (w := w5) (fun _ => False) (fun _ => False) (fun _ e => e.elim) HC5.out HT5.out.hp HIA.out.2 (fun _ e => e.elim))
            refine range_world2 rfl (by omega) (I := fun _ W => Below w5.heap.size w5 W) (Ix := fun _ _ _ => False) (gf := 42) (lb := #[.pointer (some ⟨wB.heap.size, 0, none⟩)]) rfl trivial (fun _ _ => by kernel_rfl) HSEQ.out KpP.trans (fun W' o o' ho hc _ => KpP.put o' (.inr rfl) ho hc) (Below.refl _ _) (fun _ => rfl)
              (ownFrom_below (Nat.le_refl _) (Nat.le_refl _)) (fun c s A B row hs hg hr => hs) (fun s A B row hs hg hr => hs) (fun s A B row hs hg hr => hs) (Below.refl _ _) ?round ?done ?stop
            case stop =>
              rintro D c pre W' hD hS hI hK
              exact hI.elim
            case round =>
              rintro pre ⟨y, i⟩ Wa W' K hI hT hsz hK
              have HK := Lib.hid hK
              have hm := hT.subset (show (y, i) ∈ pre ++ [(y, i)] by simp)
              have hget : A[i]? = some y := List.mk_mem_zipIdx_iff_getElem?.1 hm
              obtain ⟨hi, hyi⟩ := List.getElem?_eq_some_iff.1 hget
              have hy := HIA.out.1 y (hyi ▸ List.getElem_mem hi)
              have hTX := HT5.out.later hI
              have hat := Txt.at_in (k := i) hTX.hq (by rw [List.length_map]; exact hi)
              rw [List.getElem_map, hyi] at hat
              have HAT := Lib.hid hat
              have HNM := Lib.hid (name_any y W' hy.1 hy.2)
              have HI := Lib.hid hI
              have cq := hTX.hb.cell
              have cn := hTX.hn.cell
              clear hK hm hget hi hyi hy hTX hat hT hI
              simp only [encA]
              simp
              gi_wp2
              refine HK.out _ ?_
              clear HK
              gi_wp2_with fail
              refine ⟨trivial, ?_⟩
              refine CallsIn.mono (F := Fence.wide) (callsIn_wide.2 HAT.out) ?_
              rintro e w8 ⟨rfl, rfl⟩
              dsimp only
              gi_wp2_with fail
              refine ⟨trivial, ?_⟩
              refine CallsIn.mono (F := Fence.wide) (callsIn_wide.2 HNM.out) ?_
              rintro e w9 ⟨rfl, hb9⟩
              have HB9 := Lib.hid hb9
              clear hb9 cq cn
              dsimp only
              gi_wp2
              exact ⟨(KpP.of_below (fun _ => False) (fun _ => False) HB9.out).from (fun k e => e.elim), KpP.of_below _ _ HB9.out, stepB HI.out HB9.out⟩
            case done =>
              rintro D xs W' hD hS hI hK
              have HTX := Lib.hid (HT5.out.later hI)
              have HM := Lib.hid (show MarksAt W' [D] from fun D' hD' => by obtain rfl := List.mem_singleton.1 hD'; exact hK)
              have HDL := Lib.hid (show w.heap.size ≤ D from Nat.le_trans HT5.out.below.size hD)
              clear hD hS hI hK HSEQ
              have cr := HTX.out.hr.cell
              have fr := HTX.out.hr.frozen
              have HR := Lib.hid (HTX.out.hr.set (.bool true))
              have HBR := Lib.hid (HTX.out.below.setCell (p := ⟨w.heap.size, 0, none⟩) (Nat.le_refl _) (.bool true))
              have HMR := Lib.hid (HM.out.others (KeepsOthers.setCell W' ⟨w.heap.size, 0, none⟩ (.bool true)))
              gi_wp2_with fail
              go_wp2
              refine leaves_marks (B := w.heap.size) [D] _ (by simp) (fun D' hD' => by obtain rfl := List.mem_singleton.1 hD'; exact HDL.out) HMR.out (fun W2 hb hc => ?_)
              obtain ⟨tr, hr⟩ := HR.out
              exact ⟨_, results_box rfl rfl ⟨tr, hc _ _ hr rfl⟩, rfl, HBR.out.trans hb⟩
end Go.Proofs.Ytphcdeppilaceaa

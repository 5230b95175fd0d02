/- The document's own answer on which cards may be (package hydraref02: May), walked: the rest, and what it answers of any card. -/
import Derived.Test.YtekbdbcomfleeaaRm
namespace Go.Proofs.Ytekbdbcomfleeaa
open Go.RowKit

set_option maxRecDepth 100000 in
set_option maxHeartbeats 16000000 in
theorem refMay_yes {c : CardL} {w : World} (xa : Option Addr) (xc : Nat) (ht : TermsIs w (.slice xa c.terms.length xc) c.terms)
    (d1 : inB c.cost 9 = true) (d2 : inB c.power 20 = true) (d3 : inB c.tough 20 = true) (d4 : inB c.keys 31 = true) (d5 : c.terms.length ≤ 4) (d6 : aimedN c.terms ≤ 1) :
    Calls Try.prog 13 #[cagg c (.slice xa c.terms.length xc)] w (RetB w (mayB c)) := by
  have H1 := Lib.hid d1
  have H2 := Lib.hid d2
  have H3 := Lib.hid d3
  have H4 := Lib.hid d4
  have HT := Lib.hid ht
  unfold inB at d1 d2 d3 d4
  simp only [Bool.and_eq_true, decide_eq_true_eq] at d1 d2 d3 d4
  obtain ⟨a1, b1⟩ := d1
  obtain ⟨a2, b2⟩ := d2
  obtain ⟨a3, b3⟩ := d3
  obtain ⟨a4, b4⟩ := d4
  have e1 : decide (c.cost < 0) = false := decide_eq_false (by omega)
  have e2 : decide (9 < c.cost) = false := decide_eq_false (by omega)
  have e3 : decide (c.power < 0) = false := decide_eq_false (by omega)
  have e4 : decide (20 < c.power) = false := decide_eq_false (by omega)
  have e5 : decide (c.tough < 0) = false := decide_eq_false (by omega)
  have e6 : decide (20 < c.tough) = false := decide_eq_false (by omega)
  have e7 : decide (c.keys < 0) = false := decide_eq_false (by omega)
  have e8 : decide (31 < c.keys) = false := decide_eq_false (by omega)
  have e9 : decide ((4 : Int) < c.terms.length) = false := decide_eq_false (by omega)
  have e10 : decide ((1 : Int) < aimedN c.terms) = false := decide_eq_false (by omega)
  have HL := Lib.hid d5
  have HN := Lib.hid d6
  have hlen : c.terms.length ≤ 9223372036854775807 := by omega
  obtain ⟨Z, hZ⟩ : ∃ Z, ((c.terms.length : Int) == 0) = Z := ⟨_, rfl⟩
  obtain ⟨A, hA⟩ : ∃ A, ((aimedN c.terms : Int) == 0) = A := ⟨_, rfl⟩
  have HZ := Lib.hid (show decide (c.terms.length = 0) = Z by rw [← hZ, len_zero])
  have HA := Lib.hid (show decide (aimedAt c.terms = 0) = A by rw [← hA, len_zero]; by_cases e : aimedN c.terms = 0 <;> simp [e, aimedAt_zero])
  obtain ⟨P, hP⟩ : ∃ P, decide (0 < c.terms.length) = P := ⟨_, rfl⟩
  have HPZ : Hid (P = !Z) := Lib.hid (by rw [← hP, ← hZ, len_zero]; by_cases e : c.terms.length = 0 <;> simp [e]; omega)
  clear ht a1 b1 a2 b2 a3 b3 a4 b4 d5 d6
  unfold cagg
  go_enter Try.func13, Try.ntmps13
  go_wp2_with fail
  refine (refAimed_any (HT.out.later (below_new _ _)) hlen).mono ?_
  rintro e w' ⟨rfl, rfl⟩
  go_wp2
  go_loopw [3] (fun i wr => ∃ k : Nat, k ≤ c.terms.length ∧ i = .int .i64 k ∧ Hid ((c.terms.take k).all termB = true) ∧ Hid (Below (w.alloc (.cells #[.int .i64 c.kind, .int .i64 c.cost, .int .i64 c.power, .int .i64 c.tough, .int .i64 c.keys, .int .i64 c.whn, .slice xa c.terms.length xc] 24)).heap.size (w.alloc (.cells #[.int .i64 c.kind, .int .i64 c.cost, .int .i64 c.power, .int .i64 c.tough, .int .i64 c.keys, .int .i64 c.whn, .slice xa c.terms.length xc] 24)) wr)) (fun i _ => c.terms.length - (intOf i).toNat)
  case atStart => exact ⟨0, Nat.zero_le _, rfl, Lib.hid rfl, Lib.hid (Below.refl _ _)⟩
  case round =>
    obtain ⟨k, hk, rfl, HAL, HB⟩ := hrel
    have HW := Lib.hid ((below_new w (.cells #[.int .i64 c.kind, .int .i64 c.cost, .int .i64 c.power, .int .i64 c.tough, .int .i64 c.keys, .int .i64 c.whn, .slice xa c.terms.length xc] 24)).trans (HB.out.mono (by simp)))
    obtain ⟨k0, k1, k2, k3, k4, k5, k6⟩ := card_cells HB.out
    by_cases hlt : k < c.terms.length
    · have hxa : ∃ b off, xa = some ⟨b, off, none⟩ ∧ b < w.heap.size ∧ ∀ i (h : i < c.terms.length), w.cell? ⟨b, off + i * 3, none⟩ = some (.int .i64 c.terms[i].op) ∧ w.cell? ⟨b, off + i * 3 + 1, none⟩ = some (.int .i64 c.terms[i].n) ∧ w.cell? ⟨b, off + i * 3 + 2, none⟩ = some (.int .i64 c.terms[i].on) := by
        rcases HT.out with ⟨_, _, h1, h2⟩ | ⟨b, off, cap, h1, h2, h3⟩
        · rw [h2] at hlt; simp at hlt
        · injection h1 with h1 _ _; exact ⟨b, off, h1, h2, h3⟩
      obtain ⟨b, off, rfl, hbl, hcell⟩ := hxa
      have h3 := hcell k hlt
      have c0 := cell_stays HW.out h3.1
      have c1 := cell_stays HW.out h3.2.1
      have c2 := cell_stays HW.out h3.2.2
      clear h3 hcell
      go_wp2_with fail
      refine (refTerm_any c.terms[k] _).mono ?_
      cases ht : termB c.terms[k]
      · have HM := Lib.hid (show mayB c = false by simp [mayB, termsB, all_no c.terms k hlt ht])
        rintro e w3 ⟨rfl, hb3⟩
        have HW3 := Lib.hid (HW.out.trans (hb3.mono HW.out.size))
        clear ht hb3
        go_wp2
        go_ret
        exact ⟨ret_bool HM.out.symm, HW3.out⟩
      · have HA2 := Lib.hid (all_snoc c.terms k hlt HAL.out ht)
        rintro e w3 ⟨rfl, hb3⟩
        have HB3 := Lib.hid (HB.out.trans (hb3.mono HB.out.size))
        clear ht hb3
        go_wp2
        go_roundw
        case rel => exact ⟨k + 1, by omega, by go_num, HA2, HB3⟩
        case measure => simp [intOf]; omega
    · obtain rfl : k = c.terms.length := by omega
      have HTB : Hid (termsB c.terms = true) := Lib.hid (by have h := HAL.out; rw [List.take_length] at h; simp [termsB, h, HL.out, HN.out])
      have HM := Lib.hid (may_rest c Z A H1.out H2.out H3.out H4.out HTB.out HZ.out HA.out)
      by_cases q1 : c.kind = 1
      · have f1 : (c.kind == 1) = true := beq_iff_eq.2 q1
        by_cases p0 : c.power = 0
        · have y0 : (c.power == 0) = true := beq_iff_eq.2 p0
          by_cases p1 : c.tough = 0
          · have y1 : (c.tough == 0) = true := beq_iff_eq.2 p1
            by_cases p2 : c.keys = 0
            · have y2 : (c.keys == 0) = true := beq_iff_eq.2 p2
              by_cases p3 : c.whn = 0
              · have y3 : (c.whn == 0) = true := beq_iff_eq.2 p3
                have HPL : plainB c = true := by simp [plainB, p0, p1, p2, p3]
                by_cases r : c.cost = 0
                · have r1 : (c.cost == 0) = true := beq_iff_eq.2 r
                  have HV := Lib.hid (show mayB c = Z by rw [HM.out]; unfold refRest; rw [if_pos q1, HPL, r1]; rfl)
                  clear HPL
                  try clear p0
                  try clear p1
                  try clear p2
                  try clear p3
                  clear q1 r
                  clear HM
                  go_wp2
                  all_goals
                    first
                      | (exfalso; omega)
                      | (go_ret; exact ⟨ret_bool HV.out.symm, HW.out⟩)
                · have r1 : (c.cost == 0) = false := beq_eq_false_iff_ne.2 r
                  have HV := Lib.hid (show mayB c = false by rw [HM.out]; unfold refRest; rw [if_pos q1, HPL, r1]; rfl)
                  clear HPL
                  try clear p0
                  try clear p1
                  try clear p2
                  try clear p3
                  clear q1 r
                  clear HM
                  go_wp2
                  all_goals
                    first
                      | (exfalso; omega)
                      | (go_ret; exact ⟨ret_bool HV.out.symm, HW.out⟩)
              · have y3 : (c.whn == 0) = false := beq_eq_false_iff_ne.2 p3
                have HPL : plainB c = false := by simp [plainB, p3]
                have HV := Lib.hid (show mayB c = false by rw [HM.out]; unfold refRest; rw [if_pos q1, HPL]; rfl)
                clear HPL
                try clear p0
                try clear p1
                try clear p2
                try clear p3
                clear q1
                clear HM
                go_wp2
                all_goals
                  first
                    | (exfalso; omega)
                    | (go_ret; exact ⟨ret_bool HV.out.symm, HW.out⟩)
            · have y2 : (c.keys == 0) = false := beq_eq_false_iff_ne.2 p2
              have HPL : plainB c = false := by simp [plainB, p2]
              have HV := Lib.hid (show mayB c = false by rw [HM.out]; unfold refRest; rw [if_pos q1, HPL]; rfl)
              clear HPL
              try clear p0
              try clear p1
              try clear p2
              try clear p3
              clear q1
              clear HM
              go_wp2
              all_goals
                first
                  | (exfalso; omega)
                  | (go_ret; exact ⟨ret_bool HV.out.symm, HW.out⟩)
          · have y1 : (c.tough == 0) = false := beq_eq_false_iff_ne.2 p1
            have HPL : plainB c = false := by simp [plainB, p1]
            have HV := Lib.hid (show mayB c = false by rw [HM.out]; unfold refRest; rw [if_pos q1, HPL]; rfl)
            clear HPL
            try clear p0
            try clear p1
            try clear p2
            try clear p3
            clear q1
            clear HM
            go_wp2
            all_goals
              first
                | (exfalso; omega)
                | (go_ret; exact ⟨ret_bool HV.out.symm, HW.out⟩)
        · have y0 : (c.power == 0) = false := beq_eq_false_iff_ne.2 p0
          have HPL : plainB c = false := by simp [plainB, p0]
          have HV := Lib.hid (show mayB c = false by rw [HM.out]; unfold refRest; rw [if_pos q1, HPL]; rfl)
          clear HPL
          try clear p0
          try clear p1
          try clear p2
          try clear p3
          clear q1
          clear HM
          go_wp2
          all_goals
            first
              | (exfalso; omega)
              | (go_ret; exact ⟨ret_bool HV.out.symm, HW.out⟩)
      have f1 : (c.kind == 1) = false := beq_eq_false_iff_ne.2 q1
      by_cases q2 : c.kind = 2
      · have f2 : (c.kind == 2) = true := beq_iff_eq.2 q2
        obtain ⟨Y0, y0⟩ : ∃ Y, (c.power == 0) = Y := ⟨_, rfl⟩
        obtain ⟨Y1, y1⟩ : ∃ Y, (c.tough == 0) = Y := ⟨_, rfl⟩
        obtain ⟨Y2, y2⟩ : ∃ Y, (c.keys == 0) = Y := ⟨_, rfl⟩
        by_cases r1 : c.tough < 1
        · have s1 : decide (c.tough < 1) = true := decide_eq_true r1
          obtain ⟨Y3, y3⟩ : ∃ Y, (c.whn == 0) = Y := ⟨_, rfl⟩
          have HV := Lib.hid (show mayB c = false by rw [HM.out]; unfold refRest; rw [if_neg q1, if_pos q2, if_pos r1])
          clear q1 q2
          clear HM
          go_wp2
          all_goals
            first
              | (exfalso; omega)
              | (go_ret; exact ⟨ret_bool HV.out.symm, HW.out⟩)
        have s1 : decide (c.tough < 1) = false := decide_eq_false r1
        by_cases r2 : c.whn < 0
        · have s2 : decide (c.whn < 0) = true := decide_eq_true r2
          obtain ⟨Y3, y3⟩ : ∃ Y, (c.whn == 0) = Y := ⟨_, rfl⟩
          have HV := Lib.hid (show mayB c = false by rw [HM.out]; unfold refRest; rw [if_neg q1, if_pos q2, if_neg r1, if_pos r2])
          clear q1 q2
          clear HM
          go_wp2
          all_goals
            first
              | (exfalso; omega)
              | (go_ret; exact ⟨ret_bool HV.out.symm, HW.out⟩)
        have s2 : decide (c.whn < 0) = false := decide_eq_false r2
        by_cases r3 : 3 < c.whn
        · have s3 : decide (3 < c.whn) = true := decide_eq_true r3
          obtain ⟨Y3, y3⟩ : ∃ Y, (c.whn == 0) = Y := ⟨_, rfl⟩
          have HV := Lib.hid (show mayB c = false by rw [HM.out]; unfold refRest; rw [if_neg q1, if_pos q2, if_neg r1, if_neg r2, if_pos r3])
          clear q1 q2
          clear HM
          go_wp2
          all_goals
            first
              | (exfalso; omega)
              | (go_ret; exact ⟨ret_bool HV.out.symm, HW.out⟩)
        have s3 : decide (3 < c.whn) = false := decide_eq_false r3
        by_cases r4 : c.whn = 0
        · have s4 : (c.whn == 0) = true := beq_iff_eq.2 r4
          have HV := Lib.hid (show mayB c = Z by rw [HM.out]; unfold refRest; rw [if_neg q1, if_pos q2, if_neg r1, if_neg r2, if_neg r3, if_pos r4])
          clear q1 q2 r4
          clear HM
          go_wp2
          all_goals
            first
              | (exfalso; omega)
              | (go_ret; exact ⟨ret_bool HV.out.symm, HW.out⟩)
        have s4 : (c.whn == 0) = false := beq_eq_false_iff_ne.2 r4
        cases Z
        · obtain rfl : P = true := HPZ.out
          by_cases r5 : c.whn = 1
          · have s5 : (c.whn == 1) = true := beq_iff_eq.2 r5
            have HV := Lib.hid (show mayB c = true by rw [HM.out]; unfold refRest; rw [if_neg q1, if_pos q2, if_neg r1, if_neg r2, if_neg r3, if_neg r4, s5]; rfl)
            clear q1 q2 r5
            clear HM
            go_wp2
            all_goals
              first
                | (exfalso; omega)
                | (go_ret; exact ⟨ret_bool HV.out.symm, HW.out⟩)
          · have s5 : (c.whn == 1) = false := beq_eq_false_iff_ne.2 r5
            have HV := Lib.hid (show mayB c = A by rw [HM.out]; unfold refRest; rw [if_neg q1, if_pos q2, if_neg r1, if_neg r2, if_neg r3, if_neg r4, s5]; rfl)
            clear q1 q2 r5
            clear HM
            go_wp2_with fail
            all_goals
              first
                | (exfalso; omega)
                | (refine (refAimed_any (HT.out.later HW.out) hlen).mono ?_; rintro e w' ⟨rfl, rfl⟩; go_wp2; go_ret; exact ⟨ret_bool HV.out.symm, HW.out⟩)
        · obtain rfl : P = false := HPZ.out
          have hv : refRest c true A = false := by unfold refRest; rw [if_neg q1, if_pos q2, if_neg r1, if_neg r2, if_neg r3, if_neg r4]; rfl
          have HV := Lib.hid (show mayB c = false from HM.out.trans hv)
          clear q1 q2 hv
          clear HM
          go_wp2
          all_goals
            first
              | (exfalso; omega)
              | (go_ret; exact ⟨ret_bool HV.out.symm, HW.out⟩)
      have f2 : (c.kind == 2) = false := beq_eq_false_iff_ne.2 q2
      by_cases q3 : c.kind = 3
      · have f3 : (c.kind == 3) = true := beq_iff_eq.2 q3
        by_cases p0 : c.power = 0
        · have y0 : (c.power == 0) = true := beq_iff_eq.2 p0
          by_cases p1 : c.tough = 0
          · have y1 : (c.tough == 0) = true := beq_iff_eq.2 p1
            by_cases p2 : c.keys = 0
            · have y2 : (c.keys == 0) = true := beq_iff_eq.2 p2
              by_cases p3 : c.whn = 0
              · have y3 : (c.whn == 0) = true := beq_iff_eq.2 p3
                have HPL : plainB c = true := by simp [plainB, p0, p1, p2, p3]
                have HV := Lib.hid (show mayB c = P by rw [HM.out]; unfold refRest; rw [HPZ.out]; rw [if_neg q1, if_neg q2, if_pos q3, HPL]; rfl)
                clear HPL
                try clear p0
                try clear p1
                try clear p2
                try clear p3
                clear q1 q2 q3
                clear HM
                go_wp2
                all_goals
                  first
                    | (exfalso; omega)
                    | (go_ret; exact ⟨ret_bool HV.out.symm, HW.out⟩)
              · have y3 : (c.whn == 0) = false := beq_eq_false_iff_ne.2 p3
                have HPL : plainB c = false := by simp [plainB, p3]
                have HV := Lib.hid (show mayB c = false by rw [HM.out]; unfold refRest; rw [if_neg q1, if_neg q2, if_pos q3, HPL]; rfl)
                clear HPL
                try clear p0
                try clear p1
                try clear p2
                try clear p3
                clear q1 q2 q3
                clear HM
                go_wp2
                all_goals
                  first
                    | (exfalso; omega)
                    | (go_ret; exact ⟨ret_bool HV.out.symm, HW.out⟩)
            · have y2 : (c.keys == 0) = false := beq_eq_false_iff_ne.2 p2
              have HPL : plainB c = false := by simp [plainB, p2]
              have HV := Lib.hid (show mayB c = false by rw [HM.out]; unfold refRest; rw [if_neg q1, if_neg q2, if_pos q3, HPL]; rfl)
              clear HPL
              try clear p0
              try clear p1
              try clear p2
              try clear p3
              clear q1 q2 q3
              clear HM
              go_wp2
              all_goals
                first
                  | (exfalso; omega)
                  | (go_ret; exact ⟨ret_bool HV.out.symm, HW.out⟩)
          · have y1 : (c.tough == 0) = false := beq_eq_false_iff_ne.2 p1
            have HPL : plainB c = false := by simp [plainB, p1]
            have HV := Lib.hid (show mayB c = false by rw [HM.out]; unfold refRest; rw [if_neg q1, if_neg q2, if_pos q3, HPL]; rfl)
            clear HPL
            try clear p0
            try clear p1
            try clear p2
            try clear p3
            clear q1 q2 q3
            clear HM
            go_wp2
            all_goals
              first
                | (exfalso; omega)
                | (go_ret; exact ⟨ret_bool HV.out.symm, HW.out⟩)
        · have y0 : (c.power == 0) = false := beq_eq_false_iff_ne.2 p0
          have HPL : plainB c = false := by simp [plainB, p0]
          have HV := Lib.hid (show mayB c = false by rw [HM.out]; unfold refRest; rw [if_neg q1, if_neg q2, if_pos q3, HPL]; rfl)
          clear HPL
          try clear p0
          try clear p1
          try clear p2
          try clear p3
          clear q1 q2 q3
          clear HM
          go_wp2
          all_goals
            first
              | (exfalso; omega)
              | (go_ret; exact ⟨ret_bool HV.out.symm, HW.out⟩)
      have f3 : (c.kind == 3) = false := beq_eq_false_iff_ne.2 q3
      by_cases q4 : c.kind = 4
      · have f4 : (c.kind == 4) = true := beq_iff_eq.2 q4
        by_cases p0 : c.power = 0
        · have y0 : (c.power == 0) = true := beq_iff_eq.2 p0
          by_cases p1 : c.tough = 0
          · have y1 : (c.tough == 0) = true := beq_iff_eq.2 p1
            by_cases p2 : c.keys = 0
            · have y2 : (c.keys == 0) = true := beq_iff_eq.2 p2
              by_cases p3 : c.whn = 0
              · have y3 : (c.whn == 0) = true := beq_iff_eq.2 p3
                have HPL : plainB c = true := by simp [plainB, p0, p1, p2, p3]
                by_cases r : c.cost = 0
                · have r1 : (c.cost == 0) = true := beq_iff_eq.2 r
                  cases Z
                  · obtain rfl : P = true := HPZ.out
                    have hv : refRest c false A = A := by unfold refRest; rw [if_neg q1, if_neg q2, if_neg q3, if_pos q4, HPL, r1]; rfl
                    have HV := Lib.hid (show mayB c = A from HM.out.trans hv)
                    clear hv
                    clear HPL
                    try clear p0
                    try clear p1
                    try clear p2
                    try clear p3
                    clear q1 q2 q3 q4 r
                    clear HM
                    go_wp2_with fail
                    all_goals
                      first
                        | (exfalso; omega)
                        | (refine (refAimed_any (HT.out.later HW.out) hlen).mono ?_; rintro e w' ⟨rfl, rfl⟩; go_wp2; go_ret; exact ⟨ret_bool HV.out.symm, HW.out⟩)
                  · obtain rfl : P = false := HPZ.out
                    have hv : refRest c true A = false := by unfold refRest; rw [if_neg q1, if_neg q2, if_neg q3, if_pos q4, HPL, r1]; rfl
                    have HV := Lib.hid (show mayB c = false from HM.out.trans hv)
                    clear hv
                    clear HPL
                    try clear p0
                    try clear p1
                    try clear p2
                    try clear p3
                    clear q1 q2 q3 q4 r
                    clear HM
                    go_wp2
                    all_goals
                      first
                        | (exfalso; omega)
                        | (go_ret; exact ⟨ret_bool HV.out.symm, HW.out⟩)
                · have r1 : (c.cost == 0) = false := beq_eq_false_iff_ne.2 r
                  have HV := Lib.hid (show mayB c = false by rw [HM.out]; unfold refRest; rw [if_neg q1, if_neg q2, if_neg q3, if_pos q4, HPL, r1]; rfl)
                  clear HPL
                  try clear p0
                  try clear p1
                  try clear p2
                  try clear p3
                  clear q1 q2 q3 q4 r
                  clear HM
                  go_wp2
                  all_goals
                    first
                      | (exfalso; omega)
                      | (go_ret; exact ⟨ret_bool HV.out.symm, HW.out⟩)
              · have y3 : (c.whn == 0) = false := beq_eq_false_iff_ne.2 p3
                have HPL : plainB c = false := by simp [plainB, p3]
                have HV := Lib.hid (show mayB c = false by rw [HM.out]; unfold refRest; rw [if_neg q1, if_neg q2, if_neg q3, if_pos q4, HPL]; rfl)
                clear HPL
                try clear p0
                try clear p1
                try clear p2
                try clear p3
                clear q1 q2 q3 q4
                clear HM
                go_wp2
                all_goals
                  first
                    | (exfalso; omega)
                    | (go_ret; exact ⟨ret_bool HV.out.symm, HW.out⟩)
            · have y2 : (c.keys == 0) = false := beq_eq_false_iff_ne.2 p2
              have HPL : plainB c = false := by simp [plainB, p2]
              have HV := Lib.hid (show mayB c = false by rw [HM.out]; unfold refRest; rw [if_neg q1, if_neg q2, if_neg q3, if_pos q4, HPL]; rfl)
              clear HPL
              try clear p0
              try clear p1
              try clear p2
              try clear p3
              clear q1 q2 q3 q4
              clear HM
              go_wp2
              all_goals
                first
                  | (exfalso; omega)
                  | (go_ret; exact ⟨ret_bool HV.out.symm, HW.out⟩)
          · have y1 : (c.tough == 0) = false := beq_eq_false_iff_ne.2 p1
            have HPL : plainB c = false := by simp [plainB, p1]
            have HV := Lib.hid (show mayB c = false by rw [HM.out]; unfold refRest; rw [if_neg q1, if_neg q2, if_neg q3, if_pos q4, HPL]; rfl)
            clear HPL
            try clear p0
            try clear p1
            try clear p2
            try clear p3
            clear q1 q2 q3 q4
            clear HM
            go_wp2
            all_goals
              first
                | (exfalso; omega)
                | (go_ret; exact ⟨ret_bool HV.out.symm, HW.out⟩)
        · have y0 : (c.power == 0) = false := beq_eq_false_iff_ne.2 p0
          have HPL : plainB c = false := by simp [plainB, p0]
          have HV := Lib.hid (show mayB c = false by rw [HM.out]; unfold refRest; rw [if_neg q1, if_neg q2, if_neg q3, if_pos q4, HPL]; rfl)
          clear HPL
          try clear p0
          try clear p1
          try clear p2
          try clear p3
          clear q1 q2 q3 q4
          clear HM
          go_wp2
          all_goals
            first
              | (exfalso; omega)
              | (go_ret; exact ⟨ret_bool HV.out.symm, HW.out⟩)
      have f4 : (c.kind == 4) = false := beq_eq_false_iff_ne.2 q4
      obtain ⟨Y0, y0⟩ : ∃ Y, (c.power == 0) = Y := ⟨_, rfl⟩
      obtain ⟨Y1, y1⟩ : ∃ Y, (c.tough == 0) = Y := ⟨_, rfl⟩
      obtain ⟨Y2, y2⟩ : ∃ Y, (c.keys == 0) = Y := ⟨_, rfl⟩
      obtain ⟨Y3, y3⟩ : ∃ Y, (c.whn == 0) = Y := ⟨_, rfl⟩
      have HV := Lib.hid (show mayB c = false by rw [HM.out]; unfold refRest; rw [if_neg q1, if_neg q2, if_neg q3, if_neg q4])
      clear q1 q2 q3 q4
      clear HM
      go_wp2
      all_goals
        first
          | (exfalso; omega)
          | (go_ret; exact ⟨ret_bool HV.out.symm, HW.out⟩)

theorem refMay_any {c : CardL} {v : Value} {w : World} (h : CardIs w v c) (hlen : c.terms.length ≤ 9223372036854775807) :
    Calls Try.prog 13 #[v] w (RetB w (mayB c)) := by
  cases hb : (inB c.cost 9 && (inB c.power 20 && (inB c.tough 20 && (inB c.keys 31 && (decide (c.terms.length ≤ 4) && decide (aimedN c.terms ≤ 1))))))
  · have hm : mayB c = false := by
      unfold mayB numsB termsB
      revert hb
      cases inB c.cost 9 <;> cases inB c.power 20 <;> cases inB c.tough 20 <;> cases inB c.keys 31 <;> cases decide (c.terms.length ≤ 4) <;> cases decide (aimedN c.terms ≤ 1) <;> simp
    rw [hm]
    exact refMay_no h hlen hb
  · simp only [Bool.and_eq_true, decide_eq_true_eq] at hb
    obtain ⟨h1, h2, h3, h4, h5, h6⟩ := hb
    obtain ⟨xa, xn, xc, rfl, ht⟩ := h
    obtain rfl := CardIs.len ht
    exact refMay_yes xa xc ht h1 h2 h3 h4 h5 h6
end Go.Proofs.Ytekbdbcomfleeaa

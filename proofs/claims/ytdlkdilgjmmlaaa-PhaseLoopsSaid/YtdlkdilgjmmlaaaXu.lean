/- The law PhaseLoops, walked. -/
import Derived.Test.YtdlkdilgjmmlaaaXs
import Derived.Deep.OwnRows
namespace Go.Proofs.Ytdlkdilgjmmlaaa
open Go.RowKit Go.Maps
attribute [local go_sem] Oper.semAt_some

def Ring (T : TeamL) (m : Nat) : Prop := ∀ j : Nat, j < m → nextT T (j : Int) = (((j + 1) % m : Nat) : Int)
set_option maxRecDepth 100000 in
theorem sides_ring (n : Nat) : ((sidesT n).sh.length = 2 ∨ (sidesT n).sh.length = 4) ∧ Ring (sidesT n) (sidesT n).sh.length := by
  unfold sidesT Ring
  split
  · decide
  · split <;> decide
def yK (m k : Nat) : TurnL := ⟨((k / 8 % m : Nat) : Int), 1 + ((k / 8 : Nat) : Int), 1 + ((k % 8 : Nat) : Int), dry0⟩
theorem yK_next {T : TeamL} {m k : Nat} (hm : m = 2 ∨ m = 4) (hT : Ring T m) : nextY T (yK m k) = yK m (k + 1) := by
  unfold nextY yK
  dsimp only
  by_cases h : k % 8 = 7
  · rw [if_neg (by omega)]
    have h1 : k / 8 % m < m := Nat.mod_lt _ (by omega)
    rw [hT _ h1]
    have e1 : (k + 1) / 8 = k / 8 + 1 := by omega
    have e2 : (k + 1) % 8 = 0 := by omega
    rw [e1, e2]
    have e3 : (k / 8 % m + 1) % m = (k / 8 + 1) % m := by rcases hm with rfl | rfl <;> omega
    rw [e3, show (1 : Int) + ((k / 8 : Nat) : Int) + 1 = 1 + ((k / 8 + 1 : Nat) : Int) by omega]
    rfl
  · rw [if_pos (by omega)]
    have e1 : (k + 1) / 8 = k / 8 := by omega
    have e2 : (k + 1) % 8 = k % 8 + 1 := by omega
    rw [e1, e2, show (1 : Int) + ((k % 8 : Nat) : Int) + 1 = 1 + ((k % 8 + 1 : Nat) : Int) by omega]
def turnsN (m k j : Nat) : Nat := ((k + 7) / 8 + (m - 1 - j)) / m
theorem turns_step {m k j : Nat} (hm : m = 2 ∨ m = 4) (hj : j < m) : turnsN m (k + 1) j = if k % 8 = 0 ∧ j = k / 8 % m then turnsN m k j + 1 else turnsN m k j := by
  unfold turnsN
  rcases hm with rfl | rfl
  · split <;> omega
  · split <;> omega
theorem turns_end {m r j : Nat} (hm : m = 2 ∨ m = 4) (hj : j < m) : turnsN m (8 * m * r) j = r := by
  unfold turnsN
  rcases hm with rfl | rfl <;> omega
theorem PhJ.row {V wr : World} {lo q t : Nat} {g : GhostB} {T : TeamL} {y : TurnL} {P : Nat → Prop} (h : PhJ V wr lo g q t T y P) (o : Obj) : PhJ V (wr.alloc o) lo g q t T y (fun i => i = wr.heap.size) := by
  obtain ⟨g1, D1, h1, h2, h3, h4⟩ := h
  have hb := below_new wr o
  exact ⟨g1, D1, h1.later hb, h2, h3.trans (TurnedO.of_below hb), fun k hk => by subst hk; exact ⟨by simp, fun e => Nat.lt_irrefl _ (h1.ownLt e)⟩⟩
theorem drewN_row {w : World} {b n : Nat} {t : TypeId} {f : Nat → Value} (h : w.rowIs b t n f) (k : Nat) : (w.drewN k).rowIs b t n f := h.of_block ((below_drewN (Below.refl w.heap.size w) k).block b h.lt)
theorem tmod_nat (a b : Nat) : ((a : Int)).tmod (b : Int) = ((a % b : Nat) : Int) := by
  rw [Int.tmod_eq_emod_of_nonneg (by omega)]
  rfl
theorem tdiv_nat (a b : Nat) : ((a : Int)).tdiv (b : Int) = ((a / b : Nat) : Int) := by
  rw [Int.tdiv_eq_ediv_of_nonneg (by omega)]
  rfl
set_option maxRecDepth 100000 in
set_option maxHeartbeats 40000000 in
theorem phaseLoops_walk {n rr : Nat} (hn : n < 256) (hrr : rr < 256) {w : World} :
    Calls Try.prog 4 #[.int .u8 n, .int .u8 rr] w (RetV w (.bool true)) := by
  have HAW := Lib.hid (fun (w' : World) => awake15_any w')
  have HBO := Lib.hid (fun (w' : World) => board0_any w' n hn)
  have HNT := Lib.hid (fun (w' : World) => newTurn_any 0 w')
  have hsr := sides_ring n
  go_enter Try.func4, Try.ntmps4
  go_wp2_with fail
  refine (HAW.out _).mono ?_
  rintro e w1 ⟨rfl, hb1⟩
  have HB1 := Lib.hid hb1
  clear hb1 HAW
  dsimp only
  go_wp2_with fail
  refine (HBO.out _).mono ?_
  rintro e w2 ⟨lo, g, rfl, hbd, hlo, hb2⟩
  obtain ⟨T, hT⟩ : ∃ T, sidesT n = T := ⟨_, rfl⟩
  rw [hT] at hbd hsr
  obtain ⟨m, hm⟩ : ∃ m, T.sh.length = m := ⟨_, rfl⟩
  rw [hm] at hsr
  have HM2 := Lib.hid hsr.1
  have HRG := Lib.hid hsr.2
  have HLO := Lib.hid (show ∀ k, g.own k → w.heap.size ≤ k from fun k hk => Nat.le_trans HB1.out.size (Nat.le_trans hlo (hbd.ownLo hk)))
  have HB2 := Lib.hid (stepB HB1.out hb2)
  have HTL := Lib.hid (by have h1 := tlen_any hbd.tm; rw [show (BoardL.mk (made13 []) T dry0).T.sh.length = m from hm] at h1; exact h1)
  have HBD := Lib.hid hbd
  obtain ⟨-, cq, -⟩ := hbd.cells
  obtain ⟨q, hq⟩ : ∃ q, g.q = q := ⟨_, rfl⟩
  have HQ := Lib.hid hq
  rw [hq] at cq ⊢
  clear hbd hlo hb2 hq HBO hm hT hsr
  dsimp only
  go_wp2_with fail
  refine HTL.out.mono ?_
  rintro e w3 ⟨rfl, e3⟩
  rw [e3]
  clear e3 w3 cq HTL
  dsimp only
  go_wp2_with fail
  refine (HNT.out w2).mono ?_
  rintro e V ⟨rfl, ht, hb4⟩
  have hj := phj_new HBD.out ht hb4
  rw [HQ.out] at hj
  have HBV := Lib.hid (stepB HB2.out hb4)
  have HLV := Lib.hid (show ∀ k, own3 g w2.heap.size k → w.heap.size ≤ k from fun k hk => by
    rcases hk with hk | rfl
    · exact HLO.out k hk
    · exact HB2.out.size)
  have hm4 : m ≤ 4 := by rcases HM2.out with h | h <;> omega
  have hmk := run_make_row' (P := Try.prog) 42 3 (.int .i64 0) 8 Try.underlying42 (by kernel_rfl) rfl .i64 .i64 m (by omega) (by omega) V
  have HJ0 := Lib.hid (hj.row (.cells (madeCells #[.int .i64 0] m) 3))
  obtain ⟨t, ht9⟩ : ∃ t, w2.heap.size = t := ⟨_, rfl⟩
  rw [ht9] at HJ0 HLV ⊢
  have HR0 := Lib.hid (World.rowIs_made V (.int .i64 0) m 3)
  have HZ0 := Lib.hid (show (V.alloc (.cells (madeCells #[.int .i64 0] m) 3)).rowIs V.heap.size 3 m (fun j => .int .i64 (turnsN m 0 j)) from HR0.out.congr fun j hj => by
    have : turnsN m 0 j = 0 := by
      unfold turnsN
      rcases HM2.out with h | h <;> subst h <;> omega
    rw [this]
    rfl)
  obtain ⟨p, hp⟩ : ∃ p, V.heap.size = p := ⟨_, rfl⟩
  have HP := Lib.hid hp
  obtain ⟨r, hr⟩ : ∃ r : Nat, rr % 12 = r := ⟨_, rfl⟩
  have hr12 : r < 12 := by omega
  have hw20 : IntKind.i64.wrap (rr : Int) = (rr : Int) := wrap4 (by omega) (by omega)
  have hm20 : (rr : Int).tmod 12 = (r : Int) := by rw [← hr]; exact tmod_nat rr 12
  have hw21 : IntKind.i64.wrap (r : Int) = (r : Int) := wrap4 (by omega) (by omega)
  obtain ⟨N, hN⟩ : ∃ N, 8 * m * r = N := ⟨_, rfl⟩
  have hNi : (8 : Int) * (m : Int) * (r : Int) = (N : Int) := by rw [← hN]; simp
  have hN352 : N ≤ 352 := by rw [← hN]; rcases HM2.out with h | h <;> subst h <;> omega
  have HN := Lib.hid hN
  have hwm : IntKind.i64.wrap ((8 : Int) * (m : Int)) = 8 * (m : Int) := wrap4 (by omega) (by omega)
  have hwN : IntKind.i64.wrap (N : Int) = (N : Int) := wrap4 (by omega) (by omega)
  clear hr hj ht hb4 ht9 hN HBD HNT HR0
  dsimp only
  go_upto_region 10 with fail
  try rw [hp]
  rw [hp] at HJ0 HZ0
  clear hmk hp
  go_wp2
  go_loopw [10] (fun i wr => ∃ k : Nat, k ≤ N ∧ i = .int .i64 k ∧ Hid (PhJ V wr lo g q t T (yK m k) (fun i => i = p)) ∧ Hid (wr.rowIs p 3 m (fun j => .int .i64 (turnsN m k j)))) (fun i _ => N - (intOf i).toNat)
  case atStart => exact ⟨0, Nat.zero_le _, rfl, HJ0, HZ0⟩
  case round =>
    clear HJ0 HZ0
    obtain ⟨k, hk, rfl, HJ, HR⟩ := hrel
    by_cases hlt : k < N
    · have e0 : decide ((k : Int) < N) = true := decide_eq_true (by omega)
      have hw1 : IntKind.i64.wrap ((k : Int) + 1) = (k : Int) + 1 := wrap4 (by omega) (by omega)
      have hcs := HJ.out.cells
      have hy1 : 1 ≤ (yK m k).phase := by show (1 : Int) ≤ 1 + ((k % 8 : Nat) : Int); omega
      have hy2 : (yK m k).phase ≤ 8 := by show 1 + ((k % 8 : Nat) : Int) ≤ 8; omega
      have hy3 : 0 ≤ (yK m k).no := by show (0 : Int) ≤ 1 + ((k / 8 : Nat) : Int); omega
      have hy4 : (yK m k).no ≤ 1000000 := by show 1 + ((k / 8 : Nat) : Int) ≤ 1000000; omega
      have c0 : wr.cell? ⟨t, 0, none⟩ = some (.int .i64 ((k / 8 % m : Nat) : Int)) := hcs.1
      have c1 : wr.cell? ⟨t, 1, none⟩ = some (.int .i64 (1 + ((k / 8 : Nat) : Int))) := hcs.2.1
      have c2 : wr.cell? ⟨t, 2, none⟩ = some (.int .i64 (1 + ((k % 8 : Nat) : Int))) := hcs.2.2
      clear hcs
      have hq1 : (k : Int).tmod 8 = ((k % 8 : Nat) : Int) := tmod_nat k 8
      have hq2 : (k : Int).tdiv 8 = ((k / 8 : Nat) : Int) := tdiv_nat k 8
      have hq3 : ((k / 8 : Nat) : Int).tmod (m : Int) = ((k / 8 % m : Nat) : Int) := tmod_nat (k / 8) m
      have hm0 : ((m : Int) == 0) = false := beq_eq_false_iff_ne.2 (by rcases HM2.out with h | h <;> omega)
      have hmlt : k / 8 % m < m := Nat.mod_lt _ (by rcases HM2.out with h | h <;> omega)
      obtain ⟨tm, htm⟩ : ∃ tm, k / 8 % m = tm := ⟨_, rfl⟩
      obtain ⟨dv, hdv⟩ : ∃ dv, k / 8 = dv := ⟨_, rfl⟩
      obtain ⟨md, hmd⟩ : ∃ md, k % 8 = md := ⟨_, rfl⟩
      have hdv352 : dv ≤ 352 := by omega
      have hmd8 : md < 8 := by omega
      rw [htm] at c0 hq3 hmlt
      rw [hdv] at c1 hq2 hq3
      rw [hmd] at c2 hq1
      obtain ⟨nn, hnn⟩ : ∃ nn, 1 + (dv : Int) = nn := ⟨_, rfl⟩
      obtain ⟨ph, hph⟩ : ∃ ph, 1 + (md : Int) = ph := ⟨_, rfl⟩
      rw [hnn] at c1
      rw [hph] at c2
      have hw2 : IntKind.i64.wrap nn = nn := wrap4 (by omega) (by omega)
      have hw3 : IntKind.i64.wrap ph = ph := wrap4 (by omega) (by omega)
      have hw4 : IntKind.i64.wrap (md : Int) = (md : Int) := wrap4 (by omega) (by omega)
      have hw5 : IntKind.i64.wrap (dv : Int) = (dv : Int) := wrap4 (by omega) (by omega)
      have hw6 : IntKind.i64.wrap (tm : Int) = (tm : Int) := wrap4 (by omega) (by omega)
      by_cases hmd0 : md = 0
      · have e1 : (ph == 1) = true := beq_iff_eq.2 (by omega)
        have cw : wr.cell? ⟨p, tm, none⟩ = some (.int .i64 (turnsN m k tm)) := HR.out.cell hmlt
        have fw := HR.out.frozen tm
        have hts := turns_step (k := k) HM2.out hmlt
        rw [if_pos ⟨hmd.trans hmd0, htm.symm⟩] at hts
        obtain ⟨z, hz⟩ : ∃ z, turnsN m k tm = z := ⟨_, rfl⟩
        have hz1 : z ≤ 1000 := by
          rw [← hz]
          unfold turnsN
          rcases HM2.out with h | h <;> subst h <;> omega
        rw [hz] at cw hts
        have hw7 : IntKind.i64.wrap ((z : Int) + 1) = (z : Int) + 1 := wrap4 (by omega) (by omega)
        have k1 : (0 : Int) ≤ tm := by omega
        have k2 : (tm : Int) < m := by omega
        have hjs := HJ.out.set (p := p) rfl (Nat.le_of_eq HP.out) tm (.int .i64 ((z : Int) + 1))
        have hds := hjs.cells
        have HJX := Lib.hid (fun nd => hjs.later (below_drewN (Below.refl _ _) nd))
        have d0 : (wr.setCell ⟨p, tm, none⟩ (.int .i64 ((z : Int) + 1))).cell? ⟨t, 0, none⟩ = some (.int .i64 ((k / 8 % m : Nat) : Int)) := hds.1
        have d1 : (wr.setCell ⟨p, tm, none⟩ (.int .i64 ((z : Int) + 1))).cell? ⟨t, 1, none⟩ = some (.int .i64 (1 + ((k / 8 : Nat) : Int))) := hds.2.1
        have d2 : (wr.setCell ⟨p, tm, none⟩ (.int .i64 ((z : Int) + 1))).cell? ⟨t, 2, none⟩ = some (.int .i64 (1 + ((k % 8 : Nat) : Int))) := hds.2.2
        clear hds
        rw [htm] at d0
        rw [hdv, hnn] at d1
        rw [hmd, hph] at d2
        have HRX := Lib.hid (show (wr.setCell ⟨p, tm, none⟩ (.int .i64 ((z : Int) + 1))).rowIs p 3 m (fun j => .int .i64 (turnsN m (k + 1) j)) from (HR.out.set tm _).congr fun j hj => by
          by_cases e : j = tm
          · subst e
            rw [if_pos rfl, hts]
            rfl
          · rw [if_neg e, turns_step HM2.out hj, if_neg (fun h => e (h.2.trans htm))])
        clear hjs hts hz hmd0
        go_upto_region 15 with fail
        go_quiet (fail)
        have HC := Lib.hid (fun nd => by have hc := (HJX.out nd).next hy1 hy2 hy3 hy4; rw [yK_next HM2.out HRG.out] at hc; exact hc)
        go_wp2_with fail
        refine (HC.out _).mono ?_
        rintro e w5 ⟨rfl, hj, hrow, hsz⟩
        have HJ5 := Lib.hid hj
        have HR5 := Lib.hid ((drewN_row HRX.out _).of_block (hrow p rfl))
        clear hj hrow hsz HC
        dsimp only
        go_wp2
        go_roundw
        case rel => exact ⟨k + 1, by omega, by go_num, HJ5, HR5⟩
        case measure => simp [intOf]; omega
      · have e1 : (ph == 1) = false := beq_eq_false_iff_ne.2 (by omega)
        have HJX := Lib.hid (fun nd => HJ.out.later (below_drewN (Below.refl _ _) nd))
        have HRX := Lib.hid (show wr.rowIs p 3 m (fun j => .int .i64 (turnsN m (k + 1) j)) from HR.out.congr fun j hj => by rw [turns_step HM2.out hj, if_neg (fun h => hmd0 (hmd.symm.trans h.1))])
        go_upto_region 15 with fail
        go_quiet (fail)
        have HC := Lib.hid (fun nd => by have hc := (HJX.out nd).next hy1 hy2 hy3 hy4; rw [yK_next HM2.out HRG.out] at hc; exact hc)
        go_wp2_with fail
        refine (HC.out _).mono ?_
        rintro e w5 ⟨rfl, hj, hrow, hsz⟩
        have HJ5 := Lib.hid hj
        have HR5 := Lib.hid ((drewN_row HRX.out _).of_block (hrow p rfl))
        clear hj hrow hsz HC
        dsimp only
        go_wp2
        go_roundw
        case rel => exact ⟨k + 1, by omega, by go_num, HJ5, HR5⟩
        case measure => simp [intOf]; omega
    · obtain rfl : N = k := by omega
      have e0 : decide ((N : Int) < N) = false := decide_eq_false (by omega)
      obtain ⟨wA, rfl⟩ : ∃ wA, wA = wr := ⟨_, rfl⟩
      have hcs := HJ.out.cells
      have hN8 : N % 8 = 0 := by rw [← HN.out]; rcases HM2.out with h | h <;> subst h <;> omega
      have c2 : wA.cell? ⟨t, 2, none⟩ = some (.int .i64 (1 + ((N % 8 : Nat) : Int))) := hcs.2.2
      rw [hN8] at c2
      have HC2 := Lib.hid (show wA.cell? ⟨t, 2, none⟩ = some (.int .i64 1) from c2)
      have HRE := Lib.hid (show wA.rowIs p 3 m (fun _ => .int .i64 (r : Int)) from HR.out.congr fun j hj => by rw [← HN.out, turns_end HM2.out hj])
      have HB9 := Lib.hid (HJ.out.below HBV.out HLV.out)
      clear c2 hcs HJ HR
      go_wp2
      go_loopw [86] (fun i wi => ∃ k : Nat, k ≤ m ∧ i = .int .i64 k ∧ Hid (Below wA.heap.size wA wi)) (fun i _ => m - (intOf i).toNat)
      case atStart => exact ⟨0, Nat.zero_le _, rfl, Lib.hid (Below.refl _ _)⟩
      case round =>
        obtain ⟨k, hk, rfl, HBE⟩ := hrel
        by_cases hlt : k < m
        · have e1 : decide ((k : Int) < m) = true := decide_eq_true (by omega)
          have hw1 : IntKind.i64.wrap ((k : Int) + 1) = (k : Int) + 1 := wrap4 (by omega) (by omega)
          have k1 : (0 : Int) ≤ k := by omega
          have k2 : (k : Int) < m := by omega
          have cw : wr.cell? ⟨p, k, none⟩ = some (.int .i64 (r : Int)) := cell_stays HBE.out (HRE.out.cell hlt)
          go_wp2
          go_roundw
          case rel => exact ⟨k + 1, by omega, by go_num, HBE⟩
          case measure => simp [intOf]; omega
        · obtain rfl : m = k := by omega
          have e1 : decide ((m : Int) < m) = false := decide_eq_false (by omega)
          have c2 := cell_stays HBE.out HC2.out
          go_wp2
          go_ret
          exact ⟨rfl, stepB HB9.out HBE.out⟩
end Go.Proofs.Ytdlkdilgjmmlaaa

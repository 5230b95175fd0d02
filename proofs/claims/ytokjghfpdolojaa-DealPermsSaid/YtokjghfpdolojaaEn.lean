/- The contracts of first, at and less (layer 4); the library's sort, index and delete at rows that the call itself made. -/
import Derived.Test.YtokjghfpdolojaaEk
import Derived.Test.YtokjghfpdolojaaSh
import Derived.Sort.OwnSortedInts
namespace Go.Proofs.Ytokjghfpdolojaa
open Go.RowKit

theorem intsV_eq (l : List Int) : intsV l = l.map (Value.int .i64) := rfl
/-- A row of the call's own, made n long. -/
theorem make_ints (n : Nat) (hn : n ≤ 1000) (u : World) : (Instr.makeSlice 22 (.int .i64 (n : Int)) (.int .i64 (n : Int))).run Try.prog u = .ok (.slice (some ⟨u.heap.size, 0, none⟩) n n) (u.alloc (.cells (madeCells #[.int .i64 0] n) 3)) := by
  obtain ⟨i0, hi, hz0, hz1, hz2⟩ := info_parts info_int
  have h := run_make (P := Try.prog) u 22 3 i0 (.int .i64 0) Try.underlying22 hi hz0 .i64 .i64 (n : Int) (n : Int) (by omega) (Int.le_refl _) (by rw [hz2]; omega) (by omega)
  simpa [hz1, Value.cells] using h
/-- The places of a list in its own order. -/
def placesL (n : Nat) : List Int := (List.range n).map fun (j : Nat) => (j : Int)
theorem placesL_len (n : Nat) : (placesL n).length = n := by simp [placesL]
/-- A list whose first k items are told, the others not yet. -/
def partL (l z : List Int) (k : Nat) : List Int := l.take k ++ z.drop k
theorem partL_set {l z : List Int} {k : Nat} (hk : k < l.length) (hz : z.length = l.length) : (partL l z k).set k l[k] = partL l z (k + 1) := by
  unfold partL
  have e1 : z.drop k = z[k]'(by omega) :: z.drop (k + 1) := List.drop_eq_getElem_cons (by omega)
  have e2 : k - (l.take k).length = 0 := by rw [List.length_take]; omega
  rw [List.set_append, if_neg (by rw [List.length_take]; omega), e2, e1, List.set_cons_zero, take_last l k hk, List.append_assoc]
  rfl
theorem partL_zero (l z : List Int) : partL l z 0 = z := by simp [partL]
theorem partL_all {l z : List Int} (h : z.length = l.length) : partL l z l.length = l := by
  unfold partL
  rw [List.take_length, List.drop_of_length_le (by omega), List.append_nil]
theorem partL_len {l z : List Int} (h : z.length = l.length) {k : Nat} (hk : k ≤ l.length) : (partL l z k).length = l.length := by
  unfold partL
  rw [List.length_append, List.length_take, List.length_drop]; omega
theorem row_set {w : World} {g k : Nat} {l z : List Int} (h : RowAt w g 3 (intsV (partL l z k))) (hk : k < l.length) (hz : z.length = l.length) : RowAt (w.setCell ⟨g, k, none⟩ (.int .i64 l[k])) g 3 (intsV (partL l z (k + 1))) := by
  have := h.set k (.int .i64 l[k])
  rw [← partL_set hk hz, intsV_eq, List.map_set]
  exact this

set_option maxRecDepth 100000 in
set_option maxHeartbeats 4000000 in
theorem first_any (n : Nat) (hn : n ≤ 1000) (w : World) : Calls Try.prog 25 #[.int .i64 (n : Int)] w (RetNums w (placesL n)) := by
  have hmk := make_ints n hn
  have HP := Lib.hid (placesL_len n)
  go_enter Try.func25, Try.ntmps25
  go_wp2
  go_loopw [9] (fun i wr => ∃ k : Nat, k ≤ n ∧ i = .int .i64 k ∧ Hid (RowAt wr w.heap.size 3 (intsV (partL (placesL n) (List.replicate n 0) k)) ∧ Below w.heap.size w wr)) (fun i _ => n - (intOf i).toNat)
  case atStart =>
    refine ⟨0, Nat.zero_le _, rfl, Lib.hid ⟨?_, below_new w _⟩⟩
    rw [partL_zero, intsV_eq, List.map_replicate]
    exact replicate_row w _ _ _
  case round =>
    obtain ⟨k, hk, rfl, HS⟩ := hrel
    by_cases hlt : k < n
    · have HST := Lib.hid (row_set HS.out.1 (by rw [HP.out]; exact hlt) (by rw [List.length_replicate, HP.out]))
      have hpk : (placesL n)[k]'(by rw [HP.out]; exact hlt) = (k : Int) := by simp [placesL]
      have hrl := partL_len (l := placesL n) (z := List.replicate n 0) (by rw [List.length_replicate, HP.out]) (k := k) (by rw [HP.out]; omega)
      rw [HP.out] at hrl
      have c0 := HS.out.1.cell k (by rw [intsV_len]; omega)
      obtain ⟨y, hy⟩ : ∃ y, (intsV (partL (placesL n) (List.replicate n 0) k))[k]'(by rw [intsV_len]; omega) = .int .i64 y := ⟨_, by simp [intsV]; rfl⟩
      rw [hy] at c0
      have f0 := HS.out.1.free k
      have d0 : (0 : Int) ≤ k := by omega
      have d1 : (k : Int) < n := by omega
      have HLT := Lib.hid hlt
      have HBE := Lib.hid (HS.out.2.setCell (p := ⟨w.heap.size, k, none⟩) (Nat.le_refl _) (.int .i64 (k : Int)))
      have HRW := Lib.hid (show RowAt (wr.setCell ⟨w.heap.size, k, none⟩ (.int .i64 (k : Int))) w.heap.size 3 (intsV (partL (placesL n) (List.replicate n 0) (k + 1))) from by have h := HST.out; rwa [hpk] at h)
      clear hpk hrl hy HST
      go_wp2
      go_roundw
      case rel => exact ⟨k + 1, by have := HLT.out; omega, by go_num, Lib.hid ⟨HRW.out, HBE.out⟩⟩
      case measure => have := HLT.out; simp [intOf]; omega
    · obtain rfl : k = n := by omega
      have h1 := HS.out.1
      have e := partL_all (l := placesL k) (z := List.replicate k 0) (by rw [List.length_replicate, HP.out])
      rw [HP.out] at e
      rw [e] at h1
      have H1 := Lib.hid h1
      have H2 := Lib.hid HS.out.2
      clear h1 e
      go_wp2
      go_ret
      exact ⟨by rw [HP.out]; rfl, H1.out, H2.out⟩

/-- What stands at places of a list. -/
def atL (l p : List Int) : List Int := p.map fun i => l.getD i.toNat 0
theorem atL_len (l p : List Int) : (atL l p).length = p.length := by simp [atL]
set_option maxRecDepth 100000 in
set_option maxHeartbeats 4000000 in
theorem at_any {v u : Value} {l p : List Int} {w : World} (hv : IntsAt w v l) (hu : IntsAt w u p) (hp : p.length ≤ 1000) (hin : ∀ i ∈ p, 0 ≤ i ∧ i < l.length) : Calls Try.prog 27 #[v, u] w (RetNums w (atL l p)) := by
  obtain ⟨xa, xc, rfl⟩ := hv.form
  obtain ⟨ya, yc, rfl⟩ := hu.form
  have HV := Lib.hid hv
  have HU := Lib.hid hu
  have HIN := Lib.hid hin
  have HP := Lib.hid (atL_len l p)
  obtain ⟨n, hn⟩ : ∃ n, p.length = n := ⟨_, rfl⟩
  have HN := Lib.hid hn
  rw [hn] at hp
  have hmk := make_ints n hp
  have HA := Lib.hid (show (atL l p).length = n by rw [atL_len, hn])
  clear hv hu hin hn
  rw [HN.out]
  go_enter Try.func27, Try.ntmps27
  go_wp2
  go_loopw [13] (fun i wr => ∃ k : Nat, k ≤ n ∧ i = .int .i64 k ∧ Hid (RowAt wr w.heap.size 3 (intsV (partL (atL l p) (List.replicate n 0) k)) ∧ Below w.heap.size w wr)) (fun i _ => n - (intOf i).toNat)
  case atStart =>
    refine ⟨0, Nat.zero_le _, rfl, Lib.hid ⟨?_, below_new w _⟩⟩
    rw [partL_zero, intsV_eq, List.map_replicate]
    exact replicate_row w _ _ _
  case round =>
    obtain ⟨k, hk, rfl, HS⟩ := hrel
    by_cases hlt : k < n
    · have hlp : k < p.length := by rw [HN.out]; exact hlt
      have hIU := HU.out.later HS.out.2
      obtain ⟨b1, o1, hya, _, c1⟩ := hIU.at k hlp
      have hix := HIN.out _ (List.getElem_mem hlp)
      have hat : (atL l p)[k]'(by rw [HA.out]; exact hlt) = l.getD (p[k]).toNat 0 := by simp [atL]
      obtain ⟨m, hm⟩ : ∃ m : Nat, p[k] = (m : Int) := ⟨(p[k]).toNat, by omega⟩
      rw [hm] at c1 hix hat
      rw [Int.toNat_natCast] at hat
      have hml : m < l.length := by omega
      obtain ⟨b2, o2, hxa, _, c2⟩ := (HV.out.later HS.out.2).at m hml
      rw [show l.getD m 0 = l[m] by simp [List.getD, hml]] at hat
      have HST := Lib.hid (row_set HS.out.1 (by rw [HA.out]; exact hlt) (by rw [List.length_replicate, HA.out]))
      have hrl := partL_len (l := atL l p) (z := List.replicate n 0) (by rw [List.length_replicate, HA.out]) (k := k) (by rw [HA.out]; omega)
      rw [HA.out] at hrl
      have c0 := HS.out.1.cell k (by rw [intsV_len]; omega)
      obtain ⟨y, hy⟩ : ∃ y, (intsV (partL (atL l p) (List.replicate n 0) k))[k]'(by rw [intsV_len]; omega) = .int .i64 y := ⟨_, by simp [intsV]; rfl⟩
      rw [hy] at c0
      have f0 := HS.out.1.free k
      obtain ⟨z, hz⟩ : ∃ z, l[m] = z := ⟨_, rfl⟩
      rw [hz] at c2 hat
      have d0 : (0 : Int) ≤ k := by omega
      have d1 : (k : Int) < n := by omega
      have m0 : (0 : Int) ≤ m := by omega
      have m1 : (m : Int) < l.length := by omega
      have HLT := Lib.hid hlt
      have HBE := Lib.hid (HS.out.2.setCell (p := ⟨w.heap.size, k, none⟩) (Nat.le_refl _) (.int .i64 z))
      have HRW := Lib.hid (show RowAt (wr.setCell ⟨w.heap.size, k, none⟩ (.int .i64 z)) w.heap.size 3 (intsV (partL (atL l p) (List.replicate n 0) (k + 1))) from by have h := HST.out; rwa [hat] at h)
      have HYA := Lib.hid hya
      have HXA := Lib.hid hxa
      clear hat hrl hy HST hz hm hix hya hxa hIU hlp
      obtain rfl := HYA.out
      obtain rfl := HXA.out
      go_wp2
      go_roundw
      case rel => exact ⟨k + 1, by have := HLT.out; omega, by go_num, Lib.hid ⟨HRW.out, HBE.out⟩⟩
      case measure => have := HLT.out; simp [intOf]; omega
    · obtain rfl : k = n := by omega
      have h1 := HS.out.1
      have e := partL_all (l := atL l p) (z := List.replicate k 0) (by rw [List.length_replicate, HA.out])
      rw [HA.out] at e
      rw [e] at h1
      have H1 := Lib.hid h1
      have H2 := Lib.hid HS.out.2
      clear h1 e
      go_wp2
      go_ret
      exact ⟨by rw [HA.out]; rfl, H1.out, H2.out⟩

theorem drew3 (w : World) (a b c : Nat) : ∃ n, ((w.drewN a).drewN b).drewN c = w.drewN n := ⟨a + b + c, by unfold World.drewN; simp [Nat.add_assoc]⟩
/-- Does a list stand ahead of another one, by the first place where they are unlike? -/
def lessAt (a b : List Int) : Nat → Nat → Bool
  | _, 0 => false
  | i, f + 1 => if a.getD i 0 == b.getD i 0 then lessAt a b (i + 1) f else decide (a.getD i 0 < b.getD i 0)
def lessB (a b : List Int) : Bool := lessAt a b 0 a.length
set_option maxRecDepth 100000 in
set_option maxHeartbeats 4000000 in
theorem less_any {v u : Value} {a b : List Int} {w : World} (hv : IntsAt w v a) (hu : IntsAt w u b) (ha : a.length ≤ 1000) (hb : b.length = a.length) : Calls Try.prog 20 #[v, u] w (Drew w (.bool (lessB a b))) := by
  obtain ⟨xa, xc, rfl⟩ := hv.form
  obtain ⟨ya, yc, rfl⟩ := hu.form
  have HV := Lib.hid hv
  have HU := Lib.hid hu
  have HBL := Lib.hid hb
  clear hv hu hb
  rw [HBL.out]
  go_enter Try.func20, Try.ntmps20
  go_wp2
  go_loopw [8] (fun i wr => ∃ k : Nat, k ≤ a.length ∧ i = .int .i64 k ∧ Hid ((∃ n, wr = w.drewN n) ∧ lessAt a b k (a.length - k) = lessB a b)) (fun i _ => a.length - (intOf i).toNat)
  case atStart => exact ⟨0, Nat.zero_le _, rfl, Lib.hid ⟨⟨0, rfl⟩, rfl⟩⟩
  case round =>
    obtain ⟨k, hk, rfl, HW⟩ := hrel
    obtain ⟨⟨nw, hnw⟩, _⟩ := HW.out
    subst hnw
    by_cases hlt : k < a.length
    · obtain ⟨b1, o1, rfl, _, c1⟩ := HV.out.at k hlt
      obtain ⟨b2, o2, hya, _, c2⟩ := HU.out.at k (by rw [HBL.out]; exact hlt)
      have hst := HW.out.2
      rw [show a.length - k = (a.length - (k + 1)) + 1 by omega] at hst
      unfold lessAt at hst
      rw [show a.getD k 0 = a[k] by simp [List.getD, hlt], show b.getD k 0 = b[k]'(by rw [HBL.out]; exact hlt) by simp [List.getD, HBL.out, hlt]] at hst
      obtain ⟨x, hx⟩ : ∃ x, a[k] = x := ⟨_, rfl⟩
      obtain ⟨y, hy⟩ : ∃ y, b[k]'(by rw [HBL.out]; exact hlt) = y := ⟨_, rfl⟩
      rw [hx] at c1 hst
      rw [hy] at c2 hst
      have HST := Lib.hid hst
      have HYA := Lib.hid hya
      have d0 : (0 : Int) ≤ k := by omega
      have d1 : (k : Int) < a.length := by omega
      have HLT := Lib.hid hlt
      clear hx hy hst hya
      obtain rfl := HYA.out
      by_cases hxy : x = y
      · have h := HST.out
        rw [if_pos (by rw [hxy]; exact beq_self_eq_true _)] at h
        have HS2 := Lib.hid h
        clear h
        subst hxy
        go_wp2
        go_quiet (fail)
        go_wp2
        go_roundw
        case rel => exact ⟨k + 1, by have := HLT.out; omega, by go_num, Lib.hid ⟨⟨_, rfl⟩, HS2.out⟩⟩
        case measure => have := HLT.out; simp [intOf]; omega
      · have h := HST.out
        rw [if_neg (by rw [beq_iff_eq]; exact hxy)] at h
        have HS2 := Lib.hid h
        have e1 : (x != y) = true := bne_iff_ne.2 hxy
        clear h hxy
        obtain ⟨q, hq⟩ : ∃ q, decide (x < y) = q := ⟨_, rfl⟩
        rw [hq] at HS2
        cases q
        all_goals
          go_wp2
          go_quiet (fail)
          go_wp2
          go_quiet (fail)
          go_wp2
          go_ret
          exact ⟨ret_bool HS2.out, drew3 _ _ _ _⟩
    · obtain rfl : k = a.length := by omega
      have h := HW.out.2
      rw [Nat.sub_self] at h
      have HE := Lib.hid (show lessB a b = false from h.symm)
      clear h
      go_wp2
      go_ret
      exact ⟨ret_bool HE.out.symm, nw, rfl⟩
end Go.Proofs.Ytokjghfpdolojaa

/- The contract of next (layer 4): the order of places that comes behind one. -/
import Derived.Test.YtokjghfpdolojaaEo
import Derived.ArgAppend
import Derived.Deep.RegionHeld3
import Derived.Test.YtokjghfpdolojaaEm
namespace Go.Proofs.Ytokjghfpdolojaa
open Go.RowKit

def NoNext (w : World) (e : Ending) (w' : World) : Prop := e = .returned (.tuple #[.slice none 0 0, .bool false]) ∧ ∃ n, w' = w.drewN n
/-- A list that falls all the way. -/
def Falls (p : List Int) (k : Nat) : Prop := ∀ j (h : j + 1 < p.length), k ≤ j → p[j + 1] < p[j]
set_option maxRecDepth 100000 in
set_option maxHeartbeats 4000000 in
theorem next_none {v : Value} {p : List Int} {w : World} (hv : IntsAt w v p) (hp : p.length ≤ 1000) (hf : Falls p 0) : Calls Try.prog 26 #[v] w (NoNext w) := by
  obtain ⟨xa, xc, rfl⟩ := hv.form
  have HV := Lib.hid hv
  have HF := Lib.hid hf
  clear hv hf
  go_enter Try.func26, Try.ntmps26
  go_wp2
  go_loopw [4] (fun i wr => ∃ z : Int, -2 ≤ z ∧ z + 2 ≤ p.length ∧ i = .int .i64 z ∧ Hid (∃ n, wr = w.drewN n)) (fun i _ => (intOf i + 2).toNat)
  case atStart => exact ⟨_, by omega, by omega, rfl, Lib.hid ⟨0, rfl⟩⟩
  case round =>
    obtain ⟨z, hz, hz2, rfl, HW⟩ := hrel
    obtain ⟨nw, hnw⟩ := HW.out
    subst hnw
    by_cases h0 : 0 ≤ z
    · obtain ⟨k, rfl⟩ : ∃ k : Nat, z = (k : Int) := ⟨z.toNat, by omega⟩
      have hk : k + 1 < p.length := by omega
      obtain ⟨b, off, hxa, _, c1⟩ := HV.out.at k (by omega)
      obtain ⟨b', off', hxb, _, c2⟩ := HV.out.at (k + 1) hk
      rw [hxa] at hxb
      injection hxb with hxb
      injection hxb with hb ho
      subst hb; subst ho
      have hlt := HF.out k hk (Nat.zero_le _)
      obtain ⟨x, hx⟩ : ∃ x, p[k] = x := ⟨_, rfl⟩
      obtain ⟨y, hy⟩ : ∃ y, p[k + 1] = y := ⟨_, rfl⟩
      rw [hx] at c1 hlt
      rw [hy] at c2 hlt
      have e0 : decide (0 ≤ (k : Int)) = true := decide_eq_true (by omega)
      have e1 : decide (y < x) = true := decide_eq_true hlt
      have hwr : IntKind.i64.wrap ((k : Int) + 1) = (k : Int) + 1 := IntWalk.i64_in _ (by omega)
      have d0 : (0 : Int) ≤ k := by omega
      have d1 : (k : Int) + 1 < p.length := by omega
      have dn : ((k : Int) + 1).toNat = k + 1 := by omega
      clear hx hy hlt
      subst hxa
      go_wp2
      go_quiet (fail)
      clear hwr dn
      go_wp2
      go_roundw
      case rel => exact ⟨_, by omega, by omega, rfl, Lib.hid ⟨_, rfl⟩⟩
      case measure => simp [intOf]; omega
    · have e0 : decide (0 ≤ z) = false := decide_eq_false h0
      have e2 : decide (z < 0) = true := decide_eq_true (by omega)
      go_wp2
      go_quiet (fail)
      go_wp2
      go_ret2
      exact ⟨rfl, _, rfl⟩

theorem ints_tail {w : World} {b off cap k : Nat} {l : List Int} (h : IntsAt w (.slice (some ⟨b, off, none⟩) l.length cap) l) (hk : k < l.length) : IntsAt w (.slice (some ⟨b, off + k, none⟩) (l.length - k) (cap - k)) (l.drop k) := by
  obtain ⟨b', off', h1, hlt, _⟩ := h.at k hk
  injection h1 with h1
  injection h1 with hb ho
  subst hb; subst ho
  refine .inr ⟨b, off + k, cap - k, by rw [intsV_len, List.length_drop], hlt, fun i hi => ?_⟩
  rw [intsV_len, List.length_drop] at hi
  obtain ⟨b2, off2, h2, _, hc⟩ := h.at (k + i) (by omega)
  injection h2 with h2
  injection h2 with hb ho
  subst hb; subst ho
  rw [show off + k + i = off + (k + i) by omega, hc]
  simp [intsV]
theorem head_cells {w : World} {b off cap z : Nat} {l : List Int} (h : IntsAt w (.slice (some ⟨b, off, none⟩) l.length cap) l) : ∀ j u, (intsV (l.take z))[j]? = some u → w.cell? ((⟨b, off, none⟩ : Addr).add j) = some u := by
  intro j u hu
  obtain ⟨hj, rfl⟩ := List.getElem?_eq_some_iff.1 hu
  have hj' : j < z ∧ j < l.length := by simp [intsV] at hj; omega
  obtain ⟨b2, off2, h2, _, hc⟩ := h.at j hj'.2
  injection h2 with h2
  injection h2 with hb ho
  subst hb; subst ho
  rw [addr_at, hc]
  simp [intsV]
theorem below_grown {w w' : World} (hg : w.grownBy w' none) : Below w.heap.size w w' := (Below.refl _ _).grown hg (Nat.le_refl _) (fun k e => by cases e)
theorem keepP {A w1 w2 : World} {a : Addr} {v : Value} (hb : Below w1.heap.size w1 w2) (h : Below A.heap.size A w1 ∧ w1.cell? a = some v) : Below A.heap.size A w2 ∧ w2.cell? a = some v := ⟨stepB h.1 hb, cell_stays hb h.2⟩
/-- A slice that shows a list, its room known. -/
def RoomAt (w : World) (v : Value) (p : List Int) : Prop := (∃ b off cap, v = .slice (some ⟨b, off, none⟩) p.length cap ∧ p.length ≤ cap) ∧ IntsAt w v p ∧ ∃ b off n cap C fr, v = .slice (some ⟨b, off, none⟩) n cap ∧ w.heap[b]? = some (.cells C 3 fr)
theorem room_own {w : World} {base n : Nat} {v : Value} {q : List Int} (h : w.ownsRow base 3 1 v n (intsV q)) (hn : q.length = n) (h0 : 0 < n) : RoomAt w v q := by
  have hv := own_vals h (by rw [intsV_len]; exact hn)
  rcases h.2 with ⟨_, h2⟩ | ⟨g, cap, cur, h1, _, hg, h3, _⟩
  · omega
  · exact ⟨⟨g, 0, cap, by rw [h1, hn], by omega⟩, hv, g, 0, n, cap, cur, (0, 0), h1, hg⟩
theorem row_head {w : World} {g cap : Nat} {l m : List Int} (h : RowAt w g 3 (intsV (l ++ m))) : IntsAt w (.slice (some ⟨g, 0, none⟩) l.length cap) l :=
  .inr ⟨g, 0, cap, by rw [intsV_len], h.lt, fun i hi => by
    have hi' : i < l.length := by rwa [intsV_len] at hi
    rw [Nat.zero_add, h.cell i (by rw [intsV_len, List.length_append]; omega)]
    simp [intsV, hi']⟩
theorem append_full {w : World} {ad a2 : Addr} {k : Nat} {l : List Int} {x : Int} (hl : l.length = k) (hk : k ≤ 1000) (hc : ∀ j u, (intsV l)[j]? = some u → w.cell? (ad.add j) = some u) (hx : w.cell? a2 = some (.int .i64 x)) (ha2 : a2.add 0 = a2) :
    ∃ v' w', (Builtin.append_ #[22, 22] 22 #[.slice (some ad) k k, .slice (some a2) 1 1]).run Try.prog w = .ok v' w' ∧ w'.ownsRow w.heap.size 3 1 v' (k + 1) (intsV (l ++ [x])) ∧ w.grownBy w' none := by
  obtain ⟨i0, hi0, hz0, hz1, hz2⟩ := info_parts info_int
  obtain ⟨v', w', h1, h2, h3⟩ := run_append_arg_grows (P := Try.prog) w 22 22 3 i0 _ 1 8 Try.underlying22 hi0 hz0 hz1 hz2 rfl (by decide) ad k k (intsV l) (by rw [intsV_len]; omega) hc a2 1 1 [.int .i64 x] rfl (fun j u hj => by
    cases j with
    | zero => simp at hj; subst hj; rw [ha2]; exact hx
    | succ j => simp at hj) (by omega) (by unfold maxLen; omega) (by omega)
  exact ⟨v', w', h1, by unfold intsV at h2 ⊢; rw [List.map_append]; exact h2, h3⟩
theorem step_append_run {P : Program} {ops : Array Oper} {o : Oper} {a : Act} {w : World} {K : Act → World → Prop} {Q : Exit → Act → World → Prop} {E : Prop} (hgd : o.guard = none) (s x : Operand) (T : TypeId)
    (ho : o.op = .call { callee := .builtin .append, args := #[s, x], argTypes := #[T, T] }) (v u : Value) (hs : a.eval s = v) (hx : a.eval x = u) (R : Value → World → Prop)
    (hrun : ∃ v' w', (Builtin.append_ #[T, T] o.type #[v, u]).run P w = .ok v' w' ∧ R v' w') (h : ∀ v' w', R v' w' → K (a.put o.dst v') w') :
    if Region.wanted o (yielded ops a.tmps) = true then Oper.wp P o a w K Q else E := by
  have hw : Region.wanted o (yielded ops a.tmps) = true := by simp [Region.wanted, hgd]
  rw [if_pos hw]
  obtain ⟨v', w', h1, h2⟩ := hrun
  subst hs; subst hx
  unfold Oper.wp
  simp [execOp, ho, resolve, invoke, builtin, h1, Result.andThen]
  exact h v' w' h2

/-- The order that comes behind: the first places stay, the next one gives way to what stands above it, the others begin anew. -/
def nextL (p R : List Int) (k i : Nat) : List Int := p.take k ++ [R.getD (i + 1) 0] ++ (R.take (i + 1) ++ R.drop (i + 2))
def NextTo (w : World) (q : List Int) (e : Ending) (w' : World) : Prop := ∃ v', e = .returned (.tuple #[v', .bool true]) ∧ RoomAt w' v' q ∧ Below w.heap.size w w'
set_option maxRecDepth 100000 in
set_option maxHeartbeats 8000000 in
theorem next_some {v : Value} {p : List Int} {w : World} (hv : RoomAt w v p) (hp : p.length ≤ 500) {k i : Nat} (hk : k + 1 < p.length) (hlt : p[k] < p[k + 1]) (hf : Falls p (k + 1)) {R : List Int} (hR : sortI (p.drop k) = R)
    (hi : i + 1 < R.length) (hx : R.getD i 0 = p[k]) (hne : ∀ j, j < i → R.getD j 0 ≠ p[k]) : Calls Try.prog 26 #[v] w (NextTo w (nextL p R k i)) := by
  obtain ⟨⟨b, off, cap, rfl, hcap⟩, hv, _⟩ := hv
  have HV := Lib.hid hv
  have HF := Lib.hid hf
  have HR := Lib.hid hR
  have HX := Lib.hid hx
  have HNE := Lib.hid hne
  have HLT := Lib.hid hlt
  have hRl : R.length = p.length - k := by rw [← hR, sortI_len, List.length_drop]
  have hkc : ¬ cap = k := by omega
  clear hv hf hR hx hne hlt
  go_enter Try.func26, Try.ntmps26
  go_wp2
  go_loopw [4] (fun i wr => ∃ z : Nat, k ≤ z ∧ z + 1 < p.length ∧ i = .int .i64 z ∧ Hid (∃ n, wr = w.drewN n)) (fun i _ => (intOf i).toNat)
  case atStart => exact ⟨p.length - 2, by omega, by omega, by congr 1; omega, Lib.hid ⟨0, rfl⟩⟩
  case round =>
    obtain ⟨z, hz, hz2, rfl, HW⟩ := hrel
    obtain ⟨nw, hnw⟩ := HW.out
    subst hnw
    obtain ⟨b1, off1, hxa, _, c1⟩ := HV.out.at z (by omega)
    injection hxa with hxa
    injection hxa with hb ho
    subst hb; subst ho
    obtain ⟨b1, off1, hxa, _, c2⟩ := HV.out.at (z + 1) hz2
    injection hxa with hxa
    injection hxa with hb ho
    subst hb; subst ho
    have e0 : decide (0 ≤ (z : Int)) = true := decide_eq_true (by omega)
    have hwr : IntKind.i64.wrap ((z : Int) + 1) = (z : Int) + 1 := IntWalk.i64_in _ (by omega)
    have d0 : (0 : Int) ≤ z := by omega
    have d1 : (z : Int) + 1 < p.length := by omega
    by_cases hzk : k < z
    · have hlt := HF.out z hz2 hzk
      obtain ⟨x, hx⟩ : ∃ x, p[z] = x := ⟨_, rfl⟩
      obtain ⟨y, hy⟩ : ∃ y, p[z + 1] = y := ⟨_, rfl⟩
      rw [hx] at c1 hlt
      rw [hy] at c2 hlt
      have e1 : decide (y < x) = true := decide_eq_true hlt
      have dn : ((z : Int) + 1).toNat = z + 1 := by omega
      clear hx hy hlt
      go_wp2
      go_quiet (fail)
      clear hwr dn
      go_wp2
      go_roundw
      case rel => exact ⟨z - 1, by omega, by omega, by congr 1; omega, Lib.hid ⟨_, rfl⟩⟩
      case measure => simp [intOf]; omega
    · obtain rfl : z = k := by omega
      have hlt := HLT.out
      obtain ⟨x, hx⟩ : ∃ x, p[z] = x := ⟨_, rfl⟩
      obtain ⟨y, hy⟩ : ∃ y, p[z + 1] = y := ⟨_, rfl⟩
      have HXE := Lib.hid (show p.getD z 0 = x by rw [← hx]; simp [List.getD, show z < p.length by omega])
      rw [hx] at c1 hlt
      rw [hy] at c2 hlt
      have e1 : decide (y < x) = false := decide_eq_false (by omega)
      have e2 : decide ((z : Int) < 0) = false := decide_eq_false (by omega)
      have z1 : (z : Int) ≤ p.length := by omega
      have z2 : z ≤ p.length := by omega
      have z3 : (p.length : Int) ≤ cap := by omega
      have dn : ((z : Int) + 1).toNat = z + 1 := by omega
      clear hx hy hlt
      go_wp2
      go_quiet (fail)
      clear hwr dn
      obtain ⟨w0, hw0⟩ : ∃ w0, (w.drewN nw).drewN nq = w0 := ⟨_, rfl⟩
      have HB0 := Lib.hid (show Below w.heap.size w w0 by rw [← hw0]; exact below_drewN (below_drewN (Below.refl _ _) nw) nq)
      rw [hw0]
      clear hw0 HW
      have HV0 := Lib.hid (HV.out.later HB0.out)
      have c10 := cell_stays HB0.out c1
      clear c1 c2
      obtain ⟨D, hD⟩ : ∃ D, p.drop z = D := ⟨_, rfl⟩
      have hDl : D.length = p.length - z := by rw [← hD, List.length_drop]
      have HOWN := Lib.hid (own_nums (l := D) (by rw [← hD]; exact ints_tail HV0.out (by omega)) (by omega))
      unfold RetNums at HOWN
      rw [hDl] at HOWN
      rw [hD] at HR
      have HDL := Lib.hid hDl
      have HRL := Lib.hid hRl
      clear hD hDl hRl
      go_wp2_with fail
      refine (HOWN.out).mono ?_
      rintro e w1 ⟨rfl, hr1, hb1⟩
      have HR1 := Lib.hid hr1
      have HB1 := Lib.hid (stepB HB0.out hb1)
      have c11 := cell_stays hb1 c10
      have HG0 := Lib.hid (show w.heap.size ≤ w0.heap.size from HB0.out.size)
      have hsort := sort_row (cap := p.length - z) HR1.out (by have := HDL.out; omega)
      rw [HDL.out, HR.out] at hsort
      have HSORT := Lib.hid hsort
      clear hr1 hb1 c10 HOWN hsort
      go_wp2_with fail
      refine (HSORT.out).mono ?_
      rintro e w2 ⟨rfl, hr2, hg2⟩
      have hbw0 := World.block_lt_of_cell? _ _ c11
      have HR2 := Lib.hid hr2
      have HB2 := Lib.hid (grown_to HB1.out hg2 HG0.out)
      have HV2 := Lib.hid (HV.out.later HB2.out)
      obtain ⟨b3, off3, hxa, hb3, c12⟩ := HV2.out.at z (by omega)
      injection hxa with hxa
      injection hxa with hb ho
      subst hb; subst ho
      rw [show p[z]'(by omega) = p.getD z 0 by simp [List.getD, show z < p.length by omega], HXE.out] at c12
      have hidx := index_row (cap := p.length - z) (k := i) (x := x) HR2.out (by have := HRL.out; omega) (by omega) (by rw [HX.out, ← HXE.out]; simp [List.getD, show z < p.length by omega]) (fun j hj => by
        have := HNE.out j hj
        rw [show p[z]'(by omega) = p.getD z 0 by simp [List.getD, show z < p.length by omega], HXE.out] at this
        exact this)
      rw [HRL.out] at hidx
      have HIDX := Lib.hid hidx
      clear hr2 hg2 c11 hidx HSORT
      go_wp2_with fail
      refine (HIDX.out).mono ?_
      rintro e w3 ⟨rfl, rfl⟩
      obtain ⟨y2, hy2⟩ : ∃ y2, R.getD (i + 1) 0 = y2 := ⟨_, rfl⟩
      have c20 := HR2.out.cell (i + 1) (by rw [intsV_len]; exact hi)
      rw [show (intsV R)[i + 1]'(by rw [intsV_len]; exact hi) = .int .i64 y2 by rw [← hy2]; simp [intsV, List.getD, hi]] at c20
      have HY2 := Lib.hid hy2
      have i0 : (0 : Int) ≤ i := by omega
      have i1 : (i : Int) + 1 < ((p.length - z : Nat) : Int) := by have := HRL.out; omega
      have i2 : i + 1 < p.length - z := by have := HRL.out; omega
      have hcz : z ≤ cap := by omega
      have i3 : (0 : Int) ≤ (i : Int) + 1 := by omega
      have i4 : ((i : Int) + 1).toNat = i + 1 := by omega
      have i5 : IntKind.i64.wrap ((i : Int) + 1) = (i : Int) + 1 := IntWalk.i64_in _ (by omega)
      have hpl : (p.take z).length = z := by rw [List.length_take]; omega
      clear hy2
      go_wp2
      go_region_held3 (fun w' => Below w2.heap.size w2 w' ∧ w'.cell? ⟨w0.heap.size, i + 1, none⟩ = some (.int .i64 y2))
        (first | assumption | exact ⟨(Below.refl _ _).drew, c20⟩ | exact keepP (by assumption) (by assumption) | exact keepP (below_new _ _) (by assumption))
        ((refine step_append_run (by rfl) _ _ 22 (by rfl) _ _ (by rfl) (by rfl) _ (append_full (l := p.take z) hpl (by omega) (head_cells (HV2.out.later (And.left (by assumption)))) (by simp [go_sem]; rfl) rfl) ?_; intro v4 w4 hvw; have hbg := below_grown (And.right hvw)))
      obtain ⟨hown4, hgr4⟩ := hvw
      have hB24 : Below w2.heap.size w2 w4 := And.left (by assumption)
      have HB4 := Lib.hid hB24
      have HO4 := Lib.hid hown4
      have hdel := delete_row (cap := p.length - z) (i := i + 1) (HR2.out.later hB24) (by have := HRL.out; omega) (by omega) hi
      have HG24 := Lib.hid (show w0.heap.size < w2.heap.size from HR2.out.lt)
      have hcast : ((i + 1 : Nat) : Int) = (i : Int) + 1 := by omega
      rw [HRL.out, hcast] at hdel
      have HDEL := Lib.hid hdel
      have E : ∃ E, R.take (i + 1) ++ R.drop (i + 1 + 1) = E := ⟨_, rfl⟩
      obtain ⟨E, hE⟩ := E
      have HEL := Lib.hid (show E.length = p.length - z - 1 by rw [← hE, List.length_append, List.length_take, List.length_drop]; have := HRL.out; omega)
      rw [hE] at HDEL
      have HE := Lib.hid hE
      have HSZ4 := Lib.hid hgr4.size
      clear hdel hcast hown4 hgr4 hB24 hbg hE c20
      go_wp2_with fail
      refine (HDEL.out).mono ?_
      rintro e w5 ⟨rfl, hr5, hg5⟩
      have HR5 := Lib.hid hr5
      have HB5 := Lib.hid (grown_to (stepB HB2.out HB4.out) hg5 (show w.heap.size ≤ w0.heap.size from HG0.out))
      have HO5 := Lib.hid (HO4.out.kept hg5 (by
        cases hb : v4.ownBlock with
        | none => exact .inl rfl
        | some g => exact .inr (fun e => by
            have h1 := (HO4.out.lt g hb).1
            have h2 := HG24.out
            injection e with e
            simp at h1
            omega)))
      have hHI : IntsAt w5 (.slice (some ⟨w0.heap.size, 0, none⟩) (p.length - z - 1) (p.length - z)) E := by
        have := row_head (cap := p.length - z) (l := E) (m := [0]) HR5.out
        rw [HEL.out] at this
        exact this
      have HI5 := Lib.hid hHI
      have HS5 := Lib.hid (show (w2.alloc (.cells #[.int .i64 y2] 3)).drew.heap.size ≤ w5.heap.size from by
        have h1 := (show (w2.alloc (.cells #[.int .i64 y2] 3)).drew.heap.size ≤ w4.heap.size from HSZ4.out)
        exact Nat.le_trans h1 hg5.size)
      clear hr5 hg5 hHI HO4 HDEL
      go_wp2_with (at_builtin; refine wpList_append_ints rfl _ _ rfl rfl _ v4 (z + 1) _ rfl HO5.out _ _ _ E rfl HEL.out.symm HI5.out (by have := HEL.out; omega) HS5.out ?f9)
      case f9 =>
        intro v6 w6 hown6 hgrow6 _
        have HO6 := Lib.hid hown6
        have HB6 := Lib.hid (HB5.out.grown hgrow6 HB5.out.size (fun g e => by have h1 := (HO5.out.lt g e).1; have h2 := HB2.out.size; simp at h1; omega))
        clear hown6 hgrow6
        go_wp2
        go_ret2
        refine ⟨v6, rfl, room_own (base := w2.heap.size + 1) (n := z + 1 + E.length) ?_ ?_ (by omega), HB6.out⟩
        · have h := HO6.out
          have e1 : intsV (nextL p R z i) = intsV (p.take z ++ [y2]) ++ intsV E := by
            unfold nextL intsV
            rw [HY2.out, ← HE.out, List.map_append]
          rw [e1]
          exact h
        · unfold nextL
          rw [HY2.out, HE.out, List.length_append, List.length_append, hpl, List.length_singleton]
end Go.Proofs.Ytokjghfpdolojaa

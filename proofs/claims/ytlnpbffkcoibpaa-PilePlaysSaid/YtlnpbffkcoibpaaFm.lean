/- The law PilePlays (layer 5), walked: for every list of numbers and of calls it returns true, and only new memory is made. -/
import Derived.Test.YtlnpbffkcoibpaaFl
import Derived.Deep.QuietTactic
import Derived.Deep.RegionHeld3
import Derived.Deep.RegionLaw
import Derived.Deep.RegionLawGrows
import Derived.Deep.Cut
import Derived.Deep.CutBlock
import Derived.Deep.DeepCutAuto
namespace Go.Proofs.Ytlnpbffkcoibpaa
open Go.RowKit

def boxO (o : OpL) : Obj := .cells #[.int .i64 o.k, .int .i64 o.x, .bool o.u] 29 (0, 0)
theorem list_nodup_bd {A B : List Int} {n : Nat} (h : A.Nodup ∧ B.Nodup ∧ A.length ≤ n ∧ B.length ≤ n) : A.length ≤ n ∧ B.length ≤ n := ⟨h.2.2.1, h.2.2.2⟩
/-- A list in a box: what the law's first loop holds. -/
def FirstL (w3 wr : World) (v : Value) (n : Nat) (L : List Int) : Prop :=
  wr.heap[w3.heap.size]? = some (.cells #[v] 22 (0, 0)) ∧ wr.heap[w3.heap.size + 1]? = some (.cells #[.slice none 0 0] 22 (0, 0)) ∧ L.length = n ∧ wr.ownsRow (w3.heap.size + 2) 3 1 v n (intsV L) ∧ Below w3.heap.size w3 wr
theorem FirstL.put {w3 wr w5 : World} {v v' : Value} {n n' : Nat} {L L' : List Int} {o : Obj} (h : FirstL w3 wr v n L) (hg : (wr.alloc o).grownBy w5 v.ownBlock) (hown : w5.ownsRow (w3.heap.size + 2) 3 1 v' n' (intsV L')) (hn : L'.length = n') :
    FirstL w3 (w5.setCell ⟨w3.heap.size, 0, none⟩ v') v' n' L' := by
  obtain ⟨h1, h2, _, h4, h5⟩ := h
  have l1 := (Array.getElem?_eq_some_iff.1 h1).1
  have l2 := (Array.getElem?_eq_some_iff.1 h2).1
  have hv := fun k (hk : v.ownBlock = some k) => (World.ownsRow.lt h4 k hk).1
  have hv' := fun k (hk : v'.ownBlock = some k) => (World.ownsRow.lt hown k hk).1
  have k1 : ∀ k, k < wr.heap.size → k < w3.heap.size + 2 → w5.heap[k]? = wr.heap[k]? := fun k hk hk2 => (hg.block k (by simp; omega) (fun e => by have := hv k e.symm; omega)).trans ((below_new wr o).block k hk)
  refine ⟨?_, ?_, hn, own_set hown (fun e => by have := hv' _ e; omega), ⟨?_, ?_, ?_, ?_, fun k hk => ?_⟩⟩
  · rw [heap_setCell_same w5 w3.heap.size 0 _ _ v' ((k1 _ l1 (by omega)).trans h1)]; rfl
  · rw [heap_setCell_other w5 ⟨w3.heap.size, 0, none⟩ (w3.heap.size + 1) v' (by show w3.heap.size + 1 ≠ w3.heap.size; omega)]
    exact (k1 _ l2 (by omega)).trans h2
  · exact hg.os.trans h5.os
  · exact hg.tape.trans h5.tape
  · exact hg.output.trans h5.output
  · have := hg.size; have := h5.size; simp at *; omega
  · rw [heap_setCell_other w5 ⟨w3.heap.size, 0, none⟩ k v' (by show k ≠ w3.heap.size; omega), k1 k (by omega) (by omega)]
    exact h5.block k hk
theorem place_at {A : List Int} {q : Nat} (h : A.Nodup) (hq : q < A.length) : placeL A A[q] = (q : Int) := by
  unfold placeL
  rw [if_pos (List.getElem_mem hq)]
  congr 1
  exact h.idxOf_getElem q hq
theorem keepPP {w w1 w2 : World} {ca cb ob : Nat} {x y z : Value} (h : Below w.heap.size w w1 ∧ w1.cell? ⟨ca, 0, none⟩ = some x ∧ w1.cell? ⟨cb, 0, none⟩ = some y ∧ w1.cell? ⟨ob, 1, none⟩ = some z) (hb : Below w1.heap.size w1 w2) :
    Below w.heap.size w w2 ∧ w2.cell? ⟨ca, 0, none⟩ = some x ∧ w2.cell? ⟨cb, 0, none⟩ = some y ∧ w2.cell? ⟨ob, 1, none⟩ = some z := ⟨stepB h.1 hb, cell_stays hb h.2.1, cell_stays hb h.2.2.1, cell_stays hb h.2.2.2⟩
/-- A statement that is kept as it is. -/
structure Held (p : Prop) : Prop where out : p
set_option maxRecDepth 100000 in
set_option maxHeartbeats 80000000 in
/-- The law's walk, but for its parts: their statements, and the walk out of them. -/
noncomputable def plays_cut : Σ' (P0 P1 P2 P3 P4 P5 P6 P7 P8 P9 P10 P11 P12 P13 P14 P15 P16 : Prop), Held P0 → Held P1 → Held P2 → Held P3 → Held P4 → Held P5 → Held P6 → Held P7 → Held P8 → Held P9 → Held P10 → Held P11 → Held P12 → Held P13 → Held P14 → Held P15 → Held P16 → ∀ (u v : Value) (l : List Int) (m : List OpL) (w : World) (_hu : IntsAt w u l) (_hv : OpsAt w v m) (_hl : l.length ≤ 9223372036854775807) (_hm : m.length ≤ 9223372036854775807), Calls Try.prog 3 #[u, v] w (RetV w (.bool true)) := by
  apply PSigma.mk; apply PSigma.mk; apply PSigma.mk; apply PSigma.mk; apply PSigma.mk; apply PSigma.mk; apply PSigma.mk; apply PSigma.mk; apply PSigma.mk; apply PSigma.mk; apply PSigma.mk; apply PSigma.mk; apply PSigma.mk; apply PSigma.mk; apply PSigma.mk; apply PSigma.mk; apply PSigma.mk
  · intro cK0 cK1 cK2 cK3 cK4noA cK4noB cK4noC cK4yt cK4yf cK5noA cK5noB cK5noC cK5yt cK5yf cREST cREST2 cEND
    intro u v l m w hu hv hl hm
    obtain ⟨ya, yc, rfl⟩ := hu.form
    obtain ⟨za, zc, rfl⟩ := hv.form
    have HU := Lib.hid hu
    have HV := Lib.hid hv
    clear hu hv
    by_cases hg : 60 < l.length
    · have b1 : decide ((60 : Int) < l.length) = true := decide_eq_true (by omega)
      go_enter Try.func3, Try.ntmps3
      go_wp2_with fail
      refine (awake5_any _).mono ?_
      rintro e w1 ⟨rfl, hb1⟩
      go_wp2
      go_ret
      exact ⟨rfl, hb1⟩
    have b1 : decide ((60 : Int) < l.length) = false := decide_eq_false (by omega)
    have l1 : l.length ≤ 60 := by omega
    by_cases hg2 : 100 < m.length
    · have b2 : decide ((100 : Int) < m.length) = true := decide_eq_true (by omega)
      go_enter Try.func3, Try.ntmps3
      go_wp2_with fail
      refine (awake5_any _).mono ?_
      rintro e w1 ⟨rfl, hb1⟩
      go_wp2
      go_ret
      exact ⟨rfl, hb1⟩
    have b2 : decide ((100 : Int) < m.length) = false := decide_eq_false (by omega)
    have m1 : m.length ≤ 100 := by omega
    clear hg hg2
    go_enter Try.func3, Try.ntmps3
    go_wp2_with fail
    refine (awake5_any _).mono ?_
    rintro e w1 ⟨rfl, hb1⟩
    have HB1 := Lib.hid hb1
    have HN1 := Lib.hid (new_any (HU.out.later hb1) (by omega))
    clear hb1
    go_wp2_with fail
    refine HN1.out.mono ?_
    rintro e w2 ⟨b, g, rfl, hp2, hb2⟩
    have HP2 := Lib.hid hp2
    have HB2 := Lib.hid (stepB HB1.out hb2)
    clear hp2 hb2
    go_wp2_with fail
    refine (new_any (v := .slice none 0 0) (l := []) (w := w2) (.inl ⟨none, 0, rfl, rfl⟩) (by decide)).mono ?_
    rw [show onceL [] = [] from rfl]
    rintro e w3 ⟨b', g', rfl, hp3, hb3⟩
    have HP3 := Lib.hid hp3
    have HB3 := Lib.hid (stepB HB2.out hb3)
    have HP23 := Lib.hid (HP2.out.later hb3)
    clear hp3 hb3
    go_wp2
    go_loopw [46] (fun i wr => ∃ (k n : Nat) (xa : Option Addr) (xc : Nat), k ≤ l.length ∧ n ≤ k ∧ i = .int .i64 k ∧ Hid (FirstL w3 wr (.slice xa n xc) n (onceL (l.take k)))) (fun i _ => l.length - (intOf i).toNat)
    case atStart =>
      refine ⟨0, 0, none, 0, Nat.zero_le _, Nat.zero_le _, rfl, Lib.hid ⟨?_, ?_, rfl, World.ownsRow_nil _ _ _ _, ((Below.refl _ _).alloc (Nat.le_refl _) _).alloc (by simp) _⟩⟩
      · exact ((below_new (w3.alloc (.cells #[.slice none 0 0] 22)) _).block w3.heap.size (by simp)).trans (heap_alloc_new w3 _)
      · have h := heap_alloc_new (w3.alloc (.cells #[.slice none 0 0] 22)) (.cells #[.slice none 0 0] 22)
        rw [World.size_alloc] at h
        exact h
    case round =>
      obtain ⟨k, n, xa, xc, hk, hnk, rfl, HF⟩ := hrel
      by_cases hlt : k < l.length
      · obtain ⟨r, off, hya, _, c0⟩ := (HU.out.later (stepB HB3.out HF.out.2.2.2.2)).at k hlt
        have htk := take_last l k hlt
        obtain ⟨y, hy⟩ : ∃ y, l[k] = y := ⟨_, rfl⟩
        rw [hy] at c0 htk
        have hst := onceL_snoc (l.take k) y
        rw [← htk] at hst
        have hh := hasRef_any y (own_ints HF.out.2.2.2.1) (by have := HF.out.2.2.1; omega)
        have ca : wr.cell? ⟨w3.heap.size, 0, none⟩ = some (.slice xa n xc) := by rw [cell_of_row wr _ 0 _ _ _ HF.out.1]; rfl
        subst hya
        by_cases hyx : y ∈ onceL (l.take k)
        · have HE := Lib.hid (show onceL (l.take (k + 1)) = onceL (l.take k) by rw [hst]; exact if_pos hyx)
          rw [decide_eq_true hyx] at hh
          have HH := Lib.hid hh
          clear hy htk hst hyx hh
          go_wp2_with fail
          refine HH.out.mono ?_
          rintro e w4 ⟨rfl, rfl⟩
          go_wp2
          go_roundw
          case rel => exact ⟨k + 1, n, xa, xc, by omega, by omega, by go_num, Lib.hid (by rw [HE.out]; exact HF.out)⟩
          case measure => simp [intOf]; omega
        · have HE := Lib.hid (show onceL (l.take (k + 1)) = onceL (l.take k) ++ [y] by rw [hst, ← ins_end]; exact if_neg hyx)
          rw [decide_eq_false hyx] at hh
          have HH := Lib.hid hh
          have hl2 : w3.heap.size + 1 < wr.heap.size := (Array.getElem?_eq_some_iff.1 HF.out.2.1).1
          clear hy htk hst hyx hh
          go_wp2_with fail
          refine HH.out.mono ?_
          rintro e w4 ⟨rfl, rfl⟩
          go_wp2_with (at_builtin; refine wpList_append_ints rfl _ _ rfl rfl (w3.heap.size + 2) _ _ (intsV (onceL (l.take k))) rfl (HF.out.2.2.2.1.alloc _) _ 1 1 [y] rfl rfl ((RowAt.new w4 3 (intsV [y])).vals 1) (by simp; omega) (by simp; omega) ?f)
          case f =>
            intro v' w5 hown hgrow _
            have HO5 := Lib.hid (show w5.ownsRow (w3.heap.size + 2) 3 1 v' (n + 1) (intsV (onceL (l.take (k + 1)))) from by
              rw [HE.out]; unfold intsV; rw [List.map_append]; exact hown)
            have HF5 := Lib.hid (HF.out.put hgrow HO5.out (by rw [HE.out, List.length_append, HF.out.2.2.1]; rfl))
            have hblk : w5.heap[w3.heap.size]? = some (.cells #[.slice xa n xc] 22 (0, 0)) := (hgrow.block w3.heap.size (by simp; omega) (fun e => by have := (World.ownsRow.lt HF.out.2.2.2.1 _ e.symm).1; omega)).trans (((below_new w4 _).block w3.heap.size (by omega)).trans HF.out.1)
            have c5 : w5.cell? ⟨w3.heap.size, 0, none⟩ = some (.slice xa n xc) := by rw [cell_of_row w5 _ 0 _ _ _ hblk]; rfl
            have f5 : w5.frozen? ⟨w3.heap.size, 0, none⟩ = false := frozen_of_row w5 _ 0 _ _ hblk
            obtain ⟨g', cap', rfl⟩ := ownsRow_succ hown
            clear hown hgrow hblk
            go_wp2
            go_roundw
            case rel => exact ⟨k + 1, n + 1, _, _, by omega, by omega, by go_num, HF5⟩
            case measure => simp [intOf]; omega
      · obtain rfl : k = l.length := by omega
        obtain ⟨wA, rfl⟩ : ∃ wA, wA = wr := ⟨_, rfl⟩
        have hT : Two wA w.heap.size b g b' g' w3.heap.size (w3.heap.size + 1) (onceL l) [] (onceL l) [] := by
          obtain ⟨h1, h2, h3, h4, h5⟩ := HF.out
          rw [List.take_length] at h4
          have p1 := HP23.out.lt
          have p2 := HP2.out.lt
          have p3 := HP3.out.lt
          have p4 := HP3.out.lo
          have s1 := HB1.out.size
          have s2 := HB2.out.size
          have s3 := HB3.out.size
          have r1 := HP2.out.row
          have r3 := HP3.out.row
          refine ⟨(HP23.out.later h5).mono (by omega), (HP3.out.later h5).mono (by omega), ⟨by omega, fun e => by have := r1 _ e; omega, fun e => by have := r3 _ e; omega, fun k hk hk' => by have := r1 k hk; have := r3 k hk'; omega⟩,
            ⟨by omega, by omega, by omega, by omega, by omega, by omega, by omega, fun e => by have := r1 _ e; have := HP23.out.row _ e; omega, fun e => by have := HP23.out.row _ e; omega, fun e => by have := r3 _ e; omega, fun e => by have := r3 _ e; omega⟩,
            _, _, h1, h2, own_ints h4, .inl ⟨none, 0, rfl, rfl⟩, ⟨own_cap h4, fun k hk => ?_⟩, ⟨fun _ _ _ e => by injection e with _ e1 e2; omega, fun k hk => by simp [Value.ownBlock] at hk⟩⟩
          have := World.ownsRow.lt h4 k hk
          exact ⟨this.2, by omega, fun e => by have := HP23.out.row _ e; omega, by omega, fun e => by have := r3 _ e; omega, by omega, by omega⟩
        have HT := Lib.hid hT
        have HBA := Lib.hid (stepB HB3.out HF.out.2.2.2.2)
        obtain ⟨ca, hca⟩ : ∃ ca, w3.heap.size = ca := ⟨_, rfl⟩
        obtain ⟨cb, hcb⟩ : ∃ cb, ca + 1 = cb := ⟨_, rfl⟩
        rw [hca, hcb] at HT
        rw [hca, hcb]
        clear hT HF HP3 HP23 HP2 HB1 HB2 HB3 HN1 hca hcb hlt
        go_wp2
        go_loopw [61] (fun i wr => ∃ (k : Nat) (gp gq : Option Nat) (A B : List Int), k ≤ m.length ∧ i = .int .i64 k ∧ Hid (Two wr w.heap.size b gp b' gq ca cb A B A B) ∧ Hid (A.Nodup ∧ B.Nodup ∧ A.length ≤ 60 + k ∧ B.length ≤ 60 + k) ∧ Hid (Below w.heap.size w wr)) (fun i _ => m.length - (intOf i).toNat)
        case atStart => exact ⟨0, g, g', onceL l, [], Nat.zero_le _, rfl, HT, Lib.hid ⟨once_nodup l, List.nodup_nil, by have := onceL_len l l.length; rw [List.take_length] at this; omega, by simp⟩, HBA⟩
        case round =>
          obtain ⟨k, gp, gq, A, B, hk', rfl, HTW, HNB, HBW⟩ := hrel
          by_cases hlt3 : k < m.length
          · obtain ⟨r, off, hza, hop⟩ := (HV.out.later HBW.out).at k hlt3
            obtain ⟨o, ho⟩ : ∃ o, m[k] = o := ⟨_, rfl⟩
            rw [ho] at hop
            obtain ⟨o0, o1, o2⟩ := hop
            subst hza
            clear ho
            go_upto_region 16 with fail
            obtain ⟨wo, hwo⟩ : ∃ wo, wr.alloc (boxO o) = wo := ⟨_, rfl⟩
            have hbo : Below wr.heap.size wr wo := hwo ▸ below_new wr _
            have HTO := Lib.hid (HTW.out.later hbo)
            have HBO := Lib.hid (stepB HBW.out hbo)
            obtain ⟨ob, hob⟩ : ∃ ob, wr.heap.size = ob := ⟨_, rfl⟩
            have HEO : Hid (Ext wo b gp b' gq ca cb ob (boxO o)) := Lib.hid (by
              obtain ⟨h1, h2, _, _, va, vb, h5, h6, _⟩ := HTW.out
              have l5 := (Array.getElem?_eq_some_iff.1 h5).1
              have l6 := (Array.getElem?_eq_some_iff.1 h6).1
              have := h1.lt
              have := h2.lt
              rw [← hwo, ← hob]
              exact ⟨heap_alloc_new wr _, by omega, by omega, by omega, by omega, fun e => by have := h1.row _ e; omega, fun e => by have := h2.row _ e; omega⟩)
            unfold boxO at hwo
            rw [hwo, hob]
            clear hbo hwo hob HTW HBW o0 o1 o2
            obtain ⟨va, vb, h5, h6, h7, h8, _, _⟩ := HTO.out.2.2.2.2
            have ca0 : wo.cell? ⟨ca, 0, none⟩ = some va := by rw [cell_of_row wo _ 0 _ _ _ h5]; rfl
            have cb0 : wo.cell? ⟨cb, 0, none⟩ = some vb := by rw [cell_of_row wo _ 0 _ _ _ h6]; rfl
            have o0 : wo.cell? ⟨ob, 0, none⟩ = some (.int .i64 o.k) := by rw [cell_of_row wo _ 0 _ _ _ HEO.out.1]; rfl
            have o1 : wo.cell? ⟨ob, 1, none⟩ = some (.int .i64 o.x) := by rw [cell_of_row wo _ 1 _ _ _ HEO.out.1]; rfl
            have o2 : wo.cell? ⟨ob, 2, none⟩ = some (.bool o.u) := by rw [cell_of_row wo _ 2 _ _ _ HEO.out.1]; rfl
            obtain ⟨ina, hina⟩ : ∃ x, decide (o.x ∈ A) = x := ⟨_, rfl⟩
            obtain ⟨inb, hinb⟩ : ∃ x, decide (o.x ∈ B) = x := ⟨_, rfl⟩
            have HQA := Lib.hid (fun n => (Calls.quiet_of_same ((hasRef_any o.x (h7.later (below_drewN (Below.refl _ _) n)) (by have := HNB.out.2.2.1; omega)).mono fun _ _ h => h) : Calls Try.prog 10 #[va, .int .i64 o.x] (wo.drewN n) fun e w'' => e = .returned (.bool (decide (o.x ∈ A))) ∧ ∃ m, w'' = wo.drewN m))
            have HQB := Lib.hid (fun n => (Calls.quiet_of_same ((hasRef_any o.x (h8.later (below_drewN (Below.refl _ _) n)) (by have := HNB.out.2.2.2; omega)).mono fun _ _ h => h) : Calls Try.prog 10 #[vb, .int .i64 o.x] (wo.drewN n) fun e w'' => e = .returned (.bool (decide (o.x ∈ B))) ∧ ∃ m, w'' = wo.drewN m))
            rw [hina] at HQA
            rw [hinb] at HQB
            have HINA := Lib.hid hina
            have HINB := Lib.hid hinb
            clear h5 h6 h7 h8 hina hinb
            go_quiet ((first | (with_reducible exact HQA.out _) | (with_reducible exact HQB.out _)))
            obtain ⟨wd, hwd⟩ : ∃ wd, wo.drewN nq = wd := ⟨_, rfl⟩
            have hbd : Below wo.heap.size wo wd := hwd ▸ below_drewN (Below.refl _ _) nq
            rw [hwd]
            have HTD := Lib.hid (HTO.out.later hbd)
            have HED := Lib.hid (HEO.out.later hbd)
            have HBD := Lib.hid (stepB HBO.out hbd)
            clear hbd hwd HTO HEO HBO HQA HQB ca0 cb0 o0 o1 o2
            have o0 : wd.cell? ⟨ob, 0, none⟩ = some (.int .i64 o.k) := by rw [cell_of_row wd _ 0 _ _ _ HED.out.1]; rfl
            go_upto_block 4 with fail
            clear o0
            go_cut [] (fun wx => ∃ (gp' gq' : Option Nat) (A' B' : List Int), Hid (Two wx w.heap.size b gp' b' gq' ca cb A' B' A' B') ∧ Hid (A'.Nodup ∧ B'.Nodup ∧ A'.length ≤ 60 + (k + 1) ∧ B'.length ≤ 60 + (k + 1)) ∧ Hid (Below w.heap.size w wx) ∧ Hid (Ext wx b gp' b' gq' ca cb ob (boxO o)))
            case first =>
              obtain ⟨va, vb, h5, h6, h7, h8, h9, h10⟩ := HTD.out.2.2.2.2
              have ca0 : wd.cell? ⟨ca, 0, none⟩ = some va := by rw [cell_of_row wd _ 0 _ _ _ h5]; rfl
              have cb0 : wd.cell? ⟨cb, 0, none⟩ = some vb := by rw [cell_of_row wd _ 0 _ _ _ h6]; rfl
              obtain ⟨xa', xc', rfl⟩ := h7.form
              have HIA := Lib.hid h7
              have HFA := Lib.hid h9
              obtain ⟨kk, x, uu⟩ := o
              have o0 : wd.cell? ⟨ob, 0, none⟩ = some (.int .i64 kk) := by rw [cell_of_row wd _ 0 _ _ _ HED.out.1]; rfl
              have o1 : wd.cell? ⟨ob, 1, none⟩ = some (.int .i64 x) := by rw [cell_of_row wd _ 1 _ _ _ HED.out.1]; rfl
              have o2 : wd.cell? ⟨ob, 2, none⟩ = some (.bool uu) := by rw [cell_of_row wd _ 2 _ _ _ HED.out.1]; rfl
              clear h5 h6 h7 h8 h9 h10
              by_cases h0 : kk = 0
              · subst h0
                skip
                rename_i i0 i1 i2 i3 i4 i5 i6 i7 i8 i9 i10 i11 i12 i13 i14 i15 i16 i17
                revert l m w hl hm ya yc zc HU b1 l1 b2 m1 w1 w2 b g w3 b' g' i0 u10 u47 u48 u49 u50 u51 u52 u53 u54 u55 u56 u57 u58 n xa xc hk hnk wA HBA ca cb HT i1 i2 i3 wr u4 u12 u13 u14 u15 u16 u17 u18 u19 u20 u21 u22 u23 u24 u25 u26 u62 u63 u64 u65 u66 u67 u68 u69 u70 u71 u72 u73 u74 u75 u76 u77 u78 u79 u80 u81 u82 u83 u84 u85 u86 u87 u88 u89 u90 u91 u92 u93 u94 u95 u96 u97 u98 u99 u100 u101 u102 u103 u104 u105 u106 u107 u108 u109 u110 u111 u112 u113 u114 u115 u116 u117 u118 u119 u120 u121 u122 u123 u124 u125 u126 u127 u128 u129 u130 u131 u132 u133 u134 u135 u136 u137 u138 u139 u140 u141 u142 u143 u144 u145 u146 u147 u148 u149 u150 u151 u152 u153 u154 u155 u156 u157 u158 u159 u160 u161 u162 u163 u164 u165 u166 u167 u168 u169 u170 u171 u172 u173 u174 u175 u176 u177 u178 u179 u180 u181 u182 u183 u184 u185 u186 u187 u188 u189 u190 u191 u192 u193 u194 u195 u196 u197 u198 u199 u200 u201 u202 u203 u204 u205 u206 u207 u208 u209 u210 u211 u212 u213 u214 u215 u216 u217 u218 u219 u220 u221 u222 u223 u224 u225 u226 u227 u228 u229 u230 u231 u232 u233 u234 u235 u236 u237 u238 u239 u240 u241 u242 u243 u244 u245 u246 u247 u248 u249 u250 u251 u252 u253 u254 u255 u256 u257 u258 u259 u260 u261 u262 u263 u264 u265 u266 u267 u268 u269 u270 u271 u272 u273 u274 u275 u276 u277 u278 u279 u280 u281 u282 u283 k gp gq A B hk' HNB hlt3 r off HV i4 i5 i6 i7 i8 wo ob va i9 i10 i11 ina inb nq wd HTD HBD i12 i13 i14 i15 i16 vb cb0 xa' xc' ca0 HIA HFA x uu o1 o2 HINA HINB HED i17 o0
                exact cK0.out
              · skip
                by_cases h1 : kk = 1
                · subst h1
                  skip
                  rename_i i0 i1 i2 i3 i4 i5 i6 i7 i8 i9 i10 i11 i12 i13 i14 i15 i16 i17
                  revert l m w hl hm ya yc zc HU b1 l1 b2 m1 w1 w2 b g w3 b' g' i0 u10 u47 u48 u49 u50 u51 u52 u53 u54 u55 u56 u57 u58 n xa xc hk hnk wA HBA ca cb HT i1 i2 i3 wr u4 u12 u13 u14 u15 u16 u17 u18 u19 u20 u21 u22 u23 u24 u25 u26 u62 u63 u64 u65 u66 u67 u68 u69 u70 u71 u72 u73 u74 u75 u76 u77 u78 u79 u80 u81 u82 u83 u84 u85 u86 u87 u88 u89 u90 u91 u92 u93 u94 u95 u96 u97 u98 u99 u100 u101 u102 u103 u104 u105 u106 u107 u108 u109 u110 u111 u112 u113 u114 u115 u116 u117 u118 u119 u120 u121 u122 u123 u124 u125 u126 u127 u128 u129 u130 u131 u132 u133 u134 u135 u136 u137 u138 u139 u140 u141 u142 u143 u144 u145 u146 u147 u148 u149 u150 u151 u152 u153 u154 u155 u156 u157 u158 u159 u160 u161 u162 u163 u164 u165 u166 u167 u168 u169 u170 u171 u172 u173 u174 u175 u176 u177 u178 u179 u180 u181 u182 u183 u184 u185 u186 u187 u188 u189 u190 u191 u192 u193 u194 u195 u196 u197 u198 u199 u200 u201 u202 u203 u204 u205 u206 u207 u208 u209 u210 u211 u212 u213 u214 u215 u216 u217 u218 u219 u220 u221 u222 u223 u224 u225 u226 u227 u228 u229 u230 u231 u232 u233 u234 u235 u236 u237 u238 u239 u240 u241 u242 u243 u244 u245 u246 u247 u248 u249 u250 u251 u252 u253 u254 u255 u256 u257 u258 u259 u260 u261 u262 u263 u264 u265 u266 u267 u268 u269 u270 u271 u272 u273 u274 u275 u276 u277 u278 u279 u280 u281 u282 u283 k gp gq A B hk' HNB hlt3 r off HV i4 i5 i6 i7 i8 wo ob va i9 i10 i11 ina inb nq wd HTD HBD i12 i13 i14 i15 i16 vb cb0 xa' xc' ca0 HIA HFA x uu o1 o2 HINA HINB HED i17 o0 h0
                  exact cK1.out
                · skip
                  by_cases h2 : kk = 2
                  · subst h2
                    skip
                    rename_i i0 i1 i2 i3 i4 i5 i6 i7 i8 i9 i10 i11 i12 i13 i14 i15 i16 i17
                    revert l m w hl hm ya yc zc HU b1 l1 b2 m1 w1 w2 b g w3 b' g' i0 u10 u47 u48 u49 u50 u51 u52 u53 u54 u55 u56 u57 u58 n xa xc hk hnk wA HBA ca cb HT i1 i2 i3 wr u4 u12 u13 u14 u15 u16 u17 u18 u19 u20 u21 u22 u23 u24 u25 u26 u62 u63 u64 u65 u66 u67 u68 u69 u70 u71 u72 u73 u74 u75 u76 u77 u78 u79 u80 u81 u82 u83 u84 u85 u86 u87 u88 u89 u90 u91 u92 u93 u94 u95 u96 u97 u98 u99 u100 u101 u102 u103 u104 u105 u106 u107 u108 u109 u110 u111 u112 u113 u114 u115 u116 u117 u118 u119 u120 u121 u122 u123 u124 u125 u126 u127 u128 u129 u130 u131 u132 u133 u134 u135 u136 u137 u138 u139 u140 u141 u142 u143 u144 u145 u146 u147 u148 u149 u150 u151 u152 u153 u154 u155 u156 u157 u158 u159 u160 u161 u162 u163 u164 u165 u166 u167 u168 u169 u170 u171 u172 u173 u174 u175 u176 u177 u178 u179 u180 u181 u182 u183 u184 u185 u186 u187 u188 u189 u190 u191 u192 u193 u194 u195 u196 u197 u198 u199 u200 u201 u202 u203 u204 u205 u206 u207 u208 u209 u210 u211 u212 u213 u214 u215 u216 u217 u218 u219 u220 u221 u222 u223 u224 u225 u226 u227 u228 u229 u230 u231 u232 u233 u234 u235 u236 u237 u238 u239 u240 u241 u242 u243 u244 u245 u246 u247 u248 u249 u250 u251 u252 u253 u254 u255 u256 u257 u258 u259 u260 u261 u262 u263 u264 u265 u266 u267 u268 u269 u270 u271 u272 u273 u274 u275 u276 u277 u278 u279 u280 u281 u282 u283 k gp gq A B hk' HNB hlt3 r off HV i4 i5 i6 i7 i8 wo ob va i9 i10 i11 ina inb nq wd HTD HBD i12 i13 i14 i15 i16 vb cb0 xa' xc' ca0 HIA HFA x uu o1 o2 HINA HINB HED i17 o0 h0 h1
                    exact cK2.out
                  · skip
                    by_cases h3 : kk = 3
                    · subst h3
                      skip
                      rename_i i0 i1 i2 i3 i4 i5 i6 i7 i8 i9 i10 i11 i12 i13 i14 i15 i16 i17
                      revert l m w hl hm ya yc zc HU b1 l1 b2 m1 w1 w2 b g w3 b' g' i0 u10 u47 u48 u49 u50 u51 u52 u53 u54 u55 u56 u57 u58 n xa xc hk hnk wA HBA ca cb HT i1 i2 i3 wr u4 u12 u13 u14 u15 u16 u17 u18 u19 u20 u21 u22 u23 u24 u25 u26 u62 u63 u64 u65 u66 u67 u68 u69 u70 u71 u72 u73 u74 u75 u76 u77 u78 u79 u80 u81 u82 u83 u84 u85 u86 u87 u88 u89 u90 u91 u92 u93 u94 u95 u96 u97 u98 u99 u100 u101 u102 u103 u104 u105 u106 u107 u108 u109 u110 u111 u112 u113 u114 u115 u116 u117 u118 u119 u120 u121 u122 u123 u124 u125 u126 u127 u128 u129 u130 u131 u132 u133 u134 u135 u136 u137 u138 u139 u140 u141 u142 u143 u144 u145 u146 u147 u148 u149 u150 u151 u152 u153 u154 u155 u156 u157 u158 u159 u160 u161 u162 u163 u164 u165 u166 u167 u168 u169 u170 u171 u172 u173 u174 u175 u176 u177 u178 u179 u180 u181 u182 u183 u184 u185 u186 u187 u188 u189 u190 u191 u192 u193 u194 u195 u196 u197 u198 u199 u200 u201 u202 u203 u204 u205 u206 u207 u208 u209 u210 u211 u212 u213 u214 u215 u216 u217 u218 u219 u220 u221 u222 u223 u224 u225 u226 u227 u228 u229 u230 u231 u232 u233 u234 u235 u236 u237 u238 u239 u240 u241 u242 u243 u244 u245 u246 u247 u248 u249 u250 u251 u252 u253 u254 u255 u256 u257 u258 u259 u260 u261 u262 u263 u264 u265 u266 u267 u268 u269 u270 u271 u272 u273 u274 u275 u276 u277 u278 u279 u280 u281 u282 u283 k gp gq A B hk' HNB hlt3 r off HV i4 i5 i6 i7 i8 wo ob va i9 i10 i11 ina inb nq wd HTD HBD i12 i13 i14 i15 i16 vb cb0 xa' xc' ca0 HIA HFA x uu o1 o2 HINA HINB HED i17 o0 h0 h1 h2
                      exact cK3.out
                    · skip
                      by_cases h4 : kk = 4
                      · subst h4
                        skip
                        cases ina
                        · cases inb
                          · have hT : turnB A B x = false := by unfold turnB; rw [show decide (x ∈ A) = false from HINA.out, show decide (x ∈ B) = false from HINB.out]; rfl
                            skip
                            rename_i i0 i1 i2 i3 i4 i5 i6 i7 i8 i9 i10 i11 i12 i13 i14 i15 i16 i17
                            revert l m w hl hm ya yc zc HU b1 l1 b2 m1 w1 w2 b g w3 b' g' i0 u10 u47 u48 u49 u50 u51 u52 u53 u54 u55 u56 u57 u58 n xa xc hk hnk wA HBA ca cb HT i1 i2 i3 wr u4 u12 u13 u14 u15 u16 u17 u18 u19 u20 u21 u22 u23 u24 u25 u26 u62 u63 u64 u65 u66 u67 u68 u69 u70 u71 u72 u73 u74 u75 u76 u77 u78 u79 u80 u81 u82 u83 u84 u85 u86 u87 u88 u89 u90 u91 u92 u93 u94 u95 u96 u97 u98 u99 u100 u101 u102 u103 u104 u105 u106 u107 u108 u109 u110 u111 u112 u113 u114 u115 u116 u117 u118 u119 u120 u121 u122 u123 u124 u125 u126 u127 u128 u129 u130 u131 u132 u133 u134 u135 u136 u137 u138 u139 u140 u141 u142 u143 u144 u145 u146 u147 u148 u149 u150 u151 u152 u153 u154 u155 u156 u157 u158 u159 u160 u161 u162 u163 u164 u165 u166 u167 u168 u169 u170 u171 u172 u173 u174 u175 u176 u177 u178 u179 u180 u181 u182 u183 u184 u185 u186 u187 u188 u189 u190 u191 u192 u193 u194 u195 u196 u197 u198 u199 u200 u201 u202 u203 u204 u205 u206 u207 u208 u209 u210 u211 u212 u213 u214 u215 u216 u217 u218 u219 u220 u221 u222 u223 u224 u225 u226 u227 u228 u229 u230 u231 u232 u233 u234 u235 u236 u237 u238 u239 u240 u241 u242 u243 u244 u245 u246 u247 u248 u249 u250 u251 u252 u253 u254 u255 u256 u257 u258 u259 u260 u261 u262 u263 u264 u265 u266 u267 u268 u269 u270 u271 u272 u273 u274 u275 u276 u277 u278 u279 u280 u281 u282 u283 k gp gq A B hk' HNB hlt3 r off HV i4 i5 i6 i7 i8 wo ob va i9 i10 i11 nq wd HTD HBD i12 i13 i14 i15 i16 vb cb0 xa' xc' ca0 HIA HFA x uu o1 o2 HED o0 h0 h1 h2 h3 HINA HINB i17 hT
                            exact cK4noA.out
                          · have hT : turnB A B x = false := by unfold turnB; rw [show decide (x ∈ A) = false from HINA.out, show decide (x ∈ B) = true from HINB.out]; rfl
                            skip
                            rename_i i0 i1 i2 i3 i4 i5 i6 i7 i8 i9 i10 i11 i12 i13 i14 i15 i16 i17
                            revert l m w hl hm ya yc zc HU b1 l1 b2 m1 w1 w2 b g w3 b' g' i0 u10 u47 u48 u49 u50 u51 u52 u53 u54 u55 u56 u57 u58 n xa xc hk hnk wA HBA ca cb HT i1 i2 i3 wr u4 u12 u13 u14 u15 u16 u17 u18 u19 u20 u21 u22 u23 u24 u25 u26 u62 u63 u64 u65 u66 u67 u68 u69 u70 u71 u72 u73 u74 u75 u76 u77 u78 u79 u80 u81 u82 u83 u84 u85 u86 u87 u88 u89 u90 u91 u92 u93 u94 u95 u96 u97 u98 u99 u100 u101 u102 u103 u104 u105 u106 u107 u108 u109 u110 u111 u112 u113 u114 u115 u116 u117 u118 u119 u120 u121 u122 u123 u124 u125 u126 u127 u128 u129 u130 u131 u132 u133 u134 u135 u136 u137 u138 u139 u140 u141 u142 u143 u144 u145 u146 u147 u148 u149 u150 u151 u152 u153 u154 u155 u156 u157 u158 u159 u160 u161 u162 u163 u164 u165 u166 u167 u168 u169 u170 u171 u172 u173 u174 u175 u176 u177 u178 u179 u180 u181 u182 u183 u184 u185 u186 u187 u188 u189 u190 u191 u192 u193 u194 u195 u196 u197 u198 u199 u200 u201 u202 u203 u204 u205 u206 u207 u208 u209 u210 u211 u212 u213 u214 u215 u216 u217 u218 u219 u220 u221 u222 u223 u224 u225 u226 u227 u228 u229 u230 u231 u232 u233 u234 u235 u236 u237 u238 u239 u240 u241 u242 u243 u244 u245 u246 u247 u248 u249 u250 u251 u252 u253 u254 u255 u256 u257 u258 u259 u260 u261 u262 u263 u264 u265 u266 u267 u268 u269 u270 u271 u272 u273 u274 u275 u276 u277 u278 u279 u280 u281 u282 u283 k gp gq A B hk' HNB hlt3 r off HV i4 i5 i6 i7 i8 wo ob va i9 i10 i11 nq wd HTD HBD i12 i13 i14 i15 i16 vb cb0 xa' xc' ca0 HIA HFA x uu o1 o2 HED o0 h0 h1 h2 h3 HINA HINB i17 hT
                            exact cK4noB.out
                        · cases inb
                          · have hT : turnB A B x = true := by unfold turnB; rw [show decide (x ∈ A) = true from HINA.out, show decide (x ∈ B) = false from HINB.out]; rfl
                            cases uu
                            · rename_i i0 i1 i2 i3 i4 i5 i6 i7 i8 i9 i10 i11 i12 i13 i14 i15 i16 i17
                              revert l m w hl hm ya yc zc HU b1 l1 b2 m1 w1 w2 b g w3 b' g' i0 u10 u47 u48 u49 u50 u51 u52 u53 u54 u55 u56 u57 u58 n xa xc hk hnk wA HBA ca cb HT i1 i2 i3 wr u4 u12 u13 u14 u15 u16 u17 u18 u19 u20 u21 u22 u23 u24 u25 u26 u62 u63 u64 u65 u66 u67 u68 u69 u70 u71 u72 u73 u74 u75 u76 u77 u78 u79 u80 u81 u82 u83 u84 u85 u86 u87 u88 u89 u90 u91 u92 u93 u94 u95 u96 u97 u98 u99 u100 u101 u102 u103 u104 u105 u106 u107 u108 u109 u110 u111 u112 u113 u114 u115 u116 u117 u118 u119 u120 u121 u122 u123 u124 u125 u126 u127 u128 u129 u130 u131 u132 u133 u134 u135 u136 u137 u138 u139 u140 u141 u142 u143 u144 u145 u146 u147 u148 u149 u150 u151 u152 u153 u154 u155 u156 u157 u158 u159 u160 u161 u162 u163 u164 u165 u166 u167 u168 u169 u170 u171 u172 u173 u174 u175 u176 u177 u178 u179 u180 u181 u182 u183 u184 u185 u186 u187 u188 u189 u190 u191 u192 u193 u194 u195 u196 u197 u198 u199 u200 u201 u202 u203 u204 u205 u206 u207 u208 u209 u210 u211 u212 u213 u214 u215 u216 u217 u218 u219 u220 u221 u222 u223 u224 u225 u226 u227 u228 u229 u230 u231 u232 u233 u234 u235 u236 u237 u238 u239 u240 u241 u242 u243 u244 u245 u246 u247 u248 u249 u250 u251 u252 u253 u254 u255 u256 u257 u258 u259 u260 u261 u262 u263 u264 u265 u266 u267 u268 u269 u270 u271 u272 u273 u274 u275 u276 u277 u278 u279 u280 u281 u282 u283 k gp gq A B hk' HNB hlt3 r off HV i4 i5 i6 i7 i8 wo ob va i9 i10 i11 nq wd HTD HBD i12 i13 i14 i15 i16 vb cb0 xa' xc' ca0 HIA HFA x o1 o0 h0 h1 h2 h3 hT o2 HED HINA HINB i17
                              exact cK4yf.out
                            · rename_i i0 i1 i2 i3 i4 i5 i6 i7 i8 i9 i10 i11 i12 i13 i14 i15 i16 i17
                              revert l m w hl hm ya yc zc HU b1 l1 b2 m1 w1 w2 b g w3 b' g' i0 u10 u47 u48 u49 u50 u51 u52 u53 u54 u55 u56 u57 u58 n xa xc hk hnk wA HBA ca cb HT i1 i2 i3 wr u4 u12 u13 u14 u15 u16 u17 u18 u19 u20 u21 u22 u23 u24 u25 u26 u62 u63 u64 u65 u66 u67 u68 u69 u70 u71 u72 u73 u74 u75 u76 u77 u78 u79 u80 u81 u82 u83 u84 u85 u86 u87 u88 u89 u90 u91 u92 u93 u94 u95 u96 u97 u98 u99 u100 u101 u102 u103 u104 u105 u106 u107 u108 u109 u110 u111 u112 u113 u114 u115 u116 u117 u118 u119 u120 u121 u122 u123 u124 u125 u126 u127 u128 u129 u130 u131 u132 u133 u134 u135 u136 u137 u138 u139 u140 u141 u142 u143 u144 u145 u146 u147 u148 u149 u150 u151 u152 u153 u154 u155 u156 u157 u158 u159 u160 u161 u162 u163 u164 u165 u166 u167 u168 u169 u170 u171 u172 u173 u174 u175 u176 u177 u178 u179 u180 u181 u182 u183 u184 u185 u186 u187 u188 u189 u190 u191 u192 u193 u194 u195 u196 u197 u198 u199 u200 u201 u202 u203 u204 u205 u206 u207 u208 u209 u210 u211 u212 u213 u214 u215 u216 u217 u218 u219 u220 u221 u222 u223 u224 u225 u226 u227 u228 u229 u230 u231 u232 u233 u234 u235 u236 u237 u238 u239 u240 u241 u242 u243 u244 u245 u246 u247 u248 u249 u250 u251 u252 u253 u254 u255 u256 u257 u258 u259 u260 u261 u262 u263 u264 u265 u266 u267 u268 u269 u270 u271 u272 u273 u274 u275 u276 u277 u278 u279 u280 u281 u282 u283 k gp gq A B hk' HNB hlt3 r off HV i4 i5 i6 i7 i8 wo ob va i9 i10 i11 nq wd HTD HBD i12 i13 i14 i15 i16 vb cb0 xa' xc' ca0 HIA HFA x o1 o0 h0 h1 h2 h3 hT o2 HED HINA HINB i17
                              exact cK4yt.out
                          · have hT : turnB A B x = false := by unfold turnB; rw [show decide (x ∈ A) = true from HINA.out, show decide (x ∈ B) = true from HINB.out]; rfl
                            skip
                            rename_i i0 i1 i2 i3 i4 i5 i6 i7 i8 i9 i10 i11 i12 i13 i14 i15 i16 i17
                            revert l m w hl hm ya yc zc HU b1 l1 b2 m1 w1 w2 b g w3 b' g' i0 u10 u47 u48 u49 u50 u51 u52 u53 u54 u55 u56 u57 u58 n xa xc hk hnk wA HBA ca cb HT i1 i2 i3 wr u4 u12 u13 u14 u15 u16 u17 u18 u19 u20 u21 u22 u23 u24 u25 u26 u62 u63 u64 u65 u66 u67 u68 u69 u70 u71 u72 u73 u74 u75 u76 u77 u78 u79 u80 u81 u82 u83 u84 u85 u86 u87 u88 u89 u90 u91 u92 u93 u94 u95 u96 u97 u98 u99 u100 u101 u102 u103 u104 u105 u106 u107 u108 u109 u110 u111 u112 u113 u114 u115 u116 u117 u118 u119 u120 u121 u122 u123 u124 u125 u126 u127 u128 u129 u130 u131 u132 u133 u134 u135 u136 u137 u138 u139 u140 u141 u142 u143 u144 u145 u146 u147 u148 u149 u150 u151 u152 u153 u154 u155 u156 u157 u158 u159 u160 u161 u162 u163 u164 u165 u166 u167 u168 u169 u170 u171 u172 u173 u174 u175 u176 u177 u178 u179 u180 u181 u182 u183 u184 u185 u186 u187 u188 u189 u190 u191 u192 u193 u194 u195 u196 u197 u198 u199 u200 u201 u202 u203 u204 u205 u206 u207 u208 u209 u210 u211 u212 u213 u214 u215 u216 u217 u218 u219 u220 u221 u222 u223 u224 u225 u226 u227 u228 u229 u230 u231 u232 u233 u234 u235 u236 u237 u238 u239 u240 u241 u242 u243 u244 u245 u246 u247 u248 u249 u250 u251 u252 u253 u254 u255 u256 u257 u258 u259 u260 u261 u262 u263 u264 u265 u266 u267 u268 u269 u270 u271 u272 u273 u274 u275 u276 u277 u278 u279 u280 u281 u282 u283 k gp gq A B hk' HNB hlt3 r off HV i4 i5 i6 i7 i8 wo ob va i9 i10 i11 nq wd HTD HBD i12 i13 i14 i15 i16 vb cb0 xa' xc' ca0 HIA HFA x uu o1 o2 HED o0 h0 h1 h2 h3 HINA HINB i17 hT
                            exact cK4noC.out
                      · skip
                        by_cases h5' : kk = 5
                        · subst h5'
                          skip
                          cases ina
                          · cases inb
                            · have hT : turnB B A x = false := by unfold turnB; rw [show decide (x ∈ B) = false from HINB.out, show decide (x ∈ A) = false from HINA.out]; rfl
                              skip
                              rename_i i0 i1 i2 i3 i4 i5 i6 i7 i8 i9 i10 i11 i12 i13 i14 i15 i16 i17
                              revert l m w hl hm ya yc zc HU b1 l1 b2 m1 w1 w2 b g w3 b' g' i0 u10 u47 u48 u49 u50 u51 u52 u53 u54 u55 u56 u57 u58 n xa xc hk hnk wA HBA ca cb HT i1 i2 i3 wr u4 u12 u13 u14 u15 u16 u17 u18 u19 u20 u21 u22 u23 u24 u25 u26 u62 u63 u64 u65 u66 u67 u68 u69 u70 u71 u72 u73 u74 u75 u76 u77 u78 u79 u80 u81 u82 u83 u84 u85 u86 u87 u88 u89 u90 u91 u92 u93 u94 u95 u96 u97 u98 u99 u100 u101 u102 u103 u104 u105 u106 u107 u108 u109 u110 u111 u112 u113 u114 u115 u116 u117 u118 u119 u120 u121 u122 u123 u124 u125 u126 u127 u128 u129 u130 u131 u132 u133 u134 u135 u136 u137 u138 u139 u140 u141 u142 u143 u144 u145 u146 u147 u148 u149 u150 u151 u152 u153 u154 u155 u156 u157 u158 u159 u160 u161 u162 u163 u164 u165 u166 u167 u168 u169 u170 u171 u172 u173 u174 u175 u176 u177 u178 u179 u180 u181 u182 u183 u184 u185 u186 u187 u188 u189 u190 u191 u192 u193 u194 u195 u196 u197 u198 u199 u200 u201 u202 u203 u204 u205 u206 u207 u208 u209 u210 u211 u212 u213 u214 u215 u216 u217 u218 u219 u220 u221 u222 u223 u224 u225 u226 u227 u228 u229 u230 u231 u232 u233 u234 u235 u236 u237 u238 u239 u240 u241 u242 u243 u244 u245 u246 u247 u248 u249 u250 u251 u252 u253 u254 u255 u256 u257 u258 u259 u260 u261 u262 u263 u264 u265 u266 u267 u268 u269 u270 u271 u272 u273 u274 u275 u276 u277 u278 u279 u280 u281 u282 u283 k gp gq A B hk' HNB hlt3 r off HV i4 i5 i6 i7 i8 wo ob va i9 i10 i11 nq wd HTD HBD i12 i13 i14 i15 i16 vb cb0 xa' xc' ca0 HIA HFA x uu o1 o2 HED o0 h0 h1 h2 h3 h4 HINA HINB i17 hT
                              exact cK5noA.out
                            · have hT : turnB B A x = true := by unfold turnB; rw [show decide (x ∈ B) = true from HINB.out, show decide (x ∈ A) = false from HINA.out]; rfl
                              cases uu
                              · rename_i i0 i1 i2 i3 i4 i5 i6 i7 i8 i9 i10 i11 i12 i13 i14 i15 i16 i17
                                revert l m w hl hm ya yc zc HU b1 l1 b2 m1 w1 w2 b g w3 b' g' i0 u10 u47 u48 u49 u50 u51 u52 u53 u54 u55 u56 u57 u58 n xa xc hk hnk wA HBA ca cb HT i1 i2 i3 wr u4 u12 u13 u14 u15 u16 u17 u18 u19 u20 u21 u22 u23 u24 u25 u26 u62 u63 u64 u65 u66 u67 u68 u69 u70 u71 u72 u73 u74 u75 u76 u77 u78 u79 u80 u81 u82 u83 u84 u85 u86 u87 u88 u89 u90 u91 u92 u93 u94 u95 u96 u97 u98 u99 u100 u101 u102 u103 u104 u105 u106 u107 u108 u109 u110 u111 u112 u113 u114 u115 u116 u117 u118 u119 u120 u121 u122 u123 u124 u125 u126 u127 u128 u129 u130 u131 u132 u133 u134 u135 u136 u137 u138 u139 u140 u141 u142 u143 u144 u145 u146 u147 u148 u149 u150 u151 u152 u153 u154 u155 u156 u157 u158 u159 u160 u161 u162 u163 u164 u165 u166 u167 u168 u169 u170 u171 u172 u173 u174 u175 u176 u177 u178 u179 u180 u181 u182 u183 u184 u185 u186 u187 u188 u189 u190 u191 u192 u193 u194 u195 u196 u197 u198 u199 u200 u201 u202 u203 u204 u205 u206 u207 u208 u209 u210 u211 u212 u213 u214 u215 u216 u217 u218 u219 u220 u221 u222 u223 u224 u225 u226 u227 u228 u229 u230 u231 u232 u233 u234 u235 u236 u237 u238 u239 u240 u241 u242 u243 u244 u245 u246 u247 u248 u249 u250 u251 u252 u253 u254 u255 u256 u257 u258 u259 u260 u261 u262 u263 u264 u265 u266 u267 u268 u269 u270 u271 u272 u273 u274 u275 u276 u277 u278 u279 u280 u281 u282 u283 k gp gq A B hk' HNB hlt3 r off HV i4 i5 i6 i7 i8 wo ob va i9 i10 i11 nq wd HTD HBD i12 i13 i14 i15 i16 vb cb0 xa' xc' ca0 HIA HFA x o1 o0 h0 h1 h2 h3 h4 hT o2 HED HINA HINB i17
                                exact cK5yf.out
                              · rename_i i0 i1 i2 i3 i4 i5 i6 i7 i8 i9 i10 i11 i12 i13 i14 i15 i16 i17
                                revert l m w hl hm ya yc zc HU b1 l1 b2 m1 w1 w2 b g w3 b' g' i0 u10 u47 u48 u49 u50 u51 u52 u53 u54 u55 u56 u57 u58 n xa xc hk hnk wA HBA ca cb HT i1 i2 i3 wr u4 u12 u13 u14 u15 u16 u17 u18 u19 u20 u21 u22 u23 u24 u25 u26 u62 u63 u64 u65 u66 u67 u68 u69 u70 u71 u72 u73 u74 u75 u76 u77 u78 u79 u80 u81 u82 u83 u84 u85 u86 u87 u88 u89 u90 u91 u92 u93 u94 u95 u96 u97 u98 u99 u100 u101 u102 u103 u104 u105 u106 u107 u108 u109 u110 u111 u112 u113 u114 u115 u116 u117 u118 u119 u120 u121 u122 u123 u124 u125 u126 u127 u128 u129 u130 u131 u132 u133 u134 u135 u136 u137 u138 u139 u140 u141 u142 u143 u144 u145 u146 u147 u148 u149 u150 u151 u152 u153 u154 u155 u156 u157 u158 u159 u160 u161 u162 u163 u164 u165 u166 u167 u168 u169 u170 u171 u172 u173 u174 u175 u176 u177 u178 u179 u180 u181 u182 u183 u184 u185 u186 u187 u188 u189 u190 u191 u192 u193 u194 u195 u196 u197 u198 u199 u200 u201 u202 u203 u204 u205 u206 u207 u208 u209 u210 u211 u212 u213 u214 u215 u216 u217 u218 u219 u220 u221 u222 u223 u224 u225 u226 u227 u228 u229 u230 u231 u232 u233 u234 u235 u236 u237 u238 u239 u240 u241 u242 u243 u244 u245 u246 u247 u248 u249 u250 u251 u252 u253 u254 u255 u256 u257 u258 u259 u260 u261 u262 u263 u264 u265 u266 u267 u268 u269 u270 u271 u272 u273 u274 u275 u276 u277 u278 u279 u280 u281 u282 u283 k gp gq A B hk' HNB hlt3 r off HV i4 i5 i6 i7 i8 wo ob va i9 i10 i11 nq wd HTD HBD i12 i13 i14 i15 i16 vb cb0 xa' xc' ca0 HIA HFA x o1 o0 h0 h1 h2 h3 h4 hT o2 HED HINA HINB i17
                                exact cK5yt.out
                          · cases inb
                            · have hT : turnB B A x = false := by unfold turnB; rw [show decide (x ∈ B) = false from HINB.out, show decide (x ∈ A) = true from HINA.out]; rfl
                              skip
                              rename_i i0 i1 i2 i3 i4 i5 i6 i7 i8 i9 i10 i11 i12 i13 i14 i15 i16 i17
                              revert l m w hl hm ya yc zc HU b1 l1 b2 m1 w1 w2 b g w3 b' g' i0 u10 u47 u48 u49 u50 u51 u52 u53 u54 u55 u56 u57 u58 n xa xc hk hnk wA HBA ca cb HT i1 i2 i3 wr u4 u12 u13 u14 u15 u16 u17 u18 u19 u20 u21 u22 u23 u24 u25 u26 u62 u63 u64 u65 u66 u67 u68 u69 u70 u71 u72 u73 u74 u75 u76 u77 u78 u79 u80 u81 u82 u83 u84 u85 u86 u87 u88 u89 u90 u91 u92 u93 u94 u95 u96 u97 u98 u99 u100 u101 u102 u103 u104 u105 u106 u107 u108 u109 u110 u111 u112 u113 u114 u115 u116 u117 u118 u119 u120 u121 u122 u123 u124 u125 u126 u127 u128 u129 u130 u131 u132 u133 u134 u135 u136 u137 u138 u139 u140 u141 u142 u143 u144 u145 u146 u147 u148 u149 u150 u151 u152 u153 u154 u155 u156 u157 u158 u159 u160 u161 u162 u163 u164 u165 u166 u167 u168 u169 u170 u171 u172 u173 u174 u175 u176 u177 u178 u179 u180 u181 u182 u183 u184 u185 u186 u187 u188 u189 u190 u191 u192 u193 u194 u195 u196 u197 u198 u199 u200 u201 u202 u203 u204 u205 u206 u207 u208 u209 u210 u211 u212 u213 u214 u215 u216 u217 u218 u219 u220 u221 u222 u223 u224 u225 u226 u227 u228 u229 u230 u231 u232 u233 u234 u235 u236 u237 u238 u239 u240 u241 u242 u243 u244 u245 u246 u247 u248 u249 u250 u251 u252 u253 u254 u255 u256 u257 u258 u259 u260 u261 u262 u263 u264 u265 u266 u267 u268 u269 u270 u271 u272 u273 u274 u275 u276 u277 u278 u279 u280 u281 u282 u283 k gp gq A B hk' HNB hlt3 r off HV i4 i5 i6 i7 i8 wo ob va i9 i10 i11 nq wd HTD HBD i12 i13 i14 i15 i16 vb cb0 xa' xc' ca0 HIA HFA x uu o1 o2 HED o0 h0 h1 h2 h3 h4 HINA HINB i17 hT
                              exact cK5noB.out
                            · have hT : turnB B A x = false := by unfold turnB; rw [show decide (x ∈ B) = true from HINB.out, show decide (x ∈ A) = true from HINA.out]; rfl
                              skip
                              rename_i i0 i1 i2 i3 i4 i5 i6 i7 i8 i9 i10 i11 i12 i13 i14 i15 i16 i17
                              revert l m w hl hm ya yc zc HU b1 l1 b2 m1 w1 w2 b g w3 b' g' i0 u10 u47 u48 u49 u50 u51 u52 u53 u54 u55 u56 u57 u58 n xa xc hk hnk wA HBA ca cb HT i1 i2 i3 wr u4 u12 u13 u14 u15 u16 u17 u18 u19 u20 u21 u22 u23 u24 u25 u26 u62 u63 u64 u65 u66 u67 u68 u69 u70 u71 u72 u73 u74 u75 u76 u77 u78 u79 u80 u81 u82 u83 u84 u85 u86 u87 u88 u89 u90 u91 u92 u93 u94 u95 u96 u97 u98 u99 u100 u101 u102 u103 u104 u105 u106 u107 u108 u109 u110 u111 u112 u113 u114 u115 u116 u117 u118 u119 u120 u121 u122 u123 u124 u125 u126 u127 u128 u129 u130 u131 u132 u133 u134 u135 u136 u137 u138 u139 u140 u141 u142 u143 u144 u145 u146 u147 u148 u149 u150 u151 u152 u153 u154 u155 u156 u157 u158 u159 u160 u161 u162 u163 u164 u165 u166 u167 u168 u169 u170 u171 u172 u173 u174 u175 u176 u177 u178 u179 u180 u181 u182 u183 u184 u185 u186 u187 u188 u189 u190 u191 u192 u193 u194 u195 u196 u197 u198 u199 u200 u201 u202 u203 u204 u205 u206 u207 u208 u209 u210 u211 u212 u213 u214 u215 u216 u217 u218 u219 u220 u221 u222 u223 u224 u225 u226 u227 u228 u229 u230 u231 u232 u233 u234 u235 u236 u237 u238 u239 u240 u241 u242 u243 u244 u245 u246 u247 u248 u249 u250 u251 u252 u253 u254 u255 u256 u257 u258 u259 u260 u261 u262 u263 u264 u265 u266 u267 u268 u269 u270 u271 u272 u273 u274 u275 u276 u277 u278 u279 u280 u281 u282 u283 k gp gq A B hk' HNB hlt3 r off HV i4 i5 i6 i7 i8 wo ob va i9 i10 i11 nq wd HTD HBD i12 i13 i14 i15 i16 vb cb0 xa' xc' ca0 HIA HFA x uu o1 o2 HED o0 h0 h1 h2 h3 h4 HINA HINB i17 hT
                              exact cK5noC.out
                        · skip
                          skip
                          have e0 : (kk == 0) = false := beq_eq_false_iff_ne.2 h0
                          have e1 : (kk == 1) = false := beq_eq_false_iff_ne.2 h1
                          have e2 : (kk == 2) = false := beq_eq_false_iff_ne.2 h2
                          have e3 : (kk == 3) = false := beq_eq_false_iff_ne.2 h3
                          have e4 : (kk == 4) = false := beq_eq_false_iff_ne.2 h4
                          have e5 : (kk == 5) = false := beq_eq_false_iff_ne.2 h5'
                          clear h0 h1 h2 h3 h4 h5'
                          go_wp2
                          go_meet
                          exact ⟨gp, gq, A, B, HTD, Lib.hid ⟨HNB.out.1, HNB.out.2.1, by have := HNB.out.2.2.1; omega, by have := HNB.out.2.2.2; omega⟩, HBD, HED⟩
            case rest =>
              skip
              obtain ⟨gp', gq', A', B', HT2, HN2, HB2, HE2⟩ := hcut
              obtain ⟨va2, vb2, h5, h6, h7, h8, h9, h10⟩ := HT2.out.2.2.2.2
              have ca2 : wc.cell? ⟨ca, 0, none⟩ = some va2 := by rw [cell_of_row wc _ 0 _ _ _ h5]; rfl
              have cb2 : wc.cell? ⟨cb, 0, none⟩ = some vb2 := by rw [cell_of_row wc _ 0 _ _ _ h6]; rfl
              have o12 : wc.cell? ⟨ob, 1, none⟩ = some (.int .i64 o.x) := by rw [cell_of_row wc _ 1 _ _ _ HE2.out.1]; rfl
              obtain ⟨xa2, xc2, rfl⟩ := h7.form
              obtain ⟨xb2, xd2, rfl⟩ := h8.form
              have HIA := Lib.hid h7
              have HIB := Lib.hid h8
              have ba : A'.length ≤ 300 := by have := HN2.out.2.2.1; omega
              have bb : B'.length ≤ 300 := by have := HN2.out.2.2.2; omega
              obtain ⟨inx, hinx⟩ : ∃ y, decide (o.x ∈ A') = y := ⟨_, rfl⟩
              have HINX := Lib.hid hinx
              have hbb : (inx != inx) = false := by simp
              clear h5 h6 h7 h8 h9 h10 hinx
              obtain ⟨wF, rfl⟩ : ∃ wF, wF = wc := ⟨_, rfl⟩
              go_upto_region 49 with fail
              go_cut [254] (fun s254 wx => s254 = .bool false ∧ Hid (Below wF.heap.size wF wx))
              case first =>
                rename_i i0 i1 i2 i3 i4 i5 i6 i7 i8 i9 i10 i11 i12 i13 i14 i15 i16 i17 i18 i19 i20 i21 i22 i23 i24 i25 i26 i27 i28 i29 i30 i31 i32 i33 i34 i35 i36 i37 i38 i39 i40 i41 i42 i43 i44 i45 i46 i47 i48 i49 i50 i51 i52 i53 i54 i55 i56 i57 i58 i59 i60 i61 i62 i63 i64 i65 i66 i67 i68 i69 i70 i71 i72 i73 i74 i75 i76 i77 i78 i79 i80 i81 i82 i83 i84 i85 i86 i87 i88 i89 i90 i91 i92 i93 i94 i95 i96 i97 i98 i99 i100 i101 i102 i103 i104 i105 i106 i107 i108 i109 i110 i111 i112 i113 i114 i115 i116 i117 i118 i119 i120 i121 i122 i123 i124 i125 i126 i127 i128 i129 i130 i131 i132 i133 i134 i135 i136 i137 i138 i139 i140 i141 i142 i143 i144 i145 i146 i147 i148 i149 i150 i151 i152 i153 i154 i155 i156 i157 i158 i159 i160 i161 i162 i163 i164 i165 i166 i167 i168 i169 i170 i171 i172 i173 i174 i175 i176 i177 i178 i179 i180 i181 i182 i183 i184 i185 i186 i187 i188 i189 i190 i191 i192 i193 i194 i195 i196 i197 i198 i199 i200 i201 i202 i203 i204 i205 i206 i207 i208 i209 i210 i211 i212 i213 i214 i215 i216 i217 i218 i219 i220 i221 i222 i223 i224 i225 i226 i227 i228 i229 i230 i231 i232 i233 i234 i235 i236 i237 i238 i239 i240 i241 i242 i243 i244 i245
                revert l m w hl hm ya yc zc HU b1 l1 b2 m1 w1 w2 b g w3 b' g' i0 u10 u47 u48 u49 u50 u51 u52 u53 u54 u55 u56 u57 u58 n xa xc hk hnk wA HBA ca cb HT i1 i2 i3 wr i4 u12 u13 u14 i5 i6 i7 i8 i9 i10 i11 i12 u23 u24 u25 u26 i13 i14 i15 i16 i17 i18 i19 i20 i21 i22 i23 i24 u74 i25 i26 i27 i28 i29 i30 i31 i32 i33 i34 i35 i36 i37 i38 i39 i40 i41 i42 i43 i44 i45 i46 i47 i48 i49 i50 i51 i52 i53 i54 i55 i56 i57 i58 i59 i60 i61 i62 i63 i64 i65 i66 i67 i68 i69 i70 i71 i72 i73 i74 i75 i76 i77 i78 i79 i80 i81 i82 i83 i84 i85 i86 i87 i88 i89 i90 i91 i92 i93 i94 i95 i96 i97 i98 i99 i100 i101 i102 i103 i104 i105 i106 i107 i108 i109 i110 i111 i112 i113 i114 i115 i116 i117 i118 i119 i120 i121 i122 i123 i124 i125 i126 i127 i128 i129 i130 i131 i132 i133 i134 i135 i136 i137 i138 i139 i140 i141 i142 i143 i144 i145 i146 i147 i148 i149 i150 i151 i152 i153 i154 i155 i156 i157 i158 i159 i160 i161 i162 i163 i164 i165 i166 i167 i168 i169 i170 i171 i172 i173 i174 i175 i176 i177 i178 i179 i180 i181 i182 i183 i184 i185 i186 i187 i188 i189 i190 i191 i192 i193 i194 i195 i196 i197 i198 i199 i200 i201 i202 i203 i204 u255 u256 u257 i205 i206 i207 i208 i209 i210 i211 i212 i213 i214 i215 i216 i217 i218 i219 i220 i221 i222 i223 i224 i225 i226 i227 i228 i229 i230 k gp gq A B hk' HNB hlt3 r off o HV i231 i232 i233 i234 i235 wo ob va vb i236 i237 ina inb HINA HINB nq wd HTD HED HBD u4 u15 u16 u17 u18 u19 u20 u21 u22 u62 u63 u64 u65 u66 u67 u68 u69 u70 u71 u72 u73 u75 u76 u77 u78 u79 u80 u81 u82 u83 u84 u85 u86 u87 u88 u89 u90 u91 u92 u93 u94 u95 u96 u97 u98 u99 u100 u101 u102 u103 u104 u105 u106 u107 u108 u109 u110 u111 u112 u113 u114 u115 u116 u117 u118 u119 u120 u121 u122 u123 u124 u125 u126 u127 u128 u129 u130 u131 u132 u133 u134 u135 u136 u137 u138 u139 u140 u141 u142 u143 u144 u145 u146 u147 u148 u149 u150 u151 u152 u153 u154 u155 u156 u157 u158 u159 u160 u161 u162 u163 u164 u165 u166 u167 u168 u169 u170 u171 u172 u173 u174 u175 u176 u177 u178 u179 u180 u181 u182 u183 u184 u185 u186 u187 u188 u189 u190 u191 u192 u193 u194 u195 u196 u197 u198 u199 u200 u201 u202 u203 u204 u205 u206 u207 u208 u209 u210 u211 u212 u213 u214 u215 u216 u217 u218 u219 u220 u221 u222 u223 u224 u225 u226 u227 u228 u229 u230 u231 u232 u233 u234 u235 u236 u237 u238 u239 u240 u241 u242 u243 u244 u245 u246 u247 u248 u249 u250 u251 u252 u253 u254 u258 u259 u260 u261 u262 u263 u264 u265 u266 u267 u268 u269 u270 u271 u272 u273 u274 u275 u276 u277 u278 u279 u280 u281 u282 u283 gp' gq' A' B' HN2 xa2 xc2 xb2 xd2 ba bb inx HINX hbb wF HT2 HB2 HE2 o12 ca2 cb2 HIA HIB i238 i239 i240 i241 i242 i243 i244 i245
                exact cREST.out
              case rest =>
                obtain ⟨rfl, HB3⟩ := hcut
                rename_i i0 i1 i2 i3 i4 i5 i6 i7 i8 i9 i10 i11 i12 i13 i14 i15 i16 i17 i18 i19 i20 i21 i22 i23 i24 i25 i26 i27 i28 i29 i30 i31 i32 i33 i34 i35 i36 i37 i38 i39 i40 i41 i42 i43 i44 i45 i46 i47 i48 i49 i50 i51 i52 i53 i54 i55 i56 i57 i58 i59 i60 i61 i62 i63 i64 i65 i66 i67 i68 i69 i70 i71 i72 i73 i74 i75 i76 i77 i78 i79 i80 i81 i82 i83 i84 i85 i86 i87 i88 i89 i90 i91 i92 i93 i94 i95 i96 i97 i98 i99 i100 i101 i102 i103 i104 i105 i106 i107 i108 i109 i110 i111 i112 i113 i114 i115 i116 i117 i118 i119 i120 i121 i122 i123 i124 i125 i126 i127 i128 i129 i130 i131 i132 i133 i134 i135 i136 i137 i138 i139 i140 i141 i142 i143 i144 i145 i146 i147 i148 i149 i150 i151 i152 i153 i154 i155 i156 i157 i158 i159 i160 i161 i162 i163 i164 i165 i166 i167 i168 i169 i170 i171 i172 i173 i174 i175 i176 i177 i178 i179 i180 i181 i182 i183 i184 i185 i186 i187 i188 i189 i190 i191 i192 i193 i194 i195 i196 i197 i198 i199 i200 i201 i202 i203 i204 i205 i206 i207 i208 i209 i210 i211 i212 i213 i214 i215 i216 i217 i218 i219 i220 i221 i222 i223 i224 i225 i226 i227 i228 i229 i230 i231 i232 i233 i234 i235 i236 i237 i238 i239 i240 i241 i242 i243 i244 i245 i246 i247 i248 i249 i250 i251 i252 i253 i254 i255 i256 i257 i258 i259 i260 i261 i262 i263 i264 i265 i266 i267 i268 i269 i270 i271 i272 i273 i274 i275 i276 i277 i278 i279 i280 i281 i282 i283 i284 i285 i286 i287 i288 i289 i290 i291 i292 i293 i294 i295 i296 i297 i298 i299 i300 i301 i302 i303 i304 i305 i306 i307 i308 i309 i310 i311 i312 i313 i314 i315 i316 i317 i318 i319 i320 i321 i322 i323 i324 i325 i326 i327 i328 i329 i330 i331 i332 i333 i334 i335 i336 i337 i338 i339 i340 i341 i342 i343 i344 i345 i346 i347 i348 i349 i350 i351 i352 i353 i354 i355 i356 i357 i358 i359 i360 i361 i362 i363 i364 i365 i366 i367 i368 i369 i370 i371 i372 i373 i374 i375 i376 i377 i378 i379 i380 i381 i382 i383 i384 i385 i386 i387 i388 i389 i390 i391 i392 i393 i394 i395 i396 i397 i398 i399 i400 i401 i402 i403 i404 i405 i406 i407 i408 i409 i410 i411 i412 i413 i414 i415 i416 i417 i418 i419 i420 i421 i422 i423 i424 i425 i426 i427 i428 i429 i430 i431 i432 i433 i434 i435 i436 i437 i438 i439 i440 i441 i442 i443 i444 i445 i446 i447 i448 i449 i450 i451 i452 i453 i454
                revert l m w hl hm ya yc zc HU b1 l1 b2 m1 w1 w2 b g w3 b' g' i0 u10 u47 u48 u49 u50 u51 u52 u53 u54 u55 u56 u57 u58 n xa xc hk hnk wA HBA ca cb HT i1 i2 i3 wr i4 u12 u13 u14 i5 i6 i7 i8 i9 i10 i11 i12 u23 u24 u25 u26 i13 i14 i15 i16 i17 i18 i19 i20 i21 i22 i23 i24 u74 i25 i26 i27 i28 i29 i30 i31 i32 i33 i34 i35 i36 i37 i38 i39 i40 i41 i42 i43 i44 i45 i46 i47 i48 i49 i50 i51 i52 i53 i54 i55 i56 i57 i58 i59 i60 i61 i62 i63 i64 i65 i66 i67 i68 i69 i70 i71 i72 i73 i74 i75 i76 i77 i78 i79 i80 i81 i82 i83 i84 i85 i86 i87 i88 i89 i90 i91 i92 i93 i94 i95 i96 i97 i98 i99 i100 i101 i102 i103 i104 i105 i106 i107 i108 i109 i110 i111 i112 i113 i114 i115 i116 i117 i118 i119 i120 i121 i122 i123 i124 i125 i126 i127 i128 i129 i130 i131 i132 i133 i134 i135 i136 i137 i138 i139 i140 i141 i142 i143 i144 i145 i146 i147 i148 i149 i150 i151 i152 i153 i154 i155 i156 i157 i158 i159 i160 i161 i162 i163 i164 i165 i166 i167 i168 i169 i170 i171 i172 i173 i174 i175 i176 i177 i178 i179 i180 i181 i182 i183 i184 i185 i186 i187 i188 i189 i190 i191 i192 i193 i194 i195 i196 i197 i198 i199 i200 i201 i202 i203 i204 u255 u256 u257 i205 i206 i207 i208 i209 i210 i211 i212 i213 i214 i215 i216 i217 i218 i219 i220 i221 i222 i223 i224 i225 i226 i227 i228 i229 i230 k gp gq A B hk' HNB hlt3 r off o HV i231 i232 i233 i234 i235 wo ob va vb i236 i237 ina inb HINA HINB nq wd HTD HED HBD u4 u15 u16 u17 u18 u19 u20 u21 u22 i238 i239 i240 i241 i242 i243 i244 i245 i246 i247 i248 i249 u75 i250 i251 i252 i253 i254 i255 i256 i257 i258 i259 i260 i261 i262 i263 i264 i265 i266 i267 i268 i269 i270 i271 i272 i273 i274 i275 i276 i277 i278 i279 i280 i281 i282 i283 i284 i285 i286 i287 i288 i289 i290 i291 i292 i293 u120 i294 i295 i296 i297 i298 i299 i300 i301 i302 i303 i304 i305 i306 i307 i308 i309 i310 i311 i312 i313 i314 i315 i316 i317 i318 i319 i320 i321 i322 i323 i324 i325 u153 i326 i327 i328 i329 i330 i331 i332 i333 i334 i335 i336 u165 i337 i338 i339 i340 i341 i342 i343 i344 i345 i346 i347 i348 i349 i350 i351 i352 i353 i354 i355 i356 i357 i358 i359 i360 i361 i362 i363 i364 i365 i366 i367 i368 i369 i370 i371 i372 i373 i374 i375 i376 i377 i378 i379 i380 i381 i382 i383 i384 i385 i386 i387 i388 i389 i390 i391 i392 i393 i394 i395 i396 i397 i398 i399 i400 i401 i402 i403 i404 i405 i406 i407 i408 i409 i410 i411 i412 i413 i414 i415 i416 i417 i418 i419 i420 i421 i422 i423 i424 u254 i425 i426 i427 i428 i429 i430 i431 i432 i433 i434 i435 i436 i437 i438 i439 i440 i441 i442 i443 i444 i445 i446 i447 i448 i449 i450 gp' gq' A' B' HN2 xa2 xc2 xb2 xd2 ba bb inx HINX hbb wF HT2 HB2 HE2 o12 ca2 cb2 HIA HIB i451 i452 i453 i454 wc u62 u63 u64 u65 u66 u67 u68 u69 u70 u71 u72 u73 u76 u77 u78 u79 u80 u81 u82 u83 u84 u85 u86 u87 u88 u89 u90 u91 u92 u93 u94 u95 u96 u97 u98 u99 u100 u101 u102 u103 u104 u105 u106 u107 u108 u109 u110 u111 u112 u113 u114 u115 u116 u117 u118 u119 u121 u122 u123 u124 u125 u126 u127 u128 u129 u130 u131 u132 u133 u134 u135 u136 u137 u138 u139 u140 u141 u142 u143 u144 u145 u146 u147 u148 u149 u150 u151 u152 u154 u155 u156 u157 u158 u159 u160 u161 u162 u163 u164 u166 u167 u168 u169 u170 u171 u172 u173 u174 u175 u176 u177 u178 u179 u180 u181 u182 u183 u184 u185 u186 u187 u188 u189 u190 u191 u192 u193 u194 u195 u196 u197 u198 u199 u200 u201 u202 u203 u204 u205 u206 u207 u208 u209 u210 u211 u212 u213 u214 u215 u216 u217 u218 u219 u220 u221 u222 u223 u224 u225 u226 u227 u228 u229 u230 u231 u232 u233 u234 u235 u236 u237 u238 u239 u240 u241 u242 u243 u244 u245 u246 u247 u248 u249 u250 u251 u252 u253 u258 u259 u260 u261 u262 u263 u264 u265 u266 u267 u268 u269 u270 u271 u272 u273 u274 u275 u276 u277 u278 u279 u280 u281 u282 u283 HB3
                exact cREST2.out
          · rename_i i0 i1 i2 i3 i4 i5
            revert l m w hl hm ya yc za zc HU HV b1 l1 b2 m1 w1 w2 b g w3 b' g' i0 u10 u47 u48 u49 u50 u51 u52 u53 u54 u55 u56 u57 u58 n xa xc hk hnk wA HBA ca cb HT i1 i2 i3 i4 i5 wr u4 u12 u13 u14 u15 u16 u17 u18 u19 u20 u21 u22 u23 u24 u25 u26 u62 u63 u64 u65 u66 u67 u68 u69 u70 u71 u72 u73 u74 u75 u76 u77 u78 u79 u80 u81 u82 u83 u84 u85 u86 u87 u88 u89 u90 u91 u92 u93 u94 u95 u96 u97 u98 u99 u100 u101 u102 u103 u104 u105 u106 u107 u108 u109 u110 u111 u112 u113 u114 u115 u116 u117 u118 u119 u120 u121 u122 u123 u124 u125 u126 u127 u128 u129 u130 u131 u132 u133 u134 u135 u136 u137 u138 u139 u140 u141 u142 u143 u144 u145 u146 u147 u148 u149 u150 u151 u152 u153 u154 u155 u156 u157 u158 u159 u160 u161 u162 u163 u164 u165 u166 u167 u168 u169 u170 u171 u172 u173 u174 u175 u176 u177 u178 u179 u180 u181 u182 u183 u184 u185 u186 u187 u188 u189 u190 u191 u192 u193 u194 u195 u196 u197 u198 u199 u200 u201 u202 u203 u204 u205 u206 u207 u208 u209 u210 u211 u212 u213 u214 u215 u216 u217 u218 u219 u220 u221 u222 u223 u224 u225 u226 u227 u228 u229 u230 u231 u232 u233 u234 u235 u236 u237 u238 u239 u240 u241 u242 u243 u244 u245 u246 u247 u248 u249 u250 u251 u252 u253 u254 u255 u256 u257 u258 u259 u260 u261 u262 u263 u264 u265 u266 u267 u268 u269 u270 u271 u272 u273 u274 u275 u276 u277 u278 u279 u280 u281 u282 u283 k gp gq A B hk' HTW HNB HBW hlt3
            exact cEND.out
end Go.Proofs.Ytlnpbffkcoibpaa

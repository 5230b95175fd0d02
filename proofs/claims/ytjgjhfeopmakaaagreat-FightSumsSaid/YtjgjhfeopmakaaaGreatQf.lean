/- The hits of an attacker and of those that block it (layer 17). -/
import Derived.Test.YtjgjhfeopmakaaaGreatQe
import Derived.Deep.RegionHeld3
namespace Go.Proofs.YtjgjhfeopmakaaaGreat
open Go.RowKit Go.Maps
attribute [local go_sem] Oper.semAt_some

def backH (S : StoreL) (i x : Int) : HitL := ⟨x, i, powS S x⟩
def blowsL (B : BoardL) (team i : Int) : List HitL := if blockL B i = [] then [⟨i, placeT (nextT B.T team), powS B.S i⟩] else (shareK B.S i (blockL B i) (blockL B i).length).2 ++ (blockL B i).map (backH B.S i)
theorem hits_lit (w : World) (x : HitL) : (w.alloc (.cells (hcells x).toArray 52)).ownsRow w.heap.size 52 3 (.slice (some ⟨w.heap.size, 0, none⟩) 1 1) 1 (hitsV [x]) := by
  refine ⟨rfl, .inr ⟨w.heap.size, 1, (hcells x).toArray, rfl, Nat.le_refl _, heap_alloc_new w _, Nat.le_refl _, by unfold maxLen; omega, rfl, ?_⟩⟩
  simp [hitsV, hcells]
theorem retV_same {f : Nat} {args : Array Value} {w : World} {v : Value} (h : Calls Tryz.prog f args w (Same w v)) : Calls Tryz.prog f args w (RetV w v) := h.mono fun _ _ hh => ⟨hh.1, by rw [hh.2]; exact Below.refl _ _⟩
set_option maxRecDepth 100000 in
set_option maxHeartbeats 8000000 in
theorem blows_any {w : World} {lo : Nat} {g : GhostB} {B : BoardL} (h : BoardAt w lo g B) (team i : Int) : Calls Tryz.prog 36 #[.pointer (some ⟨g.q, 0, none⟩), .int .i64 team, .int .i64 i] w (RetHits w (blowsL B team i)) := by
  have HBL := Lib.hid (blockers_any h i)
  have HPW := Lib.hid (fun (w' : World) (hb : Below w.heap.size w w') (x : Int) => power_any (h.later hb).st h.wf (by have := h.len; omega) x)
  have HNX := Lib.hid (fun (w' : World) (hb : Below w.heap.size w w') => retV_same (tnext_any (h.later hb).tm team))
  have HPL := Lib.hid (fun (w' : World) (t : Int) => retV_same (placeOf17_any t w'))
  have HSH := Lib.hid (fun (w' : World) (hb : Below w.heap.size w w') (v : Value) (hv : IntsAt w' v (blockL B i)) => shares_any (h.later hb) i hv (blockL_len h i))
  have HLN := Lib.hid (blockL_len h i)
  have HCC := Lib.hid (fun (w' : World) (hb : Below w.heap.size w w') => (h.later hb).cells)
  have c0 := h.cells.1
  have HBB := Lib.hid h
  unfold blowsL
  clear h
  obtain ⟨q, b, tb, s, r0, G⟩ := g
  dsimp only at HBL HPW HNX HSH HCC c0 ⊢
  obtain ⟨l, hl⟩ : ∃ l, blockL B i = l := ⟨_, rfl⟩
  rw [hl] at HBL HSH HLN ⊢
  clear hl
  by_cases hn : l = []
  · subst hn
    rw [if_pos rfl]
    obtain ⟨t, ht⟩ : ∃ t, nextT B.T team = t := ⟨_, rfl⟩
    obtain ⟨pl, hpl⟩ : ∃ pl, placeT t = pl := ⟨_, rfl⟩
    obtain ⟨pw, hpw⟩ : ∃ pw, powS B.S i = pw := ⟨_, rfl⟩
    have HPW := Lib.hid (fun w' hb => HPW.out w' hb i)
    have HPL := Lib.hid (fun w' => HPL.out w' t)
    rw [ht] at HNX ⊢
    rw [hpl] at HPL ⊢
    rw [hpw] at HPW ⊢
    clear HSH HLN ht hpl hpw
    go_enter Tryz.func36, Tryz.ntmps36
    go_wp2_with fail
    refine HBL.out.mono ?_
    rintro e w1 ⟨v, rfl, ho, hb1⟩
    obtain ⟨va, vc, rfl⟩ := (own_ints ho).form
    have HI := Lib.hid (show Below w.heap.size w w1 ∧ _ ∧ _ from ⟨hb1, (HCC.out _ hb1).1, (HCC.out _ hb1).2.1⟩)
    clear ho hb1 c0
    dsimp only
    go_wp2
    go_region_held3 (fun w' => Below w.heap.size w w' ∧ w'.cell? ⟨q, 0, none⟩ = some (.pointer (some ⟨b, 0, none⟩)) ∧ w'.cell? ⟨q, 1, none⟩ = some (.pointer (some ⟨tb, 0, none⟩)))
      (first | assumption | (with_reducible exact HI.out) | exact keepL2 ((Below.refl _ _).drew) HI.out | exact keepL2 (by assumption) (by assumption) | exact keepL2 (below_new _ _) (by assumption))
      (first
        | (go_at_call 17; refine (HNX.out _ (And.left (by assumption))).mono ?_; rintro e w2 ⟨rfl, hb2⟩)
        | (go_at_call 73; refine (HPL.out _).mono ?_; rintro e w3 ⟨rfl, hb3⟩)
        | (go_at_call 19; refine (HPW.out _ (And.left (by assumption))).mono ?_; rintro e w4 ⟨rfl, hb4⟩))
    all_goals
      have hB : Below w.heap.size w (w4.alloc (.cells #[.int .i64 i, .int .i64 pl, .int .i64 pw] 52)) := And.left (by assumption)
      have hs : w.heap.size ≤ w4.heap.size := by
        have h1 := HI.out.1.size
        have h2 := hb2.size
        have h3 := hb3.size
        have h4 := hb4.size
        rw [World.size_drew] at h2
        omega
      have HR := Lib.hid (show RetHits w [⟨i, pl, pw⟩] (.returned (.slice (some ⟨w4.heap.size, 0, none⟩) 1 1)) (w4.alloc (.cells #[.int .i64 i, .int .i64 pl, .int .i64 pw] 52)) from ⟨_, rfl, own_mono (hits_lit w4 ⟨i, pl, pw⟩) hs, hB⟩)
      clear hB
      go_wp2
      go_ret
      exact HR.out
  · have hlen : 0 < l.length := List.length_pos_iff.2 hn
    have d0 : decide ((l.length : Int) = 0) = false := decide_eq_false (by omega)
    have dn : ¬(l.length = 0) := by omega
    have d2 : ((l.length : Int) == 0) = false := by simpa using hn
    have d3 : (l.length == 0) = false := by simpa using hn
    rw [if_neg hn]
    have HLP := Lib.hid hlen
    obtain ⟨L0, hL0⟩ : ∃ L0, (shareK B.S i l l.length).2 = L0 := ⟨_, rfl⟩
    have HL0 := Lib.hid (show L0.length = l.length from by rw [← hL0]; exact shareK_len _ _ _ _)
    simp only [hL0] at HSH
    rw [hL0]
    clear hn HNX HPL hL0
    go_enter Tryz.func36, Tryz.ntmps36
    go_wp2_with fail
    refine HBL.out.mono ?_
    rintro e w1 ⟨v, rfl, ho, hb1⟩
    have hi := own_ints ho
    obtain ⟨va, vc, rfl⟩ := (own_ints ho).form
    have HV := Lib.hid hi
    have HSS := Lib.hid (HSH.out w1 hb1 _ hi)
    have HB1 := Lib.hid hb1
    clear ho hb1 hi c0 hlen
    dsimp only
    go_wp2_with fail
    refine HSS.out.mono ?_
    rintro e w2 ⟨v, rfl, ho, hb2⟩
    obtain ⟨xa, xc, rfl⟩ := hits_form ho
    have HO2 := Lib.hid ho
    have HB2 := Lib.hid hb2
    clear ho hb2 HSS HBL HSH
    dsimp only
    go_wp2
    go_loopw [8, 39] (fun b c wr => ∃ (k : Nat) (L : List HitL) (xa : Option Addr) (xc : Nat), k ≤ l.length ∧ b = .slice xa L.length xc ∧ c = .int .i64 k ∧ Hid (L = L0 ++ (l.take k).map (backH B.S i)) ∧ Hid (wr.ownsRow w1.heap.size 52 3 (.slice xa L.length xc) L.length (hitsV L)) ∧ Hid (Below w1.heap.size w1 wr)) (fun _ c _ => l.length - (intOf c).toNat)
    case atStart => exact ⟨0, L0, xa, xc, Nat.zero_le _, rfl, rfl, Lib.hid (by simp), HO2, HB2⟩
    case round =>
      obtain ⟨k, L, xa, xc, hk, rfl, rfl, HLE, HO, HB⟩ := hrel
      have hl9 := HLN.out
      have HKL := Lib.hid (show L.length ≤ 2000 from by rw [HLE.out, List.length_append, List.length_map, List.length_take]; have := HL0.out; have := HLN.out; omega)
      by_cases hlt : k < l.length
      · obtain ⟨b0, off, rfl, _, cx⟩ := (HV.out.later HB.out).at k hlt
        have HTK := take_last l k hlt
        have HPX := Lib.hid (HPW.out wr (stepB HB1.out HB.out) l[k])
        obtain ⟨x, hx⟩ : ∃ x, l[k] = x := ⟨_, rfl⟩
        rw [hx] at cx HPX HTK
        obtain ⟨z, hz⟩ : ∃ z, powS B.S x = z := ⟨_, rfl⟩
        have HLN9 := Lib.hid (show L ++ [⟨x, i, z⟩] = L0 ++ (l.take (k + 1)).map (backH B.S i) from by rw [HTK, List.map_append, ← List.append_assoc, ← HLE.out, List.map_singleton, backH, hz])
        rw [hz] at HPX
        have dk : decide ((k : Int) < l.length) = true := decide_eq_true (by omega)
        have HCW := (HCC.out _ (stepB HB1.out HB.out)).1
        clear hx hz HTK
        go_wp2_with fail
        refine HPX.out.mono ?_
        rintro e w5 ⟨rfl, hb5⟩
        have HO9 := Lib.hid (hits_later HO.out hb5)
        have HB9 := Lib.hid (stepB HB.out hb5)
        clear hb5 cx HPX HCW
        dsimp only
        have HR9 := Lib.hid (hits_later HO9.out (below_new w5 (.cells #[.int .i64 x, .int .i64 i, .int .i64 z] 52)))
        have hlen9 : L.length ≤ 1000000 := by have := HKL.out; omega
        have hlo9 : w1.heap.size ≤ (w5.alloc (.cells #[.int .i64 x, .int .i64 i, .int .i64 z] 52)).heap.size := by have := HB9.out.size; simp; omega
        go_wp2_with (at_builtin; refine wpList_push_hit rfl _ _ rfl w1.heap.size (.slice xa L.length xc) L ⟨x, i, z⟩ rfl w5.heap.size HR9.out rfl (heap_alloc_new w5 _) hlen9 hlo9 ?f)
        case f =>
          intro ga cap w8 hown hgrow hat hlt8
          have HO8 := Lib.hid (show w8.ownsRow w1.heap.size 52 3 (.slice (some ⟨ga, 0, none⟩) (L ++ [HitL.mk x i z]).length cap) (L ++ [HitL.mk x i z]).length (hitsV (L ++ [HitL.mk x i z])) from by rw [List.length_append]; exact hown)
          have HB8 := Lib.hid (show Below w1.heap.size w1 w8 from grown_of (HB9.out.alloc HB9.out.size _) hgrow (fun k e => (World.ownsRow.lt HR9.out k e).1))
          clear hown hgrow hat hlt8 hlen9 hlo9
          go_wp2
          go_roundw
          case rel => exact ⟨k + 1, L ++ [⟨x, i, z⟩], some ⟨ga, 0, none⟩, cap, by omega, by rw [List.length_append]; rfl, by go_num, HLN9, HO8, HB8⟩
          case measure => simp [intOf]; omega
      · have hkl : k = l.length := by omega
        have dk : decide ((k : Int) < l.length) = false := decide_eq_false (by omega)
        have HR := Lib.hid (show RetHits w (L0 ++ l.map (backH B.S i)) (.returned (.slice xa L.length xc)) wr from by
          have e := HLE.out
          rw [hkl, List.take_length] at e
          rw [← e]
          exact ⟨_, rfl, own_mono HO.out HB1.out.size, stepB HB1.out HB.out⟩)
        go_wp2
        go_ret
        exact HR.out
end Go.Proofs.YtjgjhfeopmakaaaGreat

/- How an attacker shares its power out; the hits of an attacker and of those that block it (layer 17). -/
import Derived.Test.YtjgjhfeopmakaaaGreatQd
namespace Go.Proofs.YtjgjhfeopmakaaaGreat
open Go.RowKit Go.Maps
attribute [local go_sem] Oper.semAt_some

def shareN (S : StoreL) (l : List Int) (k : Nat) (left x : Int) : Int := if (k : Int) < (l.length : Int) - 1 then min left (lackZ S x) else left
/-- What is left, and the hits, when the first k have had their share. -/
def shareK (S : StoreL) (i : Int) (l : List Int) : Nat → Int × List HitL
  | 0 => (powS S i, [])
  | k + 1 => (wrap64 ((shareK S i l k).1 - shareN S l k (shareK S i l k).1 (l.getD k 0)), (shareK S i l k).2 ++ [⟨i, l.getD k 0, shareN S l k (shareK S i l k).1 (l.getD k 0)⟩])
theorem shareK_len (S : StoreL) (i : Int) (l : List Int) : ∀ k, (shareK S i l k).2.length = k
  | 0 => rfl
  | k + 1 => by rw [shareK, List.length_append, shareK_len S i l k]; rfl
def RetHits (w : World) (L : List HitL) (e : Ending) (w' : World) : Prop := ∃ v, e = .returned v ∧ w'.ownsRow w.heap.size 52 3 v L.length (hitsV L) ∧ Below w.heap.size w w'
theorem hits_form {w : World} {lo n : Nat} {v : Value} {xs : List Value} (h : w.ownsRow lo 52 3 v n xs) : ∃ xa xc, v = .slice xa n xc := by
  rcases h.2 with ⟨rfl, h0⟩ | ⟨g, cap, cur, rfl, _⟩
  · exact ⟨none, 0, by rw [h0]⟩
  · exact ⟨_, cap, rfl⟩
theorem hits_later {w w' : World} {lo n : Nat} {v : Value} {xs : List Value} (h : w.ownsRow lo 52 3 v n xs) (hb : Below w.heap.size w w') : w'.ownsRow lo 52 3 v n xs :=
  own11_later h fun k hk => hb.block k (World.ownsRow.lt h k hk).2
set_option maxRecDepth 100000 in
set_option maxHeartbeats 8000000 in
theorem shares_any {w : World} {lo : Nat} {g : GhostB} {B : BoardL} (h : BoardAt w lo g B) (i : Int) {v : Value} {l : List Int} (hv : IntsAt w v l) (hl : l.length ≤ 1000) : Calls Tryz.prog 74 #[.pointer (some ⟨g.q, 0, none⟩), .int .i64 i, v] w (RetHits w (shareK B.S i l l.length).2) := by
  have HP := Lib.hid (power_any h.st h.wf (by have := h.len; omega) i)
  have HLK := Lib.hid (fun (w' : World) (hb : Below w.heap.size w w') (x : Int) => lacks_any (h.later hb) x)
  have HV := Lib.hid hv
  have c0 := h.cells.1
  obtain ⟨va, vc, rfl⟩ := hv.form
  obtain ⟨P, hP⟩ : ∃ P, powS B.S i = P := ⟨_, rfl⟩
  rw [hP] at HP
  have HP0 := Lib.hid (show shareK B.S i l 0 = (P, []) by rw [shareK, hP])
  have hm : wrap64 ((l.length : Int) - 1) = (l.length : Int) - 1 := by unfold wrap64; omega
  have hm' : IntKind.i64.wrap ((l.length : Int) - 1) = (l.length : Int) - 1 := by rw [IntKind.wrap_i64]; omega
  clear h hv hP
  go_enter Tryz.func74, Tryz.ntmps74
  go_wp2_with fail
  refine HP.out.mono ?_
  rintro e w1 ⟨rfl, hb1⟩
  have HB1 := Lib.hid hb1
  clear hb1 c0
  dsimp only
  go_wp2
  go_loopw [7, 9, 24] (fun a b c wr => ∃ (k : Nat) (L : List HitL) (left : Int) (xa : Option Addr) (xc : Nat), k ≤ l.length ∧ a = .int .i64 left ∧ b = .slice xa L.length xc ∧ c = .int .i64 k ∧ Hid (shareK B.S i l k = (left, L)) ∧ Hid (wr.ownsRow w.heap.size 52 3 (.slice xa L.length xc) L.length (hitsV L)) ∧ Hid (Below w.heap.size w wr)) (fun _ _ c _ => l.length - (intOf c).toNat)
  case atStart => exact ⟨0, [], P, none, 0, Nat.zero_le _, rfl, rfl, rfl, HP0, Lib.hid (World.ownsRow_nil _ _ _ _), HB1⟩
  case round =>
    obtain ⟨k, L, left, xa, xc, hk, rfl, rfl, rfl, HSH, HO, HB⟩ := hrel
    have HKL := Lib.hid (show L.length = k from by have := shareK_len B.S i l k; rw [HSH.out] at this; exact this)
    by_cases hlt : k < l.length
    · obtain ⟨b0, off, rfl, _, cx⟩ := (HV.out.later HB.out).at k hlt
      have hgd : l.getD k 0 = l[k] := by simp [hlt]
      have hss : shareK B.S i l (k + 1) = (wrap64 (left - shareN B.S l k left l[k]), L ++ [⟨i, l[k], shareN B.S l k left l[k]⟩]) := by rw [shareK, HSH.out, hgd]
      obtain ⟨x, hx⟩ : ∃ x, l[k] = x := ⟨_, rfl⟩
      rw [hx] at cx hss
      have HSS := Lib.hid hss
      have dk : decide ((k : Int) < l.length) = true := decide_eq_true (by omega)
      clear hgd hss hx
      by_cases hlast : (k : Int) < (l.length : Int) - 1
      · have d1 : decide ((k : Int) < (l.length : Int) - 1) = true := decide_eq_true hlast
        have HLX := Lib.hid (HLK.out wr HB.out x)
        have HSN := Lib.hid (show shareN B.S l k left x = min left (lackZ B.S x) from if_pos hlast)
        obtain ⟨z, hz⟩ : ∃ z, lackZ B.S x = z := ⟨_, rfl⟩
        rw [hz] at HLX HSN
        obtain ⟨nn, hnn⟩ : ∃ nn, min left z = nn := ⟨_, rfl⟩
        have HSH9 := Lib.hid (show shareK B.S i l (k + 1) = (wrap64 (left - nn), L ++ [⟨i, x, nn⟩]) from by rw [HSS.out, HSN.out, hnn])
        clear hz
        go_wp2_with fail
        refine HLX.out.mono ?_
        rintro e w5 ⟨rfl, hb5⟩
        have HO9 := Lib.hid (hits_later HO.out hb5)
        have HB9 := Lib.hid (stepB HB.out hb5)
        clear hb5 cx HLX
        dsimp only
        have HR9 := Lib.hid (hits_later HO9.out (below_new w5 (.cells #[.int .i64 i, .int .i64 x, .int .i64 nn] 52)))
        have hlen9 : L.length ≤ 1000000 := by have := HKL.out; omega
        have hlo9 : w.heap.size ≤ (w5.alloc (.cells #[.int .i64 i, .int .i64 x, .int .i64 nn] 52)).heap.size := by have := HB9.out.size; simp; omega
        go_wp2_with (at_builtin; refine wpList_push_hit rfl _ _ rfl w.heap.size (.slice xa L.length xc) L ⟨i, x, nn⟩ rfl w5.heap.size HR9.out rfl (heap_alloc_new w5 _) hlen9 hlo9 ?f)
        case f =>
          intro ga cap w8 hown hgrow hat hlt8
          have HO8 := Lib.hid (show w8.ownsRow w.heap.size 52 3 (.slice (some ⟨ga, 0, none⟩) (L ++ [HitL.mk i x nn]).length cap) (L ++ [HitL.mk i x nn]).length (hitsV (L ++ [HitL.mk i x nn])) from by rw [List.length_append]; exact hown)
          have HB8 := Lib.hid (show Below w.heap.size w w8 from grown_of (HB9.out.alloc HB9.out.size _) hgrow (fun k e => (World.ownsRow.lt HR9.out k e).1))
          clear hown hgrow hat hlt8 hlen9 hlo9
          go_wp2
          go_roundw
          case rel => exact ⟨k + 1, L ++ [⟨i, x, nn⟩], wrap64 (left - nn), some ⟨ga, 0, none⟩, cap, by omega, by first | rfl | simp [wrap64], by rw [List.length_append]; rfl, by go_num, HSH9, HO8, HB8⟩
          case measure => simp [intOf]; omega
      · have d1 : decide ((k : Int) < (l.length : Int) - 1) = false := decide_eq_false hlast
        have HSN := Lib.hid (show shareN B.S l k left x = left from if_neg hlast)
        have HSH9 := Lib.hid (show shareK B.S i l (k + 1) = (wrap64 (left - left), L ++ [⟨i, x, left⟩]) from by rw [HSS.out, HSN.out])
        have HO9 := HO
        have HB9 := HB
        have HR9 := Lib.hid (hits_later HO9.out (below_new wr (.cells #[.int .i64 i, .int .i64 x, .int .i64 left] 52)))
        have hlen9 : L.length ≤ 1000000 := by have := HKL.out; omega
        have hlo9 : w.heap.size ≤ (wr.alloc (.cells #[.int .i64 i, .int .i64 x, .int .i64 left] 52)).heap.size := by have := HB9.out.size; simp; omega
        go_wp2_with (at_builtin; refine wpList_push_hit rfl _ _ rfl w.heap.size (.slice xa L.length xc) L ⟨i, x, left⟩ rfl wr.heap.size HR9.out rfl (heap_alloc_new wr _) hlen9 hlo9 ?f)
        case f =>
          intro ga cap w8 hown hgrow hat hlt8
          have HO8 := Lib.hid (show w8.ownsRow w.heap.size 52 3 (.slice (some ⟨ga, 0, none⟩) (L ++ [HitL.mk i x left]).length cap) (L ++ [HitL.mk i x left]).length (hitsV (L ++ [HitL.mk i x left])) from by rw [List.length_append]; exact hown)
          have HB8 := Lib.hid (show Below w.heap.size w w8 from grown_of (HB9.out.alloc HB9.out.size _) hgrow (fun k e => (World.ownsRow.lt HR9.out k e).1))
          clear hown hgrow hat hlt8 hlen9 hlo9
          go_wp2
          go_roundw
          case rel => exact ⟨k + 1, L ++ [⟨i, x, left⟩], wrap64 (left - left), some ⟨ga, 0, none⟩, cap, by omega, by first | rfl | simp [wrap64], by rw [List.length_append]; rfl, by go_num, HSH9, HO8, HB8⟩
          case measure => simp [intOf]; omega
    · have hkl : k = l.length := by omega
      have dk : decide ((k : Int) < l.length) = false := decide_eq_false (by omega)
      have HR := Lib.hid (show RetHits w (shareK B.S i l l.length).2 (.returned (.slice xa L.length xc)) wr from by
        rw [← hkl, HSH.out]
        exact ⟨_, rfl, HO.out, HB.out⟩)
      go_wp2
      go_ret
      exact HR.out
end Go.Proofs.YtjgjhfeopmakaaaGreat

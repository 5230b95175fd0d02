/- The law AimChecks (layer 10), walked: for every list of things and every numbers it returns true, and only new memory is made. -/
import Derived.Test.YthciiapdfjemaaaAm
import Derived.Test.YthciiapdfjemaaaAq
import Derived.Deep.CutRange
import Derived.Deep.CutBlock
namespace Go.Proofs.Ythciiapdfjemaaa
open Go.RowKit Go.Maps
attribute [local go_sem] Oper.semAt_some

theorem own_form1 {w : World} {lo n : Nat} {t : TypeId} {v : Value} {xs : List Value} (h : w.ownsRow lo t 1 v n xs) : ∃ xa xc, v = .slice xa n xc := by
  rcases h.2 with ⟨rfl, h0⟩ | ⟨g, cap, cur, rfl, _⟩
  · have : n = 0 := by have := h.1; simp_all
    subst this
    exact ⟨none, 0, rfl⟩
  · exact ⟨_, _, rfl⟩
theorem upTo_congr {p q : Nat → Bool} {k : Nat} (h : ∀ n, n < k → p n = q n) : upTo p k = upTo q k := by
  unfold upTo
  rw [List.filter_congr (fun n hn => h n (List.mem_range.1 hn))]
/-- What may be aimed at is just what All tells. -/
theorem mem_aimL {T : TeamL} {S : StoreL} {seat on : Int} (h : ¬(ofT T seat < 0 ∨ on < 0 ∨ 4 < on)) (hS : WfS S) (hn : 1 ≤ S.seats) (x : Int) : (chkT T S seat on x == 0) = decide (x ∈ aimL T S seat on) := by
  rw [Bool.eq_iff_iff, decide_eq_true_eq]
  unfold aimL
  rw [List.mem_filter]
  refine ⟨fun hx => ⟨?_, hx⟩, fun hx => hx.2⟩
  rw [chk_may h] at hx
  have hc : on = 0 ∨ on = 1 ∨ on = 2 ∨ on = 3 ∨ on = 4 := by omega
  have hlive : (creE S x == 0) = true → x ∈ crs S := fun hx => by
    rw [crs_eq hS hn]
    obtain ⟨k, hk, rfl, _, hl⟩ := creE_live (of_decide_eq_true hx)
    refine List.mem_filter.2 ⟨?_, hx⟩
    have hz : S.objs[k].zone = 3 := by
      unfold liveO at hl
      rw [Bool.and_eq_true] at hl
      exact of_decide_eq_true hl.1
    exact (hS.mem 0 3 (okK_field hn) _).2 ⟨k, hk, rfl, by unfold keyS; rw [hz]; rfl, by rw [hz]; rfl⟩
  unfold amongL
  unfold mayT at hx
  rcases hc with rfl | rfl | rfl | rfl | rfl
  · rw [if_neg (by decide), if_neg (by decide), if_neg (by decide), if_neg (by decide)] at hx
    rw [if_pos rfl]
    have : x = 0 := of_decide_eq_true hx
    simp [this]
  · rw [if_pos rfl] at hx
    rw [if_neg (by decide), if_neg (by decide)]
    exact hlive hx
  · rw [if_neg (by decide), if_pos rfl, Bool.and_eq_true] at hx
    rw [if_neg (by decide), if_neg (by decide)]
    exact hlive hx.1
  · rw [if_neg (by decide), if_neg (by decide), if_pos rfl, Bool.and_eq_true] at hx
    rw [if_neg (by decide), if_neg (by decide)]
    exact hlive hx.1
  · rw [if_neg (by decide), if_neg (by decide), if_neg (by decide), if_pos rfl] at hx
    rw [if_neg (by decide), if_pos rfl]
    have h2 := hx
    rw [Bool.and_eq_true] at h2
    have hlo : lostT T x = false := by simpa using h2.2
    have hin : inT T x = true := by
      cases hi : inT T x with
      | true => rfl
      | false =>
        unfold lostT at hlo
        rw [hi] at hlo
        cases hlo
    obtain ⟨n, rfl, hn⟩ := in_nat hin
    exact mem_upTo.2 ⟨n, hn, hx, rfl⟩
theorem chk_two {T : TeamL} {S : StoreL} {seat on : Int} (h : ¬(ofT T seat < 0 ∨ on < 0 ∨ 4 < on)) (x : Int) : chkT T S seat on x = 0 ∨ chkT T S seat on x = 12 := by
  unfold chkT
  rw [if_neg h]
  cases mayT T S seat on x <;> simp
def badZ (a b : Int) : Bool := decide (a < 0) || decide (3 < a) || decide (b < 0) || decide (4 < b)
theorem badZ_of (n : Nat) (a b : Int) : badZ a b = true ↔ (ofT (sidesT n) a < 0 ∨ b < 0 ∨ 4 < b) := by
  unfold badZ
  simp only [Bool.or_eq_true, decide_eq_true_eq]
  constructor
  · intro h
    rcases h with ((h | h) | h) | h
    · rw [sides_out n (.inl h)]; exact .inl (by omega)
    · rw [sides_out n (.inr h)]; exact .inl (by omega)
    · exact .inr (.inl h)
    · exact .inr (.inr h)
  · intro h
    rcases h with h | h | h
    · by_cases h0 : a < 0
      · exact .inl (.inl (.inl h0))
      · by_cases h3 : 3 < a
        · exact .inl (.inl (.inr h3))
        · have := sides_of n (x := a) (by omega)
          omega
    · exact .inl (.inr h)
    · exact .inr h
theorem filt_step (q : Int → Bool) (F : List Int) (k : Nat) (hk : k < F.length) : (F.take (k + 1)).filter q = if q F[k] then (F.take k).filter q ++ [F[k]] else (F.take k).filter q := by
  rw [take_last F k hk, List.filter_append]
  cases h : q F[k] <;> simp [h]
/-- An object on the Field, by its thing. -/
theorem thing_field {S : StoreL} {l : List ThingL} (hm : MadeS S l) {i : Int} (hi : i ∈ S.pl 0 3) :
    ∃ j, ∃ hj : j < l.length, i = (j : Int) + 1 ∧ (∃ c, ∃ hc : c < T7.length, l[j].card = (c : Int) ∧ (creE S i == 0) = (T7[c].kind == 2)) ∧ ∀ (T : TeamL) (seat : Int), ownT T S seat i = matesT T seat l[j].owner := by
  obtain ⟨k, hk, e, ho, hz⟩ := hm.wf.onField (by rw [hm.seats]; decide) hi
  have hkl : k < l.length := by rw [hm.len] at hk; exact hk
  have hob : S.objs[k] = objT k l[k] := (List.getElem_of_eq hm.objs hk).trans (objsT_get l k hkl)
  have hid := hm.wf.ids k hk
  have hcd : S.objs[k].card = l[k].card := by rw [hob]; rfl
  rw [hm.T] at hid
  obtain ⟨c, hc⟩ : ∃ c : Nat, l[k].card = (c : Int) := ⟨l[k].card.toNat, by omega⟩
  have hc4 : c < T7.length := by have := hid.2.2.1; rw [hcd, hc] at this; omega
  refine ⟨k, hkl, e, ⟨c, hc4, hc, ?_⟩, fun T seat => ?_⟩
  · have hh : hasS S i := by rw [e]; exact ⟨by omega, by omega⟩
    have hcs : cardS S S.objs[k] = T7[c] := by
      unfold cardS
      rw [hm.T, hcd, hc]
      simp [List.getD, hc4]
    unfold creE
    rw [if_pos hh, ho]
    unfold liveO
    rw [hz, hcs]
    cases (T7[c].kind == 2) <;> rfl
  · unfold ownT
    rw [ho, hob]
    rfl
theorem things_at {w : World} {va : Option Addr} {vc : Nat} {l : List ThingL} (h : ThingsAt w (.slice va l.length vc) l) (j : Nat) (hj : j < l.length) : ∃ b off, va = some ⟨b, off, none⟩ ∧ ThingCells w b (off + j * 5) l[j] := by
  rcases h with ⟨_, _, _, h2⟩ | ⟨b, off, cap, h1, _, hc⟩
  · subst h2; simp at hj
  · injection h1 with h1 _ _; exact ⟨b, off, h1, hc j hj⟩
theorem table_form {w : World} {v : Value} (h : Crd.CardsAt w v T7) : ∃ b o cap, v = .slice (some ⟨b, o, none⟩) 4 cap := by
  rcases h with ⟨_, _, _, h2⟩ | ⟨b, off, cap, h1, _⟩
  · cases h2
  · exact ⟨b, off, cap, h1⟩
theorem table_kind {w : World} {b o cap : Nat} (h : Crd.CardsAt w (.slice (some ⟨b, o, none⟩) 4 cap) T7) (c : Nat) (hc : c < T7.length) : w.cell? ⟨b, o + c * 7, none⟩ = some (.int .i64 T7[c].kind) := by
  rcases h with ⟨_, _, _, h2⟩ | ⟨b', off, cap', h1, _, hcell⟩
  · cases h2
  · injection h1 with h1 _ _
    injection h1 with h1
    injection h1 with h3 h4
    subst h3 h4
    obtain ⟨_, _, c0, _⟩ := hcell c hc
    exact c0
set_option maxRecDepth 100000 in
set_option maxHeartbeats 64000000 in
theorem aimChecks_walk {v : Value} {l : List ThingL} {n : Nat} (a0 a1 a2 : Int) {w : World} (hv : ThingsAt w v l) (hw : ∀ x ∈ l, Wf x.owner ∧ Wf x.zone) (hlen : l.length ≤ 9223372036854775807) (hn : n < 256) :
    Calls Try.prog 3 #[v, .int .u8 n, .agg #[.int .i64 a0, .int .i64 a1, .int .i64 a2]] w (RetV w (.bool true)) := by
  have HV := Lib.hid hv
  have HW := Lib.hid hw
  obtain ⟨va, vc, rfl⟩ := hv.form
  clear hv hw
  refine (callsIn_wide (n := 9)).1 ?_
  refine callsIn_of_wp_marks Try.func3 rfl trivial ?_ rfl
  simp only [Try.ntmps3, List.size_toArray, List.length_cons, List.length_nil, Nat.reduceAdd, Nat.reduceSub, Array.replicate_succ, Array.replicate_zero, List.push_toArray, List.append_toArray, List.nil_append, List.cons_append]
  refine wpIn_wide.2 ?_
  have hx2 := below_new w (.cells #[.int .i64 a0, .int .i64 a1, .int .i64 a2] 24)
  have HX2 := Lib.hid hx2
  have HC2 := Lib.hid (heap_alloc_new w (.cells #[.int .i64 a0, .int .i64 a1, .int .i64 a2] 24))
  clear hx2
  go_wp2_with fail
  obtain ⟨W2, hW2⟩ : ∃ W2, (w.alloc (.cells #[.int .i64 a0, .int .i64 a1, .int .i64 a2] 24)) = W2 := ⟨_, rfl⟩
  have HSZ2 := Lib.hid (show W2.heap.size = w.heap.size + 1 by rw [← hW2]; simp)
  rw [hW2] at HX2 HC2 ⊢
  clear hW2
  refine (awake10_any _).mono ?_
  rintro e w1 ⟨rfl, hb1⟩
  have HX3 := Lib.hid (stepB HX2.out hb1)
  have HC3 := Lib.hid ((hb1.block _ (Array.getElem?_eq_some_iff.1 HC2.out).1).trans HC2.out)
  have HZ3 := Lib.hid (show w.heap.size + 1 ≤ w1.heap.size by have := hb1.size; have := HSZ2.out; omega)
  clear hb1 HX2 HC2
  have HMA := Lib.hid (made_any (HV.out.later HX3.out) HW.out hlen)
  go_wp2_with fail
  refine HMA.out.mono ?_
  rintro e w2 (⟨hplay, b, lo, G, S, rfl, hs, hm, hlo, _, hb2⟩ | ⟨hplay, rfl, hb2⟩)
  case inr =>
    have HX4 := Lib.hid (stepB HX3.out hb2)
    clear hb2
    go_wp2_with fail
    refine (sides_any hn _).mono ?_
    rintro e w3 ⟨tlo, tb, s, r, rfl, _, _, hb3⟩
    have HX5 := Lib.hid (stepB HX4.out hb3)
    clear hb3
    go_wp2
    exact ⟨_, results_tmp rfl _ _ _, rfl, HX5.out⟩
  have HX4 := Lib.hid (stepB HX3.out hb2)
  have HC4 := Lib.hid ((hb2.block _ (Array.getElem?_eq_some_iff.1 HC3.out).1).trans HC3.out)
  have HS4 := Lib.hid hs
  have HM := Lib.hid hm
  have HPL := Lib.hid hplay
  have HL := Lib.hid (show S.objs.length ≤ 1000 by rw [hm.len]; have := hplay.1; omega)
  have HZ4 := Lib.hid (show w1.heap.size ≤ w2.heap.size from hb2.size)
  clear hs hm hplay hlo hb2 HX3 HC3 HMA HW
  go_wp2_with fail
  refine (sides_any hn _).mono ?_
  rintro e w3 ⟨tlo, tb, s, r, rfl, ht, htlo, hb3⟩
  have HX3 := Lib.hid (stepB HX4.out hb3)
  have HC3 := Lib.hid ((hb3.block _ (Array.getElem?_eq_some_iff.1 HC4.out).1).trans HC4.out)
  have HS3 := Lib.hid (HS4.out.later hb3)
  have HT3 := Lib.hid ht
  have HZ5 := Lib.hid (show w.heap.size + 1 ≤ w3.heap.size from by have := hb3.size; have := HZ3.out; have := HZ4.out; omega)
  clear ht htlo hb3 HX4 HC4 HS4
  have HBD := Lib.hid (badZ_of n a0 a1)
  have HLT := Lib.hid (fun k => sides_lost n k)
  obtain ⟨T, hT⟩ : ∃ T, sidesT n = T := ⟨_, rfl⟩
  rw [hT] at HT3 HBD HLT
  clear hT
  have HCK := Lib.hid (aimCheck_any HS3.out HM.out.wf HL.out HT3.out a0 a1 a2)
  obtain ⟨E, hE⟩ : ∃ E, chkT T S a0 a1 a2 = E := ⟨_, rfl⟩
  have HEE := Lib.hid hE
  rw [hE] at HCK
  clear hE
  have c0 : w3.cell? ⟨w.heap.size, 0, none⟩ = some (.int .i64 a0) := cell_of_row _ _ 0 _ _ (0, 0) HC3.out
  have c1 : w3.cell? ⟨w.heap.size, 1, none⟩ = some (.int .i64 a1) := cell_of_row _ _ 1 _ _ (0, 0) HC3.out
  have c2 : w3.cell? ⟨w.heap.size, 2, none⟩ = some (.int .i64 a2) := cell_of_row _ _ 2 _ _ (0, 0) HC3.out
  go_wp2_with fail
  refine HCK.out.mono ?_
  rintro e w4 ⟨rfl, hb4⟩
  have HX5 := Lib.hid (stepB HX3.out hb4)
  have HB4 := Lib.hid hb4
  have hx5 := below_new w4 (.cells #[.slice none 0 0] 32)
  have HC5 := Lib.hid (((stepB hb4 hx5).block _ (Array.getElem?_eq_some_iff.1 HC3.out).1).trans HC3.out)
  have c0 : (w4.alloc (.cells #[.slice none 0 0] 32)).cell? ⟨w.heap.size, 0, none⟩ = some (.int .i64 a0) := cell_of_row _ _ 0 _ _ (0, 0) HC5.out
  have c1 : (w4.alloc (.cells #[.slice none 0 0] 32)).cell? ⟨w.heap.size, 1, none⟩ = some (.int .i64 a1) := cell_of_row _ _ 1 _ _ (0, 0) HC5.out
  have hne1 : ¬ w4.heap.size = w.heap.size := by have := HZ5.out; have := hb4.size; omega
  have hne2 : ¬ w.heap.size = w4.heap.size := by have := HZ5.out; have := hb4.size; omega
  have k0 : w4.cell? ⟨w.heap.size, 0, none⟩ = some (.int .i64 a0) := cell_of_row _ _ 0 _ _ (0, 0) ((hb4.block _ (Array.getElem?_eq_some_iff.1 HC3.out).1).trans HC3.out)
  have k1 : w4.cell? ⟨w.heap.size, 1, none⟩ = some (.int .i64 a1) := cell_of_row _ _ 1 _ _ (0, 0) ((hb4.block _ (Array.getElem?_eq_some_iff.1 HC3.out).1).trans HC3.out)
  have HS4 := Lib.hid (HS3.out.later hb4)
  have HT4 := Lib.hid (HT3.out.later hb4)
  have HXX := Lib.hid hx5
  have HLX := Lib.hid (list_newO w4 w4.heap.size)
  clear hb4 hx5
  go_wp2_with fail
  refine (aimAll_any (some ⟨b, 0, none⟩) (some ⟨tb, 0, none⟩) a0 a1 _).mono ?_
  rintro e w5 ⟨rfl, hd1, hd2, hd3, hd4, hb5, hs5⟩
  simp only [World.size_alloc] at hd1 hd2 hd3 hd4 hs5
  have HX5 := Lib.hid (stepB HXX.out hb5)
  have HL5 := Lib.hid (show ListIn w5 w4.heap.size w4.heap.size (.slice none 0 0) [] from ⟨(hb5.block _ (Array.getElem?_eq_some_iff.1 HLX.out.box).1).trans HLX.out.box, World.ownsRow_nil _ _ _ _⟩)
  have HSEQ := Lib.hid (aim_gather (c1 := w4.heap.size + 1) 8 (by omega) HL5.out HS4.out (Nat.le_refl _) HT4.out (by omega) hd1 hd2 hd3 hd4 (HS4.out.later HX5.out) HM.out.wf HL.out (HT4.out.later HX5.out))
  unfold TellsF at HSEQ
  have hLL := aimL_len (T := T) (S := S) a0 a1 HM.out.wf (by rw [HM.out.seats]; decide) HL.out HT3.out.n2
  obtain ⟨L, hL⟩ : ∃ L, aimL T S a0 a1 = L := ⟨_, rfl⟩
  have HLL := Lib.hid hL
  rw [hL] at HSEQ hLL
  have HI0 : IntsI w4.heap.size w4 w5 [] w5 := ⟨.slice none 0 0, HL5.out, KpP.refl _ _ _, HX5.out, Nat.zero_le _⟩
  have HSZ := Lib.hid (show w5.heap.size = w4.heap.size + 5 by rw [hs5])
  clear hd1 hd2 hd3 hd4 hb5 hs5 HXX HLX hL k0 k1 c0 c1 hne1 hne2 HCK c2
  try dsimp only
  go_wp2_with fail
  refine (wpIn_wide (n := 9)).1 ?_
  try simp only [World.size_alloc]
  refine range_world3 rfl (by omega) (I := IntsI w4.heap.size w4 w5) (Ix := fun _ _ _ => False) (gf := 27) (lb := _) rfl trivial (fun _ _ => by kernel_rfl) HSEQ.out KpP.trans (fun W' o o' ho hc _ => KpP.put o' (.inr rfl) ho hc) (fun W W' hb => KpP.of_below _ _ hb) (Below.refl _ _) (fun _ => rfl)
    (intsI_own HX5.out.size (Nat.le_refl _)) (fun c s A B row hs hg hr => hs) (fun s A B row hs hg hr => hs) (fun s A B row hs hg hr => hs) HI0 ?_ ?_ ?_
  · skip
    rintro pre x W K hI hT hsz hK
    have HPL := Lib.hid (show pre.length + 1 ≤ 1000 from by
      have h1 := hT.length_le
      have h2 := hLL
      simp at h1
      omega)
    have HK := Lib.hid hK
    clear hK hT hI
    simp only [encF]
    simp
    gi_wp2
    refine HK.out _ _ (Below.refl _ _) ?_
    clear HK
    intro Wb hsz2 hrest hkw ⟨v1, l0, k0, b0, hl1⟩
    have cl := l0.head.cell
    have fl := l0.head.frozen
    obtain ⟨xa1, xc1, rfl⟩ := own_form1 l0.own
    have HL1 := Lib.hid l0
    have HK1 := Lib.hid k0
    have HB1 := Lib.hid b0
    have HKB := Lib.hid hkw
    clear hsz2 hrest hkw l0 k0 b0 hl1
    have hlen : pre.length + [x].length ≤ 1000 := by have := HPL.out; simpa using this
    have hlo : w4.heap.size ≤ (Wb.alloc (.cells #[.int .i64 x] 3)).heap.size := by have := HB1.out.size; simp; omega
    gi_wp2_with (gi_at_builtin; refine wpListIn_append_ints rfl _ _ rfl rfl w4.heap.size _ pre.length (intsV pre) rfl (own_later HL1.out.own (below_new Wb _)) _ 1 1 [x] rfl rfl ((RowAt.new _ 3 (intsV [x])).vals 1) hlen hlo ?_)
    intro v' w6x hown hgrow hnew
    have hsep : ∀ c, c = w4.heap.size → (Value.slice xa1 pre.length xc1).ownBlock ≠ some c := fun c hc e => by subst hc; exact (HL1.out.row _ e).2.2 rfl
    obtain ⟨l7, k7, h6⟩ := ListIn.snoc (E := fun _ => False) (H := fun k => k = w4.heap.size) HL1.out rfl hgrow hown (by rw [World.size_alloc]; exact hnew) hsep
    have c6 := h6.cell
    have f6 := h6.frozen
    have HB7 := Lib.hid (show Below w4.heap.size w4 (w6x.setCell ⟨w4.heap.size, 0, none⟩ v') from ((HB1.out.alloc HB1.out.size _).grown hgrow (by have := HB1.out.size; simp; omega) (fun c e => by have := (HL1.out.row c e).1; omega)).setCell (Nat.le_refl _) v')
    obtain ⟨xa7, xc7, rfl⟩ := own_form1 hown
    have HL7 := Lib.hid l7
    have HK7 := Lib.hid k7
    clear hown hgrow hnew hsep l7 k7 h6 hlen hlo cl fl
    gi_wp2
    exact ⟨HK7.out.from (fun k e => e.elim), HKB.out.trans (HK7.out.mono (fun k e => e.elim)), _, HL7.out, HK1.out.trans HK7.out, HB7.out, by rw [List.length_append]; exact HPL.out⟩
  · rintro D ys W6 hD hS ⟨v6, l6, k6, b6, hl6⟩ hK
    subst ys
    have HMK : Hid (Marks w.heap.size W6 [{ target := .collected D, args := #[] }]) := Lib.hid ⟨[D], rfl, by simp, fun D' h => by obtain rfl := List.mem_singleton.1 h; have := HSZ.out; have := HZ5.out; have := HB4.out.size; omega, fun D' h => by obtain rfl := List.mem_singleton.1 h; exact hK⟩
    have HX6 := Lib.hid (stepB (stepB HX3.out HB4.out) b6)
    have HS6 := Lib.hid (HS4.out.later b6)
    have HT6 := Lib.hid (HT4.out.later b6)
    have HC6 := Lib.hid (((stepB HB4.out b6).block _ (Array.getElem?_eq_some_iff.1 HC3.out).1).trans HC3.out)
    have HL6 := Lib.hid l6
    clear HSEQ HI0 k6 b6 hK hl6 l6 HL5 HX5 hD HSZ HS4 HT4 HS3 HT3 HC5 HC3 HX3
    have HF6 := Lib.hid (first_any HS6.out HM.out.wf HL.out HT6.out a0 a1)
    rw [HLL.out] at HF6
    have c0 : W6.cell? ⟨w.heap.size, 0, none⟩ = some (.int .i64 a0) := cell_of_row _ _ 0 _ _ (0, 0) HC6.out
    have c1 : W6.cell? ⟨w.heap.size, 1, none⟩ = some (.int .i64 a1) := cell_of_row _ _ 1 _ _ (0, 0) HC6.out
    obtain ⟨f0, hf0⟩ : ∃ f0, L.getD 0 0 = f0 := ⟨_, rfl⟩
    have HF0 := Lib.hid hf0
    unfold RetFirst at HF6
    rw [hf0] at HF6
    obtain ⟨ok, hok⟩ : ∃ ok, decide (L ≠ []) = ok := ⟨_, rfl⟩
    have HOK := Lib.hid hok
    rw [hok] at HF6
    clear hf0 hok
    go_wp2_with fail
    refine HF6.out.mono ?_
    rintro e w7 ⟨rfl, hb7⟩
    have HX7 := Lib.hid (stepB HX6.out hb7)
    have HS7 := Lib.hid (HS6.out.later hb7)
    have HT7 := Lib.hid (HT6.out.later hb7)
    have HM7 := Lib.hid (HMK.out.later hb7)
    have HC7 := Lib.hid ((hb7.block _ (Array.getElem?_eq_some_iff.1 HC6.out).1).trans HC6.out)
    have HL7 := Lib.hid (show ListIn w7 w4.heap.size w4.heap.size v6 L from ⟨(hb7.block _ (Array.getElem?_eq_some_iff.1 HL6.out.box).1).trans HL6.out.box, own_later HL6.out.own hb7⟩)
    clear hb7 HF6 HX6 HS6 HT6 HMK HC6 HL6 c0 c1
    dsimp only
    have c0 : w7.cell? ⟨w.heap.size, 0, none⟩ = some (.int .i64 a0) := cell_of_row _ _ 0 _ _ (0, 0) HC7.out
    have c1 : w7.cell? ⟨w.heap.size, 1, none⟩ = some (.int .i64 a1) := cell_of_row _ _ 1 _ _ (0, 0) HC7.out
    obtain ⟨bz, hbz⟩ : ∃ bz, badZ a0 a1 = bz := ⟨_, rfl⟩
    rw [hbz] at HBD
    go_upto_region 12 with fail
    go_cut [82] from 65 to 82 (fun s82 wx => s82 = .bool bz ∧ w7 = wx)
    case first =>
      by_cases h1 : a0 < 0
      · have d1 : decide (a0 < 0) = true := decide_eq_true h1
        have HZ := Lib.hid (show bz = true by rw [← hbz]; simp [badZ, h1])
        clear h1 hbz
        go_wp2
        go_meet
        case rel => exact ⟨by rw [HZ.out], rfl⟩
      have d1 : decide (a0 < 0) = false := decide_eq_false h1
      by_cases h2 : 3 < a0
      · have d2 : decide (3 < a0) = true := decide_eq_true h2
        have HZ := Lib.hid (show bz = true by rw [← hbz]; simp [badZ, h2])
        clear h1 h2 hbz
        go_wp2
        go_meet
        case rel => exact ⟨by rw [HZ.out], rfl⟩
      have d2 : decide (3 < a0) = false := decide_eq_false h2
      by_cases h3 : a1 < 0
      · have d3 : decide (a1 < 0) = true := decide_eq_true h3
        have HZ := Lib.hid (show bz = true by rw [← hbz]; simp [badZ, h3])
        clear h1 h2 h3 hbz
        go_wp2
        go_meet
        case rel => exact ⟨by rw [HZ.out], rfl⟩
      have d3 : decide (a1 < 0) = false := decide_eq_false h3
      have HZ := Lib.hid (show bz = decide (4 < a1) by rw [← hbz]; simp [badZ, d1, d2, d3])
      clear h1 h2 h3 hbz
      go_wp2
      go_meet
      case rel => exact ⟨by rw [HZ.out], rfl⟩
    case rest =>
    obtain ⟨rfl, rfl⟩ := hcut
    cases bz with
    | true =>
      obtain rfl : L = [] := by rw [← HLL.out]; exact aimL_bad (HBD.out.1 rfl)
      obtain rfl : E = 1 := by rw [← HEE.out]; exact chk_bad (HBD.out.1 rfl) a2
      obtain rfl : ok = false := by rw [← HOK.out]; rfl
      obtain ⟨xa, xc, rfl⟩ := own_form1 HL7.out.own
      have cq := HL7.out.head.cell
      clear HBD hbz
      go_wp2
      exact HM7.out.leave HX7.out (fun W' => results_tmp (t := 6) rfl _ _ _)
    | false =>
      have HVA := Lib.hid (show ¬(ofT T a0 < 0 ∨ a1 < 0 ∨ 4 < a1) from fun h => Bool.noConfusion (HBD.out.2 h))
      clear HBD
      have HV0 := Lib.hid (show 0 ≤ ofT T a0 from by have := HVA.out; omega)
      go_upto_block 2 with fail
      go_cut [14, 15, 17, 18, 19] from 96 to 171 (fun s14 s15 s17 s18 s19 wx => ∃ xa xc, s14 = .slice xa L.length xc ∧ Hid (IntsAt wx (.slice xa L.length xc) L) ∧ Hid (Below w7.heap.size w7 wx))
      case first =>
        by_cases h0 : a1 = 0
        · subst h0
          have HLZ := Lib.hid (show L = [0] from by rw [← HLL.out]; exact aimL_0 HV0.out)
          go_wp2
          go_meet
          case rel => exact ⟨_, _, by rw [HLZ.out]; rfl, by rw [HLZ.out]; exact Lib.hid (one_int w7 0), Lib.hid (below_new _ _)⟩
        have e0 : (a1 == 0) = false := beq_eq_false_iff_ne.2 h0
        by_cases h4 : a1 = 4
        · subst h4
          obtain ⟨y, hy⟩ : ∃ y, ofT T a0 = y := ⟨_, rfl⟩
          have HOF := Lib.hid (fun (w' : World) (hb : Below w7.heap.size w7 w') => tof_any (HT7.out.later hb) a0)
          rw [hy] at HOF
          have HLN := Lib.hid (tlen_any HT7.out)
          have hN4 := HT7.out.n2
          have HLF := Lib.hid (show L = upTo (fun n => (n : Int) != y) T.sh.length from by
            rw [← HLL.out, aimL_4 HV0.out, hy]
            unfold foesT
            refine upTo_congr fun k hk => ?_
            unfold foeB
            rw [HLT.out, inL_nat hk]
            simp)
          obtain ⟨N, hN⟩ : ∃ N, T.sh.length = N := ⟨_, rfl⟩
          rw [hN] at HLN HLF hN4
          obtain ⟨p, hp⟩ : ∃ p : Nat → Bool, (fun n : Nat => (n : Int) != y) = p := ⟨_, rfl⟩
          have HP := Lib.hid (fun n : Nat => show p n = ((n : Int) != y) by rw [← hp])
          rw [hp] at HLF
          clear hp hN hy
          go_wp2_with fail
          refine HLN.out.mono ?_
          rintro e w8 ⟨rfl, rfl⟩
          go_wp2
          go_loopw [14, 158] (fun v i wr => ∃ k : Nat, k ≤ N ∧ i = .int .i64 k ∧ Hid (wr.ownsRow w8.heap.size 3 1 v (upTo p k).length (intsV (upTo p k))) ∧ Hid (Below w8.heap.size w8 wr)) (fun _ i _ => N - (intOf i).toNat)
          case atStart => exact ⟨0, Nat.zero_le _, rfl, Lib.hid (World.ownsRow_nil _ _ _ _), Lib.hid (Below.refl _ _)⟩
          case round =>
            obtain ⟨k, hk, rfl, HWR, HB⟩ := hrel
            by_cases hlt : k < N
            · have d0 : decide ((k : Int) < N) = true := decide_eq_true (by omega)
              have d0' : decide (k < N) = true := decide_eq_true hlt
              have k0 : wr.cell? ⟨w.heap.size, 0, none⟩ = some (.int .i64 a0) := cell_stays HB.out c0
              have HOK2 := Lib.hid (HOF.out wr HB.out)
              have hpk := HP.out k
              have hlen := upTo_len p k
              obtain ⟨M, hM⟩ : ∃ M, upTo p k = M := ⟨_, rfl⟩
              rw [hM] at HWR hlen
              cases hb : p k with
              | false =>
                have HNX := Lib.hid ((upTo_no hb).trans hM)
                have e0 : ((k : Int) != y) = false := by rw [← hpk, hb]
                clear hb hM hpk
                go_wp2_with fail
                refine HOK2.out.mono ?_
                rintro e w9 ⟨rfl, rfl⟩
                go_wp2
                go_roundw
                case rel => exact ⟨k + 1, by omega, by go_num, by rw [HNX.out]; exact HWR, HB⟩
                case measure => simp [intOf]; omega
              | true =>
                have HNX := Lib.hid ((upTo_yes hb).trans (by rw [hM]))
                have e0 : ((k : Int) != y) = true := by rw [← hpk, hb]
                clear hb hM hpk
                go_wp2_with fail
                refine HOK2.out.mono ?_
                rintro e w9 ⟨rfl, rfl⟩
                go_wp2_with (at_builtin; refine wpList_push rfl _ _ rfl rfl _ M (k : Int) rfl HWR.out HB.out rfl (by omega) ?f)
                case f =>
                  intro v' w' h3 h4
                  have H3 := Lib.hid (show w'.ownsRow w8.heap.size 3 1 v' (upTo p (k + 1)).length (intsV (upTo p (k + 1))) from by rw [HNX.out, List.length_append]; exact h3)
                  have H4 := Lib.hid h4
                  clear h3 h4
                  go_wp2
                  go_roundw
                  case rel => exact ⟨k + 1, by omega, by go_num, H3, H4⟩
                  case measure => simp [intOf]; omega
            · obtain rfl : k = N := by omega
              have d0 : decide ((k : Int) < k) = false := decide_eq_false (by omega)
              have d0' : decide (k < k) = false := decide_eq_false (by omega)
              rw [← HLF.out] at HWR
              go_wp2
              go_meet
              case rel =>
                obtain ⟨xa, xc, rfl⟩ := own_form1 HWR.out
                exact ⟨xa, xc, rfl, Lib.hid (own_ints HWR.out), HB⟩
        have e4 : (a1 == 4) = false := beq_eq_false_iff_ne.2 h4
        have ha1 : 1 ≤ a1 ∧ a1 ≤ 3 := by have := HVA.out; omega
        clear h0 h4
        have HIN0 := Lib.hid (in_any HS7.out (HM.out.wf.short HL.out) (s := 0) (z := 3) ⟨by decide, by decide⟩ ⟨by decide, by decide⟩)
        have hF : inL S 0 3 = S.pl 0 3 := by
          unfold inL
          rw [if_pos (by rw [HM.out.seats]; decide)]
          rfl
        rw [hF] at HIN0
        have HLF := Lib.hid (show L = (S.pl 0 3).filter (fun i => (creE S i == 0) && okW T S a0 a1 i) from by rw [← HLL.out]; exact aimL_live HV0.out ha1.1 ha1.2 HM.out.wf (by rw [HM.out.seats]; decide))
        have HTF := Lib.hid (fun (i : Int) (hi : i ∈ S.pl 0 3) => thing_field HM.out hi)
        have hok3 : okK S.seats 0 3 := okK_field (by rw [HM.out.seats]; decide)
        have hF1000 : (S.pl 0 3).length ≤ 40 := Nat.le_trans (nodup_len S.objs.length _ (HM.out.wf.nodup 0 3 hok3) fun x hx => by
          obtain ⟨k, hk, rfl, _⟩ := (HM.out.wf.mem 0 3 hok3 x).1 hx
          omega) (by rw [HM.out.len]; exact HPL.out.1)
        obtain ⟨F, hF2⟩ : ∃ F, S.pl 0 3 = F := ⟨_, rfl⟩
        rw [hF2] at HIN0 HLF HTF hF1000
        obtain ⟨q, hq⟩ : ∃ q : Int → Bool, (fun i => (creE S i == 0) && okW T S a0 a1 i) = q := ⟨_, rfl⟩
        have HQQ := Lib.hid (fun i : Int => show q i = ((creE S i == 0) && okW T S a0 a1 i) by rw [← hq])
        rw [hq] at HLF
        have HOFA := Lib.hid (fun (w' : World) (hb : Below w7.heap.size w7 w') (x : Int) => tof_any (HT7.out.later hb) x)
        have HMTS := Lib.hid (fun x : Int => show matesT T a0 x = (ofT T a0 == ofT T x) from by unfold matesT; rw [decide_eq_true HV0.out, Bool.true_and])
        have hl40 : l.length ≤ 40 := HPL.out.1
        clear hF hF2 hq hok3
        go_wp2_with fail
        refine HIN0.out.mono ?_
        rintro e w8 ⟨vf, rfl, hof, hb8⟩
        obtain ⟨fa, fc, rfl⟩ := own_form1 hof
        have HFI := Lib.hid (own_ints hof)
        have HB8 := Lib.hid hb8
        clear hof hb8 HIN0
        go_wp2
        go_loopw [14, 99] (fun v i wr => ∃ k : Nat, k ≤ F.length ∧ i = .int .i64 k ∧ Hid (wr.ownsRow w8.heap.size 3 1 v ((F.take k).filter q).length (intsV ((F.take k).filter q))) ∧ Hid (Below w8.heap.size w8 wr)) (fun _ i _ => F.length - (intOf i).toNat)
        case atStart => exact ⟨0, Nat.zero_le _, rfl, Lib.hid (World.ownsRow_nil _ _ _ _), Lib.hid (Below.refl _ _)⟩
        case round =>
          obtain ⟨k, hk, rfl, HWR, HB⟩ := hrel
          by_cases hlt : k < F.length
          case neg =>
            obtain rfl : k = F.length := by omega
            have hfin : (F.take F.length).filter q = L := by rw [List.take_length, HLF.out]
            rw [hfin] at HWR
            have d0 : decide (F.length < F.length) = false := decide_eq_false (by omega)
            clear hfin
            go_wp2
            go_meet
            case rel =>
              obtain ⟨xa, xc, rfl⟩ := own_form1 HWR.out
              exact ⟨xa, xc, rfl, Lib.hid (own_ints HWR.out), Lib.hid (HB8.out.trans (HB.out.mono HB8.out.size))⟩
          obtain ⟨fb, fo, rfl, hfb, f0'⟩ := HFI.out.at k hlt
          have f1 := cell_stays HB.out f0'
          obtain ⟨j, hj, hij, ⟨c, hc, hcard, hkind⟩, hown⟩ := HTF.out F[k] (List.getElem_mem hlt)
          obtain ⟨b1, o1, hva, hcell⟩ := things_at HV.out j hj
          have HFS := Lib.hid (filt_step q F k hlt)
          have hqz := HQQ.out F[k]
          have hms := HMTS.out l[j].owner
          unfold okW at hqz
          rw [hkind, hown T a0, hms] at hqz
          rw [hij] at f1
          have HID := Lib.hid hij
          obtain ⟨x, hx⟩ : ∃ x, l[j] = x := ⟨_, rfl⟩
          rw [hx] at hcell hcard hqz
          obtain ⟨x0, x1, x2, x3, x4⟩ := x
          dsimp only at hcard hqz
          subst hcard
          obtain ⟨g0, g1, g2, g3, g4⟩ := hcell.later (stepB (stepB HX7.out HB8.out) HB.out)
          dsimp only at g0 g1 g2 g3 g4
          have k0 : wr.cell? ⟨w.heap.size, 0, none⟩ = some (.int .i64 a0) := cell_stays (stepB HB8.out HB.out) c0
          have k1 : wr.cell? ⟨w.heap.size, 1, none⟩ = some (.int .i64 a1) := cell_stays (stepB HB8.out HB.out) c1
          subst hva
          obtain ⟨kd, hkd⟩ : ∃ kd, T7[c].kind = kd := ⟨_, rfl⟩
          rw [hkd] at hqz
          obtain ⟨p0, hp0⟩ : ∃ p0, ofT T a0 = p0 := ⟨_, rfl⟩
          obtain ⟨p1, hp1⟩ : ∃ p1, ofT T x1 = p1 := ⟨_, rfl⟩
          obtain ⟨mz, hmz⟩ : ∃ mz, (p1 == p0) = mz := ⟨_, rfl⟩
          rw [hp0, hp1, show (p0 == p1) = mz by rw [← hmz]; exact Bool.beq_comm] at hqz
          have HO0 := Lib.hid (fun (w' : World) (hb : Below w7.heap.size w7 w') => HOFA.out w' hb a0)
          have HO1 := Lib.hid (fun (w' : World) (hb : Below w7.heap.size w7 w') => HOFA.out w' hb x1)
          rw [hp0] at HO0
          rw [hp1] at HO1
          obtain ⟨qz, hqq⟩ : ∃ qz, q F[k] = qz := ⟨_, rfl⟩
          rw [hqq] at hqz
          rw [hqq] at HFS
          have HQZ0 := Lib.hid hqz
          have HKD := Lib.hid hkd
          have HMZ := Lib.hid hmz
          have d0 : decide ((k : Int) < F.length) = true := decide_eq_true (by omega)
          have d0' : decide (k < F.length) = true := decide_eq_true hlt
          have p00 : (0 : Int) ≤ k := by omega
          have p01 : (k : Int) < F.length := by omega
          have j00 : (0 : Int) ≤ j := by omega
          have j01 : (j : Int) < l.length := by omega
          have j40 : (j : Int) ≤ 40 := by omega
          clear hij hkind hown hms hx hqz hp0 hp1 hqq hcell f0' hfb
          go_upto_region 20 with fail
          have HB18 := Lib.hid (below_new wr (.cells #[.int .i64 (c : Int), .int .i64 x1, .int .i64 x2, .bool x3, .bool x4] 42))
          have hrow18 := heap_alloc_new wr (.cells #[.int .i64 (c : Int), .int .i64 x1, .int .i64 x2, .bool x3, .bool x4] 42)
          obtain ⟨W18, hW18⟩ : ∃ W18, wr.alloc (.cells #[.int .i64 (c : Int), .int .i64 x1, .int .i64 x2, .bool x3, .bool x4] 42) = W18 := ⟨_, rfl⟩
          obtain ⟨q18, hq18⟩ : ∃ q18, wr.heap.size = q18 := ⟨_, rfl⟩
          rw [hW18] at HB18 hrow18 ⊢
          rw [hq18] at hrow18
          simp only [hq18]
          have s0 : W18.cell? ⟨q18, 0, none⟩ = some (.int .i64 (c : Int)) := cell_of_row _ _ 0 _ _ (0, 0) hrow18
          have s1 : W18.cell? ⟨q18, 1, none⟩ = some (.int .i64 x1) := cell_of_row _ _ 1 _ _ (0, 0) hrow18
          have l0 : W18.cell? ⟨w.heap.size, 0, none⟩ = some (.int .i64 a0) := cell_stays HB18.out k0
          have l1 : W18.cell? ⟨w.heap.size, 1, none⟩ = some (.int .i64 a1) := cell_stays HB18.out k1
          have HQ0 := Lib.hid (fun nd => (Calls.quiet_of_same ((HO0.out (W18.drewN nd) (below_drewN (stepB (stepB HB8.out HB.out) HB18.out) nd)).mono fun _ _ h => h) : Calls Try.prog 14 #[.pointer (some ⟨tb, 0, none⟩), .int .i64 a0] (W18.drewN nd) fun e w'' => e = .returned (.int .i64 p0) ∧ ∃ m, w'' = W18.drewN m))
          have HQ1 := Lib.hid (fun nd => (Calls.quiet_of_same ((HO1.out (W18.drewN nd) (below_drewN (stepB (stepB HB8.out HB.out) HB18.out) nd)).mono fun _ _ h => h) : Calls Try.prog 14 #[.pointer (some ⟨tb, 0, none⟩), .int .i64 x1] (W18.drewN nd) fun e w'' => e = .returned (.int .i64 p1) ∧ ∃ m, w'' = W18.drewN m))
          have hmz := HMZ.out
          clear hW18 hq18 hrow18 k0 k1 g0 g1 g2 g3 g4 f1
          go_quiet ((first | (with_reducible exact HQ1.out _) | (with_reducible exact HQ0.out _)))
          obtain ⟨wd, hwd⟩ : ∃ wd, W18.drewN nq = wd := ⟨_, rfl⟩
          have HBD9 := Lib.hid (show Below W18.heap.size W18 wd from hwd ▸ below_drewN (Below.refl _ _) nq)
          rw [hwd]
          have q0 : wd.cell? ⟨q18, 0, none⟩ = some (.int .i64 (c : Int)) := cell_stays HBD9.out s0
          have k1 : wd.cell? ⟨w.heap.size, 1, none⟩ = some (.int .i64 a1) := cell_stays HBD9.out l1
          have HBW := Lib.hid (show Below w8.heap.size w8 wd from stepB (stepB HB.out HB18.out) HBD9.out)
          have HWD := Lib.hid (own_later HWR.out (stepB HB18.out HBD9.out))
          clear hwd hmz s0 s1 l0 l1 HB HWR HB18 HBD9 HQ0 HQ1 HO0 HO1
          go_upto_region 21 with fail
          go_cut [145] from 117 to 145 (fun s145 wx => s145 = .bool qz ∧ Hid (Below wd.heap.size wd wx))
          case first =>
            have e4c := e4
            by_cases hk2 : kd = 2
            case neg =>
              have ek : (kd == 2) = false := beq_eq_false_iff_ne.2 hk2
              have HQZ := Lib.hid (show qz = false by have h := HQZ0.out; rw [ek, Bool.false_and] at h; exact h)
              have hkd := HKD.out
              clear hk2
              refine wp_region_noPanic ?_
              refine (wpIn_wide (n := 9)).1 ?_
              refine wpIn_region_any (by kernel_rfl) ?_
              change wpAnyIn _ _ _ _ _ _ _ _ _ (World.drew _)
              refine anyS.any (S := fun w' => w'.cell? ⟨q18, 0, none⟩ = some (.int .i64 (c : Int))) ?_
              refine anyS_take (i := 1) (v := ?_) (by kernel_rfl) rfl (by kernel_rfl) (by kernel_rfl) (by kernel_rfl) (fun _ _ _ h => h) (by kernel_rfl) (fun _ => rfl) ?_ ?_
              rotate_left
              · intro w' hS
                go_simp
                try with_reducible rfl
              refine anyS_take (i := 2) (v := ?_) (by kernel_rfl) rfl (by kernel_rfl) (by kernel_rfl) (by kernel_rfl) (fun _ _ _ h => h) (by kernel_rfl) (fun _ => rfl) ?_ ?_
              rotate_left
              · intro w' hS
                go_simp
                try with_reducible rfl
              refine anyS_one (i := 0) (by kernel_rfl) rfl (cell_stays (Below.refl wd.heap.size wd).drew q0) (fun K hK => ?_)
              go_simp
              gi_wp2_with ((refine ⟨trivial, ?_⟩; gi_at_call 16; refine CallsIn.mono (F := Fence.wide) (callsIn_wide.2 (table_law _)) ?_; rintro e w9 ⟨tv, rfl, htc, hb9⟩; have HB9 := Lib.hid (stepB (Below.refl wd.heap.size wd).drew hb9); obtain ⟨tb9, to9, tc9, htv⟩ : ∃ tb9 to9 tc9, tv = .slice (some ⟨tb9, to9, none⟩) 4 tc9 := (table_form htc); subst htv; have HK0 := Lib.hid (table_kind htc c hc); clear hb9 htc))
              have kk := HK0.out
              rw [hkd] at kk
              have q9 : w9.cell? ⟨q18, 0, none⟩ = some (.int .i64 (c : Int)) := cell_stays HB9.out q0
              have k9 : w9.cell? ⟨w.heap.size, 1, none⟩ = some (.int .i64 a1) := cell_stays HB9.out k1
              have hb0 : (0 : Int) ≤ c := by omega
              have hb4 : (c : Int) < 4 := by have : T7.length = 4 := rfl; omega
              refine anyS_one (i := 3) (by kernel_rfl) rfl q9 (fun K hK => ?_)
              go_simp
              refine hK _ _ ?_
              clear hK K
              refine anyS_one (i := 4) (by kernel_rfl) rfl q9 (fun K hK => ?_)
              go_simp
              refine hK _ _ ?_
              clear hK K
              refine anyS_one (i := 5) (by kernel_rfl) rfl q9 (fun K hK => ?_)
              go_simp
              refine hK _ _ ?_
              clear hK K
              refine anyS_one (i := 6) (by kernel_rfl) rfl q9 (fun K hK => ?_)
              go_simp
              refine hK _ _ ?_
              clear hK K
              refine anyS_one (i := 7) (by kernel_rfl) rfl q9 (fun K hK => ?_)
              go_simp
              refine hK _ _ ?_
              clear hK K
              refine anyS_skip (i := 8) (by kernel_rfl) rfl (by kernel_rfl) (by kernel_rfl) (by kernel_rfl) (fun _ _ _ h => h) (by kernel_rfl) (fun _ => by rfl) ?_
              refine anyS_skip (i := 9) (by kernel_rfl) rfl (by kernel_rfl) (by kernel_rfl) (by kernel_rfl) (fun _ _ _ h => h) (by kernel_rfl) (fun _ => by rfl) ?_
              refine anyS_skip (i := 10) (by kernel_rfl) rfl (by kernel_rfl) (by kernel_rfl) (by kernel_rfl) (fun _ _ _ h => h) (by kernel_rfl) (fun _ => by rfl) ?_
              refine anyS_skip (i := 11) (by kernel_rfl) rfl (by kernel_rfl) (by kernel_rfl) (by kernel_rfl) (fun _ _ _ h => h) (by kernel_rfl) (fun _ => by rfl) ?_
              refine anyS_skip (i := 12) (by kernel_rfl) rfl (by kernel_rfl) (by kernel_rfl) (by kernel_rfl) (fun _ _ _ h => h) (by kernel_rfl) (fun _ => by rfl) ?_
              refine anyS_skip (i := 13) (by kernel_rfl) rfl (by kernel_rfl) (by kernel_rfl) (by kernel_rfl) (fun _ _ _ h => h) (by kernel_rfl) (fun _ => by rfl) ?_
              refine anyS_skip (i := 14) (by kernel_rfl) rfl (by kernel_rfl) (by kernel_rfl) (by kernel_rfl) (fun _ _ _ h => h) (by kernel_rfl) (fun _ => by rfl) ?_
              refine anyS_skip (i := 15) (by kernel_rfl) rfl (by kernel_rfl) (by kernel_rfl) (by kernel_rfl) (fun _ _ _ h => h) (by kernel_rfl) (fun _ => by rfl) ?_
              refine anyS_skip (i := 16) (by kernel_rfl) rfl (by kernel_rfl) (by kernel_rfl) (by kernel_rfl) (fun _ _ _ h => h) (by kernel_rfl) (fun _ => by rfl) ?_
              refine anyS_skip (i := 17) (by kernel_rfl) rfl (by kernel_rfl) (by kernel_rfl) (by kernel_rfl) (fun _ _ _ h => h) (by kernel_rfl) (fun _ => by rfl) ?_
              refine anyS_skip (i := 18) (by kernel_rfl) rfl (by kernel_rfl) (by kernel_rfl) (by kernel_rfl) (fun _ _ _ h => h) (by kernel_rfl) (fun _ => by rfl) ?_
              refine anyS_skip (i := 19) (by kernel_rfl) rfl (by kernel_rfl) (by kernel_rfl) (by kernel_rfl) (fun _ _ _ h => h) (by kernel_rfl) (fun _ => by rfl) ?_
              refine anyS_skip (i := 20) (by kernel_rfl) rfl (by kernel_rfl) (by kernel_rfl) (by kernel_rfl) (fun _ _ _ h => h) (by kernel_rfl) (fun _ => by rfl) ?_
              refine anyS_skip (i := 21) (by kernel_rfl) rfl (by kernel_rfl) (by kernel_rfl) (by kernel_rfl) (fun _ _ _ h => h) (by kernel_rfl) (fun _ => by rfl) ?_
              refine anyS_skip (i := 22) (by kernel_rfl) rfl (by kernel_rfl) (by kernel_rfl) (by kernel_rfl) (fun _ _ _ h => h) (by kernel_rfl) (fun _ => by rfl) ?_
              refine anyS_skip (i := 23) (by kernel_rfl) rfl (by kernel_rfl) (by kernel_rfl) (by kernel_rfl) (fun _ _ _ h => h) (by kernel_rfl) (fun _ => by rfl) ?_
              refine anyS_skip (i := 24) (by kernel_rfl) rfl (by kernel_rfl) (by kernel_rfl) (by kernel_rfl) (fun _ _ _ h => h) (by kernel_rfl) (fun _ => by rfl) ?_
              refine anyS_skip (i := 25) (by kernel_rfl) rfl (by kernel_rfl) (by kernel_rfl) (by kernel_rfl) (fun _ _ _ h => h) (by kernel_rfl) (fun _ => by rfl) ?_
              refine anyS_skip (i := 26) (by kernel_rfl) rfl (by kernel_rfl) (by kernel_rfl) (by kernel_rfl) (fun _ _ _ h => h) (by kernel_rfl) (fun _ => by rfl) ?_
              refine anyS_skip (i := 27) (by kernel_rfl) rfl (by kernel_rfl) (by kernel_rfl) (by kernel_rfl) (fun _ _ _ h => h) (by kernel_rfl) (fun _ => by rfl) ?_
              refine anyS_one (i := 28) (by kernel_rfl) rfl q9 (fun K hK => ?_)
              go_simp
              refine hK _ _ ?_
              clear hK K
              refine anyS_done (by kernel_rfl) q9 ?_ _
              refine NoPanic.normal ?_
              go_wp2
              go_meet
              case rel => exact ⟨by rw [HQZ.out], HB9⟩
            have ek : (kd == 2) = true := by rw [hk2]; rfl
            have hkd : T7[c].kind = 2 := by rw [← hk2]; exact HKD.out
            have HQ5 := Lib.hid (show qz = ((a1 == 1) || (a1 == 2 && !mz) || (a1 == 3 && mz)) by have h := HQZ0.out; rw [ek, Bool.true_and] at h; exact h)
            subst hk2
            have hc3 : a1 = 1 ∨ a1 = 2 ∨ a1 = 3 := by omega
            rcases hc3 with rfl | rfl | rfl
            · have HQZ := Lib.hid (show qz = true by have h := HQ5.out; simpa using h)
              refine wp_region_noPanic ?_
              refine (wpIn_wide (n := 9)).1 ?_
              refine wpIn_region_any (by kernel_rfl) ?_
              change wpAnyIn _ _ _ _ _ _ _ _ _ (World.drew _)
              refine anyS.any (S := fun w' => w'.cell? ⟨q18, 0, none⟩ = some (.int .i64 (c : Int))) ?_
              refine anyS_take (i := 1) (v := ?_) (by kernel_rfl) rfl (by kernel_rfl) (by kernel_rfl) (by kernel_rfl) (fun _ _ _ h => h) (by kernel_rfl) (fun _ => rfl) ?_ ?_
              rotate_left
              · intro w' hS
                go_simp
                try with_reducible rfl
              refine anyS_take (i := 2) (v := ?_) (by kernel_rfl) rfl (by kernel_rfl) (by kernel_rfl) (by kernel_rfl) (fun _ _ _ h => h) (by kernel_rfl) (fun _ => rfl) ?_ ?_
              rotate_left
              · intro w' hS
                go_simp
                try with_reducible rfl
              refine anyS_one (i := 0) (by kernel_rfl) rfl (cell_stays (Below.refl wd.heap.size wd).drew q0) (fun K hK => ?_)
              go_simp
              gi_wp2_with ((refine ⟨trivial, ?_⟩; gi_at_call 16; refine CallsIn.mono (F := Fence.wide) (callsIn_wide.2 (table_law _)) ?_; rintro e w9 ⟨tv, rfl, htc, hb9⟩; have HB9 := Lib.hid (stepB (Below.refl wd.heap.size wd).drew hb9); obtain ⟨tb9, to9, tc9, htv⟩ : ∃ tb9 to9 tc9, tv = .slice (some ⟨tb9, to9, none⟩) 4 tc9 := (table_form htc); subst htv; have HK0 := Lib.hid (table_kind htc c hc); clear hb9 htc))
              have kk := HK0.out
              rw [hkd] at kk
              have q9 : w9.cell? ⟨q18, 0, none⟩ = some (.int .i64 (c : Int)) := cell_stays HB9.out q0
              have k9 : w9.cell? ⟨w.heap.size, 1, none⟩ = some (.int .i64 1) := cell_stays HB9.out k1
              have hb0 : (0 : Int) ≤ c := by omega
              have hb4 : (c : Int) < 4 := by have : T7.length = 4 := rfl; omega
              refine anyS_one (i := 3) (by kernel_rfl) rfl q9 (fun K hK => ?_)
              go_simp
              refine hK _ _ ?_
              clear hK K
              refine anyS_one (i := 4) (by kernel_rfl) rfl q9 (fun K hK => ?_)
              go_simp
              refine hK _ _ ?_
              clear hK K
              refine anyS_one (i := 5) (by kernel_rfl) rfl q9 (fun K hK => ?_)
              go_simp
              refine hK _ _ ?_
              clear hK K
              refine anyS_one (i := 6) (by kernel_rfl) rfl q9 (fun K hK => ?_)
              go_simp
              refine hK _ _ ?_
              clear hK K
              refine anyS_one (i := 7) (by kernel_rfl) rfl q9 (fun K hK => ?_)
              go_simp
              refine hK _ _ ?_
              clear hK K
              refine anyS_one (i := 8) (by kernel_rfl) rfl q9 (fun K hK => ?_)
              go_simp
              refine hK _ _ ?_
              clear hK K
              refine anyS_one (i := 9) (by kernel_rfl) rfl q9 (fun K hK => ?_)
              go_simp
              refine hK _ _ ?_
              clear hK K
              refine anyS_one (i := 10) (by kernel_rfl) rfl q9 (fun K hK => ?_)
              go_simp
              refine hK _ _ ?_
              clear hK K
              refine anyS_one (i := 11) (by kernel_rfl) rfl q9 (fun K hK => ?_)
              go_simp
              refine hK _ _ ?_
              clear hK K
              refine anyS_skip (i := 12) (by kernel_rfl) rfl (by kernel_rfl) (by kernel_rfl) (by kernel_rfl) (fun _ _ _ h => h) (by kernel_rfl) (fun _ => by rfl) ?_
              refine anyS_skip (i := 13) (by kernel_rfl) rfl (by kernel_rfl) (by kernel_rfl) (by kernel_rfl) (fun _ _ _ h => h) (by kernel_rfl) (fun _ => by rfl) ?_
              refine anyS_skip (i := 14) (by kernel_rfl) rfl (by kernel_rfl) (by kernel_rfl) (by kernel_rfl) (fun _ _ _ h => h) (by kernel_rfl) (fun _ => by rfl) ?_
              refine anyS_skip (i := 15) (by kernel_rfl) rfl (by kernel_rfl) (by kernel_rfl) (by kernel_rfl) (fun _ _ _ h => h) (by kernel_rfl) (fun _ => by rfl) ?_
              refine anyS_skip (i := 16) (by kernel_rfl) rfl (by kernel_rfl) (by kernel_rfl) (by kernel_rfl) (fun _ _ _ h => h) (by kernel_rfl) (fun _ => by rfl) ?_
              refine anyS_skip (i := 17) (by kernel_rfl) rfl (by kernel_rfl) (by kernel_rfl) (by kernel_rfl) (fun _ _ _ h => h) (by kernel_rfl) (fun _ => by rfl) ?_
              refine anyS_skip (i := 18) (by kernel_rfl) rfl (by kernel_rfl) (by kernel_rfl) (by kernel_rfl) (fun _ _ _ h => h) (by kernel_rfl) (fun _ => by rfl) ?_
              refine anyS_one (i := 19) (by kernel_rfl) rfl q9 (fun K hK => ?_)
              go_simp
              refine hK _ _ ?_
              clear hK K
              refine anyS_one (i := 20) (by kernel_rfl) rfl q9 (fun K hK => ?_)
              go_simp
              refine hK _ _ ?_
              clear hK K
              refine anyS_skip (i := 21) (by kernel_rfl) rfl (by kernel_rfl) (by kernel_rfl) (by kernel_rfl) (fun _ _ _ h => h) (by kernel_rfl) (fun _ => by rfl) ?_
              refine anyS_skip (i := 22) (by kernel_rfl) rfl (by kernel_rfl) (by kernel_rfl) (by kernel_rfl) (fun _ _ _ h => h) (by kernel_rfl) (fun _ => by rfl) ?_
              refine anyS_skip (i := 23) (by kernel_rfl) rfl (by kernel_rfl) (by kernel_rfl) (by kernel_rfl) (fun _ _ _ h => h) (by kernel_rfl) (fun _ => by rfl) ?_
              refine anyS_skip (i := 24) (by kernel_rfl) rfl (by kernel_rfl) (by kernel_rfl) (by kernel_rfl) (fun _ _ _ h => h) (by kernel_rfl) (fun _ => by rfl) ?_
              refine anyS_skip (i := 25) (by kernel_rfl) rfl (by kernel_rfl) (by kernel_rfl) (by kernel_rfl) (fun _ _ _ h => h) (by kernel_rfl) (fun _ => by rfl) ?_
              refine anyS_skip (i := 26) (by kernel_rfl) rfl (by kernel_rfl) (by kernel_rfl) (by kernel_rfl) (fun _ _ _ h => h) (by kernel_rfl) (fun _ => by rfl) ?_
              refine anyS_one (i := 27) (by kernel_rfl) rfl q9 (fun K hK => ?_)
              go_simp
              refine hK _ _ ?_
              clear hK K
              refine anyS_one (i := 28) (by kernel_rfl) rfl q9 (fun K hK => ?_)
              go_simp
              refine hK _ _ ?_
              clear hK K
              refine anyS_done (by kernel_rfl) q9 ?_ _
              refine NoPanic.normal ?_
              go_wp2
              go_meet
              case rel => exact ⟨by rw [HQZ.out], HB9⟩
            · cases mz with
              | false =>
                have HQZ := Lib.hid (show qz = true by have h := HQ5.out; simpa using h)
                refine wp_region_noPanic ?_
                refine (wpIn_wide (n := 9)).1 ?_
                refine wpIn_region_any (by kernel_rfl) ?_
                change wpAnyIn _ _ _ _ _ _ _ _ _ (World.drew _)
                refine anyS.any (S := fun w' => w'.cell? ⟨q18, 0, none⟩ = some (.int .i64 (c : Int))) ?_
                refine anyS_take (i := 1) (v := ?_) (by kernel_rfl) rfl (by kernel_rfl) (by kernel_rfl) (by kernel_rfl) (fun _ _ _ h => h) (by kernel_rfl) (fun _ => rfl) ?_ ?_
                rotate_left
                · intro w' hS
                  go_simp
                  try with_reducible rfl
                refine anyS_take (i := 2) (v := ?_) (by kernel_rfl) rfl (by kernel_rfl) (by kernel_rfl) (by kernel_rfl) (fun _ _ _ h => h) (by kernel_rfl) (fun _ => rfl) ?_ ?_
                rotate_left
                · intro w' hS
                  go_simp
                  try with_reducible rfl
                refine anyS_one (i := 0) (by kernel_rfl) rfl (cell_stays (Below.refl wd.heap.size wd).drew q0) (fun K hK => ?_)
                go_simp
                gi_wp2_with ((refine ⟨trivial, ?_⟩; gi_at_call 16; refine CallsIn.mono (F := Fence.wide) (callsIn_wide.2 (table_law _)) ?_; rintro e w9 ⟨tv, rfl, htc, hb9⟩; have HB9 := Lib.hid (stepB (Below.refl wd.heap.size wd).drew hb9); obtain ⟨tb9, to9, tc9, htv⟩ : ∃ tb9 to9 tc9, tv = .slice (some ⟨tb9, to9, none⟩) 4 tc9 := (table_form htc); subst htv; have HK0 := Lib.hid (table_kind htc c hc); clear hb9 htc))
                have kk := HK0.out
                rw [hkd] at kk
                have q9 : w9.cell? ⟨q18, 0, none⟩ = some (.int .i64 (c : Int)) := cell_stays HB9.out q0
                have k9 : w9.cell? ⟨w.heap.size, 1, none⟩ = some (.int .i64 2) := cell_stays HB9.out k1
                have hb0 : (0 : Int) ≤ c := by omega
                have hb4 : (c : Int) < 4 := by have : T7.length = 4 := rfl; omega
                refine anyS_one (i := 3) (by kernel_rfl) rfl q9 (fun K hK => ?_)
                go_simp
                refine hK _ _ ?_
                clear hK K
                refine anyS_one (i := 4) (by kernel_rfl) rfl q9 (fun K hK => ?_)
                go_simp
                refine hK _ _ ?_
                clear hK K
                refine anyS_one (i := 5) (by kernel_rfl) rfl q9 (fun K hK => ?_)
                go_simp
                refine hK _ _ ?_
                clear hK K
                refine anyS_one (i := 6) (by kernel_rfl) rfl q9 (fun K hK => ?_)
                go_simp
                refine hK _ _ ?_
                clear hK K
                refine anyS_one (i := 7) (by kernel_rfl) rfl q9 (fun K hK => ?_)
                go_simp
                refine hK _ _ ?_
                clear hK K
                refine anyS_one (i := 8) (by kernel_rfl) rfl q9 (fun K hK => ?_)
                go_simp
                refine hK _ _ ?_
                clear hK K
                refine anyS_one (i := 9) (by kernel_rfl) rfl q9 (fun K hK => ?_)
                go_simp
                refine hK _ _ ?_
                clear hK K
                refine anyS_one (i := 10) (by kernel_rfl) rfl q9 (fun K hK => ?_)
                go_simp
                refine hK _ _ ?_
                clear hK K
                refine anyS_one (i := 11) (by kernel_rfl) rfl q9 (fun K hK => ?_)
                go_simp
                refine hK _ _ ?_
                clear hK K
                refine anyS_one (i := 12) (by kernel_rfl) rfl q9 (fun K hK => ?_)
                go_simp
                refine hK _ _ ?_
                clear hK K
                refine anyS_one (i := 13) (by kernel_rfl) rfl q9 (fun K hK => ?_)
                go_simp
                refine hK _ _ ?_
                clear hK K
                refine anyS_one (i := 14) (by kernel_rfl) rfl q9 (fun K hK => ?_)
                go_simp
                refine hK _ _ ?_
                clear hK K
                refine anyS_one (i := 15) (by kernel_rfl) rfl q9 (fun K hK => ?_)
                go_simp
                refine hK _ _ ?_
                clear hK K
                refine anyS_one (i := 16) (by kernel_rfl) rfl q9 (fun K hK => ?_)
                go_simp
                refine hK _ _ ?_
                clear hK K
                refine anyS_one (i := 17) (by kernel_rfl) rfl q9 (fun K hK => ?_)
                go_simp
                refine hK _ _ ?_
                clear hK K
                refine anyS_one (i := 18) (by kernel_rfl) rfl q9 (fun K hK => ?_)
                go_simp
                refine hK _ _ ?_
                clear hK K
                refine anyS_one (i := 19) (by kernel_rfl) rfl q9 (fun K hK => ?_)
                go_simp
                refine hK _ _ ?_
                clear hK K
                refine anyS_one (i := 20) (by kernel_rfl) rfl q9 (fun K hK => ?_)
                go_simp
                refine hK _ _ ?_
                clear hK K
                refine anyS_skip (i := 21) (by kernel_rfl) rfl (by kernel_rfl) (by kernel_rfl) (by kernel_rfl) (fun _ _ _ h => h) (by kernel_rfl) (fun _ => by rfl) ?_
                refine anyS_skip (i := 22) (by kernel_rfl) rfl (by kernel_rfl) (by kernel_rfl) (by kernel_rfl) (fun _ _ _ h => h) (by kernel_rfl) (fun _ => by rfl) ?_
                refine anyS_skip (i := 23) (by kernel_rfl) rfl (by kernel_rfl) (by kernel_rfl) (by kernel_rfl) (fun _ _ _ h => h) (by kernel_rfl) (fun _ => by rfl) ?_
                refine anyS_skip (i := 24) (by kernel_rfl) rfl (by kernel_rfl) (by kernel_rfl) (by kernel_rfl) (fun _ _ _ h => h) (by kernel_rfl) (fun _ => by rfl) ?_
                refine anyS_skip (i := 25) (by kernel_rfl) rfl (by kernel_rfl) (by kernel_rfl) (by kernel_rfl) (fun _ _ _ h => h) (by kernel_rfl) (fun _ => by rfl) ?_
                refine anyS_skip (i := 26) (by kernel_rfl) rfl (by kernel_rfl) (by kernel_rfl) (by kernel_rfl) (fun _ _ _ h => h) (by kernel_rfl) (fun _ => by rfl) ?_
                refine anyS_one (i := 27) (by kernel_rfl) rfl q9 (fun K hK => ?_)
                go_simp
                refine hK _ _ ?_
                clear hK K
                refine anyS_one (i := 28) (by kernel_rfl) rfl q9 (fun K hK => ?_)
                go_simp
                refine hK _ _ ?_
                clear hK K
                refine anyS_done (by kernel_rfl) q9 ?_ _
                refine NoPanic.normal ?_
                go_wp2
                go_meet
                case rel => exact ⟨by rw [HQZ.out], HB9⟩
              | true =>
                have HQZ := Lib.hid (show qz = false by have h := HQ5.out; simpa using h)
                refine wp_region_noPanic ?_
                refine (wpIn_wide (n := 9)).1 ?_
                refine wpIn_region_any (by kernel_rfl) ?_
                change wpAnyIn _ _ _ _ _ _ _ _ _ (World.drew _)
                refine anyS.any (S := fun w' => w'.cell? ⟨q18, 0, none⟩ = some (.int .i64 (c : Int))) ?_
                refine anyS_take (i := 1) (v := ?_) (by kernel_rfl) rfl (by kernel_rfl) (by kernel_rfl) (by kernel_rfl) (fun _ _ _ h => h) (by kernel_rfl) (fun _ => rfl) ?_ ?_
                rotate_left
                · intro w' hS
                  go_simp
                  try with_reducible rfl
                refine anyS_take (i := 2) (v := ?_) (by kernel_rfl) rfl (by kernel_rfl) (by kernel_rfl) (by kernel_rfl) (fun _ _ _ h => h) (by kernel_rfl) (fun _ => rfl) ?_ ?_
                rotate_left
                · intro w' hS
                  go_simp
                  try with_reducible rfl
                refine anyS_one (i := 0) (by kernel_rfl) rfl (cell_stays (Below.refl wd.heap.size wd).drew q0) (fun K hK => ?_)
                go_simp
                gi_wp2_with ((refine ⟨trivial, ?_⟩; gi_at_call 16; refine CallsIn.mono (F := Fence.wide) (callsIn_wide.2 (table_law _)) ?_; rintro e w9 ⟨tv, rfl, htc, hb9⟩; have HB9 := Lib.hid (stepB (Below.refl wd.heap.size wd).drew hb9); obtain ⟨tb9, to9, tc9, htv⟩ : ∃ tb9 to9 tc9, tv = .slice (some ⟨tb9, to9, none⟩) 4 tc9 := (table_form htc); subst htv; have HK0 := Lib.hid (table_kind htc c hc); clear hb9 htc))
                have kk := HK0.out
                rw [hkd] at kk
                have q9 : w9.cell? ⟨q18, 0, none⟩ = some (.int .i64 (c : Int)) := cell_stays HB9.out q0
                have k9 : w9.cell? ⟨w.heap.size, 1, none⟩ = some (.int .i64 2) := cell_stays HB9.out k1
                have hb0 : (0 : Int) ≤ c := by omega
                have hb4 : (c : Int) < 4 := by have : T7.length = 4 := rfl; omega
                refine anyS_one (i := 3) (by kernel_rfl) rfl q9 (fun K hK => ?_)
                go_simp
                refine hK _ _ ?_
                clear hK K
                refine anyS_one (i := 4) (by kernel_rfl) rfl q9 (fun K hK => ?_)
                go_simp
                refine hK _ _ ?_
                clear hK K
                refine anyS_one (i := 5) (by kernel_rfl) rfl q9 (fun K hK => ?_)
                go_simp
                refine hK _ _ ?_
                clear hK K
                refine anyS_one (i := 6) (by kernel_rfl) rfl q9 (fun K hK => ?_)
                go_simp
                refine hK _ _ ?_
                clear hK K
                refine anyS_one (i := 7) (by kernel_rfl) rfl q9 (fun K hK => ?_)
                go_simp
                refine hK _ _ ?_
                clear hK K
                refine anyS_one (i := 8) (by kernel_rfl) rfl q9 (fun K hK => ?_)
                go_simp
                refine hK _ _ ?_
                clear hK K
                refine anyS_one (i := 9) (by kernel_rfl) rfl q9 (fun K hK => ?_)
                go_simp
                refine hK _ _ ?_
                clear hK K
                refine anyS_one (i := 10) (by kernel_rfl) rfl q9 (fun K hK => ?_)
                go_simp
                refine hK _ _ ?_
                clear hK K
                refine anyS_one (i := 11) (by kernel_rfl) rfl q9 (fun K hK => ?_)
                go_simp
                refine hK _ _ ?_
                clear hK K
                refine anyS_one (i := 12) (by kernel_rfl) rfl q9 (fun K hK => ?_)
                go_simp
                refine hK _ _ ?_
                clear hK K
                refine anyS_one (i := 13) (by kernel_rfl) rfl q9 (fun K hK => ?_)
                go_simp
                refine hK _ _ ?_
                clear hK K
                refine anyS_one (i := 14) (by kernel_rfl) rfl q9 (fun K hK => ?_)
                go_simp
                refine hK _ _ ?_
                clear hK K
                refine anyS_one (i := 15) (by kernel_rfl) rfl q9 (fun K hK => ?_)
                go_simp
                refine hK _ _ ?_
                clear hK K
                refine anyS_one (i := 16) (by kernel_rfl) rfl q9 (fun K hK => ?_)
                go_simp
                refine hK _ _ ?_
                clear hK K
                refine anyS_one (i := 17) (by kernel_rfl) rfl q9 (fun K hK => ?_)
                go_simp
                refine hK _ _ ?_
                clear hK K
                refine anyS_one (i := 18) (by kernel_rfl) rfl q9 (fun K hK => ?_)
                go_simp
                refine hK _ _ ?_
                clear hK K
                refine anyS_one (i := 19) (by kernel_rfl) rfl q9 (fun K hK => ?_)
                go_simp
                refine hK _ _ ?_
                clear hK K
                refine anyS_one (i := 20) (by kernel_rfl) rfl q9 (fun K hK => ?_)
                go_simp
                refine hK _ _ ?_
                clear hK K
                refine anyS_one (i := 21) (by kernel_rfl) rfl q9 (fun K hK => ?_)
                go_simp
                refine hK _ _ ?_
                clear hK K
                refine anyS_one (i := 22) (by kernel_rfl) rfl q9 (fun K hK => ?_)
                go_simp
                refine hK _ _ ?_
                clear hK K
                refine anyS_one (i := 23) (by kernel_rfl) rfl q9 (fun K hK => ?_)
                go_simp
                refine hK _ _ ?_
                clear hK K
                refine anyS_one (i := 24) (by kernel_rfl) rfl q9 (fun K hK => ?_)
                go_simp
                refine hK _ _ ?_
                clear hK K
                refine anyS_skip (i := 25) (by kernel_rfl) rfl (by kernel_rfl) (by kernel_rfl) (by kernel_rfl) (fun _ _ _ h => h) (by kernel_rfl) (fun _ => by rfl) ?_
                refine anyS_one (i := 26) (by kernel_rfl) rfl q9 (fun K hK => ?_)
                go_simp
                refine hK _ _ ?_
                clear hK K
                refine anyS_one (i := 27) (by kernel_rfl) rfl q9 (fun K hK => ?_)
                go_simp
                refine hK _ _ ?_
                clear hK K
                refine anyS_one (i := 28) (by kernel_rfl) rfl q9 (fun K hK => ?_)
                go_simp
                refine hK _ _ ?_
                clear hK K
                refine anyS_done (by kernel_rfl) q9 ?_ _
                refine NoPanic.normal ?_
                go_wp2
                go_meet
                case rel => exact ⟨by rw [HQZ.out], HB9⟩
            · have HQZ := Lib.hid (show qz = mz by have h := HQ5.out; simpa using h)
              refine wp_region_noPanic ?_
              refine (wpIn_wide (n := 9)).1 ?_
              refine wpIn_region_any (by kernel_rfl) ?_
              change wpAnyIn _ _ _ _ _ _ _ _ _ (World.drew _)
              refine anyS.any (S := fun w' => w'.cell? ⟨q18, 0, none⟩ = some (.int .i64 (c : Int))) ?_
              refine anyS_take (i := 1) (v := ?_) (by kernel_rfl) rfl (by kernel_rfl) (by kernel_rfl) (by kernel_rfl) (fun _ _ _ h => h) (by kernel_rfl) (fun _ => rfl) ?_ ?_
              rotate_left
              · intro w' hS
                go_simp
                try with_reducible rfl
              refine anyS_take (i := 2) (v := ?_) (by kernel_rfl) rfl (by kernel_rfl) (by kernel_rfl) (by kernel_rfl) (fun _ _ _ h => h) (by kernel_rfl) (fun _ => rfl) ?_ ?_
              rotate_left
              · intro w' hS
                go_simp
                try with_reducible rfl
              refine anyS_one (i := 0) (by kernel_rfl) rfl (cell_stays (Below.refl wd.heap.size wd).drew q0) (fun K hK => ?_)
              go_simp
              gi_wp2_with ((refine ⟨trivial, ?_⟩; gi_at_call 16; refine CallsIn.mono (F := Fence.wide) (callsIn_wide.2 (table_law _)) ?_; rintro e w9 ⟨tv, rfl, htc, hb9⟩; have HB9 := Lib.hid (stepB (Below.refl wd.heap.size wd).drew hb9); obtain ⟨tb9, to9, tc9, htv⟩ : ∃ tb9 to9 tc9, tv = .slice (some ⟨tb9, to9, none⟩) 4 tc9 := (table_form htc); subst htv; have HK0 := Lib.hid (table_kind htc c hc); clear hb9 htc))
              have kk := HK0.out
              rw [hkd] at kk
              have q9 : w9.cell? ⟨q18, 0, none⟩ = some (.int .i64 (c : Int)) := cell_stays HB9.out q0
              have k9 : w9.cell? ⟨w.heap.size, 1, none⟩ = some (.int .i64 3) := cell_stays HB9.out k1
              have hb0 : (0 : Int) ≤ c := by omega
              have hb4 : (c : Int) < 4 := by have : T7.length = 4 := rfl; omega
              refine anyS_one (i := 3) (by kernel_rfl) rfl q9 (fun K hK => ?_)
              go_simp
              refine hK _ _ ?_
              clear hK K
              refine anyS_one (i := 4) (by kernel_rfl) rfl q9 (fun K hK => ?_)
              go_simp
              refine hK _ _ ?_
              clear hK K
              refine anyS_one (i := 5) (by kernel_rfl) rfl q9 (fun K hK => ?_)
              go_simp
              refine hK _ _ ?_
              clear hK K
              refine anyS_one (i := 6) (by kernel_rfl) rfl q9 (fun K hK => ?_)
              go_simp
              refine hK _ _ ?_
              clear hK K
              refine anyS_one (i := 7) (by kernel_rfl) rfl q9 (fun K hK => ?_)
              go_simp
              refine hK _ _ ?_
              clear hK K
              refine anyS_one (i := 8) (by kernel_rfl) rfl q9 (fun K hK => ?_)
              go_simp
              refine hK _ _ ?_
              clear hK K
              refine anyS_one (i := 9) (by kernel_rfl) rfl q9 (fun K hK => ?_)
              go_simp
              refine hK _ _ ?_
              clear hK K
              refine anyS_one (i := 10) (by kernel_rfl) rfl q9 (fun K hK => ?_)
              go_simp
              refine hK _ _ ?_
              clear hK K
              refine anyS_one (i := 11) (by kernel_rfl) rfl q9 (fun K hK => ?_)
              go_simp
              refine hK _ _ ?_
              clear hK K
              refine anyS_one (i := 12) (by kernel_rfl) rfl q9 (fun K hK => ?_)
              go_simp
              refine hK _ _ ?_
              clear hK K
              refine anyS_one (i := 13) (by kernel_rfl) rfl q9 (fun K hK => ?_)
              go_simp
              refine hK _ _ ?_
              clear hK K
              refine anyS_one (i := 14) (by kernel_rfl) rfl q9 (fun K hK => ?_)
              go_simp
              refine hK _ _ ?_
              clear hK K
              refine anyS_one (i := 15) (by kernel_rfl) rfl q9 (fun K hK => ?_)
              go_simp
              refine hK _ _ ?_
              clear hK K
              refine anyS_skip (i := 16) (by kernel_rfl) rfl (by kernel_rfl) (by kernel_rfl) (by kernel_rfl) (fun _ _ _ h => h) (by kernel_rfl) (fun _ => by rfl) ?_
              refine anyS_skip (i := 17) (by kernel_rfl) rfl (by kernel_rfl) (by kernel_rfl) (by kernel_rfl) (fun _ _ _ h => h) (by kernel_rfl) (fun _ => by rfl) ?_
              refine anyS_one (i := 18) (by kernel_rfl) rfl q9 (fun K hK => ?_)
              go_simp
              refine hK _ _ ?_
              clear hK K
              refine anyS_one (i := 19) (by kernel_rfl) rfl q9 (fun K hK => ?_)
              go_simp
              refine hK _ _ ?_
              clear hK K
              refine anyS_one (i := 20) (by kernel_rfl) rfl q9 (fun K hK => ?_)
              go_simp
              refine hK _ _ ?_
              clear hK K
              refine anyS_one (i := 21) (by kernel_rfl) rfl q9 (fun K hK => ?_)
              go_simp
              refine hK _ _ ?_
              clear hK K
              refine anyS_one (i := 22) (by kernel_rfl) rfl q9 (fun K hK => ?_)
              go_simp
              refine hK _ _ ?_
              clear hK K
              refine anyS_one (i := 23) (by kernel_rfl) rfl q9 (fun K hK => ?_)
              go_simp
              refine hK _ _ ?_
              clear hK K
              refine anyS_one (i := 24) (by kernel_rfl) rfl q9 (fun K hK => ?_)
              go_simp
              refine hK _ _ ?_
              clear hK K
              refine anyS_one (i := 25) (by kernel_rfl) rfl q9 (fun K hK => ?_)
              go_simp
              refine hK _ _ ?_
              clear hK K
              refine anyS_one (i := 26) (by kernel_rfl) rfl q9 (fun K hK => ?_)
              go_simp
              refine hK _ _ ?_
              clear hK K
              refine anyS_one (i := 27) (by kernel_rfl) rfl q9 (fun K hK => ?_)
              go_simp
              refine hK _ _ ?_
              clear hK K
              refine anyS_one (i := 28) (by kernel_rfl) rfl q9 (fun K hK => ?_)
              go_simp
              refine hK _ _ ?_
              clear hK K
              refine anyS_done (by kernel_rfl) q9 ?_ _
              refine NoPanic.normal ?_
              go_wp2
              go_meet
              case rel => exact ⟨by rw [HQZ.out], HB9⟩
          case rest =>
          obtain ⟨rfl, HBX⟩ := hcut
          have HWX := Lib.hid (own_later HWD.out HBX.out)
          have HB3 := Lib.hid (stepB HBW.out HBX.out)
          have hml : ((F.take k).filter q).length ≤ 40 := by
            have h1 := List.length_filter_le q (F.take k)
            have h2 := List.length_take_le k F
            omega
          obtain ⟨M, hM⟩ : ∃ M, (F.take k).filter q = M := ⟨_, rfl⟩
          rw [hM] at HWX HFS hml
          cases qz with
          | false =>
            have HNX := Lib.hid (show (F.take (k + 1)).filter q = M from by have h := HFS.out; rwa [if_neg (by decide)] at h)
            clear HFS hM q0 k1
            go_wp2
            go_roundw
            case rel => exact ⟨k + 1, by omega, by go_num, by rw [HNX.out]; exact HWX, HB3⟩
            case measure => simp [intOf]; omega
          | true =>
            have HNX := Lib.hid (show (F.take (k + 1)).filter q = M ++ [(j : Int) + 1] from by have h := HFS.out; rw [if_pos rfl] at h; rw [h, HID.out])
            clear HFS hM q0 k1
            go_wp2_with (at_builtin; refine wpList_push rfl _ _ rfl rfl _ M ((j : Int) + 1) rfl HWX.out HB3.out rfl (by omega) ?f)
            case f =>
              intro v' w' h3 h4
              have H3 := Lib.hid (show w'.ownsRow w8.heap.size 3 1 v' ((F.take (k + 1)).filter q).length (intsV ((F.take (k + 1)).filter q)) from by rw [HNX.out, List.length_append]; exact h3)
              have H4 := Lib.hid h4
              clear h3 h4
              go_wp2
              go_roundw
              case rel => exact ⟨k + 1, by omega, by go_num, H3, H4⟩
              case measure => simp [intOf]; omega
      case rest =>
      obtain ⟨xa, xc, rfl, HIW, HBW⟩ := hcut
      have HX8 := Lib.hid (stepB HX7.out HBW.out)
      have HM8 := Lib.hid (HM7.out.later HBW.out)
      have HC8 := Lib.hid ((HBW.out.block _ (Array.getElem?_eq_some_iff.1 HC7.out).1).trans HC7.out)
      have HL8 := Lib.hid (show ListIn wc w4.heap.size w4.heap.size v6 L from ⟨(HBW.out.block _ (Array.getElem?_eq_some_iff.1 HL7.out.box).1).trans HL7.out.box, own_later HL7.out.own HBW.out⟩)
      have HMEM := Lib.hid (mem_aimL (S := S) HVA.out HM.out.wf (by rw [HM.out.seats]; decide) a2)
      have HTWO := Lib.hid (chk_two (S := S) HVA.out a2)
      rw [HEE.out, HLL.out] at HMEM
      rw [HEE.out] at HTWO
      have HIN := Lib.hid (ints_no_at (own_ints HL8.out.own) HIW.out hLL rfl)
      have cq := HL8.out.head.cell
      clear HX7 HM7 HC7 HL7 HBW HLL HEE HV0 HVA HS7 HT7
      have HRES : Hid (∀ (wz : World), Below wc.heap.size wc wz → wz.cell? ⟨w.heap.size, 2, none⟩ = some (.int .i64 a2)) := Lib.hid fun wz hb => cell_of_row wz _ 2 _ _ (0, 0) ((hb.block _ (Array.getElem?_eq_some_iff.1 HC8.out).1).trans HC8.out)
      cases hLc : L with
      | nil =>
        subst hLc
        obtain rfl : ok = false := by rw [← HOK.out]; rfl
        obtain rfl : f0 = 0 := by rw [← HF0.out]; rfl
        go_wp2_with fail
        refine HIN.out.mono ?_
        rintro e w9 ⟨rfl, hb9⟩
        have HB9 := Lib.hid hb9
        have c2 := HRES.out w9 hb9
        have HHA := Lib.hid (hasRef_any a2 (HIW.out.later hb9) (by simp))
        clear hb9
        rcases HTWO.out with rfl | rfl
        · have hmem := HMEM.out.symm
          rw [show ((0 : Int) == 0) = true from rfl] at hmem
          rw [hmem] at HHA
          clear hmem HMEM HTWO
          go_wp2_with fail
          refine HHA.out.mono ?_
          rintro e w10 ⟨rfl, rfl⟩
          go_wp2
          exact (HM8.out.later HB9.out).leave (stepB HX8.out HB9.out) (fun W' => results_tmp (t := 6) rfl _ _ _)
        · have hmem := HMEM.out.symm
          rw [show ((12 : Int) == 0) = false from rfl] at hmem
          rw [hmem] at HHA
          clear hmem HMEM HTWO
          go_wp2_with fail
          refine HHA.out.mono ?_
          rintro e w10 ⟨rfl, rfl⟩
          go_wp2
          exact (HM8.out.later HB9.out).leave (stepB HX8.out HB9.out) (fun W' => results_tmp (t := 6) rfl _ _ _)
      | cons y L' =>
        subst hLc
        obtain rfl : ok = true := by rw [← HOK.out]; simp
        obtain rfl : y = f0 := HF0.out
        obtain ⟨yb, yo, rfl, hyb, y0⟩ := HIW.out.at 0 (by simp)
        have y0 : wc.cell? ⟨yb, yo, none⟩ = some (.int .i64 y) := y0
        have hpos : decide ((0 : Int) < ((y :: L').length : Int)) = true := decide_eq_true (by simp)
        have hpos2 : decide (0 < (y :: L').length) = true := by simp
        have hpos3 : (0 : Int) < ((y :: L').length : Int) := by simp
        obtain ⟨NL, hNL⟩ : ∃ NL, (y :: L').length = NL := ⟨_, rfl⟩
        have HNL := Lib.hid hNL
        rw [hNL] at HIN hpos hpos2 hpos3 ⊢
        have HY0 := Lib.hid (And.intro hyb y0)
        clear hNL hyb y0
        go_wp2_with fail
        refine HIN.out.mono ?_
        rintro e w9 ⟨rfl, hb9⟩
        have HB9 := Lib.hid hb9
        have c2 := HRES.out w9 hb9
        have hyy : (y != y) = false := bne_self_eq_false _
        have y0 : w9.cell? ⟨yb, yo, none⟩ = some (.int .i64 y) := (hb9.cell (p := ⟨yb, yo, none⟩) HY0.out.1).trans HY0.out.2
        have HHA := Lib.hid (show Calls Try.prog 18 #[.slice (some ⟨yb, yo, none⟩) NL xc, .int .i64 a2] w9 (Same w9 (.bool (decide (a2 ∈ y :: L')))) from by
          have h := hasRef_any a2 (HIW.out.later hb9) hLL
          rwa [HNL.out] at h)
        clear hb9
        rcases HTWO.out with rfl | rfl
        · have hmem := HMEM.out.symm
          rw [show ((0 : Int) == 0) = true from rfl] at hmem
          rw [hmem] at HHA
          clear hmem HMEM HTWO
          go_wp2_with fail
          refine HHA.out.mono ?_
          rintro e w10 ⟨rfl, rfl⟩
          go_wp2
          exact (HM8.out.later HB9.out).leave (stepB HX8.out HB9.out) (fun W' => results_tmp (t := 6) rfl _ _ _)
        · have hmem := HMEM.out.symm
          rw [show ((12 : Int) == 0) = false from rfl] at hmem
          rw [hmem] at HHA
          clear hmem HMEM HTWO
          go_wp2_with fail
          refine HHA.out.mono ?_
          rintro e w10 ⟨rfl, rfl⟩
          go_wp2
          exact (HM8.out.later HB9.out).leave (stepB HX8.out HB9.out) (fun W' => results_tmp (t := 6) rfl _ _ _)
  · rintro D c pre W hD hS hI hK
    exact hI.elim
end Go.Proofs.Ythciiapdfjemaaa

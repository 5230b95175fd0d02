/- Those who are to die, in a list; they go to their Graves, and their triggers fire (layer 14: bury). -/
import Derived.Test.YtdlkdilgjmmlaaaGreatWc
import Derived.Test.YtdlkdilgjmmlaaaGreatRj
import Derived.Test.YtdlkdilgjmmlaaaGreatKh
namespace Go.Proofs.YtdlkdilgjmmlaaaGreat
open Go.RowKit Go.Maps
attribute [local go_sem] Oper.semAt_some

theorem own_form1 {w : World} {lo n : Nat} {t : TypeId} {v : Value} {xs : List Value} (h : w.ownsRow lo t 1 v n xs) : ∃ xa xc, v = .slice xa n xc := by
  rcases h.2 with ⟨rfl, rfl⟩ | ⟨g, cap, cur, rfl, _⟩
  · exact ⟨none, 0, rfl⟩
  · exact ⟨some ⟨g, 0, none⟩, cap, rfl⟩
set_option maxRecDepth 100000 in
set_option maxHeartbeats 16000000 in
theorem appendDies_in {w : World} {lo c1 : Nat} {g : GhostB} {B : BoardL} (h : BoardAt w lo g B) (hc : HdAt w c1 (.pointer (some ⟨g.q, 0, none⟩))) :
    CallsIn Fence.wide 9 Tryz.prog 132 #[.slice none 0 0, .func (.func 88) #[] #[.pointer (some ⟨c1, 0, none⟩)]] w (RetList w (diesL B.S)) := by
  have b0 := below_new w (.cells #[.slice none 0 0] 24)
  have hL0 : ListIn (w.alloc (.cells #[.slice none 0 0] 24)) w.heap.size w.heap.size (.slice none 0 0) [] := ⟨heap_alloc_new _ _, World.ownsRow_nil _ _ _ _⟩
  have hlt := hc.lt
  have HSEQ := Lib.hid (dying_seq 8 (by omega) (w := w.alloc (.cells #[.slice none 0 0] 24)) (fun _ => False) (fun k => k = w.heap.size) (fun k hk => hk.elim) (fun k hk => hk.elim) (fun e => e)
    (fun b hb => by subst hb; exact ⟨_, hL0.head, fun k e => by cases e⟩) (fun k hk => off_one hL0.head (by rcases hk with hk | rfl; have := h.ownLt hk; omega; omega) (by intro e; cases e)) (hc.later b0) (h.later b0))
  have HLL := Lib.hid (show (diesL B.S).length ≤ 999 from Nat.le_trans (dies_len h.wf h.st.n1) h.len)
  obtain ⟨L, hL⟩ : ∃ L, diesL B.S = L := ⟨_, rfl⟩
  rw [hL] at HSEQ HLL ⊢
  have HI0 : IntsI w.heap.size w (w.alloc (.cells #[.slice none 0 0] 24)) [] (w.alloc (.cells #[.slice none 0 0] 24)) := ⟨.slice none 0 0, hL0, KpP.refl _ _ _, b0, Nat.zero_le _⟩
  have HSZ := Lib.hid (show (w.alloc (.cells #[.slice none 0 0] 24)).heap.size = w.heap.size + 1 from World.size_alloc _ _)
  have HB0 := Lib.hid b0
  clear h hc b0 hL0 hL hlt
  refine callsIn_of_wp_marks Tryz.func132 rfl trivial ?_ rfl
  simp only [Tryz.ntmps132, List.size_toArray, List.length_cons, List.length_nil, Nat.reduceAdd, Nat.reduceSub, Array.replicate_succ, Array.replicate_zero, List.push_toArray, List.append_toArray, List.nil_append, List.cons_append]
  gi_wp2_with fail
  obtain ⟨W1, hW1⟩ : ∃ W1, w.alloc (.cells #[.slice none 0 0] 24) = W1 := ⟨_, rfl⟩
  obtain ⟨q, hq⟩ : ∃ q, w.heap.size = q := ⟨_, rfl⟩
  rw [hW1] at HSEQ HI0 HSZ HB0 ⊢
  rw [hq] at HSEQ HI0 HSZ ⊢
  have HQ := Lib.hid hq
  clear hW1 hq
  refine range_world3 rfl (by omega) (I := IntsI q w W1) (Ix := fun _ _ _ => False) (gf := 88) (lb := _) rfl trivial (fun _ _ => by kernel_rfl) HSEQ.out KpP.trans (fun W' o o' ho hc _ => KpP.put o' (.inr rfl) ho hc) (fun W W' hb => KpP.of_below _ _ hb) (Below.refl _ _) (fun _ => rfl)
    (intsI_own HB0.out.size (Nat.le_refl _)) (fun c s A B row hs hg hr => hs) (fun s A B row hs hg hr => hs) (fun s A B row hs hg hr => hs) HI0 ?round ?done ?stop
  case round =>
    rintro pre x W K hI hT hsz hK
    have HPL := Lib.hid (show pre.length + 1 ≤ 1000 from by
      have h1 := hT.length_le
      have h2 := HLL.out
      simp at h1
      omega)
    have HK := Lib.hid hK
    clear hK hT hI
    simp only [encF]
    simp
    gi_wp2
    refine HK.out _ _ (Below.refl _ _) ?_
    clear HK
    intro Wb hsz2 hrest hkw ⟨v1, l0, k0, b0, hl1⟩
    have cl := l0.head.cell
    have fl := l0.head.frozen
    obtain ⟨xa1, xc1, rfl⟩ := own_form1 l0.own
    have HL1 := Lib.hid l0
    have HK1 := Lib.hid k0
    have HB1 := Lib.hid b0
    have HKB := Lib.hid hkw
    clear hsz2 hrest hkw l0 k0 b0 hl1
    have hlen : pre.length + [x].length ≤ 1000 := by have := HPL.out; simpa using this
    have hlo : w.heap.size ≤ (Wb.alloc (.cells #[.int .i64 x] 3)).heap.size := by have := HB1.out.size; simp; omega
    gi_wp2_with (gi_at_builtin; refine wpListIn_append_ints rfl _ _ rfl rfl w.heap.size _ pre.length (intsV pre) rfl (own_later HL1.out.own (below_new Wb _)) _ 1 1 [x] rfl rfl ((RowAt.new _ 3 (intsV [x])).vals 1) hlen hlo ?_)
    intro v' w6x hown hgrow hnew
    have hsep : ∀ c, c = q → (Value.slice xa1 pre.length xc1).ownBlock ≠ some c := fun c hc e => by subst hc; exact (HL1.out.row _ e).2.2 rfl
    obtain ⟨l7, k7, h6⟩ := ListIn.snoc (E := fun _ => False) (H := fun k => k = q) HL1.out rfl hgrow hown (by rw [World.size_alloc]; exact hnew) hsep
    have c6 := h6.cell
    have f6 := h6.frozen
    have HB7 := Lib.hid (show Below w.heap.size w (w6x.setCell ⟨q, 0, none⟩ v') from ((HB1.out.alloc HB1.out.size _).grown hgrow (by have := HB1.out.size; simp; omega) (fun c e => by have := (HL1.out.row c e).1; omega)).setCell ((Nat.le_of_eq HQ.out)) v')
    obtain ⟨xa7, xc7, rfl⟩ := own_form1 hown
    have HL7 := Lib.hid l7
    have HK7 := Lib.hid k7
    clear hown hgrow hnew hsep l7 k7 h6 hlen hlo cl fl
    gi_wp2
    exact ⟨HK7.out.from (fun k e => e.elim), HKB.out.trans (HK7.out.mono (fun k e => e.elim)), _, HL7.out, HK1.out.trans HK7.out, HB7.out, by rw [List.length_append]; exact HPL.out⟩
  case done =>
    rintro D ys W6 hD hS ⟨v6, l6, k6, b6, hl6⟩ hK
    subst hS
    have c6 := l6.head.cell
    have HL6 := Lib.hid l6
    have HB6 := Lib.hid b6
    have HK := Lib.hid hK
    have HD := Lib.hid (show W1.heap.size ≤ D from hD)
    clear l6 k6 b6 hl6 hK hD HSEQ HI0
    gi_wp2
    refine ⟨by simp, .inl ⟨_, _, rfl, run_takeDeferred HK.out, ?_⟩⟩
    exact ⟨_, results_tmp rfl _ _ _, v6, rfl, ownsRow_putObj HL6.out.own _ HK.out rfl, HB6.out.trans (belowK_b (w := w) (Nat.le_refl _) W6 D _ _ (by have := HD.out; have := HSZ.out; have := HQ.out; omega) HK.out rfl rfl)⟩
  case stop =>
    rintro D c pre W' hD hS hj hK
    exact hj.elim
set_option maxRecDepth 100000 in
theorem collectDies_any {w : World} {lo c1 : Nat} {g : GhostB} {B : BoardL} (h : BoardAt w lo g B) (hc : HdAt w c1 (.pointer (some ⟨g.q, 0, none⟩))) :
    Calls Tryz.prog 101 #[.func (.func 88) #[] #[.pointer (some ⟨c1, 0, none⟩)]] w (RetList w (diesL B.S)) := by
  have HA := Lib.hid (callsIn_wide.1 (appendDies_in h hc))
  clear h hc
  go_enter Tryz.func101, Tryz.ntmps101
  go_wp2_with fail
  refine HA.out.mono ?_
  rintro e w1 ⟨v, rfl, ho, hb⟩
  have HO := Lib.hid ho
  have HB := Lib.hid hb
  clear ho hb
  dsimp only
  go_wp2
  go_ret
  exact ⟨v, rfl, HO.out, HB.out⟩
/-- A board and a stack that share nothing. -/
structure BothAt (w : World) (lo lo' : Nat) (g : GhostB) (b : Nat) (gk : Option Nat) (B : BoardL) (L : List EntL) : Prop where
  bd : BoardAt w lo g B
  sk : StackAt w lo' b gk L
  ap : ∀ k, g.own k → ¬ownK b gk k
def own2 (g : GhostB) (b : Nat) (gk : Option Nat) (k : Nat) : Prop := g.own k ∨ ownK b gk k
theorem BothAt.later {w w' : World} {lo lo' : Nat} {g : GhostB} {b : Nat} {gk : Option Nat} {B : BoardL} {L : List EntL} (h : BothAt w lo lo' g b gk B L) (hb : Below w.heap.size w w') : BothAt w' lo lo' g b gk B L := ⟨h.bd.later hb, h.sk.later hb, h.ap⟩
theorem BothAt.ownLt {w : World} {lo lo' : Nat} {g : GhostB} {b : Nat} {gk : Option Nat} {B : BoardL} {L : List EntL} (h : BothAt w lo lo' g b gk B L) {k : Nat} (hk : own2 g b gk k) : k < w.heap.size := by
  rcases hk with hk | hk
  · exact h.bd.ownLt hk
  · exact h.sk.ownLt hk
/-- A row of numbers that is somebody's own. -/
structure RepAt (w : World) (base : Nat) (own : Nat → Prop) (v : Value) (L : List Int) : Prop where
  row : w.ownsRow base 3 1 v L.length (intsV L)
  off : ∀ k, v.ownBlock = some k → ¬own k
theorem RepAt.turn {w w' : World} {base : Nat} {own own' : Nat → Prop} {v : Value} {L : List Int} (h : RepAt w base own v L) (ht : TurnedO w w' own own') : RepAt w' base own' v L := by
  have hlt : ∀ k, v.ownBlock = some k → k < w.heap.size := fun k e => (World.ownsRow.lt h.row k e).2
  exact ⟨own_keepS h.row fun k e => ht.block k (hlt k e) (h.off k e), fun k e hk => h.off k e (ht.own k (hlt k e) hk)⟩
theorem RepAt.mono {w : World} {base base' : Nat} {own : Nat → Prop} {v : Value} {L : List Int} (h : RepAt w base own v L) (hb : base' ≤ base) : RepAt w base' own v L := ⟨own_mono h.row hb, h.off⟩
theorem RepAt.none (w : World) (base : Nat) (own : Nat → Prop) : RepAt w base own (.slice none 0 0) [] := ⟨World.ownsRow_nil _ _ _ _, fun k e => by cases e⟩
def roundK (B : BoardL) (active : Int) (L : List EntL) : List EntL := (fireL (midB B) 2 (orderL (midB B) active (diesL B.S)) L).2
def RetBury (w : World) (lo lo' : Nat) (g : GhostB) (b : Nat) (gk : Option Nat) (B : BoardL) (L : List EntL) (active : Int) (e : Ending) (w' : World) : Prop :=
  ∃ v g' gk', e = .returned v ∧ BothAt w' lo lo' g' b gk' (midB B) (roundK B active L) ∧ g'.q = g.q ∧ TurnedO w w' (own2 g b gk) (own2 g' b gk') ∧ RepAt w' w.heap.size (own2 g' b gk') v (diesL B.S)
set_option maxRecDepth 100000 in
set_option maxHeartbeats 4000000 in
theorem bury_any {w : World} {lo lo' b : Nat} {g : GhostB} {gk : Option Nat} {B : BoardL} {L : List EntL} (h : BothAt w lo lo' g b gk B L) (hl : B.S.objs.length ≤ 800) (hL : L.length ≤ 8) (active : Int) :
    Calls Tryz.prog 57 #[.pointer (some ⟨g.q, 0, none⟩), .pointer (some ⟨b, 0, none⟩), .int .i64 active] w (RetBury w lo lo' g b gk B L active) := by
  have HH := Lib.hid h
  have HDL := Lib.hid (show (diesL B.S).length ≤ 800 from Nat.le_trans (dies_len h.bd.wf h.bd.st.n1) hl)
  have HHS := Lib.hid (dies_has h.bd.wf h.bd.st.n1)
  have HL8 := Lib.hid hL
  obtain ⟨q, hq⟩ : ∃ q, g.q = q := ⟨_, rfl⟩
  have HQ := Lib.hid hq
  obtain ⟨ds, hds⟩ : ∃ ds, diesL B.S = ds := ⟨_, rfl⟩
  have HDS := Lib.hid hds
  rw [hds] at HDL HHS
  clear h hl hL hds
  unfold RetBury
  rw [HDS.out, hq]
  clear hq
  go_enter Tryz.func57, Tryz.ntmps57
  go_wp2_with fail
  refine (dying_any (some ⟨q, 0, none⟩) w).mono ?_
  rintro e w1 ⟨rfl, h1, hb1⟩
  have HCO := Lib.hid (collectDies_any (HH.out.bd.later hb1) (by rw [HQ.out]; exact h1))
  rw [HDS.out] at HCO
  have HB1 := Lib.hid hb1
  obtain ⟨c1, hc1⟩ : ∃ c1, w.heap.size = c1 := ⟨_, rfl⟩
  have HC1 := Lib.hid hc1
  rw [hc1] at HCO
  clear h1 hb1
  dsimp only
  rw [hc1]
  clear hc1
  go_wp2_with fail
  refine HCO.out.mono ?_
  rintro e w2 ⟨v, rfl, ho, hb2⟩
  obtain ⟨va, vc, rfl⟩ := own_form1 ho
  have HB2 := Lib.hid (stepB HB1.out hb2)
  have HRP := Lib.hid (show RepAt w2 w.heap.size (own2 g b gk) (.slice va ds.length vc) ds from ⟨own_mono ho HB1.out.size, fun k e hk => by
    have h1 := (World.ownsRow.lt ho k e).1
    have h2 := HH.out.ownLt hk
    have h3 := HB1.out.size
    omega⟩)
  clear ho hb2 HCO
  have HH2 := Lib.hid (HH.out.later HB2.out)
  have HLN := Lib.hid (show ds.length ≤ 1000 by have := HDL.out; omega)
  have hln : ds.length ≤ 1000 := HLN.out
  dsimp only
  go_wp2
  go_loopw [15] (fun i wr => ∃ k : Nat, k ≤ ds.length ∧ i = .int .i64 k ∧ ∃ g1, Hid (BoardAt wr lo g1 ⟨buryS B.S (ds.take k), B.T, B.D⟩) ∧ Hid (TurnedB w2 wr g g1) ∧ Hid (g1.q = q)) (fun i _ => ds.length - (intOf i).toNat)
  case atStart => exact ⟨0, Nat.zero_le _, rfl, g, Lib.hid HH2.out.bd, Lib.hid (TurnedB.of_below (Below.refl _ _)), Lib.hid HQ.out⟩
  case round =>
    obtain ⟨k, hk, rfl, g1, HBD, HT, HQ1⟩ := hrel
    by_cases hlt : k < ds.length
    · have HR1 := Lib.hid (HRP.out.turn (HT.out.o.left (c := ownK b gk)))
      obtain ⟨r, off, rfl, _, c0⟩ := (own_ints HR1.out.row).at k hlt
      have htk := take_last ds k hlt
      have hhs := HHS.out _ (List.getElem_mem hlt)
      obtain ⟨x, hx⟩ : ∃ x, ds[k] = x := ⟨_, rfl⟩
      rw [hx] at c0 htk hhs
      have HTK := Lib.hid htk
      have HMV := Lib.hid (move_bd HBD.out x ((keeps_bury B.S (ds.take k)).has hhs) 5 (by decide) (by decide))
      have cq := HBD.out.cells.1
      rw [HQ1.out] at cq
      clear hx htk hhs
      obtain ⟨sb, hsb⟩ : ∃ sb, g1.b = sb := ⟨_, rfl⟩
      rw [hsb] at cq HMV
      clear hsb
      go_wp2_with fail
      refine HMV.out.mono ?_
      rintro e w3 ⟨rfl, g2, hbd, ht, hq2⟩
      have HBD2 := Lib.hid (show BoardAt w3 lo g2 ⟨buryS B.S (ds.take (k + 1)), B.T, B.D⟩ by rw [HTK.out, buryS_snoc]; exact hbd)
      have HT2 := Lib.hid (HT.out.trans ht)
      have HQ2 := Lib.hid (show g2.q = q from hq2.trans HQ1.out)
      clear hbd ht hq2 cq c0 HMV
      go_wp2
      go_roundw
      case rel => exact ⟨k + 1, by omega, by go_num, g2, HBD2, HT2, HQ2⟩
      case measure => simp [intOf]; omega
    · obtain rfl : k = ds.length := by omega
      have HBE := Lib.hid (show BoardAt wr lo g1 (midB B) by
        have h1 := HBD.out
        rw [List.take_length] at h1
        unfold midB
        rw [HDS.out]
        exact h1)
      have HTO := Lib.hid (HT.out.o.left (c := ownK b gk))
      have HR1 := Lib.hid (HRP.out.turn HTO.out)
      have HSK := Lib.hid (HH2.out.sk.farO HT.out.o HH2.out.ap)
      have HAP := Lib.hid (apart_o HT.out.o HH2.out.ap (fun k hk => HH2.out.sk.ownLt hk))
      have HF := Lib.hid (fire_any HBE.out HSK.out HAP.out HL8.out active 2 (own_ints HR1.out.row) HDL.out)
      rw [HQ1.out] at HF
      clear HBD
      go_wp2_with fail
      refine HF.out.mono ?_
      rintro e w4 ⟨rfl, gk2, hs4, ht4⟩
      have HP := Lib.hid (show BothAt w4 lo lo' g1 b gk2 (midB B) (roundK B active L) ∧ TurnedO w w4 (own2 g b gk) (own2 g1 b gk2) ∧ RepAt w4 w.heap.size (own2 g1 b gk2) (.slice va ds.length vc) ds from by
        have hflip : ∀ k, ownK b gk k → ¬g1.own k := fun k h1 h2 => HAP.out k h2 h1
        have ht : TurnedO wr w4 (own2 g1 b gk) (own2 g1 b gk2) := ht4.right (c := g1.own)
        refine ⟨⟨HBE.out.farO ht4 hflip, ?_, fun k h1 h2 => apart_o ht4 hflip (fun k hk => HBE.out.ownLt hk) k h2 h1⟩, ((TurnedO.of_below HB2.out).trans HTO.out).trans ht, HR1.out.turn ht⟩
        unfold roundK
        rw [HDS.out]
        exact hs4)
      clear hs4 ht4 HF
      dsimp only
      go_wp2
      go_ret
      exact ⟨_, g1, gk2, rfl, HP.out.1, HQ1.out, HP.out.2.1, HP.out.2.2⟩
end Go.Proofs.YtdlkdilgjmmlaaaGreat

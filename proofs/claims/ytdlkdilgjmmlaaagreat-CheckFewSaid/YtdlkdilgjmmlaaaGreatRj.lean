/- Triggers fire: trig.Fire (layer 13). -/
import Derived.Test.YtdlkdilgjmmlaaaGreatRi
namespace Go.Proofs.YtdlkdilgjmmlaaaGreat
open Go.RowKit Go.Maps
attribute [local go_sem] Oper.semAt_some

theorem orderL_len (B : BoardL) (active : Int) (ids : List Int) : (orderL B active ids).length ≤ ids.length := by
  unfold orderL compact3 Lib.compactUpTo
  rw [List.length_map, List.length_map]
  have h1 := List.length_filter_le (Lib.keeps (sort3 (keysT B active ids)).toArray) (List.range (sort3 (keysT B active ids)).length)
  rw [List.length_range, sort3_len] at h1
  have h2 := keysT_len B active ids
  rw [sort3_len]
  omega
def stepFire (B : BoardL) (when : Int) (p : Nat × List EntL) (i : Int) : Nat × List EntL := if (wouldT B.S i when && pushB B p.2 i) = true then (p.1 + 1, p.2 ++ [entT B i]) else p
def fireL (B : BoardL) (when : Int) (ids : List Int) (L : List EntL) : Nat × List EntL := ids.foldl (stepFire B when) (0, L)
theorem fireL_snoc (B : BoardL) (when : Int) (ids : List Int) (x : Int) (L : List EntL) : fireL B when (ids ++ [x]) L = stepFire B when (fireL B when ids L) x := by simp [fireL]
theorem fireL_len (B : BoardL) (when : Int) (ids : List Int) (L : List EntL) (hL : L.length ≤ 8) : (fireL B when ids L).1 ≤ ids.length ∧ (fireL B when ids L).2.length ≤ 8 ∧ (fireL B when ids L).2.length = L.length + (fireL B when ids L).1 := by
  have h : ∀ k, k ≤ ids.length → (fireL B when (ids.take k) L).1 ≤ k ∧ (fireL B when (ids.take k) L).2.length ≤ 8 ∧ (fireL B when (ids.take k) L).2.length = L.length + (fireL B when (ids.take k) L).1 := fun k => by
    induction k with
    | zero => intro _; simp [fireL]; exact hL
    | succ k ih =>
      intro hk
      obtain ⟨h1, h2, h3⟩ := ih (by omega)
      rw [take_last ids k (by omega), fireL_snoc]
      unfold stepFire
      split
      · rename_i hp
        have h4 : pushB B (fireL B when (ids.take k) L).2 ids[k] = true := (Bool.and_eq_true _ _ ▸ hp).2
        have h5 : (fireL B when (ids.take k) L).2.length < 8 := by
          have := (Bool.and_eq_true _ _ ▸ h4).2
          exact of_decide_eq_true this
        refine ⟨by show _ + 1 ≤ _; omega, by rw [List.length_append]; simp; omega, by rw [List.length_append]; simp; omega⟩
      · exact ⟨by omega, h2, h3⟩
  have := h ids.length (Nat.le_refl _)
  rwa [List.take_length] at this
theorem would_has {S : StoreL} {i when : Int} (h : wouldT S i when = true) : hasS S i := of_decide_eq_true (Bool.and_eq_true _ _ ▸ h).1
theorem pushE_step {B : BoardL} {when : Int} {p : Nat × List EntL} {i : Int} (h : wouldT B.S i when = true) : stepFire B when p i = (p.1 + (if pushB B p.2 i = true then 1 else 0), pushE B p.2 i) := by
  unfold stepFire pushE
  rw [h, Bool.true_and]
  split <;> rfl
def RetFire (w : World) (lo b : Nat) (g : Option Nat) (p : Nat × List EntL) (e : Ending) (w' : World) : Prop := e = .returned (.int .i64 p.1) ∧ ∃ g', StackAt w' lo b g' p.2 ∧ TurnedO w w' (ownK b g) (ownK b g')
set_option maxRecDepth 100000 in
set_option maxHeartbeats 8000000 in
theorem fire_any {w : World} {lo lo' b : Nat} {g : GhostB} {gk : Option Nat} {B : BoardL} {L : List EntL} (h : BoardAt w lo g B) (hs : StackAt w lo' b gk L) (ha : ∀ k, g.own k → ¬ownK b gk k) (hL : L.length ≤ 8) (active when : Int) {v : Value} {ids : List Int} (hv : IntsAt w v ids) (hl : ids.length ≤ 800) :
    Calls Tryz.prog 22 #[.pointer (some ⟨g.q, 0, none⟩), .pointer (some ⟨b, 0, none⟩), .int .i64 active, .int .i64 when, v] w (RetFire w lo' b gk (fireL B when (orderL B active ids) L)) := by
  have HO := Lib.hid (order_any h active hv hl)
  have HB := Lib.hid h
  have HS := Lib.hid hs
  have HA := Lib.hid ha
  obtain ⟨va, vc, rfl⟩ := hv.form
  obtain ⟨O, hO⟩ : ∃ O, orderL B active ids = O := ⟨_, rfl⟩
  have hOl : O.length ≤ 800 := by rw [← hO]; exact Nat.le_trans (orderL_len B active ids) hl
  rw [hO] at HO ⊢
  have HLL := Lib.hid (fun k => fireL_len B when (O.take k) L hL)
  clear h hs ha hv hl hO hL
  go_enter Tryz.func22, Tryz.ntmps22
  go_wp2_with fail
  refine HO.out.mono ?_
  rintro e w1 ⟨u, rfl, ho1, hb1⟩
  obtain ⟨ua, uc, rfl⟩ := (own_ints ho1).form
  have HB1 := Lib.hid hb1
  have HO1 := Lib.hid ho1
  have HS1 := Lib.hid (HS.out.later hb1)
  have HBD := Lib.hid (HB.out.later hb1)
  have HNO := Lib.hid (show ∀ k, (Value.slice ua O.length uc).ownBlock = some k → ¬ownK b gk k from fun k hk ho => by
    have h1 := HS.out.ownLt ho
    have h2 := (World.ownsRow.lt ho1 k hk).1
    omega)
  clear ho1 hb1
  dsimp only
  go_wp2
  go_loopw [19, 11] (fun i i11 wr => ∃ (k : Nat) (g' : Option Nat), k ≤ O.length ∧ i = .int .i64 k ∧ i11 = .int .i64 ((fireL B when (O.take k) L).1 : Nat) ∧ Hid (StackAt wr lo' b g' (fireL B when (O.take k) L).2) ∧ Hid (TurnedO w1 wr (ownK b gk) (ownK b g'))) (fun i _ _ => O.length - (intOf i).toNat)
  case atStart => exact ⟨0, gk, Nat.zero_le _, rfl, rfl, HS1, Lib.hid (TurnedO.of_below (Below.refl _ _))⟩
  case round =>
    obtain ⟨k, g', hk, rfl, rfl, HSR, HTR⟩ := hrel
    by_cases hlt : k < O.length
    · have hi := own_ints (own_keepS HO1.out (fun q hq => HTR.out.block q (World.ownsRow.lt HO1.out q hq).2 (HNO.out q hq)))
      obtain ⟨ub, uo, rfl, _, c0⟩ := hi.at k hlt
      have htk := take_last O k hlt
      obtain ⟨x, hx⟩ : ∃ x, O[k] = x := ⟨_, rfl⟩
      rw [hx] at c0 htk
      have HBR := Lib.hid (HBD.out.farO HTR.out (fun q hq hg => HA.out q hg hq))
      have HWO := Lib.hid (would_any HBR.out x when)
      have HST := Lib.hid (show fireL B when (O.take (k + 1)) L = stepFire B when (fireL B when (O.take k) L) x from by rw [htk, fireL_snoc])
      have hll := HLL.out k
      rw [List.length_take, Nat.min_eq_left (by omega)] at hll
      obtain ⟨p, hp⟩ : ∃ p, fireL B when (O.take k) L = p := ⟨_, rfl⟩
      rw [hp] at HSR HST hll ⊢
      obtain ⟨n, M⟩ := p
      dsimp only at HSR hll ⊢
      obtain ⟨hn1, hM8, _⟩ := hll
      have HAR := Lib.hid (apart_o HTR.out (fun q hq hg => HA.out q hg hq) (fun q hq => HBD.out.ownLt hq))
      clear hi hx hp htk
      obtain ⟨wb, hwb⟩ : ∃ wb, wouldT B.S x when = wb := ⟨_, rfl⟩
      rw [hwb] at HWO
      have HWB := Lib.hid hwb
      clear hwb
      cases wb with
      | false =>
        have HSN := Lib.hid (show fireL B when (O.take (k + 1)) L = (n, M) from by rw [HST.out]; unfold stepFire; rw [HWB.out, Bool.false_and]; rfl)
        go_wp2_with fail
        refine HWO.out.mono ?_
        rintro e w2 ⟨rfl, hb2⟩
        have HB2 := Lib.hid hb2
        clear hb2 c0
        dsimp only
        go_wp2
        go_roundw
        case rel => exact ⟨k + 1, g', by omega, by go_num, by rw [HSN.out], Lib.hid (by rw [HSN.out]; exact HSR.out.later HB2.out), Lib.hid (HTR.out.trans (TurnedO.of_below HB2.out))⟩
        case measure => simp [intOf]; omega
      | true =>
        have HSN := Lib.hid (show fireL B when (O.take (k + 1)) L = (n + (if pushB B M x = true then 1 else 0), pushE B M x) from by rw [HST.out]; exact pushE_step HWB.out)
        have HPU := Lib.hid (fun (w' : World) (hb : Below wr.heap.size wr w') => push13_any (HBR.out.later hb) (HSR.out.later hb) hM8 x (would_has HWB.out))
        unfold RetPush at HPU
        obtain ⟨pb, hpb⟩ : ∃ pb, pushB B M x = pb := ⟨_, rfl⟩
        rw [hpb] at HPU HSN
        clear hpb
        go_wp2_with fail
        refine HWO.out.mono ?_
        rintro e w2 ⟨rfl, hb2⟩
        have HPU2 := Lib.hid (HPU.out w2 hb2)
        have HB2 := Lib.hid hb2
        clear hb2 c0
        dsimp only
        go_wp2_with fail
        refine HPU2.out.mono ?_
        rintro e w3 ⟨rfl, g3, hs3, ht3⟩
        have HS3 := Lib.hid hs3
        have HT3 := Lib.hid ((HTR.out.trans (TurnedO.of_below HB2.out)).trans ht3)
        clear hs3 ht3
        dsimp only
        cases pb with
        | false =>
          go_wp2
          go_roundw
          case rel => exact ⟨k + 1, g3, by omega, by go_num, by rw [HSN.out]; rfl, Lib.hid (by rw [HSN.out]; exact HS3.out), HT3⟩
          case measure => simp [intOf]; omega
        | true =>
          go_wp2
          go_roundw
          case rel => exact ⟨k + 1, g3, by omega, by go_num, by rw [HSN.out]; go_num, Lib.hid (by rw [HSN.out]; exact HS3.out), HT3⟩
          case measure => simp [intOf]; omega
    · obtain rfl : k = O.length := by omega
      have HR := Lib.hid (show RetFire w lo' b gk (fireL B when O L) (.returned (.int .i64 ((fireL B when (O.take O.length) L).1 : Nat))) wr from by
        have h1 := HSR.out
        rw [List.take_length] at h1 ⊢
        exact ⟨rfl, g', h1, (TurnedO.of_below HB1.out).trans HTR.out⟩)
      go_wp2
      go_ret
      exact HR.out
end Go.Proofs.YtdlkdilgjmmlaaaGreat

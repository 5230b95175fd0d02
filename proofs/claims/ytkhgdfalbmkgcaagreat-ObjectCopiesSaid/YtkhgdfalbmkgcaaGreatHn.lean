/- Lay (layer 6): a zone's objects stand in another order. -/
import Derived.Test.YtkhgdfalbmkgcaaGreatHm
namespace Go.Proofs.YtkhgdfalbmkgcaaGreat
open Go.RowKit Go.Maps

theorem own_tight {H : Type} {w : World} {P : Program} {k : TypeId} {R : Value → Option (DataW H × List MemPlace)} {b n : Nat} {D : DataW H} (h : w.ownsMap P k R b n D) : w.ownsMap P k R b (Maps.size D) D := by
  obtain ⟨es, clock, hb, F, hs, rfl⟩ := h
  exact ⟨es, clock, hb, F, by simp [Maps.size, length_sorted], rfl⟩
set_option maxRecDepth 100000 in
theorem MapD.put {D : DataW Unit} {n : Nat} {pb : Nat → Nat → Nat} (h : MapD D n pb) (hD : IsMap D) (hn : n ≤ 4) {s z : Nat} (ok : okK n s z) (b : Nat) : MapD (D.put (kl s z) (.lit (.int .i64 (b : Int)))) n (upd pb s z b) := by
  obtain ⟨ws, wz⟩ := ok.wf hn
  have hk := kl_key ws wz
  refine ⟨fun s' z' w1 w2 => ?_, fun s' z' ok' => ?_, fun k hk' => ?_⟩
  · by_cases e : s' = s ∧ z' = z
    · obtain ⟨rfl, rfl⟩ := e
      rw [has_put_same hD hk, decide_eq_true (okI_nat.2 ok)]
    · rw [has_put_other (kl_ne w1 w2 ws wz (by omega))]
      exact h.has s' z' w1 w2
  · by_cases e : s' = s ∧ z' = z
    · obtain ⟨rfl, rfl⟩ := e
      rw [atKey_put_same hD hk, upd_same]
    · obtain ⟨ws', wz'⟩ := ok'.wf hn
      rw [atKey_put_other (kl_ne ws' wz' ws wz (by omega)), upd_other _ _ e]
      exact h.val s' z' ok'
  · by_cases e : k = kl s z
    · exact ⟨s, z, ok, e⟩
    · rw [has_put_other e] at hk'
      exact h.only k hk'
set_option maxRecDepth 100000 in
/-- A store's pile is another one. -/
theorem StoreAt.layAt {w w2 w3 : World} {lo b s z b' : Nat} {g' : Option Nat} {G : Ghost} {S : StoreL} {L' : List Int} {D : DataW Unit} (h : StoreAt w lo b G S) (ok : okK S.seats s z) (hlo : lo ≤ w.heap.size) (hb : Below w.heap.size w w2)
    (hp : PileAt w2 w.heap.size b' g' L') (hg : w2.grownBy w3 (some G.mb)) (hs : Maps.size D ≤ 100) (hD : Tidy D) (hd : MapD D S.seats G.pb) (hm : w3.ownsMap Tryz.prog 64 ptrElem G.mb 101 (D.put (kl s z) (.lit (.int .i64 (b' : Int))))) :
    ∃ G', StoreAt w3 lo b G' { S with pl := upd S.pl s z L' } ∧ Turned w w3 G G' := by
  classical
  obtain ⟨ws, wz⟩ := ok.wf h.n4
  have hk := kl_key ws wz
  have hbl : w.heap.size ≤ b' := by obtain ⟨v, _, _, h3, _⟩ := hp; exact h3
  have h2 := h.later hb
  have hno : ∀ k, w.heap.size ≤ k → G.tag k = .no := h.high
  have hkeep : ∀ k, k < w2.heap.size → G.tag k ≠ .map → w3.heap[k]? = w2.heap[k]? := fun k hk ht => hg.block k hk (fun e => by injection e with e; exact ht (e ▸ h.tm))
  have hkp : ∀ k, G.tag k ≠ .no → G.tag k ≠ .map → w3.heap[k]? = w.heap[k]? := fun k h0 h1 => (hkeep k (Nat.lt_of_lt_of_le (h.tagLt h0) hb.size) h1).trans (hb.block k (h.tagLt h0))
  have ht : ∀ k, k < w.heap.size → (if k = b' then Tag.pile s z else if g' = some k then Tag.prow s z else G.tag k) = G.tag k := fun k hk1 => by
    rw [if_neg (by omega), if_neg (fun e => by have := (hp.row k e).1; omega)]
  have ht' : ∀ k, G.tag k ≠ .no → (if k = b' then Tag.pile s z else if g' = some k then Tag.prow s z else G.tag k) = G.tag k := fun k hk => ht k (h.tagLt hk)
  have hsz : Maps.size (D.put (kl s z) (.lit (.int .i64 (b' : Int)))) ≤ 100 := by
    rw [size_put hD]
    have := hd.has s z ws wz
    rw [decide_eq_true (okI_nat.2 ok)] at this
    rw [if_pos this]; exact hs
  refine ⟨{ G with pb := upd G.pb s z b', pg := upd G.pg s z g', tag := fun k => if k = b' then .pile s z else if g' = some k then .prow s z else G.tag k }, ?_, ⟨⟨hg.os.trans hb.os, hg.tape.trans hb.tape, hg.output.trans hb.output, Nat.le_trans hb.size hg.size, fun k hk1 ht1 => ?_⟩, ht⟩⟩
  · refine ⟨(hkp b (by rw [h.tb]; simp) (by rw [h.tb]; simp)).trans h.hd, ?_, ?_, ⟨_, (own_tight hm).mono (by omega), hsz, hd.put hD.isMap h.n4 ok b'⟩, fun s' z' ok' => ?_, ?_, ?_, fun k e => ?_, fun s' z' ok' => ?_, fun s' z' k ok' e => ?_, fun k hk1 => ?_, fun k hk1 => ?_, h.n1, h.n4, h.ok⟩
    · exact h.tab.kept fun k e => ⟨hkp k (by rw [e]; simp) (by rw [e]; simp), by show (if _ then _ else _) = _; rw [ht' k (by rw [e]; simp)]; exact e⟩
    · exact own11_later h.ob fun k e => hkp k (by rw [h.tr k e]; simp) (by rw [h.tr k e]; simp)
    · by_cases e : s' = s ∧ z' = z
      · obtain ⟨rfl, rfl⟩ := e
        show PileAt w3 lo (upd G.pb s' z' b' s' z') (upd G.pg s' z' g' s' z') (upd S.pl s' z' L' s' z')
        rw [upd_same, upd_same, upd_same]
        have hk3 : ∀ k, w.heap.size ≤ k → k < w2.heap.size → w3.heap[k]? = w2.heap[k]? := fun k h1 h2 => hkeep k h2 (by rw [hno k h1]; simp)
        exact (pile_kept hp (hk3 b' hbl hp.lt) fun k e => hk3 k (hp.row k e).1 (hp.row k e).2.1).mono hlo
      · show PileAt w3 lo (upd G.pb s z b' s' z') (upd G.pg s z g' s' z') (upd S.pl s z L' s' z')
        rw [upd_other _ _ e, upd_other _ _ e, upd_other _ _ e]
        exact pile_kept (h.pi s' z' ok') (hkp _ (by rw [h.tp s' z' ok']; simp) (by rw [h.tp s' z' ok']; simp)) fun k e => hkp k (by rw [h.tg s' z' k ok' e]; simp) (by rw [h.tg s' z' k ok' e]; simp)
    · show (if _ then _ else _) = _; rw [ht' b (by rw [h.tb]; simp)]; exact h.tb
    · show (if _ then _ else _) = _; rw [ht' _ (by rw [h.tm]; simp)]; exact h.tm
    · show (if _ then _ else _) = _; rw [ht' _ (by rw [h.tr k e]; simp)]; exact h.tr k e
    · by_cases e : s' = s ∧ z' = z
      · obtain ⟨rfl, rfl⟩ := e
        show (if upd G.pb s' z' b' s' z' = b' then _ else _) = _
        rw [upd_same, if_pos rfl]
      · show (if upd G.pb s z b' s' z' = b' then _ else if g' = some (upd G.pb s z b' s' z') then _ else G.tag (upd G.pb s z b' s' z')) = _
        rw [upd_other _ _ e, ht' _ (by rw [h.tp s' z' ok']; simp)]; exact h.tp s' z' ok'
    · by_cases e2 : s' = s ∧ z' = z
      · obtain ⟨rfl, rfl⟩ := e2
        have e : upd G.pg s' z' g' s' z' = some k := e
        rw [upd_same] at e
        show (if _ then _ else _) = _
        rw [if_neg (hp.row k e).2.2, if_pos e]
      · have e : upd G.pg s z g' s' z' = some k := e
        rw [upd_other _ _ e2] at e
        show (if _ then _ else _) = _
        rw [ht' _ (by rw [h.tg s' z' k ok' e]; simp)]; exact h.tg s' z' k ok' e
    · by_cases e : k = b'
      · omega
      · by_cases e2 : g' = some k
        · have := (hp.row k e2).1; omega
        · have hk1 : (if k = b' then Tag.pile s z else if g' = some k then Tag.prow s z else G.tag k) ≠ .no := hk1
          rw [if_neg e, if_neg e2] at hk1; exact h.low k hk1
    · have hs3 := hg.size
      have hs2 := hb.size
      show (if _ then _ else _) = _
      rw [if_neg (fun e => by have := hp.lt; omega), if_neg (fun e => by have := (hp.row k e).2.1; omega)]
      exact h.high k (by omega)
  · rcases ht1 with e | e
    · by_cases hm' : k = G.mb
      · rw [hm', h.tm] at e; cases e
      · exact (hg.block k (Nat.lt_of_lt_of_le hk1 hb.size) (fun e => hm' (by injection e with e))).trans (hb.block k hk1)
    · exact hkp k (by rw [e]; simp) (by rw [e]; simp)
theorem once_self : ∀ (n : Nat) (l : List Int), l.length = n → l.Nodup → onceL l = l
  | 0, l, hl, _ => by rw [List.eq_nil_of_length_eq_zero hl]; rfl
  | n + 1, l, hl, hn => by
    have hne : l ≠ [] := fun e => by rw [e] at hl; simp at hl
    obtain ⟨m, x, rfl⟩ : ∃ m x, l = m ++ [x] := ⟨_, _, (List.dropLast_concat_getLast hne).symm⟩
    have hn' := List.nodup_append.1 hn
    have hx : x ∉ m := fun hm => hn'.2.2 x hm x (by simp) rfl
    rw [onceL_snoc, once_self n m (by simpa using hl) hn'.1]
    unfold layL
    rw [if_neg hx]
    simp [insL]
set_option maxRecDepth 100000 in
set_option maxHeartbeats 8000000 in
theorem lay_ok {w : World} {lo b : Nat} {G : Ghost} {S : StoreL} {v : Value} {l : List Int} (h : StoreAt w lo b G S) (hlo : lo ≤ w.heap.size) (hS : ShortS S) {s z : Nat} (hs : s < S.seats) (h1 : 1 ≤ z) (h7 : z ≤ 7) (hi : IntsAt w v l) (hl : l.length ≤ 1000) (hn : l.Nodup)
    (hp : sortI l = sortI (S.pl (canN s z) z)) :
    Calls Tryz.prog 16 #[.pointer (some ⟨b, 0, none⟩), .int .i64 s, .int .i64 z, v] w (RetS w lo b G { S with pl := upd S.pl (canN s z) z l } (.int .i64 0)) := by
  have ok := canN_ok hs h1 h7
  have hn4 := h.n4
  have hws : Wf (s : Int) := wf_nat (by omega)
  have hwz : Wf (z : Int) := wf_nat (by omega)
  have HP := pileAt_any h hws hwz
  rw [canN_cast, show ptrOf S.seats G.pb (canN s z : Int) (z : Int) = .pointer (some ⟨G.pb (canN s z) z, 0, none⟩) from if_pos (okI_nat.2 ok)] at HP
  have HPA := Lib.hid HP
  obtain ⟨pb, hpb⟩ : ∃ pb, G.pb (canN s z) z = pb := ⟨_, rfl⟩
  rw [hpb] at HPA
  have HPB := Lib.hid hpb
  obtain ⟨xa, xc, rfl⟩ := hi.form
  have HI := Lib.hid hi
  have HH := Lib.hid h
  have HO := Lib.hid ok
  have HN := Lib.hid hn
  have HSO := Lib.hid hp
  have HSS := Lib.hid (hS.2 _ _ ok)
  have HLO := Lib.hid hlo
  have HKW := Lib.hid (ok.wf hn4)
  obtain ⟨D, ho, hsd, hdd⟩ := h.mp
  have HD := Lib.hid (And.intro hsd (And.intro (ho.tidy place_keyed) hdd))
  have HMO := Lib.hid (own_tight ho)
  clear HP h hpb hi ok hn hp hS hlo hws hwz ho hsd hdd
  go_enter Tryz.func16, Tryz.ntmps16
  go_wp2_with fail
  refine HPA.out.mono ?_
  rintro e w1 ⟨rfl, hb1⟩
  have HB1 := Lib.hid hb1
  clear hb1
  dsimp only
  go_wp2_with fail
  refine (risen_any (HI.out.later HB1.out) hl).mono ?_
  rintro e w2 ⟨u, rfl, hrow2, hb2⟩
  have HB2 := Lib.hid (stepB HB1.out hb2)
  have HU := Lib.hid (own_ints hrow2)
  clear hrow2 hb2
  have HPI := HH.out.later HB2.out |>.pi _ _ HO.out
  rw [HPB.out] at HPI
  have HLI := Lib.hid (list_any HPI HSS.out)
  clear HPI
  dsimp only
  go_wp2_with fail
  refine HLI.out.mono ?_
  rintro e w3 ⟨u3, rfl, hrow3, hb3⟩
  have HB3 := Lib.hid (stepB HB2.out hb3)
  have HU3 := Lib.hid (HU.out.later hb3)
  have HRI := Lib.hid (risen_any (own_ints hrow3) HSS.out)
  clear hrow3 hb3
  dsimp only
  go_wp2_with fail
  refine HRI.out.mono ?_
  rintro e w4 ⟨u4, rfl, hrow4, hb4⟩
  have HB4 := Lib.hid (stepB HB3.out hb4)
  have HEQ := equal_ints (HU3.out.later hb4) (own_ints hrow4) (by rw [sortI_len]; exact hl) (by rw [sortI_len]; exact HSS.out)
  rw [HSO.out, decide_eq_true rfl] at HEQ
  have HE := Lib.hid HEQ
  clear HEQ hrow4 hb4
  dsimp only
  go_wp2_with fail
  refine HE.out.mono ?_
  rintro e w5 ⟨rfl, nd, rfl⟩
  have HB5 := Lib.hid (below_drewN HB4.out nd)
  obtain ⟨w6, hw6⟩ : ∃ w6, w4.drewN nd = w6 := ⟨_, rfl⟩
  rw [hw6] at HB5 ⊢
  have H6 := Lib.hid (HH.out.later HB5.out)
  have c3 : w6.cell? ⟨b, 3, none⟩ = some (.map (some G.mb)) := by rw [cell_of_row w6 b 3 _ _ _ H6.out.hd]; rfl
  have HPL := Lib.hid (fun w' => placeOf_any (s : Int) (z : Int) w')
  rw [canN_cast] at HPL
  unfold kv at HPL
  have HNW : Hid (∀ w', Below w6.heap.size w6 w' → Calls Tryz.prog 45 #[.slice xa l.length xc] w' (RetNew w' l)) := Lib.hid fun w' hb => by
    have h := new_any ((HI.out.later HB5.out).later hb) hl
    rw [once_self _ l rfl HN.out] at h
    exact h
  have hkey := place_key HKW.out.1 HKW.out.2
  have HUPD : Hid (∀ w' b', Below w6.heap.size w6 w' → ∃ w'', (Instr.mapUpdate 59 (.map (some G.mb)) (.agg #[.int .i64 (canN s z : Int), .int .i64 (z : Int)]) (.pointer (some ⟨b', 0, none⟩))).run Tryz.prog w' = .ok () w'' ∧
      w''.ownsMap Tryz.prog 64 ptrElem G.mb (Maps.size D + 1) (D.put (kl (canN s z : Int) (z : Int)) (.lit (.int .i64 (b' : Int)))) ∧ w'.grownBy w'' (some G.mb)) := Lib.hid fun w' b' hb => by
    have hm : w'.ownsMap Tryz.prog 64 ptrElem G.mb (Maps.size D) D := by
      obtain ⟨es, clock, he, r⟩ := HMO.out
      have hlt := (Array.getElem?_eq_some_iff.1 he).1
      exact ⟨es, clock, (hb.block G.mb (Nat.lt_of_lt_of_le hlt HB5.out.size)).trans ((HB5.out.block G.mb hlt).trans he), r⟩
    exact hm.update place_keyed Tryz.underlying59 (by have := HD.out.1; unfold maxLen; omega) hkey (ptrElem_ptr b')
  clear hkey hw6
  dsimp only
  go_wp2
  go_region_law ((first
    | (go_simp; go_at_call 46; refine (HPL.out _).mono ?_; rintro e w7 ⟨rfl, hb7⟩; have hb7' := stepB (below_drewN (Below.refl w6.heap.size w6) _) hb7; have c37 := cell_stays hb7' c3; dsimp only)
    | (go_simp; go_at_call 46; refine (HPL.out _).mono ?_; rintro e w7 ⟨rfl, hb7⟩; have hb7' := stepB hb8' hb7; have c37 := cell_stays hb7' c3; have hq := PileAt.later hp8 hb7; obtain ⟨w9, hrun, hown9, hgrow9⟩ := HUPD.out _ b' hb7'; have HBX := Lib.hid hb7'; dsimp only)
    | (go_simp; go_at_call 45; refine (HNW.out _ hb7').mono ?_; rintro e w8 ⟨b', g', rfl, hp8, hb8⟩; have hb8' := stepB hb7' hb8; have c38 := cell_stays hb8' c3; have hq : PileAt w8 w6.heap.size b' g' l := PileAt.mono hp8 hb7'.size; obtain ⟨w9, hrun, hown9, hgrow9⟩ := HUPD.out _ b' hb8'; have HBX := Lib.hid hb8'; dsimp only)
    | (go_simp; go_at_call 45; refine (HNW.out _ (below_drewN (Below.refl _ _) _)).mono ?_; rintro e w8 ⟨b', g', rfl, hp8, hb8⟩; have hb8' := stepB (below_drewN (Below.refl w6.heap.size w6) _) hb8; have c38 := cell_stays hb8' c3; dsimp only)
    | (fail "arm")))
  all_goals
    obtain ⟨G', hA, hT⟩ := H6.out.layAt HO.out (Nat.le_trans HLO.out HB5.out.size) HBX.out hq hgrow9 HD.out.1 HD.out.2.1 HD.out.2.2 (hown9.mono (by have := HD.out.1; omega))
    have HA := Lib.hid hA
    have HT := Lib.hid hT
    clear hA hT hq hgrow9 hown9
    go_wp2
    go_ret
    exact ⟨rfl, G', HA.out, (Turned.of_below HB5.out).trans HT.out⟩
end Go.Proofs.YtkhgdfalbmkgcaaGreat

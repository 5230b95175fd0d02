/- Two stores that have the same are one (layer 6): maps of piles, stores. -/
import Derived.Test.YtbbbkpadadeolaaJw
import Derived.Test.YtbbbkpadadeolaaJu
namespace Go.Proofs.Ytbbbkpadadeolaa
open Go.RowKit Go.Maps

/-- What the range over the first map holds. -/
structure EqI (w wr : World) (S : StoreL) (D : DataW Unit) (left : Lit → Bool) : Prop where
  sub : ∀ x, left x = true → Maps.has D x = true
  bel : Below w.heap.size w wr
  size : w.heap.size + 1 ≤ wr.heap.size
theorem map_kept {w w' : World} {mb n : Nat} {D : DataW Unit} (ho : w.ownsMap Try.prog 82 ptrElem mb n D) (hk : w'.heap[mb]? = w.heap[mb]?) : w'.ownsMap Try.prog 82 ptrElem mb n D := by
  obtain ⟨es, clock, he, q⟩ := ho
  exact ⟨es, clock, hk.trans he, q⟩
theorem map_lt {w : World} {mb n : Nat} {D : DataW Unit} (ho : w.ownsMap Try.prog 82 ptrElem mb n D) : mb < w.heap.size := by
  obtain ⟨es, clock, he, q⟩ := ho
  exact (Array.getElem?_eq_some_iff.1 he).1
set_option maxRecDepth 100000 in
/-- The look-up with ok. -/
theorem look_ok2 {w : World} {mb n q : Nat} {D : DataW Unit} {pb : Nat → Nat → Nat} (ho : w.ownsMap Try.prog 82 ptrElem mb n D) (hd : MapD D q pb) (hq : q ≤ 4) {s z : Nat} (ok : okK q s z) :
    (Instr.lookup 68 (.map (some mb)) (.agg #[.int .i64 s, .int .i64 z]) true).run Try.prog w = .ok (.tuple #[.pointer (some ⟨pb s z, 0, none⟩), .bool true]) w := by
  obtain ⟨ws, wz⟩ := ok.wf hq
  obtain ⟨v, ps, hrun, hv⟩ := ho.look_ok place_keyed Try.underlying68 (zero_ptr w) ptrElem_nil (place_key ws wz)
  rw [hd.val s z ok] at hv
  rw [hd.has _ _ ws wz, decide_eq_true (okI_nat.2 ok)] at hrun
  rcases ptrElem_inv hv with ⟨_, h⟩ | ⟨b, rfl, h⟩
  · omega
  · rw [show pb s z = b by omega]; exact hrun
set_option maxRecDepth 100000 in
set_option maxHeartbeats 8000000 in
theorem mapEq_true {w : World} {lo b lo' b' : Nat} {G G' : Ghost} {S : StoreL} (h : StoreAt w lo b G S) (h' : StoreAt w lo' b' G' S) (hS : ShortS S) :
    Calls Try.prog 48 #[.map (some G.mb), .map (some G'.mb), .func (.func 49) #[] #[]] w (RetV w (.bool true)) := by
  obtain ⟨D, ho, hsd, hdd⟩ := h.mp
  obtain ⟨D', ho', hsd', hdd'⟩ := h'.mp
  have hl1 := ho.len Try.underlying68 3
  have hl2 := ho'.len Try.underlying68 3
  rw [← size_same ho ho' hdd hdd' h.n4] at hl2
  obtain ⟨q, hq⟩ : ∃ q, Maps.size D = q := ⟨_, rfl⟩
  rw [hq] at hl1 hl2
  have d : ((q : Int) != (q : Int)) = false := bne_self_eq_false _
  have HH := Lib.hid h
  have HH' := Lib.hid h'
  have HSS := Lib.hid hS
  have HD := Lib.hid hdd
  have HD' := Lib.hid hdd'
  have HO := Lib.hid ho
  have HO' := Lib.hid ho'
  have HMB := Lib.hid (And.intro (map_lt ho) (map_lt ho'))
  clear h h' hS ho ho' hsd hsd' hdd hdd' hq
  go_enter Try.func48, Try.ntmps48
  go_wp2_with (at_range; refine wpList_range_own _ rfl _ 68 rfl 82 74 place_keyed Try.underlying68 ptrElem G.mb 1000 D rfl HO.out ?_; intro w4 hrg4 hg4 hs4)
  have HI4 : Hid (EqI w w4 S D (Maps.has D)) := Lib.hid ⟨fun x hx => hx, ⟨hg4.os, hg4.tape, hg4.output, hg4.size, fun k hk => hg4.block k hk (by simp)⟩, by rw [hs4]; exact Nat.le_refl _⟩
  clear hg4 hs4 hl1 hl2 d
  have HRG := Lib.hid hrg4
  clear hrg4
  go_frame
  go_loopw [8] (fun _ wr => ∃ (left : Lit → Bool) (cnt : Nat), wr.ranges Try.prog 82 ptrElem G.mb w.heap.size 1000 D left cnt ∧ Hid (EqI w wr S D left)) (fun _ wr => wr.rangeLeft G.mb w.heap.size)
  case atStart => exact ⟨_, _, HRG.out, HI4⟩
  case round =>
    obtain ⟨left, cnt, hrg, HEI⟩ := hrel
    go_wp2_with (at_next; refine wpList_next_places _ rfl _ rfl G.mb w.heap.size 1000 S.seats HH.out.n4 D G.pb HD.out left cnt HEI.out.sub rfl hrg ?_ ?_)
    · intro _ _
      go_wp2
      go_ret
      exact ⟨rfl, HEI.out.bel⟩
    · intro s z w5 cnt5 ok hls hrg5 hlt5 hg5 hs5 hen
      have HRG5 := Lib.hid hrg5
      have HRG0 := Lib.hid hrg
      have HLT := Lib.hid hlt5
      have HB5 := Lib.hid (show Below w.heap.size w w5 from HEI.out.bel.grown hg5 HEI.out.bel.size (fun k e => by injection e with e; omega))
      have HS5 := Lib.hid (show w.heap.size + 1 ≤ w5.heap.size by have := HEI.out.size; omega)
      have hlook := look_ok2 (map_kept HO'.out ((stepB HB5.out (below_new w5 (.cells #[.int .i64 s, .int .i64 z] 82))).block _ HMB.out.2)) HD'.out HH.out.n4 ok
      have hbx := stepB HB5.out (below_new w5 (.cells #[.int .i64 s, .int .i64 z] 82))
      have HSP := Lib.hid (samePile_true ((HH.out.later hbx).pi s z ok) ((HH'.out.later hbx).pi s z ok) (HSS.out.2 s z ok))
      have kp : ∀ j, (w5.alloc (.cells #[.int .i64 s, .int .i64 z] 82)).cell? ⟨w5.heap.size, j, none⟩ = (#[.int .i64 s, .int .i64 z] : Array Value)[j]? := fun j => cell_of_row _ _ j _ _ _ (heap_alloc_new w5 _)
      have kp0 : (w5.alloc (.cells #[.int .i64 s, .int .i64 z] 82)).cell? ⟨w5.heap.size, 0, none⟩ = some (.int .i64 s) := kp 0
      have kp1 : (w5.alloc (.cells #[.int .i64 s, .int .i64 z] 82)).cell? ⟨w5.heap.size, 1, none⟩ = some (.int .i64 z) := kp 1
      clear hls hrg5 hlt5 hg5 hs5 hrg kp hbx ok
      go_wp2_with fail
      refine HSP.out.mono ?_
      rintro e w7 ⟨rfl, hb7⟩
      have hb57 := stepB (below_new w5 (.cells #[.int .i64 s, .int .i64 z] 82)) hb7
      have HRG7 := Lib.hid (HRG5.out.kept (grown_row hb57 none) (by intro e; cases e) (by intro e; cases e))
      have HEI7 : Hid (EqI w w7 S D (fun x => left x && !x.sameKey (kl s z))) := Lib.hid ⟨fun x hx => HEI.out.sub x (by rw [Bool.and_eq_true] at hx; exact hx.1), stepB HB5.out hb57, by have := HS5.out; have := hb57.size; omega⟩
      clear hb7 hb57 HSP hlook kp0 kp1
      dsimp only
      go_wp2
      go_roundw
      case rel => exact ⟨_, _, HRG7.out, HEI7⟩
      case measure => rw [HRG7.out.left_eq, HRG0.out.left_eq]; exact HLT.out
theorem keep9 {w w1 w2 : World} {b c : Nat} {v0 v1 v2 v3 u0 u1 u2 u3 : Value} (hb : Below w1.heap.size w1 w2)
    (h : Below w.heap.size w w1 ∧ w1.cell? ⟨b, 0, none⟩ = some v0 ∧ w1.cell? ⟨b, 1, none⟩ = some v1 ∧ w1.cell? ⟨b, 2, none⟩ = some v2 ∧ w1.cell? ⟨b, 3, none⟩ = some v3 ∧ w1.cell? ⟨c, 0, none⟩ = some u0 ∧ w1.cell? ⟨c, 1, none⟩ = some u1 ∧ w1.cell? ⟨c, 2, none⟩ = some u2 ∧ w1.cell? ⟨c, 3, none⟩ = some u3) :
    Below w.heap.size w w2 ∧ w2.cell? ⟨b, 0, none⟩ = some v0 ∧ w2.cell? ⟨b, 1, none⟩ = some v1 ∧ w2.cell? ⟨b, 2, none⟩ = some v2 ∧ w2.cell? ⟨b, 3, none⟩ = some v3 ∧ w2.cell? ⟨c, 0, none⟩ = some u0 ∧ w2.cell? ⟨c, 1, none⟩ = some u1 ∧ w2.cell? ⟨c, 2, none⟩ = some u2 ∧ w2.cell? ⟨c, 3, none⟩ = some u3 :=
  ⟨stepB h.1 hb, cell_stays hb h.2.1, cell_stays hb h.2.2.1, cell_stays hb h.2.2.2.1, cell_stays hb h.2.2.2.2.1, cell_stays hb h.2.2.2.2.2.1, cell_stays hb h.2.2.2.2.2.2.1, cell_stays hb h.2.2.2.2.2.2.2.1, cell_stays hb h.2.2.2.2.2.2.2.2⟩
set_option maxRecDepth 100000 in
set_option maxHeartbeats 8000000 in
theorem same_true {w : World} {lo b lo' b' : Nat} {G G' : Ghost} {S : StoreL} (h : StoreAt w lo b G S) (h' : StoreAt w lo' b' G' S) (hS : ShortS S) :
    Calls Try.prog 24 #[.pointer (some ⟨b, 0, none⟩), .pointer (some ⟨b', 0, none⟩)] w (RetV w (.bool true)) := by
  have htab := h.tab.is
  have htab' := h'.tab.is
  have hob := h.ob
  have hob' := h'.ob
  obtain ⟨ta, tc, htv⟩ := htab.form
  obtain ⟨xa, xc, hov⟩ := own_form hob
  obtain ⟨ta', tc', htv'⟩ := htab'.form
  obtain ⟨xa', xc', hov'⟩ := own_form hob'
  have hc := fun j => cell_of_row w b j _ _ _ h.hd
  have hc' := fun j => cell_of_row w b' j _ _ _ h'.hd
  rw [htv, hov] at hc
  rw [htv', hov'] at hc'
  have HI : Hid (Below w.heap.size w w ∧ w.cell? ⟨b, 0, none⟩ = some (.slice ta S.T.length tc) ∧ w.cell? ⟨b, 1, none⟩ = some (.int .i64 S.seats) ∧ w.cell? ⟨b, 2, none⟩ = some (.slice xa S.objs.length xc) ∧ w.cell? ⟨b, 3, none⟩ = some (.map (some G.mb)) ∧ w.cell? ⟨b', 0, none⟩ = some (.slice ta' S.T.length tc') ∧ w.cell? ⟨b', 1, none⟩ = some (.int .i64 S.seats) ∧ w.cell? ⟨b', 2, none⟩ = some (.slice xa' S.objs.length xc') ∧ w.cell? ⟨b', 3, none⟩ = some (.map (some G'.mb))) := Lib.hid ⟨Below.refl _ _, hc 0, hc 1, hc 2, hc 3, hc' 0, hc' 1, hc' 2, hc' 3⟩
  rw [htv] at htab
  rw [hov] at hob
  rw [htv'] at htab'
  rw [hov'] at hob'
  have HEO : Hid (∀ w', Below w.heap.size w w' → Calls Try.prog 47 #[.slice xa S.objs.length xc, .slice xa' S.objs.length xc'] w' (RetV w' (.bool true))) := Lib.hid fun w' hb => by
    refine (equal_objs (own11_later hob fun k e => hb.block k (World.ownsRow.lt hob k e).2) (own11_later hob' fun k e => hb.block k (World.ownsRow.lt hob' k e).2) hS.1).mono ?_
    rintro e w2 ⟨rfl, n, rfl⟩
    exact ⟨by rw [decide_eq_true rfl], below_drewN (Below.refl _ _) n⟩
  have HEC : Hid (∀ w', Below w.heap.size w w' → Calls Try.prog 50 #[.slice ta S.T.length tc, .slice ta' S.T.length tc', .func (.func 51) #[] #[]] w' (RetV w' (.bool true))) := Lib.hid fun w' hb =>
    eqCards_true (htab.later hb) (htab'.later hb) (table_short h.ok) (may_terms h.ok)
  have HEM : Hid (∀ w', Below w.heap.size w w' → Calls Try.prog 48 #[.map (some G.mb), .map (some G'.mb), .func (.func 49) #[] #[]] w' (RetV w' (.bool true))) := Lib.hid fun w' hb =>
    mapEq_true (h.later hb) (h'.later hb) hS
  obtain ⟨m1, hm1⟩ : ∃ m1, G.mb = m1 := ⟨_, rfl⟩
  obtain ⟨m2, hm2⟩ : ∃ m2, G'.mb = m2 := ⟨_, rfl⟩
  obtain ⟨T, hT⟩ : ∃ T, S.T = T := ⟨_, rfl⟩
  obtain ⟨O, hO⟩ : ∃ O, S.objs = O := ⟨_, rfl⟩
  obtain ⟨n, hn⟩ : ∃ n, S.seats = n := ⟨_, rfl⟩
  rw [hm1, hm2, hT, hO, hn] at HI
  rw [hO] at HEO
  rw [hT] at HEC
  rw [hm1, hm2] at HEM
  have d : ((n : Int) == (n : Int)) = true := beq_self_eq_true _
  clear h h' hS htab htab' hob hob' htv htv' hov hov' hc hc' hm1 hm2 hT hO hn
  go_enter Try.func24, Try.ntmps24
  go_wp2
  go_region_held3 (fun w' => Below w.heap.size w w' ∧ w'.cell? ⟨b, 0, none⟩ = some (.slice ta T.length tc) ∧ w'.cell? ⟨b, 1, none⟩ = some (.int .i64 n) ∧ w'.cell? ⟨b, 2, none⟩ = some (.slice xa O.length xc) ∧ w'.cell? ⟨b, 3, none⟩ = some (.map (some m1)) ∧ w'.cell? ⟨b', 0, none⟩ = some (.slice ta' T.length tc') ∧ w'.cell? ⟨b', 1, none⟩ = some (.int .i64 n) ∧ w'.cell? ⟨b', 2, none⟩ = some (.slice xa' O.length xc') ∧ w'.cell? ⟨b', 3, none⟩ = some (.map (some m2)))
    (first | assumption | (with_reducible exact HI.out) | exact keep9 ((Below.refl _ _).drew) HI.out | exact keep9 (by assumption) (by assumption))
    (first
      | (go_at_call 47; refine (HEO.out _ (And.left (by assumption))).mono ?_; rintro e w2 ⟨rfl, hb2⟩)
      | (go_at_call 48; refine (HEM.out _ (And.left (by assumption))).mono ?_; rintro e w2 ⟨rfl, hb2⟩)
      | (go_at_call 50; refine (HEC.out _ (And.left (by assumption))).mono ?_; rintro e w2 ⟨rfl, hb2⟩))
  have hB : Below w.heap.size w w2 := And.left (by assumption)
  go_wp2
  go_ret
  exact ⟨rfl, hB⟩
end Go.Proofs.Ytbbbkpadadeolaa

/- Two stores that have the same are one (layer 6): slices.Equal of objects, cards, piles; Same. Two stores that have the same are one (layer 6): cards, piles, maps of piles. -/
import Derived.Test.YtbbbkpadadeolaaJu
import Derived.Deep.RegionHeld3
import Derived.Test.YtbbbkpadadeolaaHm
namespace Go.Proofs.Ytbbbkpadadeolaa
open Go.RowKit Go.Maps

set_option maxHeartbeats 4000000 in
theorem eqObj (n : Nat) (a0 c0 a1 c1 a2 c2 a3 c3 a6 c6 a7 c7 a8 c8 a9 c9 : Int) (a4 c4 a5 c5 a10 c10 : Bool) (w : World) : (Op.equalIn (n + 2) 36 (.agg #[.int .i64 a0, .int .i64 a1, .int .i64 a2, .int .i64 a3, .bool a4, .bool a5, .int .i64 a6, .int .i64 a7, .int .i64 a8, .int .i64 a9, .bool a10]) (.agg #[.int .i64 c0, .int .i64 c1, .int .i64 c2, .int .i64 c3, .bool c4, .bool c5, .int .i64 c6, .int .i64 c7, .int .i64 c8, .int .i64 c9, .bool c10])).run Try.prog w = .ok (a0 == c0 && (a1 == c1 && (a2 == c2 && (a3 == c3 && (a4 == c4 && (a5 == c5 && (a6 == c6 && (a7 == c7 && (a8 == c8 && (a9 == c9 && (a10 == c10))))))))))) w := by
  have uI := Try.underlying3
  have gI := Try.isAgg3
  have zI := Try.sizeOf3
  have uB := Try.underlying4
  have gB := Try.isAgg4
  have zB := Try.sizeOf4
  have hS : Try.prog.underlying 36 = some (.struct (Try.prog.fieldsOf 36)) := by kernel_rfl
  rw [run_equalIn_agg w (n + 1) 36 _ _ hS (by kernel_rfl)]
  simp only [Program.fieldsOf, Try.underlying36]
  go_simp
  by_cases h0 : a0 = c0
  · subst h0
    by_cases h1 : a1 = c1
    · subst h1
      by_cases h2 : a2 = c2
      · subst h2
        by_cases h3 : a3 = c3
        · subst h3
          by_cases h4 : a4 = c4
          · subst h4
            by_cases h5 : a5 = c5
            · subst h5
              by_cases h6 : a6 = c6
              · subst h6
                by_cases h7 : a7 = c7
                · subst h7
                  by_cases h8 : a8 = c8
                  · subst h8
                    by_cases h9 : a9 = c9
                    · subst h9
                      by_cases h10 : a10 = c10
                      · subst h10
                        simp
                      · simp [h10]
                    · simp [h9]
                  · simp [h8]
                · simp [h7]
              · simp [h6]
            · simp [h5]
          · simp [h4]
        · simp [h3]
      · simp [h2]
    · simp [h1]
  · simp [h0]
theorem neqObj (a0 c0 a1 c1 a2 c2 a3 c3 a6 c6 a7 c7 a8 c8 a9 c9 : Int) (a4 c4 a5 c5 a10 c10 : Bool) (w : World) : (binOp .neq 36 (.agg #[.int .i64 a0, .int .i64 a1, .int .i64 a2, .int .i64 a3, .bool a4, .bool a5, .int .i64 a6, .int .i64 a7, .int .i64 a8, .int .i64 a9, .bool a10]) (.agg #[.int .i64 c0, .int .i64 c1, .int .i64 c2, .int .i64 c3, .bool c4, .bool c5, .int .i64 c6, .int .i64 c7, .int .i64 c8, .int .i64 c9, .bool c10])).run Try.prog w = .ok (.bool (!(a0 == c0 && (a1 == c1 && (a2 == c2 && (a3 == c3 && (a4 == c4 && (a5 == c5 && (a6 == c6 && (a7 == c7 && (a8 == c8 && (a9 == c9 && (a10 == c10))))))))))))) w := by
  rw [run_neq_struct, eqObj 9998]
  rfl
theorem neqgO (x y : Operand) (xs ys : Array Value) (W : World) : (eqGuard .neq 36 x y (.agg xs) (.agg ys)).run Try.prog W = .ok () W := run_eqGuard_agg W .neq 36 x y xs ys (by kernel_rfl)
def eqO (x y : ObjL) : Bool := x.id == y.id && (x.card == y.card && (x.owner == y.owner && (x.zone == y.zone && (x.tapped == y.tapped && (x.sick == y.sick && (x.hurt == y.hurt && (x.count == y.count && (x.boost == y.boost && (x.block == y.block && (x.attacks == y.attacks))))))))))
theorem eqO_iff (x y : ObjL) : eqO x y = true ↔ x = y := by
  unfold eqO
  obtain ⟨x0, x1, x2, x3, x4, x5, x6, x7, x8, x9, x10⟩ := x
  obtain ⟨y0, y1, y2, y3, y4, y5, y6, y7, y8, y9, y10⟩ := y
  simp only [Bool.and_eq_true, beq_iff_eq, ObjL.mk.injEq]
instance : DecidableEq ObjL := fun x y => decidable_of_iff (eqO x y = true) (eqO_iff x y)
set_option maxRecDepth 100000 in
set_option maxHeartbeats 4000000 in
theorem equal_objs {lo lo' : Nat} {v u : Value} {l r : List ObjL} {w : World} (hl : w.ownsRow lo 36 11 v l.length (objsV l)) (hr : w.ownsRow lo' 36 11 u r.length (objsV r)) (hn : l.length ≤ 1000) :
    Calls Try.prog 47 #[v, u] w fun e w' => e = .returned (.bool (decide (l = r))) ∧ ∃ n, w' = w.drewN n := by
  obtain ⟨xa, xc, rfl⟩ := own_form hl
  obtain ⟨ya, yc, rfl⟩ := own_form hr
  have HL := Lib.hid hl
  have HR := Lib.hid hr
  clear hl hr
  by_cases hne : l.length ≠ r.length
  · have d : ((l.length : Int) != r.length) = true := bne_iff_ne.2 (by omega)
    have HS := Lib.hid (show decide (l = r) = false from decide_eq_false (fun e => hne (by rw [e])))
    clear hne
    go_enter Try.func47, Try.ntmps47
    go_wp2
    go_ret
    exact ⟨ret_bool HS.out.symm, 0, rfl⟩
  have heq : l.length = r.length := Classical.not_not.1 hne
  have d : ((l.length : Int) != r.length) = false := by rw [heq]; exact bne_self_eq_false _
  have HQ := Lib.hid heq
  clear hne heq
  have h2 := @neqgO
  go_enter Try.func47, Try.ntmps47
  go_wp2
  go_loopw [13] (fun i wr => ∃ k n : Nat, k ≤ l.length ∧ i = .int .i64 k ∧ wr = w.drewN n ∧ Hid (l.take k = r.take k)) (fun i _ => l.length - (intOf i).toNat)
  case atStart => exact ⟨0, 0, Nat.zero_le _, rfl, rfl, Lib.hid rfl⟩
  case round =>
    obtain ⟨k, n, hk, rfl, rfl, HK⟩ := hrel
    by_cases hlt : k < l.length
    · have hlt2 : k < r.length := by have := HQ.out; omega
      obtain ⟨g, cap, hgv, ⟨o0, o1, o2, o3, o4, o5, o6, o7, o8, o9, o10⟩, _⟩ := own_obj HL.out k hlt
      obtain ⟨g', cap', hgv', ⟨p0, p1, p2, p3, p4, p5, p6, p7, p8, p9, p10⟩, _⟩ := own_obj HR.out k hlt2
      injection hgv with hxa _ hxc
      injection hgv' with hya _ hyc
      subst hxa hxc hya hyc
      have HT1 := Lib.hid (take_last l k hlt)
      have HT2 := Lib.hid (take_last r k hlt2)
      have HIX := Lib.hid (show l = r → l[k] = r[k] from fun e => by subst e; rfl)
      obtain ⟨x, hx⟩ : ∃ x, l[k] = x := ⟨_, rfl⟩
      obtain ⟨y, hy⟩ : ∃ y, r[k] = y := ⟨_, rfl⟩
      rw [hx] at o0 o1 o2 o3 o4 o5 o6 o7 o8 o9 o10 HT1 HIX
      rw [hy] at p0 p1 p2 p3 p4 p5 p6 p7 p8 p9 p10 HT2 HIX
      obtain ⟨E, hE⟩ : ∃ E, eqO x y = E := ⟨_, rfl⟩
      have h3 := fun W => neqObj x.id y.id x.card y.card x.owner y.owner x.zone y.zone x.hurt y.hurt x.count y.count x.boost y.boost x.block y.block x.tapped y.tapped x.sick y.sick x.attacks y.attacks W
      have hE' := hE
      unfold eqO at hE'
      rw [hE'] at h3
      have d0 : (0 : Int) ≤ k := by omega
      have d1 : (k : Int) < l.length := by omega
      have d2 : (k : Int) < r.length := by omega
      clear hE' hx hy
      cases E
      · have HS := Lib.hid (show decide (l = r) = false from decide_eq_false (fun e => by
          have h4 := HIX.out e
          rw [(eqO_iff x y).2 h4] at hE
          cases hE))
        clear hE
        go_wp2
        go_quiet (fail)
        go_wp2
        go_ret
        exact ⟨ret_bool HS.out.symm, _, World.drewN_drewN _ _ _⟩
      · have HT : Hid (l.take (k + 1) = r.take (k + 1)) := Lib.hid (by
          rw [HT1.out, HT2.out, HK.out, (eqO_iff x y).1 hE])
        clear hE
        go_wp2
        go_quiet (fail)
        go_wp2
        go_roundw
        case rel => exact ⟨k + 1, _, by omega, by go_num, rfl, HT⟩
        case measure => simp [intOf]; omega
    · obtain rfl : k = l.length := by omega
      have HS := Lib.hid (show decide (l = r) = true from decide_eq_true (by
        have h1 := HK.out
        rw [List.take_length, HQ.out, List.take_length] at h1
        exact h1))
      go_wp2
      go_ret
      exact ⟨ret_bool HS.out.symm, _, rfl⟩
end Go.Proofs.Ytbbbkpadadeolaa
namespace Go.Proofs.Ytbbbkpadadeolaa
open Go.RowKit Go.Maps

set_option maxRecDepth 100000 in
set_option maxHeartbeats 4000000 in
theorem eqCards_true {w : World} {v u : Value} {T : List Crd.CardL} (hv : Crd.CardsAt w v T) (hu : Crd.CardsAt w u T) (hT : T.length ≤ 60) (hs : ∀ k (h : k < T.length), T[k].terms.length ≤ 30) :
    Calls Try.prog 50 #[v, u, .func (.func 51) #[] #[]] w (RetV w (.bool true)) := by
  obtain ⟨xa, xc, rfl⟩ := hv.form
  obtain ⟨ya, yc, rfl⟩ := hu.form
  have HV := Lib.hid hv
  have HU := Lib.hid hu
  have HS := Lib.hid hs
  have d : ((T.length : Int) != T.length) = false := bne_self_eq_false _
  clear hv hu hs
  go_enter Try.func50, Try.ntmps50
  go_wp2
  go_loopw [17] (fun i wr => ∃ k : Nat, k ≤ T.length ∧ i = .int .i64 k ∧ Hid (Below w.heap.size w wr)) (fun i _ => T.length - (intOf i).toNat)
  case atStart => exact ⟨0, Nat.zero_le _, rfl, Lib.hid (Below.refl _ _)⟩
  case round =>
    obtain ⟨k, hk, rfl, HB⟩ := hrel
    by_cases hlt : k < T.length
    · obtain ⟨b1, o1, hx1, ⟨pa, pc, t0, t1, t2, t3, t4, t5, t6, tt⟩⟩ := (HV.out.later HB.out).at k hlt
      obtain ⟨b2, o2, hx2, ⟨qa, qc, s0, s1, s2, s3, s4, s5, s6, st⟩⟩ := (HU.out.later HB.out).at k hlt
      have hc := HS.out k hlt
      obtain ⟨c, hcc⟩ : ∃ c, T[k] = c := ⟨_, rfl⟩
      rw [hcc] at t0 t1 t2 t3 t4 t5 t6 tt s0 s1 s2 s3 s4 s5 s6 st hc
      subst hx1 hx2
      have d0 : (0 : Int) ≤ k := by omega
      have d1 : (k : Int) < T.length := by omega
      have HSA : Hid (∀ w', Below wr.heap.size wr w' → Calls Try.prog 51 #[.agg #[.int .i64 c.kind, .int .i64 c.cost, .int .i64 c.power, .int .i64 c.tough, .int .i64 c.keys, .int .i64 c.whn, .slice pa c.terms.length pc], .agg #[.int .i64 c.kind, .int .i64 c.cost, .int .i64 c.power, .int .i64 c.tough, .int .i64 c.keys, .int .i64 c.whn, .slice qa c.terms.length qc]] w' (RetV w' (.bool true))) := Lib.hid fun w' hb => by
        have h := Crd.same_any (a := c) (b := c) (v := Crd.cagg c (.slice pa c.terms.length pc)) (u := Crd.cagg c (.slice qa c.terms.length qc)) (w := w') ⟨_, _, _, rfl, tt.later hb⟩ ⟨_, _, _, rfl, st.later hb⟩ (by omega)
        rw [(Crd.sameB_iff c c).2 rfl] at h
        exact h
      have s0' := cell_stays (below_new wr (.cells #[.int .i64 c.kind, .int .i64 c.cost, .int .i64 c.power, .int .i64 c.tough, .int .i64 c.keys, .int .i64 c.whn, .slice pa c.terms.length pc] 34)) s0
      have s1' := cell_stays (below_new wr (.cells #[.int .i64 c.kind, .int .i64 c.cost, .int .i64 c.power, .int .i64 c.tough, .int .i64 c.keys, .int .i64 c.whn, .slice pa c.terms.length pc] 34)) s1
      have s2' := cell_stays (below_new wr (.cells #[.int .i64 c.kind, .int .i64 c.cost, .int .i64 c.power, .int .i64 c.tough, .int .i64 c.keys, .int .i64 c.whn, .slice pa c.terms.length pc] 34)) s2
      have s3' := cell_stays (below_new wr (.cells #[.int .i64 c.kind, .int .i64 c.cost, .int .i64 c.power, .int .i64 c.tough, .int .i64 c.keys, .int .i64 c.whn, .slice pa c.terms.length pc] 34)) s3
      have s4' := cell_stays (below_new wr (.cells #[.int .i64 c.kind, .int .i64 c.cost, .int .i64 c.power, .int .i64 c.tough, .int .i64 c.keys, .int .i64 c.whn, .slice pa c.terms.length pc] 34)) s4
      have s5' := cell_stays (below_new wr (.cells #[.int .i64 c.kind, .int .i64 c.cost, .int .i64 c.power, .int .i64 c.tough, .int .i64 c.keys, .int .i64 c.whn, .slice pa c.terms.length pc] 34)) s5
      have s6' := cell_stays (below_new wr (.cells #[.int .i64 c.kind, .int .i64 c.cost, .int .i64 c.power, .int .i64 c.tough, .int .i64 c.keys, .int .i64 c.whn, .slice pa c.terms.length pc] 34)) s6
      clear tt st hcc s0 s1 s2 s3 s4 s5 s6
      go_wp2_with fail
      refine (HSA.out _ (below_alloc2 (below_new wr _) _)).mono ?_
      rintro e w5 ⟨rfl, hb5⟩
      have HB5 := Lib.hid (stepB (below_alloc2 (below_alloc2 HB.out _) _) hb5)
      clear hb5 HSA t0 t1 t2 t3 t4 t5 t6 s0' s1' s2' s3' s4' s5' s6'
      dsimp only
      go_wp2
      go_roundw
      case rel => exact ⟨k + 1, by omega, by go_num, HB5⟩
      case measure => simp [intOf]; omega
    · obtain rfl : k = T.length := by omega
      go_wp2
      go_ret
      exact ⟨rfl, HB.out⟩
set_option maxRecDepth 100000 in
theorem samePile_true {w : World} {lo lo' b b' : Nat} {g g' : Option Nat} {L : List Int} (h : PileAt w lo b g L) (h' : PileAt w lo' b' g' L) (hL : L.length ≤ 1000) :
    Calls Try.prog 49 #[.pointer (some ⟨b, 0, none⟩), .pointer (some ⟨b', 0, none⟩)] w (RetV w (.bool true)) := by
  have H1 := Lib.hid (list_any h hL)
  have H2 := Lib.hid (fun (w' : World) (hb : Below w.heap.size w w') => list_any (h'.later hb) hL)
  clear h h'
  go_enter Try.func49, Try.ntmps49
  go_wp2_with fail
  refine H1.out.mono ?_
  rintro e w1 ⟨v, rfl, ho, hb1⟩
  have HO := Lib.hid ho
  have HB := Lib.hid hb1
  clear ho hb1
  dsimp only
  go_wp2_with fail
  refine (H2.out w1 HB.out).mono ?_
  rintro e w2 ⟨u, rfl, ho2, hb2⟩
  have HQ := equal_ints (own_ints (own_later HO.out hb2)) (own_ints ho2) hL hL
  rw [decide_eq_true rfl] at HQ
  have HE := Lib.hid HQ
  have HB2 := Lib.hid (stepB HB.out hb2)
  clear HQ ho2 hb2
  dsimp only
  go_wp2_with fail
  refine HE.out.mono ?_
  rintro e w3 ⟨rfl, n, rfl⟩
  dsimp only
  go_wp2
  go_ret
  exact ⟨rfl, below_drewN HB2.out n⟩
set_option maxRecDepth 100000 in
/-- Maps of the same places are of one size. -/
theorem size_same {w w' : World} {mb mb' n n' N : Nat} {D D' : DataW Unit} {pb pb' : Nat → Nat → Nat} (ho : w.ownsMap Try.prog 82 ptrElem mb n D) (ho' : w'.ownsMap Try.prog 82 ptrElem mb' n' D') (hd : MapD D N pb) (hd' : MapD D' N pb') (hN : N ≤ 4) : Maps.size D = Maps.size D' := by
  obtain ⟨es, rfl, hp, hk⟩ := ho.entries place_keyed
  obtain ⟨es', rfl, hp', hk'⟩ := ho'.entries place_keyed
  rw [size_eq, size_eq]
  have hmem : ∀ (es : List (Lit × DataW Unit)) (hk : ∀ p ∈ es, WideAt.IsKeyLit p.1) (pb : Nat → Nat → Nat) (hd : MapD (.map es) N pb) (x : Lit), x ∈ es.map (·.1) ↔ ∃ s z : Nat, okK N s z ∧ x = kl s z := by
    intro es hk pb hd x
    constructor
    · intro hx
      obtain ⟨p, hp, rfl⟩ := List.mem_map.1 hx
      refine hd.only _ ?_
      rw [has_eq, List.any_eq_true]
      exact ⟨p, hp, WideAt.sameKey_self (hk p hp)⟩
    · rintro ⟨s, z, ok, rfl⟩
      obtain ⟨ws, wz⟩ := ok.wf hN
      have h1 := hd.has s z ws wz
      rw [decide_eq_true (okI_nat.2 ok), has_eq, List.any_eq_true] at h1
      obtain ⟨p, hp, e⟩ := h1
      exact List.mem_map.2 ⟨p, hp, WideAt.sameKey_eq e⟩
  have hn : (es.map (·.1)).Nodup := by unfold List.Nodup; rw [List.pairwise_map]; exact hp
  have hn' : (es'.map (·.1)).Nodup := by unfold List.Nodup; rw [List.pairwise_map]; exact hp'
  have := ((List.perm_ext_iff_of_nodup hn hn').2 (fun x => (hmem es hk pb hd x).trans (hmem es' hk' pb' hd' x).symm)).length_eq
  simpa using this
end Go.Proofs.Ytbbbkpadadeolaa

/- Two stores that have the same are one (layer 6): slices.Equal of objects, cards, piles; Same. Two stores that have the same are one (layer 6): cards, piles, maps of piles. Two stores that have the same are one (layer 6): maps of piles, stores. -/
import Derived.Test.YtgjojjhppgjkkaaGreatJu
import Derived.Deep.RegionHeld3
import Derived.Test.YtgjojjhppgjkkaaGreatHm
namespace Go.Proofs.YtgjojjhppgjkkaaGreat
open Go.RowKit Go.Maps

set_option maxHeartbeats 4000000 in
theorem eqObj (n : Nat) (a0 c0 a1 c1 a2 c2 a3 c3 a6 c6 a7 c7 a8 c8 a9 c9 : Int) (a4 c4 a5 c5 a10 c10 : Bool) (w : World) : (Op.equalIn (n + 2) 35 (.agg #[.int .i64 a0, .int .i64 a1, .int .i64 a2, .int .i64 a3, .bool a4, .bool a5, .int .i64 a6, .int .i64 a7, .int .i64 a8, .int .i64 a9, .bool a10]) (.agg #[.int .i64 c0, .int .i64 c1, .int .i64 c2, .int .i64 c3, .bool c4, .bool c5, .int .i64 c6, .int .i64 c7, .int .i64 c8, .int .i64 c9, .bool c10])).run Tryz.prog w = .ok (a0 == c0 && (a1 == c1 && (a2 == c2 && (a3 == c3 && (a4 == c4 && (a5 == c5 && (a6 == c6 && (a7 == c7 && (a8 == c8 && (a9 == c9 && (a10 == c10))))))))))) w := by
  have uI := Tryz.underlying3
  have gI := Tryz.isAgg3
  have zI := Tryz.sizeOf3
  have uB := Tryz.underlying4
  have gB := Tryz.isAgg4
  have zB := Tryz.sizeOf4
  have hS : Tryz.prog.underlying 35 = some (.struct (Tryz.prog.fieldsOf 35)) := by kernel_rfl
  rw [run_equalIn_agg w (n + 1) 35 _ _ hS (by kernel_rfl)]
  simp only [Program.fieldsOf, Tryz.underlying35]
  go_simp
  by_cases h0 : a0 = c0
  · subst h0
    by_cases h1 : a1 = c1
    · subst h1
      by_cases h2 : a2 = c2
      · subst h2
        by_cases h3 : a3 = c3
        · subst h3
          by_cases h4 : a4 = c4
          · subst h4
            by_cases h5 : a5 = c5
            · subst h5
              by_cases h6 : a6 = c6
              · subst h6
                by_cases h7 : a7 = c7
                · subst h7
                  by_cases h8 : a8 = c8
                  · subst h8
                    by_cases h9 : a9 = c9
                    · subst h9
                      by_cases h10 : a10 = c10
                      · subst h10
                        simp
                      · simp [h10]
                    · simp [h9]
                  · simp [h8]
                · simp [h7]
              · simp [h6]
            · simp [h5]
          · simp [h4]
        · simp [h3]
      · simp [h2]
    · simp [h1]
  · simp [h0]
theorem neqObj (a0 c0 a1 c1 a2 c2 a3 c3 a6 c6 a7 c7 a8 c8 a9 c9 : Int) (a4 c4 a5 c5 a10 c10 : Bool) (w : World) : (binOp .neq 35 (.agg #[.int .i64 a0, .int .i64 a1, .int .i64 a2, .int .i64 a3, .bool a4, .bool a5, .int .i64 a6, .int .i64 a7, .int .i64 a8, .int .i64 a9, .bool a10]) (.agg #[.int .i64 c0, .int .i64 c1, .int .i64 c2, .int .i64 c3, .bool c4, .bool c5, .int .i64 c6, .int .i64 c7, .int .i64 c8, .int .i64 c9, .bool c10])).run Tryz.prog w = .ok (.bool (!(a0 == c0 && (a1 == c1 && (a2 == c2 && (a3 == c3 && (a4 == c4 && (a5 == c5 && (a6 == c6 && (a7 == c7 && (a8 == c8 && (a9 == c9 && (a10 == c10))))))))))))) w := by
  rw [run_neq_struct, eqObj 9998]
  rfl
theorem neqgO (x y : Operand) (xs ys : Array Value) (W : World) : (eqGuard .neq 35 x y (.agg xs) (.agg ys)).run Tryz.prog W = .ok () W := run_eqGuard_agg W .neq 35 x y xs ys (by kernel_rfl)
def eqO (x y : ObjL) : Bool := x.id == y.id && (x.card == y.card && (x.owner == y.owner && (x.zone == y.zone && (x.tapped == y.tapped && (x.sick == y.sick && (x.hurt == y.hurt && (x.count == y.count && (x.boost == y.boost && (x.block == y.block && (x.attacks == y.attacks))))))))))
theorem eqO_iff (x y : ObjL) : eqO x y = true ↔ x = y := by
  unfold eqO
  obtain ⟨x0, x1, x2, x3, x4, x5, x6, x7, x8, x9, x10⟩ := x
  obtain ⟨y0, y1, y2, y3, y4, y5, y6, y7, y8, y9, y10⟩ := y
  simp only [Bool.and_eq_true, beq_iff_eq, ObjL.mk.injEq]
instance : DecidableEq ObjL := fun x y => decidable_of_iff (eqO x y = true) (eqO_iff x y)
set_option maxRecDepth 100000 in
set_option maxHeartbeats 4000000 in
theorem equal_objs {lo lo' : Nat} {v u : Value} {l r : List ObjL} {w : World} (hl : w.ownsRow lo 35 11 v l.length (objsV l)) (hr : w.ownsRow lo' 35 11 u r.length (objsV r)) (hn : l.length ≤ 1000) :
    Calls Tryz.prog 84 #[v, u] w fun e w' => e = .returned (.bool (decide (l = r))) ∧ ∃ n, w' = w.drewN n := by
  obtain ⟨xa, xc, rfl⟩ := own_form hl
  obtain ⟨ya, yc, rfl⟩ := own_form hr
  have HL := Lib.hid hl
  have HR := Lib.hid hr
  clear hl hr
  by_cases hne : l.length ≠ r.length
  · have d : ((l.length : Int) != r.length) = true := bne_iff_ne.2 (by omega)
    have HS := Lib.hid (show decide (l = r) = false from decide_eq_false (fun e => hne (by rw [e])))
    clear hne
    go_enter Tryz.func84, Tryz.ntmps84
    go_wp2
    go_ret
    exact ⟨ret_bool HS.out.symm, 0, rfl⟩
  have heq : l.length = r.length := Classical.not_not.1 hne
  have d : ((l.length : Int) != r.length) = false := by rw [heq]; exact bne_self_eq_false _
  have HQ := Lib.hid heq
  clear hne heq
  have h2 := @neqgO
  go_enter Tryz.func84, Tryz.ntmps84
  go_wp2
  go_loopw [13] (fun i wr => ∃ k n : Nat, k ≤ l.length ∧ i = .int .i64 k ∧ wr = w.drewN n ∧ Hid (l.take k = r.take k)) (fun i _ => l.length - (intOf i).toNat)
  case atStart => exact ⟨0, 0, Nat.zero_le _, rfl, rfl, Lib.hid rfl⟩
  case round =>
    obtain ⟨k, n, hk, rfl, rfl, HK⟩ := hrel
    by_cases hlt : k < l.length
    · have hlt2 : k < r.length := by have := HQ.out; omega
      obtain ⟨g, cap, hgv, ⟨o0, o1, o2, o3, o4, o5, o6, o7, o8, o9, o10⟩, _⟩ := own_obj HL.out k hlt
      obtain ⟨g', cap', hgv', ⟨p0, p1, p2, p3, p4, p5, p6, p7, p8, p9, p10⟩, _⟩ := own_obj HR.out k hlt2
      injection hgv with hxa _ hxc
      injection hgv' with hya _ hyc
      subst hxa hxc hya hyc
      have HT1 := Lib.hid (take_last l k hlt)
      have HT2 := Lib.hid (take_last r k hlt2)
      have HIX := Lib.hid (show l = r → l[k] = r[k] from fun e => by subst e; rfl)
      obtain ⟨x, hx⟩ : ∃ x, l[k] = x := ⟨_, rfl⟩
      obtain ⟨y, hy⟩ : ∃ y, r[k] = y := ⟨_, rfl⟩
      rw [hx] at o0 o1 o2 o3 o4 o5 o6 o7 o8 o9 o10 HT1 HIX
      rw [hy] at p0 p1 p2 p3 p4 p5 p6 p7 p8 p9 p10 HT2 HIX
      obtain ⟨E, hE⟩ : ∃ E, eqO x y = E := ⟨_, rfl⟩
      have h3 := fun W => neqObj x.id y.id x.card y.card x.owner y.owner x.zone y.zone x.hurt y.hurt x.count y.count x.boost y.boost x.block y.block x.tapped y.tapped x.sick y.sick x.attacks y.attacks W
      have hE' := hE
      unfold eqO at hE'
      rw [hE'] at h3
      have d0 : (0 : Int) ≤ k := by omega
      have d1 : (k : Int) < l.length := by omega
      have d2 : (k : Int) < r.length := by omega
      clear hE' hx hy
      cases E
      · have HS := Lib.hid (show decide (l = r) = false from decide_eq_false (fun e => by
          have h4 := HIX.out e
          rw [(eqO_iff x y).2 h4] at hE
          cases hE))
        clear hE
        go_wp2
        go_quiet (fail)
        go_wp2
        go_ret
        exact ⟨ret_bool HS.out.symm, _, World.drewN_drewN _ _ _⟩
      · have HT : Hid (l.take (k + 1) = r.take (k + 1)) := Lib.hid (by
          rw [HT1.out, HT2.out, HK.out, (eqO_iff x y).1 hE])
        clear hE
        go_wp2
        go_quiet (fail)
        go_wp2
        go_roundw
        case rel => exact ⟨k + 1, _, by omega, by go_num, rfl, HT⟩
        case measure => simp [intOf]; omega
    · obtain rfl : k = l.length := by omega
      have HS := Lib.hid (show decide (l = r) = true from decide_eq_true (by
        have h1 := HK.out
        rw [List.take_length, HQ.out, List.take_length] at h1
        exact h1))
      go_wp2
      go_ret
      exact ⟨ret_bool HS.out.symm, _, rfl⟩
end Go.Proofs.YtgjojjhppgjkkaaGreat
namespace Go.Proofs.YtgjojjhppgjkkaaGreat
open Go.RowKit Go.Maps

set_option maxRecDepth 100000 in
set_option maxHeartbeats 4000000 in
theorem eqCards_true {w : World} {v u : Value} {T : List Crd.CardL} (hv : Crd.CardsAt w v T) (hu : Crd.CardsAt w u T) (hT : T.length ≤ 60) (hs : ∀ k (h : k < T.length), T[k].terms.length ≤ 30) :
    Calls Tryz.prog 87 #[v, u, .func (.func 88) #[] #[]] w (RetV w (.bool true)) := by
  obtain ⟨xa, xc, rfl⟩ := hv.form
  obtain ⟨ya, yc, rfl⟩ := hu.form
  have HV := Lib.hid hv
  have HU := Lib.hid hu
  have HS := Lib.hid hs
  have d : ((T.length : Int) != T.length) = false := bne_self_eq_false _
  clear hv hu hs
  go_enter Tryz.func87, Tryz.ntmps87
  go_wp2
  go_loopw [17] (fun i wr => ∃ k : Nat, k ≤ T.length ∧ i = .int .i64 k ∧ Hid (Below w.heap.size w wr)) (fun i _ => T.length - (intOf i).toNat)
  case atStart => exact ⟨0, Nat.zero_le _, rfl, Lib.hid (Below.refl _ _)⟩
  case round =>
    obtain ⟨k, hk, rfl, HB⟩ := hrel
    by_cases hlt : k < T.length
    · obtain ⟨b1, o1, hx1, ⟨pa, pc, t0, t1, t2, t3, t4, t5, t6, tt⟩⟩ := (HV.out.later HB.out).at k hlt
      obtain ⟨b2, o2, hx2, ⟨qa, qc, s0, s1, s2, s3, s4, s5, s6, st⟩⟩ := (HU.out.later HB.out).at k hlt
      have hc := HS.out k hlt
      obtain ⟨c, hcc⟩ : ∃ c, T[k] = c := ⟨_, rfl⟩
      rw [hcc] at t0 t1 t2 t3 t4 t5 t6 tt s0 s1 s2 s3 s4 s5 s6 st hc
      subst hx1 hx2
      have d0 : (0 : Int) ≤ k := by omega
      have d1 : (k : Int) < T.length := by omega
      have HSA : Hid (∀ w', Below wr.heap.size wr w' → Calls Tryz.prog 88 #[.agg #[.int .i64 c.kind, .int .i64 c.cost, .int .i64 c.power, .int .i64 c.tough, .int .i64 c.keys, .int .i64 c.whn, .slice pa c.terms.length pc], .agg #[.int .i64 c.kind, .int .i64 c.cost, .int .i64 c.power, .int .i64 c.tough, .int .i64 c.keys, .int .i64 c.whn, .slice qa c.terms.length qc]] w' (RetV w' (.bool true))) := Lib.hid fun w' hb => by
        have h := Crd.same_any (a := c) (b := c) (v := Crd.cagg c (.slice pa c.terms.length pc)) (u := Crd.cagg c (.slice qa c.terms.length qc)) (w := w') ⟨_, _, _, rfl, tt.later hb⟩ ⟨_, _, _, rfl, st.later hb⟩ (by omega)
        rw [(Crd.sameB_iff c c).2 rfl] at h
        exact h
      have s0' := cell_stays (below_new wr (.cells #[.int .i64 c.kind, .int .i64 c.cost, .int .i64 c.power, .int .i64 c.tough, .int .i64 c.keys, .int .i64 c.whn, .slice pa c.terms.length pc] 45)) s0
      have s1' := cell_stays (below_new wr (.cells #[.int .i64 c.kind, .int .i64 c.cost, .int .i64 c.power, .int .i64 c.tough, .int .i64 c.keys, .int .i64 c.whn, .slice pa c.terms.length pc] 45)) s1
      have s2' := cell_stays (below_new wr (.cells #[.int .i64 c.kind, .int .i64 c.cost, .int .i64 c.power, .int .i64 c.tough, .int .i64 c.keys, .int .i64 c.whn, .slice pa c.terms.length pc] 45)) s2
      have s3' := cell_stays (below_new wr (.cells #[.int .i64 c.kind, .int .i64 c.cost, .int .i64 c.power, .int .i64 c.tough, .int .i64 c.keys, .int .i64 c.whn, .slice pa c.terms.length pc] 45)) s3
      have s4' := cell_stays (below_new wr (.cells #[.int .i64 c.kind, .int .i64 c.cost, .int .i64 c.power, .int .i64 c.tough, .int .i64 c.keys, .int .i64 c.whn, .slice pa c.terms.length pc] 45)) s4
      have s5' := cell_stays (below_new wr (.cells #[.int .i64 c.kind, .int .i64 c.cost, .int .i64 c.power, .int .i64 c.tough, .int .i64 c.keys, .int .i64 c.whn, .slice pa c.terms.length pc] 45)) s5
      have s6' := cell_stays (below_new wr (.cells #[.int .i64 c.kind, .int .i64 c.cost, .int .i64 c.power, .int .i64 c.tough, .int .i64 c.keys, .int .i64 c.whn, .slice pa c.terms.length pc] 45)) s6
      clear tt st hcc s0 s1 s2 s3 s4 s5 s6
      go_wp2_with fail
      refine (HSA.out _ (below_alloc2 (below_new wr _) _)).mono ?_
      rintro e w5 ⟨rfl, hb5⟩
      have HB5 := Lib.hid (stepB (below_alloc2 (below_alloc2 HB.out _) _) hb5)
      clear hb5 HSA t0 t1 t2 t3 t4 t5 t6 s0' s1' s2' s3' s4' s5' s6'
      dsimp only
      go_wp2
      go_roundw
      case rel => exact ⟨k + 1, by omega, by go_num, HB5⟩
      case measure => simp [intOf]; omega
    · obtain rfl : k = T.length := by omega
      go_wp2
      go_ret
      exact ⟨rfl, HB.out⟩
set_option maxRecDepth 100000 in
theorem samePile_true {w : World} {lo lo' b b' : Nat} {g g' : Option Nat} {L : List Int} (h : PileAt w lo b g L) (h' : PileAt w lo' b' g' L) (hL : L.length ≤ 1000) :
    Calls Tryz.prog 86 #[.pointer (some ⟨b, 0, none⟩), .pointer (some ⟨b', 0, none⟩)] w (RetV w (.bool true)) := by
  have H1 := Lib.hid (list_any h hL)
  have H2 := Lib.hid (fun (w' : World) (hb : Below w.heap.size w w') => list_any (h'.later hb) hL)
  clear h h'
  go_enter Tryz.func86, Tryz.ntmps86
  go_wp2_with fail
  refine H1.out.mono ?_
  rintro e w1 ⟨v, rfl, ho, hb1⟩
  have HO := Lib.hid ho
  have HB := Lib.hid hb1
  clear ho hb1
  dsimp only
  go_wp2_with fail
  refine (H2.out w1 HB.out).mono ?_
  rintro e w2 ⟨u, rfl, ho2, hb2⟩
  have HQ := equal_ints (own_ints (own_later HO.out hb2)) (own_ints ho2) hL hL
  rw [decide_eq_true rfl] at HQ
  have HE := Lib.hid HQ
  have HB2 := Lib.hid (stepB HB.out hb2)
  clear HQ ho2 hb2
  dsimp only
  go_wp2_with fail
  refine HE.out.mono ?_
  rintro e w3 ⟨rfl, n, rfl⟩
  dsimp only
  go_wp2
  go_ret
  exact ⟨rfl, below_drewN HB2.out n⟩
set_option maxRecDepth 100000 in
/-- Maps of the same places are of one size. -/
theorem size_same {w w' : World} {mb mb' n n' N : Nat} {D D' : DataW Unit} {pb pb' : Nat → Nat → Nat} (ho : w.ownsMap Tryz.prog 130 ptrElem mb n D) (ho' : w'.ownsMap Tryz.prog 130 ptrElem mb' n' D') (hd : MapD D N pb) (hd' : MapD D' N pb') (hN : N ≤ 4) : Maps.size D = Maps.size D' := by
  obtain ⟨es, rfl, hp, hk⟩ := ho.entries place_keyed
  obtain ⟨es', rfl, hp', hk'⟩ := ho'.entries place_keyed
  rw [size_eq, size_eq]
  have hmem : ∀ (es : List (Lit × DataW Unit)) (hk : ∀ p ∈ es, WideAt.IsKeyLit p.1) (pb : Nat → Nat → Nat) (hd : MapD (.map es) N pb) (x : Lit), x ∈ es.map (·.1) ↔ ∃ s z : Nat, okK N s z ∧ x = kl s z := by
    intro es hk pb hd x
    constructor
    · intro hx
      obtain ⟨p, hp, rfl⟩ := List.mem_map.1 hx
      refine hd.only _ ?_
      rw [has_eq, List.any_eq_true]
      exact ⟨p, hp, WideAt.sameKey_self (hk p hp)⟩
    · rintro ⟨s, z, ok, rfl⟩
      obtain ⟨ws, wz⟩ := ok.wf hN
      have h1 := hd.has s z ws wz
      rw [decide_eq_true (okI_nat.2 ok), has_eq, List.any_eq_true] at h1
      obtain ⟨p, hp, e⟩ := h1
      exact List.mem_map.2 ⟨p, hp, WideAt.sameKey_eq e⟩
  have hn : (es.map (·.1)).Nodup := by unfold List.Nodup; rw [List.pairwise_map]; exact hp
  have hn' : (es'.map (·.1)).Nodup := by unfold List.Nodup; rw [List.pairwise_map]; exact hp'
  have := ((List.perm_ext_iff_of_nodup hn hn').2 (fun x => (hmem es hk pb hd x).trans (hmem es' hk' pb' hd' x).symm)).length_eq
  simpa using this
end Go.Proofs.YtgjojjhppgjkkaaGreat
namespace Go.Proofs.YtgjojjhppgjkkaaGreat
open Go.RowKit Go.Maps

/-- What the range over the first map holds. -/
structure EqI (w wr : World) (S : StoreL) (D : DataW Unit) (left : Lit → Bool) : Prop where
  sub : ∀ x, left x = true → Maps.has D x = true
  bel : Below w.heap.size w wr
  size : w.heap.size + 1 ≤ wr.heap.size
theorem map_kept {w w' : World} {mb n : Nat} {D : DataW Unit} (ho : w.ownsMap Tryz.prog 130 ptrElem mb n D) (hk : w'.heap[mb]? = w.heap[mb]?) : w'.ownsMap Tryz.prog 130 ptrElem mb n D := by
  obtain ⟨es, clock, he, q⟩ := ho
  exact ⟨es, clock, hk.trans he, q⟩
theorem map_lt {w : World} {mb n : Nat} {D : DataW Unit} (ho : w.ownsMap Tryz.prog 130 ptrElem mb n D) : mb < w.heap.size := by
  obtain ⟨es, clock, he, q⟩ := ho
  exact (Array.getElem?_eq_some_iff.1 he).1
set_option maxRecDepth 100000 in
/-- The look-up with ok. -/
theorem look_ok2 {w : World} {mb n q : Nat} {D : DataW Unit} {pb : Nat → Nat → Nat} (ho : w.ownsMap Tryz.prog 130 ptrElem mb n D) (hd : MapD D q pb) (hq : q ≤ 4) {s z : Nat} (ok : okK q s z) :
    (Instr.lookup 99 (.map (some mb)) (.agg #[.int .i64 s, .int .i64 z]) true).run Tryz.prog w = .ok (.tuple #[.pointer (some ⟨pb s z, 0, none⟩), .bool true]) w := by
  obtain ⟨ws, wz⟩ := ok.wf hq
  obtain ⟨v, ps, hrun, hv⟩ := ho.look_ok place_keyed Tryz.underlying99 (zero_ptr w) ptrElem_nil (place_key ws wz)
  rw [hd.val s z ok] at hv
  rw [hd.has _ _ ws wz, decide_eq_true (okI_nat.2 ok)] at hrun
  rcases ptrElem_inv hv with ⟨_, h⟩ | ⟨b, rfl, h⟩
  · omega
  · rw [show pb s z = b by omega]; exact hrun
set_option maxRecDepth 100000 in
set_option maxHeartbeats 8000000 in
theorem mapEq_true {w : World} {lo b lo' b' : Nat} {G G' : Ghost} {S : StoreL} (h : StoreAt w lo b G S) (h' : StoreAt w lo' b' G' S) (hS : ShortS S) :
    Calls Tryz.prog 85 #[.map (some G.mb), .map (some G'.mb), .func (.func 86) #[] #[]] w (RetV w (.bool true)) := by
  obtain ⟨D, ho, hsd, hdd⟩ := h.mp
  obtain ⟨D', ho', hsd', hdd'⟩ := h'.mp
  have hl1 := ho.len Tryz.underlying99 3
  have hl2 := ho'.len Tryz.underlying99 3
  rw [← size_same ho ho' hdd hdd' h.n4] at hl2
  obtain ⟨q, hq⟩ : ∃ q, Maps.size D = q := ⟨_, rfl⟩
  rw [hq] at hl1 hl2
  have d : ((q : Int) != (q : Int)) = false := bne_self_eq_false _
  have HH := Lib.hid h
  have HH' := Lib.hid h'
  have HSS := Lib.hid hS
  have HD := Lib.hid hdd
  have HD' := Lib.hid hdd'
  have HO := Lib.hid ho
  have HO' := Lib.hid ho'
  have HMB := Lib.hid (And.intro (map_lt ho) (map_lt ho'))
  clear h h' hS ho ho' hsd hsd' hdd hdd' hq
  go_enter Tryz.func85, Tryz.ntmps85
  go_wp2_with (at_range; refine wpList_range_own _ rfl _ 99 rfl 130 118 place_keyed Tryz.underlying99 ptrElem G.mb 1000 D rfl HO.out ?_; intro w4 hrg4 hg4 hs4)
  have HI4 : Hid (EqI w w4 S D (Maps.has D)) := Lib.hid ⟨fun x hx => hx, ⟨hg4.os, hg4.tape, hg4.output, hg4.size, fun k hk => hg4.block k hk (by simp)⟩, by rw [hs4]; exact Nat.le_refl _⟩
  clear hg4 hs4 hl1 hl2 d
  have HRG := Lib.hid hrg4
  clear hrg4
  go_frame
  go_loopw [8] (fun _ wr => ∃ (left : Lit → Bool) (cnt : Nat), wr.ranges Tryz.prog 130 ptrElem G.mb w.heap.size 1000 D left cnt ∧ Hid (EqI w wr S D left)) (fun _ wr => wr.rangeLeft G.mb w.heap.size)
  case atStart => exact ⟨_, _, HRG.out, HI4⟩
  case round =>
    obtain ⟨left, cnt, hrg, HEI⟩ := hrel
    go_wp2_with (at_next; refine wpList_next_places _ rfl _ rfl G.mb w.heap.size 1000 S.seats HH.out.n4 D G.pb HD.out left cnt HEI.out.sub rfl hrg ?_ ?_)
    · intro _ _
      go_wp2
      go_ret
      exact ⟨rfl, HEI.out.bel⟩
    · intro s z w5 cnt5 ok hls hrg5 hlt5 hg5 hs5 hen
      have HRG5 := Lib.hid hrg5
      have HRG0 := Lib.hid hrg
      have HLT := Lib.hid hlt5
      have HB5 := Lib.hid (show Below w.heap.size w w5 from HEI.out.bel.grown hg5 HEI.out.bel.size (fun k e => by injection e with e; omega))
      have HS5 := Lib.hid (show w.heap.size + 1 ≤ w5.heap.size by have := HEI.out.size; omega)
      have hlook := look_ok2 (map_kept HO'.out ((stepB HB5.out (below_new w5 (.cells #[.int .i64 s, .int .i64 z] 130))).block _ HMB.out.2)) HD'.out HH.out.n4 ok
      have hbx := stepB HB5.out (below_new w5 (.cells #[.int .i64 s, .int .i64 z] 130))
      have HSP := Lib.hid (samePile_true ((HH.out.later hbx).pi s z ok) ((HH'.out.later hbx).pi s z ok) (HSS.out.2 s z ok))
      have kp : ∀ j, (w5.alloc (.cells #[.int .i64 s, .int .i64 z] 130)).cell? ⟨w5.heap.size, j, none⟩ = (#[.int .i64 s, .int .i64 z] : Array Value)[j]? := fun j => cell_of_row _ _ j _ _ _ (heap_alloc_new w5 _)
      have kp0 : (w5.alloc (.cells #[.int .i64 s, .int .i64 z] 130)).cell? ⟨w5.heap.size, 0, none⟩ = some (.int .i64 s) := kp 0
      have kp1 : (w5.alloc (.cells #[.int .i64 s, .int .i64 z] 130)).cell? ⟨w5.heap.size, 1, none⟩ = some (.int .i64 z) := kp 1
      clear hls hrg5 hlt5 hg5 hs5 hrg kp hbx ok
      go_wp2_with fail
      refine HSP.out.mono ?_
      rintro e w7 ⟨rfl, hb7⟩
      have hb57 := stepB (below_new w5 (.cells #[.int .i64 s, .int .i64 z] 130)) hb7
      have HRG7 := Lib.hid (HRG5.out.kept (grown_row hb57 none) (by intro e; cases e) (by intro e; cases e))
      have HEI7 : Hid (EqI w w7 S D (fun x => left x && !x.sameKey (kl s z))) := Lib.hid ⟨fun x hx => HEI.out.sub x (by rw [Bool.and_eq_true] at hx; exact hx.1), stepB HB5.out hb57, by have := HS5.out; have := hb57.size; omega⟩
      clear hb7 hb57 HSP hlook kp0 kp1
      dsimp only
      go_wp2
      go_roundw
      case rel => exact ⟨_, _, HRG7.out, HEI7⟩
      case measure => rw [HRG7.out.left_eq, HRG0.out.left_eq]; exact HLT.out
theorem keep9 {w w1 w2 : World} {b c : Nat} {v0 v1 v2 v3 u0 u1 u2 u3 : Value} (hb : Below w1.heap.size w1 w2)
    (h : Below w.heap.size w w1 ∧ w1.cell? ⟨b, 0, none⟩ = some v0 ∧ w1.cell? ⟨b, 1, none⟩ = some v1 ∧ w1.cell? ⟨b, 2, none⟩ = some v2 ∧ w1.cell? ⟨b, 3, none⟩ = some v3 ∧ w1.cell? ⟨c, 0, none⟩ = some u0 ∧ w1.cell? ⟨c, 1, none⟩ = some u1 ∧ w1.cell? ⟨c, 2, none⟩ = some u2 ∧ w1.cell? ⟨c, 3, none⟩ = some u3) :
    Below w.heap.size w w2 ∧ w2.cell? ⟨b, 0, none⟩ = some v0 ∧ w2.cell? ⟨b, 1, none⟩ = some v1 ∧ w2.cell? ⟨b, 2, none⟩ = some v2 ∧ w2.cell? ⟨b, 3, none⟩ = some v3 ∧ w2.cell? ⟨c, 0, none⟩ = some u0 ∧ w2.cell? ⟨c, 1, none⟩ = some u1 ∧ w2.cell? ⟨c, 2, none⟩ = some u2 ∧ w2.cell? ⟨c, 3, none⟩ = some u3 :=
  ⟨stepB h.1 hb, cell_stays hb h.2.1, cell_stays hb h.2.2.1, cell_stays hb h.2.2.2.1, cell_stays hb h.2.2.2.2.1, cell_stays hb h.2.2.2.2.2.1, cell_stays hb h.2.2.2.2.2.2.1, cell_stays hb h.2.2.2.2.2.2.2.1, cell_stays hb h.2.2.2.2.2.2.2.2⟩
set_option maxRecDepth 100000 in
set_option maxHeartbeats 8000000 in
theorem same_true {w : World} {lo b lo' b' : Nat} {G G' : Ghost} {S : StoreL} (h : StoreAt w lo b G S) (h' : StoreAt w lo' b' G' S) (hS : ShortS S) :
    Calls Tryz.prog 49 #[.pointer (some ⟨b, 0, none⟩), .pointer (some ⟨b', 0, none⟩)] w (RetV w (.bool true)) := by
  have htab := h.tab.is
  have htab' := h'.tab.is
  have hob := h.ob
  have hob' := h'.ob
  obtain ⟨ta, tc, htv⟩ := htab.form
  obtain ⟨xa, xc, hov⟩ := own_form hob
  obtain ⟨ta', tc', htv'⟩ := htab'.form
  obtain ⟨xa', xc', hov'⟩ := own_form hob'
  have hc := fun j => cell_of_row w b j _ _ _ h.hd
  have hc' := fun j => cell_of_row w b' j _ _ _ h'.hd
  rw [htv, hov] at hc
  rw [htv', hov'] at hc'
  have HI : Hid (Below w.heap.size w w ∧ w.cell? ⟨b, 0, none⟩ = some (.slice ta S.T.length tc) ∧ w.cell? ⟨b, 1, none⟩ = some (.int .i64 S.seats) ∧ w.cell? ⟨b, 2, none⟩ = some (.slice xa S.objs.length xc) ∧ w.cell? ⟨b, 3, none⟩ = some (.map (some G.mb)) ∧ w.cell? ⟨b', 0, none⟩ = some (.slice ta' S.T.length tc') ∧ w.cell? ⟨b', 1, none⟩ = some (.int .i64 S.seats) ∧ w.cell? ⟨b', 2, none⟩ = some (.slice xa' S.objs.length xc') ∧ w.cell? ⟨b', 3, none⟩ = some (.map (some G'.mb))) := Lib.hid ⟨Below.refl _ _, hc 0, hc 1, hc 2, hc 3, hc' 0, hc' 1, hc' 2, hc' 3⟩
  rw [htv] at htab
  rw [hov] at hob
  rw [htv'] at htab'
  rw [hov'] at hob'
  have HEO : Hid (∀ w', Below w.heap.size w w' → Calls Tryz.prog 84 #[.slice xa S.objs.length xc, .slice xa' S.objs.length xc'] w' (RetV w' (.bool true))) := Lib.hid fun w' hb => by
    refine (equal_objs (own11_later hob fun k e => hb.block k (World.ownsRow.lt hob k e).2) (own11_later hob' fun k e => hb.block k (World.ownsRow.lt hob' k e).2) hS.1).mono ?_
    rintro e w2 ⟨rfl, n, rfl⟩
    exact ⟨by rw [decide_eq_true rfl], below_drewN (Below.refl _ _) n⟩
  have HEC : Hid (∀ w', Below w.heap.size w w' → Calls Tryz.prog 87 #[.slice ta S.T.length tc, .slice ta' S.T.length tc', .func (.func 88) #[] #[]] w' (RetV w' (.bool true))) := Lib.hid fun w' hb =>
    eqCards_true (htab.later hb) (htab'.later hb) (table_short h.ok) (may_terms h.ok)
  have HEM : Hid (∀ w', Below w.heap.size w w' → Calls Tryz.prog 85 #[.map (some G.mb), .map (some G'.mb), .func (.func 86) #[] #[]] w' (RetV w' (.bool true))) := Lib.hid fun w' hb =>
    mapEq_true (h.later hb) (h'.later hb) hS
  obtain ⟨m1, hm1⟩ : ∃ m1, G.mb = m1 := ⟨_, rfl⟩
  obtain ⟨m2, hm2⟩ : ∃ m2, G'.mb = m2 := ⟨_, rfl⟩
  obtain ⟨T, hT⟩ : ∃ T, S.T = T := ⟨_, rfl⟩
  obtain ⟨O, hO⟩ : ∃ O, S.objs = O := ⟨_, rfl⟩
  obtain ⟨n, hn⟩ : ∃ n, S.seats = n := ⟨_, rfl⟩
  rw [hm1, hm2, hT, hO, hn] at HI
  rw [hO] at HEO
  rw [hT] at HEC
  rw [hm1, hm2] at HEM
  have d : ((n : Int) == (n : Int)) = true := beq_self_eq_true _
  clear h h' hS htab htab' hob hob' htv htv' hov hov' hc hc' hm1 hm2 hT hO hn
  go_enter Tryz.func49, Tryz.ntmps49
  go_wp2
  go_region_held3 (fun w' => Below w.heap.size w w' ∧ w'.cell? ⟨b, 0, none⟩ = some (.slice ta T.length tc) ∧ w'.cell? ⟨b, 1, none⟩ = some (.int .i64 n) ∧ w'.cell? ⟨b, 2, none⟩ = some (.slice xa O.length xc) ∧ w'.cell? ⟨b, 3, none⟩ = some (.map (some m1)) ∧ w'.cell? ⟨b', 0, none⟩ = some (.slice ta' T.length tc') ∧ w'.cell? ⟨b', 1, none⟩ = some (.int .i64 n) ∧ w'.cell? ⟨b', 2, none⟩ = some (.slice xa' O.length xc') ∧ w'.cell? ⟨b', 3, none⟩ = some (.map (some m2)))
    (first | assumption | (with_reducible exact HI.out) | exact keep9 ((Below.refl _ _).drew) HI.out | exact keep9 (by assumption) (by assumption))
    (first
      | (go_at_call 84; refine (HEO.out _ (And.left (by assumption))).mono ?_; rintro e w2 ⟨rfl, hb2⟩)
      | (go_at_call 85; refine (HEM.out _ (And.left (by assumption))).mono ?_; rintro e w2 ⟨rfl, hb2⟩)
      | (go_at_call 87; refine (HEC.out _ (And.left (by assumption))).mono ?_; rintro e w2 ⟨rfl, hb2⟩))
  have hB : Below w.heap.size w w2 := And.left (by assumption)
  go_wp2
  go_ret
  exact ⟨rfl, hB⟩
end Go.Proofs.YtgjojjhppgjkkaaGreat

/- What a copy of a store wants (layer 6): slices.Clone of objects; the step of a range over a map of piles; a store out of its parts. A store's copy (layer 6). The library's Values, AppendSeq, Collect and Sort at numbers. Two stores that have the same are one (layer 6): slices.Equal of objects, cards, piles; Same. Two stores that have the same are one (layer 6): cards, piles, maps of piles. Two stores that have the same are one (layer 6): maps of piles, stores. -/
import Derived.Test.YtdlkdilgjmmlaaaDoorJm
import Derived.Test.YtdlkdilgjmmlaaaDoorFs
import Derived.Deep.AppendLies
import Derived.Maps.RangeWalk
import Derived.Deep.Cut
import Derived.Test.YtdlkdilgjmmlaaaDoorHl
import Derived.RangeFuncFrom
import Derived.Maps.AppendAt
import Derived.Deep.RegionHeld3
namespace Go.Proofs.YtdlkdilgjmmlaaaDoor
open Go.RowKit Go.Maps
theorem own_mono {w : World} {lo lo' sz n : Nat} {t : TypeId} {v : Value} {xs : List Value} (h : w.ownsRow lo t sz v n xs) (hl : lo' ≤ lo) : w.ownsRow lo' t sz v n xs := by
  refine ⟨h.1, ?_⟩
  rcases h.2 with h0 | ⟨g, cap, cur, e, hb, r⟩
  · exact .inl h0
  · exact .inr ⟨g, cap, cur, e, Nat.le_trans hl hb, r⟩
def RetObjs (w : World) (l : List ObjL) (e : Ending) (w' : World) : Prop := ∃ v, e = .returned v ∧ w'.ownsRow w.heap.size 78 11 v l.length (objsV l) ∧ Below w.heap.size w w'
theorem grown_row {w w' : World} (hb : Below w.heap.size w w') (row : Option Nat) : w.grownBy w' row := ⟨hb.os, hb.tape, hb.output, hb.size, fun k hk _ => hb.block k hk⟩

theorem append_zero (g : Nat) (xa : Option Addr) (xc : Nat) (w : World) : (Builtin.append_ #[65, 65] 65 #[.slice (some ⟨g, 0, none⟩) 0 0, .slice xa 0 xc]).run Tryd.prog w = .ok (.slice (some ⟨g, 0, none⟩) 0 0) w := by
  obtain ⟨i0, hi0, hz0, hz1, hz2⟩ := info_parts info_obj
  cases xa <;> simp [Builtin.append_, run_underlying Tryd.underlying65, sizeOf, typeInfo, hi0, Builtin.lenOf, Builtin.firstCells, loadCells, loadCellsFrom, storeCells]
theorem nil_obj (W : World) : (binOp .eql 65 (.slice none 0 0) (.slice none 0 0)).run Tryd.prog W = .ok (.bool true) W := by kernel_rfl
theorem some_obj (a : Addr) (n c : Nat) (W : World) : (binOp .eql 65 (.slice (some a) n c) (.slice none 0 0)).run Tryd.prog W = .ok (.bool false) W := by kernel_rfl
theorem objsV_one (l : List ObjL) : ∀ u ∈ objsV l, u.oneCell' = true := by
  intro u hu
  simp only [objsV, List.mem_flatMap] at hu
  obtain ⟨o, _, hu⟩ := hu
  exact ocells_one o u hu
set_option maxRecDepth 100000 in
set_option maxHeartbeats 2000000 in
theorem clone_objs {w : World} {lo : Nat} {v : Value} {l : List ObjL} (h : w.ownsRow lo 78 11 v l.length (objsV l)) (hl : l.length ≤ 1000) :
    Calls Tryd.prog 57 #[v] w (RetObjs w l) := by
  obtain ⟨i0, hi0, hz0, hz1, hz2⟩ := info_parts info_obj
  rcases h.2 with ⟨rfl, h0⟩ | ⟨g, cap, cur, rfl, hb, hg, hn, hm, hs, ht⟩
  · obtain rfl := List.eq_nil_of_length_eq_zero h0
    clear h
    have hq := nil_obj
    go_enter Tryd.func57, Tryd.ntmps57
    go_wp2
    go_ret
    exact ⟨_, rfl, World.ownsRow_nil _ _ _ _, Below.refl _ _⟩
  · by_cases h0 : l.length = 0
    · obtain rfl := List.eq_nil_of_length_eq_zero h0
      have ha := append_zero w.heap.size (some ⟨g, 0, none⟩) cap
      clear h hb hg hn hm hs ht
      have hq := some_obj
      go_enter Tryd.func57, Tryd.ntmps57
      go_wp2_with (at_builtin; refine Crd.wpList_append_run rfl _ _ rfl rfl rfl (ha _) ?_)
      go_ret
      exact ⟨_, rfl, ⟨rfl, .inr ⟨w.heap.size, 0, #[], rfl, Nat.le_refl _, heap_alloc_new w _, Nat.le_refl _, Nat.zero_le _, rfl, rfl⟩⟩, below_new w _⟩
    · have HNW : Hid (∀ j u, (objsV l)[j]? = some u → (w.alloc (.cells #[] 78)).cell? ((⟨g, 0, none⟩ : Addr).add j) = some u) := Lib.hid fun j u hu => by
        have hj : j < l.length * 11 := by
          have := (List.getElem?_eq_some_iff.1 hu).1
          rwa [objsV_len] at this
        rw [show (⟨g, 0, none⟩ : Addr).add j = ⟨g, j, none⟩ by simp [Addr.add]; omega]
        refine cell_stays (below_new w _) ?_
        rw [cell_of_row w g j _ _ (0, 0) hg, ← hu, ← ht, List.getElem?_take_of_lt hj, Array.getElem?_toList]
      have HTL := Lib.hid (objsV_len l)
      have hpos : 0 < l.length := by omega
      have HW0 := Lib.hid (show (w.alloc (.cells #[] 78)).ownsRow w.heap.size 78 11 (.slice (some ⟨w.heap.size, 0, none⟩) 0 0) 0 [] from ⟨rfl, .inr ⟨w.heap.size, 0, #[], rfl, Nat.le_refl _, heap_alloc_new w _, Nat.le_refl _, Nat.zero_le _, rfl, rfl⟩⟩)
      clear h hb hg hn hm hs ht h0
      have hq := some_obj
      go_enter Tryd.func57, Tryd.ntmps57
      go_wp2_with (at_builtin; refine wpList_append_lies _ rfl _ _ 65 rfl w.heap.size 78 i0 _ 11 80 Tryd.underlying65 hi0 hz0 hz1 hz2 rfl (by decide) (.slice (some ⟨w.heap.size, 0, none⟩) 0 0) 0 [] rfl HW0.out ⟨g, 0, none⟩ l.length cap (objsV l) rfl HTL.out HNW.out (objsV_one _) hpos (by unfold maxLen; omega) (by omega) (by simp) _ rfl ?_)
      intro g' cap' w6 hown hgrow hat hlt6
      have HO := Lib.hid hown
      have HB := Lib.hid (show Below w.heap.size w w6 from (below_new w _).grown hgrow (by simp) (fun c e => by have e1 : w.heap.size = c := Option.some.inj e; omega))
      clear hown hgrow hat hlt6 hi0 hz0 hz1 hz2
      go_wp2
      go_ret
      exact ⟨_, rfl, HO.out, HB.out⟩
set_option maxRecDepth 100000 in
/-- The step of a range over a map of piles. -/
theorem wpList_next_places (w : World) {ops : Array Oper} {rest : List Oper} {o : Oper} {a : Act} {Q : Exit → Act → World → Prop} (hg : o.guard = none) (it : Operand) (hop : o.op = Op.next it false) (b r n q : Nat) (hq : q ≤ 4) (D : DataW Unit) (pb : Nat → Nat → Nat) (hd : MapD D q pb) (left : Lit → Bool) (cnt : Nat)
    (hleft : ∀ x, left x = true → Maps.has D x = true)
    (hit : a.eval it = .pointer (some ⟨r, 0, none⟩)) (h : w.ranges Tryd.prog 96 ptrElem b r n D left cnt)
    (hDone : cnt = 0 → (∀ x, left x = false) → wpList Tryd.prog ops Q rest (a.put o.dst (.tuple #[.bool false])) w)
    (hMore : ∀ (s z : Nat) (w' : World) (cnt' : Nat), okK q s z → left (kl s z) = true → w'.ranges Tryd.prog 96 ptrElem b r n D (fun x => left x && !x.sameKey (kl s z)) cnt' → cnt' < cnt →
      w.grownBy w' (some r) → w'.heap.size = w.heap.size → (Instr.entry (.pointer (some ⟨r, 0, none⟩))).run Tryd.prog w' = .ok (.tuple #[.agg #[.int .i64 s, .int .i64 z], .pointer (some ⟨pb s z, 0, none⟩)]) w' →
      wpList Tryd.prog ops Q rest (a.put o.dst (.tuple #[.bool true, .agg #[.int .i64 s, .int .i64 z], .pointer (some ⟨pb s z, 0, none⟩)])) w') :
    wpList Tryd.prog ops Q (o :: rest) a w := by
  refine wpList_plain hg fun K' hK' => ?_
  unfold Oper.wp
  rcases h.next place_keyed o.type with ⟨h0, hl, hrun⟩ | ⟨key, v, x, y, w', cnt', hkey, hlk, hv, hat, hrun, hrg, hlt, hgr, hsz, hen⟩
  · simp [execOp, hop, hit, hrun, Result.andThen]
    exact hK' _ _ (hDone h0 hl)
  · obtain ⟨s, z, ok, rfl⟩ := hd.only x (hleft x hlk)
    obtain ⟨ws, wz⟩ := ok.wf hq
    have hkk := place_keyed.inj hkey (place_key ws wz)
    subst hkk
    have hy := hat (.lit (.int .i64 (-1)))
    rw [hd.val s z ok] at hy
    have hvv : v = .pointer (some ⟨pb s z, 0, none⟩) := by
      obtain ⟨y1, y2⟩ := y
      dsimp only at hy
      subst hy
      rcases ptrElem_inv hv with ⟨_, e⟩ | ⟨b', e1, e2⟩
      · omega
      · rw [e1, show b' = pb s z by omega]
    subst hvv
    simp [execOp, hop, hit, hrun, Result.andThen]
    exact hK' _ _ (hMore s z w' cnt' ok hlk hrg hlt hgr hsz hen)
/-- A store out of its parts. -/
theorem store_parts {w w1 w3 wt : World} {mb n N ts os : Nat} {v ov : Value} {T : List Crd.CardL} {objs : List ObjL} {D : DataW Unit} {pb : Nat → Nat → Nat} {pg : Nat → Nat → Option Nat} {L : Nat → Nat → List Int} {tag : Nat → Tag}
    (h1 : Below w.heap.size w w1) (hp : PInv w1 w.heap.size mb N (okK n) D pb pg L tag) (hN : N ≤ 100) (hts : w1.heap.size ≤ ts) (ht : TabFrom wt ts v T) (h3 : Below w1.heap.size w1 w3) (ht3 : Below wt.heap.size wt w3)
    (hos : w1.heap.size ≤ os) (ho : w3.ownsRow os 78 11 ov objs.length (objsV objs)) (hsep : ∀ k, ov.ownBlock = some k → k < ts ∨ wt.heap.size ≤ k) (n1 : 1 ≤ n) (n4 : n ≤ 4) (hT : Crd.tableE T = 0) :
    ∃ G, StoreAt (w3.alloc (.cells #[v, .int .i64 n, ov, .map (some mb)] 67)) w.heap.size w3.heap.size G ⟨T, n, objs, L⟩ := by
  classical
  have s1 := h1.size
  have s3 := h3.size
  have st := ht3.size
  have ha := below_new w3 (.cells #[v, .int .i64 n, ov, .map (some mb)] 67)
  have hq := (hp.later h3).later ha
  have hol := fun k e => World.ownsRow.lt ho k e
  have htg : ∀ k, tag k ≠ .no → (if k = w3.heap.size then Tag.head else if ov.ownBlock = some k then .row else if ts ≤ k ∧ k < wt.heap.size then .tab else tag k) = tag k := fun k hk => by
    have h2 : k < w1.heap.size := Classical.byContradiction fun hn => hk (hp.high k (by omega))
    rw [if_neg (by omega), if_neg (fun e => by have := (hol k e).1; omega), if_neg (by omega)]
  refine ⟨⟨v, ov, mb, pb, pg, fun k => if k = w3.heap.size then .head else if ov.ownBlock = some k then .row else if ts ≤ k ∧ k < wt.heap.size then .tab else tag k⟩, heap_alloc_new w3 _, ?_, ?_, ?_, fun s z ok => hq.pi s z ok, if_pos rfl, ?_, fun k e => ?_, fun s z ok => ?_, fun s z k ok e => ?_, fun k hk => ?_, fun k hk => ?_, n1, n4, hT⟩
  · intro W' hW
    refine ht W' fun k hk1 hk2 => ?_
    have e := hW k (by
      show (if _ then _ else _) = _
      rw [if_neg (by omega), if_neg (fun e => by rcases hsep k e with h | h <;> omega), if_pos ⟨hk1, hk2⟩])
    rw [e, ha.block k (by omega), ht3.block k hk2]
  · exact own_mono (own11_later ho fun k e => ha.block k (hol k e).2) (by omega)
  · exact ⟨D, hq.mp.mono (by omega), Nat.le_trans hq.mp.size_le (by omega), hq.md.mapD⟩
  · show (if _ then _ else _) = _; rw [htg mb (by rw [hp.tm]; simp)]; exact hp.tm
  · show (if _ then _ else _) = _
    rw [if_neg (by have := (hol k e).2; omega), if_pos e]
  · show (if _ then _ else _) = _; rw [htg _ (by rw [hp.tp s z ok]; simp)]; exact hp.tp s z ok
  · show (if _ then _ else _) = _; rw [htg _ (by rw [hp.tg s z k ok e]; simp)]; exact hp.tg s z k ok e
  · by_cases e : k = w3.heap.size
    · omega
    · have hk : (if k = w3.heap.size then Tag.head else if ov.ownBlock = some k then .row else if ts ≤ k ∧ k < wt.heap.size then .tab else tag k) ≠ .no := hk
      rw [if_neg e] at hk
      by_cases e1 : ov.ownBlock = some k
      · have := (hol k e1).1; omega
      · rw [if_neg e1] at hk
        by_cases e2 : ts ≤ k ∧ k < wt.heap.size
        · omega
        · rw [if_neg e2] at hk
          exact hp.low k hk
  · have hk : (w3.alloc _).heap.size ≤ k := hk
    simp at hk
    show (if _ then _ else _) = _
    rw [if_neg (by omega), if_neg (fun e => by have := (hol k e).2; omega), if_neg (by omega)]
    exact hp.high k (by omega)
end Go.Proofs.YtdlkdilgjmmlaaaDoor
namespace Go.Proofs.YtdlkdilgjmmlaaaDoor
open Go.RowKit Go.Maps

theorem PInv.step2 {w w2 w3 : World} {lo mb N s z b : Nat} {g : Option Nat} {okp : Nat → Nat → Prop} {D : DataW Unit} {pb : Nat → Nat → Nat} {pg : Nat → Nat → Option Nat} {L : Nat → Nat → List Int} {tag : Nat → Tag} (h : PInv w lo mb N okp D pb pg L tag)
    (hs : s ≤ 1000) (hz : z ≤ 1000) (hlo : lo ≤ w.heap.size) (hb : Below w.heap.size w w2) (hp : PileAt w2 w.heap.size b g (L s z)) (hg : w2.grownBy w3 (some mb)) (hm : w3.ownsMap Tryd.prog 96 ptrElem mb (N + 1) (D.put (kl s z) (.lit (.int .i64 (b : Int))))) (hD : IsMap D) :
    ∃ tag', (∀ k, k < w.heap.size → tag' k = tag k) ∧ PInv w3 lo mb (N + 1) (fun s' z' => okp s' z' ∨ (s' = s ∧ z' = z)) (D.put (kl s z) (.lit (.int .i64 (b : Int)))) (upd pb s z b) (upd pg s z g) L tag' := by
  classical
  have hbl : w.heap.size ≤ b := by obtain ⟨v, _, _, h3, _⟩ := hp; exact h3
  have h2 := h.later hb
  have hkeep : ∀ k, k < w2.heap.size → tag k ≠ .map → w3.heap[k]? = w2.heap[k]? := fun k hk ht => hg.block k hk (fun e => by injection e with e; exact ht (e ▸ h.tm))
  have hno : ∀ k, w.heap.size ≤ k → tag k = .no := h.high
  have ht : ∀ k, tag k ≠ .no → (if k = b then Tag.pile s z else if g = some k then Tag.prow s z else tag k) = tag k := fun k hk => by
    have hk1 : k < w.heap.size := Classical.byContradiction fun hn => hk (hno k (by omega))
    rw [if_neg (by omega), if_neg (fun e => by have := (hp.row k e).1; omega)]
  refine ⟨fun k => if k = b then .pile s z else if g = some k then .prow s z else tag k, fun k hk => ?_, hm, h.md.put hD s z b hs hz, fun s' z' ok => ?_, ?_, fun s' z' ok => ?_, fun s' z' k ok e => ?_, fun k hk => ?_, fun k hk => ?_⟩
  · show (if _ then _ else _) = _
    rw [if_neg (by omega), if_neg (fun e => by have := (hp.row k e).1; omega)]
  · by_cases e : s' = s ∧ z' = z
    · obtain ⟨rfl, rfl⟩ := e
      rw [upd_same, upd_same]
      have hk : ∀ k, w.heap.size ≤ k → k < w2.heap.size → w3.heap[k]? = w2.heap[k]? := fun k h1 h2 => hkeep k h2 (by rw [hno k h1]; simp)
      have hq := pile_kept hp (hk b hbl hp.lt) fun k e => hk k (hp.row k e).1 (hp.row k e).2.1
      exact hq.mono hlo
    · have ok := ok.resolve_right e
      rw [upd_other _ _ e, upd_other _ _ e]
      refine pile_kept (h2.pi s' z' ok) (hkeep _ (h2.pi s' z' ok).lt (by rw [h.tp s' z' ok]; simp)) fun k e => hkeep k ((h2.pi s' z' ok).row k e).2.1 (by rw [h.tg s' z' k ok e]; simp)
  · rw [ht mb (by rw [h.tm]; simp)]; exact h.tm
  · by_cases e : s' = s ∧ z' = z
    · obtain ⟨rfl, rfl⟩ := e
      rw [upd_same, if_pos rfl]
    · have ok := ok.resolve_right e
      rw [upd_other _ _ e, ht _ (by rw [h.tp s' z' ok]; simp)]; exact h.tp s' z' ok
  · by_cases e2 : s' = s ∧ z' = z
    · obtain ⟨rfl, rfl⟩ := e2
      rw [upd_same] at e
      rw [if_neg (hp.row k e).2.2, if_pos e]
    · have ok := ok.resolve_right e2
      rw [upd_other _ _ e2] at e
      rw [ht _ (by rw [h.tg s' z' k ok e]; simp)]; exact h.tg s' z' k ok e
  · by_cases e : k = b
    · omega
    · by_cases e2 : g = some k
      · have := (hp.row k e2).1; omega
      · rw [if_neg e, if_neg e2] at hk; exact h.low k hk
  · have hsz := hg.size
    have hsz2 := hb.size
    rw [if_neg (fun e => by have := hp.lt; omega), if_neg (fun e => by have := (hp.row k e).2.1; omega)]
    exact h.high k (by omega)
theorem PInv.walk {w w' : World} {lo mb N r : Nat} {okp : Nat → Nat → Prop} {D : DataW Unit} {pb : Nat → Nat → Nat} {pg : Nat → Nat → Option Nat} {L : Nat → Nat → List Int} {tag : Nat → Tag} (h : PInv w lo mb N okp D pb pg L tag) (hg : w.grownBy w' (some r)) (ht : tag r = .no) :
    PInv w' lo mb N okp D pb pg L tag := by
  have keep : ∀ k, k < w.heap.size → tag k ≠ .no → w'.heap[k]? = w.heap[k]? := fun k hk hn => hg.block k hk (fun e => by injection e with e; exact hn (e ▸ ht))
  refine ⟨?_, h.md, fun s z ok => ?_, h.tm, h.tp, h.tg, h.low, fun k hk => h.high k (Nat.le_trans hg.size hk)⟩
  · obtain ⟨es, clock, he, q⟩ := h.mp
    exact ⟨es, clock, (keep mb (Array.getElem?_eq_some_iff.1 he).1 (by rw [h.tm]; simp)).trans he, q⟩
  · have hp := h.pi s z ok
    exact pile_kept hp (keep _ hp.lt (by rw [h.tp s z ok]; simp)) fun k e => keep k (hp.row k e).2.1 (by rw [h.tg s z k ok e]; simp)
def RetCopyS (w : World) (S : StoreL) (e : Ending) (w' : World) : Prop := ∃ b G, e = .returned (.pointer (some ⟨b, 0, none⟩)) ∧ StoreAt w' w.heap.size b G S ∧ Below w.heap.size w w'
/-- What the loop over the piles holds. -/
structure CopyI (w wr : World) (S : StoreL) (D : DataW Unit) (left : Lit → Bool) (cnt : Nat) (okp : Nat → Nat → Prop) (tag : Nat → Tag) (N : Nat) : Prop where
  room : N + cnt ≤ 100
  sub : ∀ x, left x = true → Maps.has D x = true
  all : ∀ s z, okK S.seats s z → okp s z ∨ left (kl s z) = true
  only : ∀ s z, okp s z → okK S.seats s z
  tr : tag (w.heap.size + 1) = .no
  bel : Below w.heap.size w wr
  size : w.heap.size + 2 ≤ wr.heap.size
set_option maxRecDepth 100000 in
set_option maxHeartbeats 16000000 in
theorem copyS_any {w : World} {lo b : Nat} {G : Ghost} {S : StoreL} (h : StoreAt w lo b G S) (hS : ShortS S) : Calls Tryd.prog 37 #[.pointer (some ⟨b, 0, none⟩)] w (RetCopyS w S) := by
  have hmm := @run_makeMap Tryd.prog
  obtain ⟨D, ho, hsd, hdd⟩ := h.mp
  have HH := Lib.hid h
  have HSS := Lib.hid hS
  have HD := Lib.hid hdd
  have HSD := Lib.hid hsd
  have hw1 := below_new w (.map #[] 0)
  have HB1 := Lib.hid hw1
  have hs1 : (w.alloc (.map #[] 0)).heap.size = w.heap.size + 1 := World.size_alloc _ _
  have c3 : (w.alloc (.map #[] 0)).cell? ⟨b, 3, none⟩ = some (.map (some G.mb)) := by rw [cell_of_row _ b 3 _ _ _ (h.later hw1).hd]; rfl
  have HO1 : Hid ((w.alloc (.map #[] 0)).ownsMap Tryd.prog 96 ptrElem G.mb 1000 D) := Lib.hid (by
    obtain ⟨es, clock, he, q⟩ := ho
    exact ⟨es, clock, (hw1.block _ (Array.getElem?_eq_some_iff.1 he).1).trans he, q⟩)
  have HP0 : Hid (PInv (w.alloc (.map #[] 0)) w.heap.size w.heap.size 0 (fun _ _ => False) (.map []) (fun _ _ => 0) (fun _ _ => none) S.pl (fun k => if k = w.heap.size then .map else .no)) := Lib.hid (by
    have hm := World.ownsMap_made w Tryd.prog 96 ptrElem
    refine ⟨hm, ⟨fun s z _ _ => ?_, fun s z h => h.elim, fun x hk => ?_, fun s z h => h.elim⟩, fun s z h => h.elim, if_pos rfl, fun s z h => h.elim, fun s z k h => h.elim, fun k hk => ?_, fun k hk => if_neg (by rw [hs1] at hk; omega)⟩
    · have e : Maps.has (H := Unit) (.map []) (kl s z) = false := rfl
      rw [e]
      constructor
      · intro h; cases h
      · rintro ⟨_, _, h⟩; exact h.elim
    · have e : Maps.has (H := Unit) (.map []) x = false := rfl
      rw [e] at hk; cases hk
    · by_cases e : k = w.heap.size
      · omega
      · rw [if_neg e] at hk; exact absurd rfl hk)
  have HGM := Lib.hid (show G.mb < w.heap.size from h.mp.lt)
  clear h hS ho hsd hdd hw1
  go_enter Tryd.func37, Tryd.ntmps37
  go_wp2_with (at_range; refine wpList_range_own _ rfl _ 63 rfl 96 75 place_keyed Tryd.underlying63 ptrElem G.mb 1000 D rfl HO1.out ?_; intro w4 hrg4 hg4 hs4)
  rw [hs1] at hrg4 ⊢
  have HP4 := Lib.hid (HP0.out.later ⟨hg4.os, hg4.tape, hg4.output, hg4.size, fun k hk => hg4.block k hk (by simp)⟩)
  have HI4 : Hid (CopyI w w4 S D (Maps.has D) (Maps.size D) (fun _ _ => False) (fun k => if k = w.heap.size then .map else .no) 0) := Lib.hid (by
    refine ⟨by have := HSD.out; omega, fun x hx => hx, fun s z ok => .inr ?_, fun s z h => h.elim, if_neg (by omega), ?_, by rw [hs4, hs1]; exact Nat.le_refl _⟩
    · obtain ⟨ws, wz⟩ := ok.wf HH.out.n4
      rw [HD.out.has _ _ ws wz]
      exact decide_eq_true (okI_nat.2 ok)
    · exact stepB HB1.out ⟨hg4.os, hg4.tape, hg4.output, hg4.size, fun k hk => hg4.block k hk (by simp)⟩)
  clear hg4 hs4 hs1 HP0 HO1 hmm c3
  have HRG := Lib.hid hrg4
  clear hrg4
  go_frame
  go_loopw [5] (fun _ wr => ∃ (left : Lit → Bool) (cnt N : Nat) (okp : Nat → Nat → Prop) (D' : DataW Unit) (pb' : Nat → Nat → Nat) (pg' : Nat → Nat → Option Nat) (tag : Nat → Tag), wr.ranges Tryd.prog 96 ptrElem G.mb (w.heap.size + 1) 1000 D left cnt ∧
      Hid (PInv wr w.heap.size w.heap.size N okp D' pb' pg' S.pl tag) ∧ Hid (CopyI w wr S D left cnt okp tag N)) (fun _ wr => wr.rangeLeft G.mb (w.heap.size + 1))
  case atStart => exact ⟨_, _, 0, _, _, _, _, _, HRG.out, HP4, HI4⟩
  case round =>
    obtain ⟨left, cnt, N, okp, D', pb', pg', tag, hrg, HPI, HCI⟩ := hrel
    go_wp2_with (at_next; refine wpList_next_places _ rfl _ rfl G.mb (w.heap.size + 1) 1000 S.seats HH.out.n4 D G.pb HD.out left cnt HCI.out.sub rfl hrg ?_ ?_)
    · intro _ hl0
      have hok : okp = okK S.seats := by
        funext s z
        apply propext
        refine ⟨HCI.out.only s z, fun ok => ?_⟩
        rcases HCI.out.all s z ok with h | h
        · exact h
        · rw [hl0] at h; cases h
      subst hok
      have HBE := Lib.hid HCI.out.bel
      have HSE := Lib.hid HCI.out.size
      have HNE := Lib.hid (show N ≤ 100 by have := HCI.out.room; omega)
      have hst := HH.out.later HCI.out.bel
      have htab := hst.tab.is
      have hob := hst.ob
      obtain ⟨ta, tc, htv⟩ := htab.form
      obtain ⟨xa, xc, hov⟩ := own_form hob
      have c0 : wr.cell? ⟨b, 0, none⟩ = some (.slice ta S.T.length tc) := by rw [cell_of_row wr b 0 _ _ _ hst.hd, ← htv]; rfl
      have c1 : wr.cell? ⟨b, 1, none⟩ = some (.int .i64 S.seats) := by rw [cell_of_row wr b 1 _ _ _ hst.hd]; rfl
      have c2 : wr.cell? ⟨b, 2, none⟩ = some (.slice xa S.objs.length xc) := by rw [cell_of_row wr b 2 _ _ _ hst.hd, ← hov]; rfl
      rw [htv] at htab
      rw [hov] at hob
      have HOW : Hid (∀ w', Below wr.heap.size wr w' → Calls Tryd.prog 29 #[.slice ta S.T.length tc] w' (RetOwn w' S.T)) := Lib.hid fun w' hb => own_any (htab.later hb) HH.out.ok
      have HCL : Hid (∀ w', Below wr.heap.size wr w' → Calls Tryd.prog 57 #[.slice xa S.objs.length xc] w' (RetObjs w' S.objs)) := Lib.hid fun w' hb => clone_objs (own11_later hob fun k e => hb.block k (World.ownsRow.lt hob k e).2) HSS.out.1
      have HPE := Lib.hid HPI.out
      obtain ⟨wE, rfl⟩ : ∃ wE, wE = wr := ⟨_, rfl⟩
      clear hl0 hst htab hob htv hov hrg HPI HCI
      go_wp2
      go_region_law ((first
        | (go_simp; go_at_call 29; refine (HOW.out _ (below_drewN (Below.refl _ _) _)).mono ?_; rintro e w7 ⟨v7, rfl, ht7, hb7⟩; obtain ⟨va7, vc7, rfl⟩ := (ht7 w7 fun _ _ _ => rfl).form; have hb7' := stepB (below_drewN (Below.refl wE.heap.size wE) _) hb7; have c17 := cell_stays hb7' c1; have c27 := cell_stays hb7' c2; dsimp only)
        | (go_simp; go_at_call 57; refine (HCL.out _ hb7').mono ?_; rintro e w8 ⟨v8, rfl, ho8, hb8⟩; obtain ⟨va8, vc8, rfl⟩ := own_form ho8; have hb8' := stepB hb7' hb8; have c18 := cell_stays hb8' c1; have HRES : Hid (∃ wt ts os, wE.heap.size ≤ ts ∧ TabFrom wt ts (.slice va7 S.T.length vc7) S.T ∧ Below wE.heap.size wE w8 ∧ Below wt.heap.size wt w8 ∧ wE.heap.size ≤ os ∧ w8.ownsRow os 78 11 (.slice va8 S.objs.length vc8) S.objs.length (objsV S.objs) ∧ ∀ k, (Value.slice va8 S.objs.length vc8).ownBlock = some k → k < ts ∨ wt.heap.size ≤ k) := Lib.hid ⟨w7, _, _, (below_drewN (Below.refl wE.heap.size wE) _).size, ht7, hb8', hb8, hb7'.size, ho8, fun k e => .inr (World.ownsRow.lt ho8 k e).1⟩; dsimp only)
        | (go_simp; go_at_call 57; refine (HCL.out _ (below_drewN (Below.refl _ _) _)).mono ?_; rintro e w7 ⟨v8, rfl, ho7, hb7⟩; obtain ⟨va8, vc8, rfl⟩ := own_form ho7; have hb7' := stepB (below_drewN (Below.refl wE.heap.size wE) _) hb7; have c17 := cell_stays hb7' c1; have c07 := cell_stays hb7' c0; dsimp only)
        | (go_simp; go_at_call 29; refine (HOW.out _ hb7').mono ?_; rintro e w8 ⟨v7, rfl, ht8, hb8⟩; obtain ⟨va7, vc7, rfl⟩ := (ht8 w8 fun _ _ _ => rfl).form; have hb8' := stepB hb7' hb8; have c18 := cell_stays hb8' c1; have HRES : Hid (∃ wt ts os, wE.heap.size ≤ ts ∧ TabFrom wt ts (.slice va7 S.T.length vc7) S.T ∧ Below wE.heap.size wE w8 ∧ Below wt.heap.size wt w8 ∧ wE.heap.size ≤ os ∧ w8.ownsRow os 78 11 (.slice va8 S.objs.length vc8) S.objs.length (objsV S.objs) ∧ ∀ k, (Value.slice va8 S.objs.length vc8).ownBlock = some k → k < ts ∨ wt.heap.size ≤ k) := Lib.hid ⟨w8, _, _, hb7'.size, ht8, hb8', Below.refl _ _, (below_drewN (Below.refl wE.heap.size wE) _).size, own11_later ho7 (fun k e => hb8.block k (World.ownsRow.lt ho7 k e).2), fun k e => .inl (World.ownsRow.lt ho7 k e).2⟩; dsimp only)
        | (trace_state; fail "arm")))
      all_goals
        go_wp2
        go_ret
        obtain ⟨wt, ts, os, k1, k2, k3, k4, k5, k6, k7⟩ := HRES.out
        obtain ⟨G', hG⟩ := store_parts HBE.out HPE.out HNE.out k1 k2 k3 k4 k5 k6 k7 HH.out.n1 HH.out.n4 HH.out.ok
        exact ⟨_, G', rfl, hG, below_alloc2 (stepB HBE.out k3) _⟩
    · intro s z w5 cnt5 ok hls hrg5 hlt5 hg5 hs5 hen
      have HOK := Lib.hid ok
      have HLS := Lib.hid hls
      have HRG5 := Lib.hid hrg5
      have HRG0 := Lib.hid hrg
      have HP5 := Lib.hid (HPI.out.walk hg5 HCI.out.tr)
      have HB5 := Lib.hid (show Below w.heap.size w w5 from HCI.out.bel.grown hg5 HCI.out.bel.size (fun k e => by injection e with e; omega))
      have HS5 := Lib.hid (show w.heap.size + 2 ≤ w5.heap.size by have := HCI.out.size; omega)
      have HLT := Lib.hid hlt5
      have HCP : Hid (∀ w', Below w5.heap.size w5 w' → Calls Tryd.prog 56 #[.pointer (some ⟨G.pb s z, 0, none⟩)] w' (RetCopy w' (S.pl s z))) := Lib.hid fun w' hb => copy_any ((HH.out.later (stepB HB5.out hb)).pi s z HOK.out) (HSS.out.2 s z HOK.out)
      have hkey := place_key (HOK.out.wf HH.out.n4).1 (HOK.out.wf HH.out.n4).2
      have HUPD : Hid (∀ w' b', Below w5.heap.size w5 w' → ∃ w'', (Instr.mapUpdate 63 (.map (some w.heap.size)) (.agg #[.int .i64 s, .int .i64 z]) (.pointer (some ⟨b', 0, none⟩))).run Tryd.prog w' = .ok () w'' ∧
          w''.ownsMap Tryd.prog 96 ptrElem w.heap.size (N + 1) (D'.put (kl s z) (.lit (.int .i64 (b' : Int)))) ∧ w'.grownBy w'' (some w.heap.size)) := Lib.hid fun w' b' hb =>
        (HP5.out.later hb).mp.update place_keyed Tryd.underlying63 (by have := HCI.out.room; unfold maxLen; omega) hkey (ptrElem_ptr b')
      have kp : ∀ j, (w5.alloc (.cells #[.int .i64 s, .int .i64 z] 96)).cell? ⟨w5.heap.size, j, none⟩ = (#[.int .i64 s, .int .i64 z] : Array Value)[j]? := fun j => cell_of_row _ _ j _ _ _ (heap_alloc_new w5 _)
      have kp0 : (w5.alloc (.cells #[.int .i64 s, .int .i64 z] 96)).cell? ⟨w5.heap.size, 0, none⟩ = some (.int .i64 s) := kp 0
      have kp1 : (w5.alloc (.cells #[.int .i64 s, .int .i64 z] 96)).cell? ⟨w5.heap.size, 1, none⟩ = some (.int .i64 z) := kp 1
      clear hkey ok hls hrg5 hlt5 hg5 hs5 hrg kp
      go_wp2
      go_region_law ((first
        | (go_simp; go_at_call 56; refine (HCP.out _ (below_drewN (below_new w5 _) _)).mono ?_; rintro e w7 ⟨b', g', rfl, hp7, hb7⟩; have hb7' := stepB (below_drewN (below_new w5 _) _) hb7; obtain ⟨w9, hrun, hown9, hgrow9⟩ := HUPD.out w7 b' hb7'; have HBX := Lib.hid hb7'; have HPX := Lib.hid hp7; have kp0' := cell_stays (stepB (below_drewN (Below.refl (w5.alloc (.cells #[.int .i64 s, .int .i64 z] 96)).heap.size _) _) hb7) kp0; have kp1' := cell_stays (stepB (below_drewN (Below.refl (w5.alloc (.cells #[.int .i64 s, .int .i64 z] 96)).heap.size _) _) hb7) kp1; dsimp only)
        | (trace_state; fail "arm")))
      all_goals
        have hg59 := (grown_row HBX.out (some w.heap.size)).trans hgrow9
        have HRG9 := Lib.hid (HRG5.out.kept hg59 (by have := HGM.out; intro e; injection e with e; omega) (by intro e; injection e with e; omega))
        have hs1000 : s ≤ 1000 ∧ z ≤ 1000 := by have := HOK.out; have := HH.out.n4; obtain ⟨k1, k2, k3, _⟩ := HOK.out; omega
        obtain ⟨tag', htg, hst⟩ := HP5.out.step2 (s := s) (z := z) hs1000.1 hs1000.2 (by have := HS5.out; omega) HBX.out (HPX.out.mono (by simp)) hgrow9 hown9 HP5.out.mp.isMap
        have HST := Lib.hid hst
        have HCI9 : Hid (CopyI w w9 S D (fun x => left x && !x.sameKey (kl s z)) cnt5 (fun s' z' => okp s' z' ∨ (s' = s ∧ z' = z)) tag' (N + 1)) := Lib.hid (by
          have hc := HCI.out
          obtain ⟨ws, wz⟩ := HOK.out.wf HH.out.n4
          refine ⟨by have := hc.room; have := HLT.out; omega, fun x hx => hc.sub x (by rw [Bool.and_eq_true] at hx; exact hx.1), fun s' z' ok' => ?_, fun s' z' h => ?_, ?_, ?_, ?_⟩
          · by_cases e : s' = s ∧ z' = z
            · exact .inl (.inr e)
            · rcases hc.all s' z' ok' with h | h
              · exact .inl (.inl h)
              · obtain ⟨ws', wz'⟩ := ok'.wf HH.out.n4
                have hne : kl (s' : Int) (z' : Int) ≠ kl (s : Int) (z : Int) := kl_ne ws' wz' ws wz (by omega)
                exact .inr (by rw [h, sameKey_ne hne]; rfl)
          · rcases h with h | ⟨rfl, rfl⟩
            · exact hc.only s' z' h
            · exact HOK.out
          · rw [htg _ (by have := HS5.out; omega)]; exact hc.tr
          · exact (stepB HB5.out HBX.out).grown hgrow9 (stepB HB5.out HBX.out).size (fun k e => by injection e with e; omega)
          · have h1 := HBX.out.size; have h2 := hgrow9.size; have h3 := HS5.out; omega)
        clear hg59 hst htg hown9 hgrow9
        go_wp2
        go_roundw
        case rel => exact ⟨_, _, _, _, _, _, _, _, HRG9.out, HST, HCI9⟩
        case measure => rw [HRG9.out.left_eq, HRG0.out.left_eq]; exact HLT.out
end Go.Proofs.YtdlkdilgjmmlaaaDoor
namespace Go.Proofs.YtdlkdilgjmmlaaaDoor
open Go.RowKit
theorem grown_of {A w w' : World} {r : Option Nat} (h : Below A.heap.size A w) (hg : w.grownBy w' r) (hr : ∀ k, r = some k → A.heap.size ≤ k) : Below A.heap.size A w' := h.grown hg h.size hr
end Go.Proofs.YtdlkdilgjmmlaaaDoor
namespace Go.Proofs.YtdlkdilgjmmlaaaDoor
open Go.RowKit Go.Maps

def eqO (x y : ObjL) : Bool := x.id == y.id && (x.card == y.card && (x.owner == y.owner && (x.zone == y.zone && (x.tapped == y.tapped && (x.sick == y.sick && (x.hurt == y.hurt && (x.count == y.count && (x.boost == y.boost && (x.block == y.block && (x.attacks == y.attacks))))))))))
theorem eqO_iff (x y : ObjL) : eqO x y = true ↔ x = y := by
  unfold eqO
  obtain ⟨x0, x1, x2, x3, x4, x5, x6, x7, x8, x9, x10⟩ := x
  obtain ⟨y0, y1, y2, y3, y4, y5, y6, y7, y8, y9, y10⟩ := y
  simp only [Bool.and_eq_true, beq_iff_eq, ObjL.mk.injEq]
instance : DecidableEq ObjL := fun x y => decidable_of_iff (eqO x y = true) (eqO_iff x y)
end Go.Proofs.YtdlkdilgjmmlaaaDoor
namespace Go.Proofs.YtdlkdilgjmmlaaaDoor
open Go.RowKit Go.Maps

end Go.Proofs.YtdlkdilgjmmlaaaDoor
namespace Go.Proofs.YtdlkdilgjmmlaaaDoor
open Go.RowKit Go.Maps

end Go.Proofs.YtdlkdilgjmmlaaaDoor

/- What a copy of a store wants (layer 6): slices.Clone of objects; the step of a range over a map of piles; a store out of its parts. A store's copy (layer 6). The library's Values, AppendSeq, Collect and Sort at numbers. Two stores that have the same are one (layer 6): slices.Equal of objects, cards, piles; Same. Two stores that have the same are one (layer 6): cards, piles, maps of piles. Two stores that have the same are one (layer 6): maps of piles, stores. -/
import Derived.Test.YtjgjhfeopmakaaaGreatJm
import Derived.Test.YtjgjhfeopmakaaaGreatFs
import Derived.Deep.AppendLies
import Derived.Maps.RangeWalk
import Derived.Deep.Cut
import Derived.Test.YtjgjhfeopmakaaaGreatHl
import Derived.RangeFuncFrom
import Derived.Maps.AppendAt
import Derived.Deep.RegionHeld3
namespace Go.Proofs.YtjgjhfeopmakaaaGreat
open Go.RowKit Go.Maps
theorem own_mono {w : World} {lo lo' sz n : Nat} {t : TypeId} {v : Value} {xs : List Value} (h : w.ownsRow lo t sz v n xs) (hl : lo' ≤ lo) : w.ownsRow lo' t sz v n xs := by
  refine ⟨h.1, ?_⟩
  rcases h.2 with h0 | ⟨g, cap, cur, e, hb, r⟩
  · exact .inl h0
  · exact .inr ⟨g, cap, cur, e, Nat.le_trans hl hb, r⟩
def RetObjs (w : World) (l : List ObjL) (e : Ending) (w' : World) : Prop := ∃ v, e = .returned v ∧ w'.ownsRow w.heap.size 30 11 v l.length (objsV l) ∧ Below w.heap.size w w'
theorem grown_row {w w' : World} (hb : Below w.heap.size w w') (row : Option Nat) : w.grownBy w' row := ⟨hb.os, hb.tape, hb.output, hb.size, fun k hk _ => hb.block k hk⟩

theorem append_zero (g : Nat) (xa : Option Addr) (xc : Nat) (w : World) : (Builtin.append_ #[75, 75] 75 #[.slice (some ⟨g, 0, none⟩) 0 0, .slice xa 0 xc]).run Tryz.prog w = .ok (.slice (some ⟨g, 0, none⟩) 0 0) w := by
  obtain ⟨i0, hi0, hz0, hz1, hz2⟩ := info_parts info_obj
  cases xa <;> simp [Builtin.append_, run_underlying Tryz.underlying75, sizeOf, typeInfo, hi0, Builtin.lenOf, Builtin.firstCells, loadCells, loadCellsFrom, storeCells]
theorem nil_obj (W : World) : (binOp .eql 75 (.slice none 0 0) (.slice none 0 0)).run Tryz.prog W = .ok (.bool true) W := by kernel_rfl
theorem some_obj (a : Addr) (n c : Nat) (W : World) : (binOp .eql 75 (.slice (some a) n c) (.slice none 0 0)).run Tryz.prog W = .ok (.bool false) W := by kernel_rfl
theorem objsV_one (l : List ObjL) : ∀ u ∈ objsV l, u.oneCell' = true := by
  intro u hu
  simp only [objsV, List.mem_flatMap] at hu
  obtain ⟨o, _, hu⟩ := hu
  exact ocells_one o u hu
set_option maxRecDepth 100000 in
set_option maxHeartbeats 2000000 in
theorem clone_objs {w : World} {lo : Nat} {v : Value} {l : List ObjL} (h : w.ownsRow lo 30 11 v l.length (objsV l)) (hl : l.length ≤ 1000) :
    Calls Tryz.prog 59 #[v] w (RetObjs w l) := by
  obtain ⟨i0, hi0, hz0, hz1, hz2⟩ := info_parts info_obj
  rcases h.2 with ⟨rfl, h0⟩ | ⟨g, cap, cur, rfl, hb, hg, hn, hm, hs, ht⟩
  · obtain rfl := List.eq_nil_of_length_eq_zero h0
    clear h
    have hq := nil_obj
    go_enter Tryz.func59, Tryz.ntmps59
    go_wp2
    go_ret
    exact ⟨_, rfl, World.ownsRow_nil _ _ _ _, Below.refl _ _⟩
  · by_cases h0 : l.length = 0
    · obtain rfl := List.eq_nil_of_length_eq_zero h0
      have ha := append_zero w.heap.size (some ⟨g, 0, none⟩) cap
      clear h hb hg hn hm hs ht
      have hq := some_obj
      go_enter Tryz.func59, Tryz.ntmps59
      go_wp2_with (at_builtin; refine Crd.wpList_append_run rfl _ _ rfl rfl rfl (ha _) ?_)
      go_ret
      exact ⟨_, rfl, ⟨rfl, .inr ⟨w.heap.size, 0, #[], rfl, Nat.le_refl _, heap_alloc_new w _, Nat.le_refl _, Nat.zero_le _, rfl, rfl⟩⟩, below_new w _⟩
    · have HNW : Hid (∀ j u, (objsV l)[j]? = some u → (w.alloc (.cells #[] 30)).cell? ((⟨g, 0, none⟩ : Addr).add j) = some u) := Lib.hid fun j u hu => by
        have hj : j < l.length * 11 := by
          have := (List.getElem?_eq_some_iff.1 hu).1
          rwa [objsV_len] at this
        rw [show (⟨g, 0, none⟩ : Addr).add j = ⟨g, j, none⟩ by simp [Addr.add]; omega]
        refine cell_stays (below_new w _) ?_
        rw [cell_of_row w g j _ _ (0, 0) hg, ← hu, ← ht, List.getElem?_take_of_lt hj, Array.getElem?_toList]
      have HTL := Lib.hid (objsV_len l)
      have hpos : 0 < l.length := by omega
      have HW0 := Lib.hid (show (w.alloc (.cells #[] 30)).ownsRow w.heap.size 30 11 (.slice (some ⟨w.heap.size, 0, none⟩) 0 0) 0 [] from ⟨rfl, .inr ⟨w.heap.size, 0, #[], rfl, Nat.le_refl _, heap_alloc_new w _, Nat.le_refl _, Nat.zero_le _, rfl, rfl⟩⟩)
      clear h hb hg hn hm hs ht h0
      have hq := some_obj
      go_enter Tryz.func59, Tryz.ntmps59
      go_wp2_with (at_builtin; refine wpList_append_lies _ rfl _ _ 75 rfl w.heap.size 30 i0 _ 11 80 Tryz.underlying75 hi0 hz0 hz1 hz2 rfl (by decide) (.slice (some ⟨w.heap.size, 0, none⟩) 0 0) 0 [] rfl HW0.out ⟨g, 0, none⟩ l.length cap (objsV l) rfl HTL.out HNW.out (objsV_one _) hpos (by unfold maxLen; omega) (by omega) (by simp) _ rfl ?_)
      intro g' cap' w6 hown hgrow hat hlt6
      have HO := Lib.hid hown
      have HB := Lib.hid (show Below w.heap.size w w6 from (below_new w _).grown hgrow (by simp) (fun c e => by have e1 : w.heap.size = c := Option.some.inj e; omega))
      clear hown hgrow hat hlt6 hi0 hz0 hz1 hz2
      go_wp2
      go_ret
      exact ⟨_, rfl, HO.out, HB.out⟩
set_option maxRecDepth 100000 in
/-- The step of a range over a map of piles. -/
theorem wpList_next_places (w : World) {ops : Array Oper} {rest : List Oper} {o : Oper} {a : Act} {Q : Exit → Act → World → Prop} (hg : o.guard = none) (it : Operand) (hop : o.op = Op.next it false) (b r n q : Nat) (hq : q ≤ 4) (D : DataW Unit) (pb : Nat → Nat → Nat) (hd : MapD D q pb) (left : Lit → Bool) (cnt : Nat)
    (hleft : ∀ x, left x = true → Maps.has D x = true)
    (hit : a.eval it = .pointer (some ⟨r, 0, none⟩)) (h : w.ranges Tryz.prog 110 ptrElem b r n D left cnt)
    (hDone : cnt = 0 → (∀ x, left x = false) → wpList Tryz.prog ops Q rest (a.put o.dst (.tuple #[.bool false])) w)
    (hMore : ∀ (s z : Nat) (w' : World) (cnt' : Nat), okK q s z → left (kl s z) = true → w'.ranges Tryz.prog 110 ptrElem b r n D (fun x => left x && !x.sameKey (kl s z)) cnt' → cnt' < cnt →
      w.grownBy w' (some r) → w'.heap.size = w.heap.size → (Instr.entry (.pointer (some ⟨r, 0, none⟩))).run Tryz.prog w' = .ok (.tuple #[.agg #[.int .i64 s, .int .i64 z], .pointer (some ⟨pb s z, 0, none⟩)]) w' →
      wpList Tryz.prog ops Q rest (a.put o.dst (.tuple #[.bool true, .agg #[.int .i64 s, .int .i64 z], .pointer (some ⟨pb s z, 0, none⟩)])) w') :
    wpList Tryz.prog ops Q (o :: rest) a w := by
  refine wpList_plain hg fun K' hK' => ?_
  unfold Oper.wp
  rcases h.next place_keyed o.type with ⟨h0, hl, hrun⟩ | ⟨key, v, x, y, w', cnt', hkey, hlk, hv, hat, hrun, hrg, hlt, hgr, hsz, hen⟩
  · simp [execOp, hop, hit, hrun, Result.andThen]
    exact hK' _ _ (hDone h0 hl)
  · obtain ⟨s, z, ok, rfl⟩ := hd.only x (hleft x hlk)
    obtain ⟨ws, wz⟩ := ok.wf hq
    have hkk := place_keyed.inj hkey (place_key ws wz)
    subst hkk
    have hy := hat (.lit (.int .i64 (-1)))
    rw [hd.val s z ok] at hy
    have hvv : v = .pointer (some ⟨pb s z, 0, none⟩) := by
      obtain ⟨y1, y2⟩ := y
      dsimp only at hy
      subst hy
      rcases ptrElem_inv hv with ⟨_, e⟩ | ⟨b', e1, e2⟩
      · omega
      · rw [e1, show b' = pb s z by omega]
    subst hvv
    simp [execOp, hop, hit, hrun, Result.andThen]
    exact hK' _ _ (hMore s z w' cnt' ok hlk hrg hlt hgr hsz hen)
/-- A store out of its parts. -/
theorem store_parts {w w1 w3 wt : World} {mb n N ts os : Nat} {v ov : Value} {T : List Crd.CardL} {objs : List ObjL} {D : DataW Unit} {pb : Nat → Nat → Nat} {pg : Nat → Nat → Option Nat} {L : Nat → Nat → List Int} {tag : Nat → Tag}
    (h1 : Below w.heap.size w w1) (hp : PInv w1 w.heap.size mb N (okK n) D pb pg L tag) (hN : N ≤ 100) (hts : w1.heap.size ≤ ts) (ht : TabFrom wt ts v T) (h3 : Below w1.heap.size w1 w3) (ht3 : Below wt.heap.size wt w3)
    (hos : w1.heap.size ≤ os) (ho : w3.ownsRow os 30 11 ov objs.length (objsV objs)) (hsep : ∀ k, ov.ownBlock = some k → k < ts ∨ wt.heap.size ≤ k) (n1 : 1 ≤ n) (n4 : n ≤ 4) (hT : Crd.tableE T = 0) :
    ∃ G, StoreAt (w3.alloc (.cells #[v, .int .i64 n, ov, .map (some mb)] 78)) w.heap.size w3.heap.size G ⟨T, n, objs, L⟩ := by
  classical
  have s1 := h1.size
  have s3 := h3.size
  have st := ht3.size
  have ha := below_new w3 (.cells #[v, .int .i64 n, ov, .map (some mb)] 78)
  have hq := (hp.later h3).later ha
  have hol := fun k e => World.ownsRow.lt ho k e
  have htg : ∀ k, tag k ≠ .no → (if k = w3.heap.size then Tag.head else if ov.ownBlock = some k then .row else if ts ≤ k ∧ k < wt.heap.size then .tab else tag k) = tag k := fun k hk => by
    have h2 : k < w1.heap.size := Classical.byContradiction fun hn => hk (hp.high k (by omega))
    rw [if_neg (by omega), if_neg (fun e => by have := (hol k e).1; omega), if_neg (by omega)]
  refine ⟨⟨v, ov, mb, pb, pg, fun k => if k = w3.heap.size then .head else if ov.ownBlock = some k then .row else if ts ≤ k ∧ k < wt.heap.size then .tab else tag k⟩, heap_alloc_new w3 _, ?_, ?_, ?_, fun s z ok => hq.pi s z ok, if_pos rfl, ?_, fun k e => ?_, fun s z ok => ?_, fun s z k ok e => ?_, fun k hk => ?_, fun k hk => ?_, n1, n4, hT⟩
  · intro W' hW
    refine ht W' fun k hk1 hk2 => ?_
    have e := hW k (by
      show (if _ then _ else _) = _
      rw [if_neg (by omega), if_neg (fun e => by rcases hsep k e with h | h <;> omega), if_pos ⟨hk1, hk2⟩])
    rw [e, ha.block k (by omega), ht3.block k hk2]
  · exact own_mono (own11_later ho fun k e => ha.block k (hol k e).2) (by omega)
  · exact ⟨D, hq.mp.mono (by omega), Nat.le_trans hq.mp.size_le (by omega), hq.md.mapD⟩
  · show (if _ then _ else _) = _; rw [htg mb (by rw [hp.tm]; simp)]; exact hp.tm
  · show (if _ then _ else _) = _
    rw [if_neg (by have := (hol k e).2; omega), if_pos e]
  · show (if _ then _ else _) = _; rw [htg _ (by rw [hp.tp s z ok]; simp)]; exact hp.tp s z ok
  · show (if _ then _ else _) = _; rw [htg _ (by rw [hp.tg s z k ok e]; simp)]; exact hp.tg s z k ok e
  · by_cases e : k = w3.heap.size
    · omega
    · have hk : (if k = w3.heap.size then Tag.head else if ov.ownBlock = some k then .row else if ts ≤ k ∧ k < wt.heap.size then .tab else tag k) ≠ .no := hk
      rw [if_neg e] at hk
      by_cases e1 : ov.ownBlock = some k
      · have := (hol k e1).1; omega
      · rw [if_neg e1] at hk
        by_cases e2 : ts ≤ k ∧ k < wt.heap.size
        · omega
        · rw [if_neg e2] at hk
          exact hp.low k hk
  · have hk : (w3.alloc _).heap.size ≤ k := hk
    simp at hk
    show (if _ then _ else _) = _
    rw [if_neg (by omega), if_neg (fun e => by have := (hol k e).2; omega), if_neg (by omega)]
    exact hp.high k (by omega)
end Go.Proofs.YtjgjhfeopmakaaaGreat
namespace Go.Proofs.YtjgjhfeopmakaaaGreat
open Go.RowKit Go.Maps

theorem PInv.step2 {w w2 w3 : World} {lo mb N s z b : Nat} {g : Option Nat} {okp : Nat → Nat → Prop} {D : DataW Unit} {pb : Nat → Nat → Nat} {pg : Nat → Nat → Option Nat} {L : Nat → Nat → List Int} {tag : Nat → Tag} (h : PInv w lo mb N okp D pb pg L tag)
    (hs : s ≤ 1000) (hz : z ≤ 1000) (hlo : lo ≤ w.heap.size) (hb : Below w.heap.size w w2) (hp : PileAt w2 w.heap.size b g (L s z)) (hg : w2.grownBy w3 (some mb)) (hm : w3.ownsMap Tryz.prog 110 ptrElem mb (N + 1) (D.put (kl s z) (.lit (.int .i64 (b : Int))))) (hD : IsMap D) :
    ∃ tag', (∀ k, k < w.heap.size → tag' k = tag k) ∧ PInv w3 lo mb (N + 1) (fun s' z' => okp s' z' ∨ (s' = s ∧ z' = z)) (D.put (kl s z) (.lit (.int .i64 (b : Int)))) (upd pb s z b) (upd pg s z g) L tag' := by
  classical
  have hbl : w.heap.size ≤ b := by obtain ⟨v, _, _, h3, _⟩ := hp; exact h3
  have h2 := h.later hb
  have hkeep : ∀ k, k < w2.heap.size → tag k ≠ .map → w3.heap[k]? = w2.heap[k]? := fun k hk ht => hg.block k hk (fun e => by injection e with e; exact ht (e ▸ h.tm))
  have hno : ∀ k, w.heap.size ≤ k → tag k = .no := h.high
  have ht : ∀ k, tag k ≠ .no → (if k = b then Tag.pile s z else if g = some k then Tag.prow s z else tag k) = tag k := fun k hk => by
    have hk1 : k < w.heap.size := Classical.byContradiction fun hn => hk (hno k (by omega))
    rw [if_neg (by omega), if_neg (fun e => by have := (hp.row k e).1; omega)]
  refine ⟨fun k => if k = b then .pile s z else if g = some k then .prow s z else tag k, fun k hk => ?_, hm, h.md.put hD s z b hs hz, fun s' z' ok => ?_, ?_, fun s' z' ok => ?_, fun s' z' k ok e => ?_, fun k hk => ?_, fun k hk => ?_⟩
  · show (if _ then _ else _) = _
    rw [if_neg (by omega), if_neg (fun e => by have := (hp.row k e).1; omega)]
  · by_cases e : s' = s ∧ z' = z
    · obtain ⟨rfl, rfl⟩ := e
      rw [upd_same, upd_same]
      have hk : ∀ k, w.heap.size ≤ k → k < w2.heap.size → w3.heap[k]? = w2.heap[k]? := fun k h1 h2 => hkeep k h2 (by rw [hno k h1]; simp)
      have hq := pile_kept hp (hk b hbl hp.lt) fun k e => hk k (hp.row k e).1 (hp.row k e).2.1
      exact hq.mono hlo
    · have ok := ok.resolve_right e
      rw [upd_other _ _ e, upd_other _ _ e]
      refine pile_kept (h2.pi s' z' ok) (hkeep _ (h2.pi s' z' ok).lt (by rw [h.tp s' z' ok]; simp)) fun k e => hkeep k ((h2.pi s' z' ok).row k e).2.1 (by rw [h.tg s' z' k ok e]; simp)
  · rw [ht mb (by rw [h.tm]; simp)]; exact h.tm
  · by_cases e : s' = s ∧ z' = z
    · obtain ⟨rfl, rfl⟩ := e
      rw [upd_same, if_pos rfl]
    · have ok := ok.resolve_right e
      rw [upd_other _ _ e, ht _ (by rw [h.tp s' z' ok]; simp)]; exact h.tp s' z' ok
  · by_cases e2 : s' = s ∧ z' = z
    · obtain ⟨rfl, rfl⟩ := e2
      rw [upd_same] at e
      rw [if_neg (hp.row k e).2.2, if_pos e]
    · have ok := ok.resolve_right e2
      rw [upd_other _ _ e2] at e
      rw [ht _ (by rw [h.tg s' z' k ok e]; simp)]; exact h.tg s' z' k ok e
  · by_cases e : k = b
    · omega
    · by_cases e2 : g = some k
      · have := (hp.row k e2).1; omega
      · rw [if_neg e, if_neg e2] at hk; exact h.low k hk
  · have hsz := hg.size
    have hsz2 := hb.size
    rw [if_neg (fun e => by have := hp.lt; omega), if_neg (fun e => by have := (hp.row k e).2.1; omega)]
    exact h.high k (by omega)
theorem PInv.walk {w w' : World} {lo mb N r : Nat} {okp : Nat → Nat → Prop} {D : DataW Unit} {pb : Nat → Nat → Nat} {pg : Nat → Nat → Option Nat} {L : Nat → Nat → List Int} {tag : Nat → Tag} (h : PInv w lo mb N okp D pb pg L tag) (hg : w.grownBy w' (some r)) (ht : tag r = .no) :
    PInv w' lo mb N okp D pb pg L tag := by
  have keep : ∀ k, k < w.heap.size → tag k ≠ .no → w'.heap[k]? = w.heap[k]? := fun k hk hn => hg.block k hk (fun e => by injection e with e; exact hn (e ▸ ht))
  refine ⟨?_, h.md, fun s z ok => ?_, h.tm, h.tp, h.tg, h.low, fun k hk => h.high k (Nat.le_trans hg.size hk)⟩
  · obtain ⟨es, clock, he, q⟩ := h.mp
    exact ⟨es, clock, (keep mb (Array.getElem?_eq_some_iff.1 he).1 (by rw [h.tm]; simp)).trans he, q⟩
  · have hp := h.pi s z ok
    exact pile_kept hp (keep _ hp.lt (by rw [h.tp s z ok]; simp)) fun k e => keep k (hp.row k e).2.1 (by rw [h.tg s z k ok e]; simp)
def RetCopyS (w : World) (S : StoreL) (e : Ending) (w' : World) : Prop := ∃ b G, e = .returned (.pointer (some ⟨b, 0, none⟩)) ∧ StoreAt w' w.heap.size b G S ∧ Below w.heap.size w w'
/-- What the loop over the piles holds. -/
structure CopyI (w wr : World) (S : StoreL) (D : DataW Unit) (left : Lit → Bool) (cnt : Nat) (okp : Nat → Nat → Prop) (tag : Nat → Tag) (N : Nat) : Prop where
  room : N + cnt ≤ 100
  sub : ∀ x, left x = true → Maps.has D x = true
  all : ∀ s z, okK S.seats s z → okp s z ∨ left (kl s z) = true
  only : ∀ s z, okp s z → okK S.seats s z
  tr : tag (w.heap.size + 1) = .no
  bel : Below w.heap.size w wr
  size : w.heap.size + 2 ≤ wr.heap.size
set_option maxRecDepth 100000 in
set_option maxHeartbeats 16000000 in
theorem copyS_any {w : World} {lo b : Nat} {G : Ghost} {S : StoreL} (h : StoreAt w lo b G S) (hS : ShortS S) : Calls Tryz.prog 27 #[.pointer (some ⟨b, 0, none⟩)] w (RetCopyS w S) := by
  have hmm := @run_makeMap Tryz.prog
  obtain ⟨D, ho, hsd, hdd⟩ := h.mp
  have HH := Lib.hid h
  have HSS := Lib.hid hS
  have HD := Lib.hid hdd
  have HSD := Lib.hid hsd
  have hw1 := below_new w (.map #[] 0)
  have HB1 := Lib.hid hw1
  have hs1 : (w.alloc (.map #[] 0)).heap.size = w.heap.size + 1 := World.size_alloc _ _
  have c3 : (w.alloc (.map #[] 0)).cell? ⟨b, 3, none⟩ = some (.map (some G.mb)) := by rw [cell_of_row _ b 3 _ _ _ (h.later hw1).hd]; rfl
  have HO1 : Hid ((w.alloc (.map #[] 0)).ownsMap Tryz.prog 110 ptrElem G.mb 1000 D) := Lib.hid (by
    obtain ⟨es, clock, he, q⟩ := ho
    exact ⟨es, clock, (hw1.block _ (Array.getElem?_eq_some_iff.1 he).1).trans he, q⟩)
  have HP0 : Hid (PInv (w.alloc (.map #[] 0)) w.heap.size w.heap.size 0 (fun _ _ => False) (.map []) (fun _ _ => 0) (fun _ _ => none) S.pl (fun k => if k = w.heap.size then .map else .no)) := Lib.hid (by
    have hm := World.ownsMap_made w Tryz.prog 110 ptrElem
    refine ⟨hm, ⟨fun s z _ _ => ?_, fun s z h => h.elim, fun x hk => ?_, fun s z h => h.elim⟩, fun s z h => h.elim, if_pos rfl, fun s z h => h.elim, fun s z k h => h.elim, fun k hk => ?_, fun k hk => if_neg (by rw [hs1] at hk; omega)⟩
    · have e : Maps.has (H := Unit) (.map []) (kl s z) = false := rfl
      rw [e]
      constructor
      · intro h; cases h
      · rintro ⟨_, _, h⟩; exact h.elim
    · have e : Maps.has (H := Unit) (.map []) x = false := rfl
      rw [e] at hk; cases hk
    · by_cases e : k = w.heap.size
      · omega
      · rw [if_neg e] at hk; exact absurd rfl hk)
  have HGM := Lib.hid (show G.mb < w.heap.size from h.mp.lt)
  clear h hS ho hsd hdd hw1
  go_enter Tryz.func27, Tryz.ntmps27
  go_wp2_with (at_range; refine wpList_range_own _ rfl _ 76 rfl 110 97 place_keyed Tryz.underlying76 ptrElem G.mb 1000 D rfl HO1.out ?_; intro w4 hrg4 hg4 hs4)
  rw [hs1] at hrg4 ⊢
  have HP4 := Lib.hid (HP0.out.later ⟨hg4.os, hg4.tape, hg4.output, hg4.size, fun k hk => hg4.block k hk (by simp)⟩)
  have HI4 : Hid (CopyI w w4 S D (Maps.has D) (Maps.size D) (fun _ _ => False) (fun k => if k = w.heap.size then .map else .no) 0) := Lib.hid (by
    refine ⟨by have := HSD.out; omega, fun x hx => hx, fun s z ok => .inr ?_, fun s z h => h.elim, if_neg (by omega), ?_, by rw [hs4, hs1]; exact Nat.le_refl _⟩
    · obtain ⟨ws, wz⟩ := ok.wf HH.out.n4
      rw [HD.out.has _ _ ws wz]
      exact decide_eq_true (okI_nat.2 ok)
    · exact stepB HB1.out ⟨hg4.os, hg4.tape, hg4.output, hg4.size, fun k hk => hg4.block k hk (by simp)⟩)
  clear hg4 hs4 hs1 HP0 HO1 hmm c3
  have HRG := Lib.hid hrg4
  clear hrg4
  go_frame
  go_loopw [5] (fun _ wr => ∃ (left : Lit → Bool) (cnt N : Nat) (okp : Nat → Nat → Prop) (D' : DataW Unit) (pb' : Nat → Nat → Nat) (pg' : Nat → Nat → Option Nat) (tag : Nat → Tag), wr.ranges Tryz.prog 110 ptrElem G.mb (w.heap.size + 1) 1000 D left cnt ∧
      Hid (PInv wr w.heap.size w.heap.size N okp D' pb' pg' S.pl tag) ∧ Hid (CopyI w wr S D left cnt okp tag N)) (fun _ wr => wr.rangeLeft G.mb (w.heap.size + 1))
  case atStart => exact ⟨_, _, 0, _, _, _, _, _, HRG.out, HP4, HI4⟩
  case round =>
    obtain ⟨left, cnt, N, okp, D', pb', pg', tag, hrg, HPI, HCI⟩ := hrel
    go_wp2_with (at_next; refine wpList_next_places _ rfl _ rfl G.mb (w.heap.size + 1) 1000 S.seats HH.out.n4 D G.pb HD.out left cnt HCI.out.sub rfl hrg ?_ ?_)
    · intro _ hl0
      have hok : okp = okK S.seats := by
        funext s z
        apply propext
        refine ⟨HCI.out.only s z, fun ok => ?_⟩
        rcases HCI.out.all s z ok with h | h
        · exact h
        · rw [hl0] at h; cases h
      subst hok
      have HBE := Lib.hid HCI.out.bel
      have HSE := Lib.hid HCI.out.size
      have HNE := Lib.hid (show N ≤ 100 by have := HCI.out.room; omega)
      have hst := HH.out.later HCI.out.bel
      have htab := hst.tab.is
      have hob := hst.ob
      obtain ⟨ta, tc, htv⟩ := htab.form
      obtain ⟨xa, xc, hov⟩ := own_form hob
      have c0 : wr.cell? ⟨b, 0, none⟩ = some (.slice ta S.T.length tc) := by rw [cell_of_row wr b 0 _ _ _ hst.hd, ← htv]; rfl
      have c1 : wr.cell? ⟨b, 1, none⟩ = some (.int .i64 S.seats) := by rw [cell_of_row wr b 1 _ _ _ hst.hd]; rfl
      have c2 : wr.cell? ⟨b, 2, none⟩ = some (.slice xa S.objs.length xc) := by rw [cell_of_row wr b 2 _ _ _ hst.hd, ← hov]; rfl
      rw [htv] at htab
      rw [hov] at hob
      have HOW : Hid (∀ w', Below wr.heap.size wr w' → Calls Tryz.prog 54 #[.slice ta S.T.length tc] w' (RetOwn w' S.T)) := Lib.hid fun w' hb => own_any (htab.later hb) HH.out.ok
      have HCL : Hid (∀ w', Below wr.heap.size wr w' → Calls Tryz.prog 59 #[.slice xa S.objs.length xc] w' (RetObjs w' S.objs)) := Lib.hid fun w' hb => clone_objs (own11_later hob fun k e => hb.block k (World.ownsRow.lt hob k e).2) HSS.out.1
      have HPE := Lib.hid HPI.out
      obtain ⟨wE, rfl⟩ : ∃ wE, wE = wr := ⟨_, rfl⟩
      clear hl0 hst htab hob htv hov hrg HPI HCI
      go_wp2
      go_region_law ((first
        | (go_simp; go_at_call 54; refine (HOW.out _ (below_drewN (Below.refl _ _) _)).mono ?_; rintro e w7 ⟨v7, rfl, ht7, hb7⟩; obtain ⟨va7, vc7, rfl⟩ := (ht7 w7 fun _ _ _ => rfl).form; have hb7' := stepB (below_drewN (Below.refl wE.heap.size wE) _) hb7; have c17 := cell_stays hb7' c1; have c27 := cell_stays hb7' c2; dsimp only)
        | (go_simp; go_at_call 59; refine (HCL.out _ hb7').mono ?_; rintro e w8 ⟨v8, rfl, ho8, hb8⟩; obtain ⟨va8, vc8, rfl⟩ := own_form ho8; have hb8' := stepB hb7' hb8; have c18 := cell_stays hb8' c1; have HRES : Hid (∃ wt ts os, wE.heap.size ≤ ts ∧ TabFrom wt ts (.slice va7 S.T.length vc7) S.T ∧ Below wE.heap.size wE w8 ∧ Below wt.heap.size wt w8 ∧ wE.heap.size ≤ os ∧ w8.ownsRow os 30 11 (.slice va8 S.objs.length vc8) S.objs.length (objsV S.objs) ∧ ∀ k, (Value.slice va8 S.objs.length vc8).ownBlock = some k → k < ts ∨ wt.heap.size ≤ k) := Lib.hid ⟨w7, _, _, (below_drewN (Below.refl wE.heap.size wE) _).size, ht7, hb8', hb8, hb7'.size, ho8, fun k e => .inr (World.ownsRow.lt ho8 k e).1⟩; dsimp only)
        | (go_simp; go_at_call 59; refine (HCL.out _ (below_drewN (Below.refl _ _) _)).mono ?_; rintro e w7 ⟨v8, rfl, ho7, hb7⟩; obtain ⟨va8, vc8, rfl⟩ := own_form ho7; have hb7' := stepB (below_drewN (Below.refl wE.heap.size wE) _) hb7; have c17 := cell_stays hb7' c1; have c07 := cell_stays hb7' c0; dsimp only)
        | (go_simp; go_at_call 54; refine (HOW.out _ hb7').mono ?_; rintro e w8 ⟨v7, rfl, ht8, hb8⟩; obtain ⟨va7, vc7, rfl⟩ := (ht8 w8 fun _ _ _ => rfl).form; have hb8' := stepB hb7' hb8; have c18 := cell_stays hb8' c1; have HRES : Hid (∃ wt ts os, wE.heap.size ≤ ts ∧ TabFrom wt ts (.slice va7 S.T.length vc7) S.T ∧ Below wE.heap.size wE w8 ∧ Below wt.heap.size wt w8 ∧ wE.heap.size ≤ os ∧ w8.ownsRow os 30 11 (.slice va8 S.objs.length vc8) S.objs.length (objsV S.objs) ∧ ∀ k, (Value.slice va8 S.objs.length vc8).ownBlock = some k → k < ts ∨ wt.heap.size ≤ k) := Lib.hid ⟨w8, _, _, hb7'.size, ht8, hb8', Below.refl _ _, (below_drewN (Below.refl wE.heap.size wE) _).size, own11_later ho7 (fun k e => hb8.block k (World.ownsRow.lt ho7 k e).2), fun k e => .inl (World.ownsRow.lt ho7 k e).2⟩; dsimp only)
        | (trace_state; fail "arm")))
      all_goals
        go_wp2
        go_ret
        obtain ⟨wt, ts, os, k1, k2, k3, k4, k5, k6, k7⟩ := HRES.out
        obtain ⟨G', hG⟩ := store_parts HBE.out HPE.out HNE.out k1 k2 k3 k4 k5 k6 k7 HH.out.n1 HH.out.n4 HH.out.ok
        exact ⟨_, G', rfl, hG, below_alloc2 (stepB HBE.out k3) _⟩
    · intro s z w5 cnt5 ok hls hrg5 hlt5 hg5 hs5 hen
      have HOK := Lib.hid ok
      have HLS := Lib.hid hls
      have HRG5 := Lib.hid hrg5
      have HRG0 := Lib.hid hrg
      have HP5 := Lib.hid (HPI.out.walk hg5 HCI.out.tr)
      have HB5 := Lib.hid (show Below w.heap.size w w5 from HCI.out.bel.grown hg5 HCI.out.bel.size (fun k e => by injection e with e; omega))
      have HS5 := Lib.hid (show w.heap.size + 2 ≤ w5.heap.size by have := HCI.out.size; omega)
      have HLT := Lib.hid hlt5
      have HCP : Hid (∀ w', Below w5.heap.size w5 w' → Calls Tryz.prog 58 #[.pointer (some ⟨G.pb s z, 0, none⟩)] w' (RetCopy w' (S.pl s z))) := Lib.hid fun w' hb => copy_any ((HH.out.later (stepB HB5.out hb)).pi s z HOK.out) (HSS.out.2 s z HOK.out)
      have hkey := place_key (HOK.out.wf HH.out.n4).1 (HOK.out.wf HH.out.n4).2
      have HUPD : Hid (∀ w' b', Below w5.heap.size w5 w' → ∃ w'', (Instr.mapUpdate 76 (.map (some w.heap.size)) (.agg #[.int .i64 s, .int .i64 z]) (.pointer (some ⟨b', 0, none⟩))).run Tryz.prog w' = .ok () w'' ∧
          w''.ownsMap Tryz.prog 110 ptrElem w.heap.size (N + 1) (D'.put (kl s z) (.lit (.int .i64 (b' : Int)))) ∧ w'.grownBy w'' (some w.heap.size)) := Lib.hid fun w' b' hb =>
        (HP5.out.later hb).mp.update place_keyed Tryz.underlying76 (by have := HCI.out.room; unfold maxLen; omega) hkey (ptrElem_ptr b')
      have kp : ∀ j, (w5.alloc (.cells #[.int .i64 s, .int .i64 z] 110)).cell? ⟨w5.heap.size, j, none⟩ = (#[.int .i64 s, .int .i64 z] : Array Value)[j]? := fun j => cell_of_row _ _ j _ _ _ (heap_alloc_new w5 _)
      have kp0 : (w5.alloc (.cells #[.int .i64 s, .int .i64 z] 110)).cell? ⟨w5.heap.size, 0, none⟩ = some (.int .i64 s) := kp 0
      have kp1 : (w5.alloc (.cells #[.int .i64 s, .int .i64 z] 110)).cell? ⟨w5.heap.size, 1, none⟩ = some (.int .i64 z) := kp 1
      clear hkey ok hls hrg5 hlt5 hg5 hs5 hrg kp
      go_wp2
      go_region_law ((first
        | (go_simp; go_at_call 58; refine (HCP.out _ (below_drewN (below_new w5 _) _)).mono ?_; rintro e w7 ⟨b', g', rfl, hp7, hb7⟩; have hb7' := stepB (below_drewN (below_new w5 _) _) hb7; obtain ⟨w9, hrun, hown9, hgrow9⟩ := HUPD.out w7 b' hb7'; have HBX := Lib.hid hb7'; have HPX := Lib.hid hp7; have kp0' := cell_stays (stepB (below_drewN (Below.refl (w5.alloc (.cells #[.int .i64 s, .int .i64 z] 110)).heap.size _) _) hb7) kp0; have kp1' := cell_stays (stepB (below_drewN (Below.refl (w5.alloc (.cells #[.int .i64 s, .int .i64 z] 110)).heap.size _) _) hb7) kp1; dsimp only)
        | (trace_state; fail "arm")))
      all_goals
        have hg59 := (grown_row HBX.out (some w.heap.size)).trans hgrow9
        have HRG9 := Lib.hid (HRG5.out.kept hg59 (by have := HGM.out; intro e; injection e with e; omega) (by intro e; injection e with e; omega))
        have hs1000 : s ≤ 1000 ∧ z ≤ 1000 := by have := HOK.out; have := HH.out.n4; obtain ⟨k1, k2, k3, _⟩ := HOK.out; omega
        obtain ⟨tag', htg, hst⟩ := HP5.out.step2 (s := s) (z := z) hs1000.1 hs1000.2 (by have := HS5.out; omega) HBX.out (HPX.out.mono (by simp)) hgrow9 hown9 HP5.out.mp.isMap
        have HST := Lib.hid hst
        have HCI9 : Hid (CopyI w w9 S D (fun x => left x && !x.sameKey (kl s z)) cnt5 (fun s' z' => okp s' z' ∨ (s' = s ∧ z' = z)) tag' (N + 1)) := Lib.hid (by
          have hc := HCI.out
          obtain ⟨ws, wz⟩ := HOK.out.wf HH.out.n4
          refine ⟨by have := hc.room; have := HLT.out; omega, fun x hx => hc.sub x (by rw [Bool.and_eq_true] at hx; exact hx.1), fun s' z' ok' => ?_, fun s' z' h => ?_, ?_, ?_, ?_⟩
          · by_cases e : s' = s ∧ z' = z
            · exact .inl (.inr e)
            · rcases hc.all s' z' ok' with h | h
              · exact .inl (.inl h)
              · obtain ⟨ws', wz'⟩ := ok'.wf HH.out.n4
                have hne : kl (s' : Int) (z' : Int) ≠ kl (s : Int) (z : Int) := kl_ne ws' wz' ws wz (by omega)
                exact .inr (by rw [h, sameKey_ne hne]; rfl)
          · rcases h with h | ⟨rfl, rfl⟩
            · exact hc.only s' z' h
            · exact HOK.out
          · rw [htg _ (by have := HS5.out; omega)]; exact hc.tr
          · exact (stepB HB5.out HBX.out).grown hgrow9 (stepB HB5.out HBX.out).size (fun k e => by injection e with e; omega)
          · have h1 := HBX.out.size; have h2 := hgrow9.size; have h3 := HS5.out; omega)
        clear hg59 hst htg hown9 hgrow9
        go_wp2
        go_roundw
        case rel => exact ⟨_, _, _, _, _, _, _, _, HRG9.out, HST, HCI9⟩
        case measure => rw [HRG9.out.left_eq, HRG0.out.left_eq]; exact HLT.out
end Go.Proofs.YtjgjhfeopmakaaaGreat
namespace Go.Proofs.YtjgjhfeopmakaaaGreat
open Go.RowKit
theorem intsV_eq (l : List Int) : intsV l = l.map (Value.int .i64) := rfl
theorem grown_of {A w w' : World} {r : Option Nat} (h : Below A.heap.size A w) (hg : w.grownBy w' r) (hr : ∀ k, r = some k → A.heap.size ≤ k) : Below A.heap.size A w' := h.grown hg h.size hr
set_option maxRecDepth 100000 in
set_option maxHeartbeats 4000000 in
theorem equal_ints {v u : Value} {l r : List Int} {w : World} (hl : IntsAt w v l) (hr : IntsAt w u r) (hn : l.length ≤ 1000) (_hn2 : r.length ≤ 1000) :
    Calls Tryz.prog 70 #[v, u] w fun e w' => e = .returned (.bool (decide (l = r))) ∧ ∃ n, w' = w.drewN n := by
  obtain ⟨xa, xc, rfl⟩ := hl.form
  obtain ⟨ya, yc, rfl⟩ := hr.form
  have HL := Lib.hid hl
  have HR := Lib.hid hr
  clear hl hr
  by_cases hne : l.length ≠ r.length
  · have d : ((l.length : Int) != r.length) = true := bne_iff_ne.2 (by omega)
    have HS := Lib.hid (show decide (l = r) = false from decide_eq_false (fun e => hne (by rw [e])))
    clear hne
    go_enter Tryz.func70, Tryz.ntmps70
    go_wp2
    go_ret
    exact ⟨ret_bool HS.out.symm, 0, rfl⟩
  have heq : l.length = r.length := Classical.not_not.1 hne
  have d : ((l.length : Int) != r.length) = false := by rw [heq]; exact bne_self_eq_false _
  have HQ := Lib.hid heq
  clear hne heq
  go_enter Tryz.func70, Tryz.ntmps70
  go_wp2
  go_loopw [13] (fun i wr => ∃ k n : Nat, k ≤ l.length ∧ i = .int .i64 k ∧ wr = w.drewN n ∧ Hid (l.take k = r.take k)) (fun i _ => l.length - (intOf i).toNat)
  case atStart => exact ⟨0, 0, Nat.zero_le _, rfl, rfl, Lib.hid rfl⟩
  case round =>
    obtain ⟨k, n, hk, rfl, rfl, HK⟩ := hrel
    by_cases hlt : k < l.length
    · have hlt2 : k < r.length := by have := HQ.out; omega
      obtain ⟨p, o, rfl, hp, x0⟩ := HL.out.at k hlt
      obtain ⟨p', o', rfl, hp', y0⟩ := HR.out.at k hlt2
      obtain ⟨a, ha⟩ : ∃ a, l[k] = a := ⟨_, rfl⟩
      obtain ⟨b, hb⟩ : ∃ b, r[k] = b := ⟨_, rfl⟩
      have HT1 := Lib.hid (take_last l k hlt)
      have HT2 := Lib.hid (take_last r k hlt2)
      rw [ha] at x0 HT1
      rw [hb] at y0 HT2
      have HA := Lib.hid ha
      have HBB := Lib.hid hb
      have d0 : (0 : Int) ≤ k := by omega
      have d1 : (k : Int) < l.length := by omega
      have d2 : (k : Int) < r.length := by omega
      clear ha hb
      by_cases hab : a = b
      · subst hab
        have hbb : (a != a) = false := bne_self_eq_false _
        go_wp2
        go_region
        all_goals
          go_wp2
          go_roundw
        case rel => exact ⟨k + 1, n + 1, by omega, by go_num, rfl, Lib.hid (by rw [HT1.out, HT2.out, HK.out])⟩
        case measure => simp [intOf]; omega
      · have hbb : (a != b) = true := bne_iff_ne.2 hab
        have HS := Lib.hid (show decide (l = r) = false from decide_eq_false (fun e => hab (by rw [← HA.out, ← HBB.out]; simp [e])))
        go_wp2
        go_region
        all_goals
          go_wp2
          go_ret
          exact ⟨ret_bool HS.out.symm, n + 1, rfl⟩
    · obtain rfl : k = l.length := by omega
      have HE := Lib.hid (show decide (l = r) = true from decide_eq_true (by have h := HK.out; rw [List.take_length] at h; rw [h, HQ.out, List.take_length]))
      go_wp2
      go_ret
      exact ⟨ret_bool HE.out.symm, n, rfl⟩
end Go.Proofs.YtjgjhfeopmakaaaGreat
namespace Go.Proofs.YtjgjhfeopmakaaaGreat
open Go.RowKit Go.Maps

set_option maxHeartbeats 4000000 in
theorem eqObj (n : Nat) (a0 c0 a1 c1 a2 c2 a3 c3 a6 c6 a7 c7 a8 c8 a9 c9 : Int) (a4 c4 a5 c5 a10 c10 : Bool) (w : World) : (Op.equalIn (n + 2) 30 (.agg #[.int .i64 a0, .int .i64 a1, .int .i64 a2, .int .i64 a3, .bool a4, .bool a5, .int .i64 a6, .int .i64 a7, .int .i64 a8, .int .i64 a9, .bool a10]) (.agg #[.int .i64 c0, .int .i64 c1, .int .i64 c2, .int .i64 c3, .bool c4, .bool c5, .int .i64 c6, .int .i64 c7, .int .i64 c8, .int .i64 c9, .bool c10])).run Tryz.prog w = .ok (a0 == c0 && (a1 == c1 && (a2 == c2 && (a3 == c3 && (a4 == c4 && (a5 == c5 && (a6 == c6 && (a7 == c7 && (a8 == c8 && (a9 == c9 && (a10 == c10))))))))))) w := by
  have uI := Tryz.underlying3
  have gI := Tryz.isAgg3
  have zI := Tryz.sizeOf3
  have uB := Tryz.underlying4
  have gB := Tryz.isAgg4
  have zB := Tryz.sizeOf4
  have hS : Tryz.prog.underlying 30 = some (.struct (Tryz.prog.fieldsOf 30)) := by kernel_rfl
  rw [run_equalIn_agg w (n + 1) 30 _ _ hS (by kernel_rfl)]
  simp only [Program.fieldsOf, Tryz.underlying30]
  go_simp
  by_cases h0 : a0 = c0
  · subst h0
    by_cases h1 : a1 = c1
    · subst h1
      by_cases h2 : a2 = c2
      · subst h2
        by_cases h3 : a3 = c3
        · subst h3
          by_cases h4 : a4 = c4
          · subst h4
            by_cases h5 : a5 = c5
            · subst h5
              by_cases h6 : a6 = c6
              · subst h6
                by_cases h7 : a7 = c7
                · subst h7
                  by_cases h8 : a8 = c8
                  · subst h8
                    by_cases h9 : a9 = c9
                    · subst h9
                      by_cases h10 : a10 = c10
                      · subst h10
                        simp
                      · simp [h10]
                    · simp [h9]
                  · simp [h8]
                · simp [h7]
              · simp [h6]
            · simp [h5]
          · simp [h4]
        · simp [h3]
      · simp [h2]
    · simp [h1]
  · simp [h0]
theorem neqObj (a0 c0 a1 c1 a2 c2 a3 c3 a6 c6 a7 c7 a8 c8 a9 c9 : Int) (a4 c4 a5 c5 a10 c10 : Bool) (w : World) : (binOp .neq 30 (.agg #[.int .i64 a0, .int .i64 a1, .int .i64 a2, .int .i64 a3, .bool a4, .bool a5, .int .i64 a6, .int .i64 a7, .int .i64 a8, .int .i64 a9, .bool a10]) (.agg #[.int .i64 c0, .int .i64 c1, .int .i64 c2, .int .i64 c3, .bool c4, .bool c5, .int .i64 c6, .int .i64 c7, .int .i64 c8, .int .i64 c9, .bool c10])).run Tryz.prog w = .ok (.bool (!(a0 == c0 && (a1 == c1 && (a2 == c2 && (a3 == c3 && (a4 == c4 && (a5 == c5 && (a6 == c6 && (a7 == c7 && (a8 == c8 && (a9 == c9 && (a10 == c10))))))))))))) w := by
  rw [run_neq_struct, eqObj 9998]
  rfl
theorem neqgO (x y : Operand) (xs ys : Array Value) (W : World) : (eqGuard .neq 30 x y (.agg xs) (.agg ys)).run Tryz.prog W = .ok () W := run_eqGuard_agg W .neq 30 x y xs ys (by kernel_rfl)
def eqO (x y : ObjL) : Bool := x.id == y.id && (x.card == y.card && (x.owner == y.owner && (x.zone == y.zone && (x.tapped == y.tapped && (x.sick == y.sick && (x.hurt == y.hurt && (x.count == y.count && (x.boost == y.boost && (x.block == y.block && (x.attacks == y.attacks))))))))))
theorem eqO_iff (x y : ObjL) : eqO x y = true ↔ x = y := by
  unfold eqO
  obtain ⟨x0, x1, x2, x3, x4, x5, x6, x7, x8, x9, x10⟩ := x
  obtain ⟨y0, y1, y2, y3, y4, y5, y6, y7, y8, y9, y10⟩ := y
  simp only [Bool.and_eq_true, beq_iff_eq, ObjL.mk.injEq]
instance : DecidableEq ObjL := fun x y => decidable_of_iff (eqO x y = true) (eqO_iff x y)
set_option maxRecDepth 100000 in
set_option maxHeartbeats 4000000 in
theorem equal_objs {lo lo' : Nat} {v u : Value} {l r : List ObjL} {w : World} (hl : w.ownsRow lo 30 11 v l.length (objsV l)) (hr : w.ownsRow lo' 30 11 u r.length (objsV r)) (hn : l.length ≤ 1000) :
    Calls Tryz.prog 65 #[v, u] w fun e w' => e = .returned (.bool (decide (l = r))) ∧ ∃ n, w' = w.drewN n := by
  obtain ⟨xa, xc, rfl⟩ := own_form hl
  obtain ⟨ya, yc, rfl⟩ := own_form hr
  have HL := Lib.hid hl
  have HR := Lib.hid hr
  clear hl hr
  by_cases hne : l.length ≠ r.length
  · have d : ((l.length : Int) != r.length) = true := bne_iff_ne.2 (by omega)
    have HS := Lib.hid (show decide (l = r) = false from decide_eq_false (fun e => hne (by rw [e])))
    clear hne
    go_enter Tryz.func65, Tryz.ntmps65
    go_wp2
    go_ret
    exact ⟨ret_bool HS.out.symm, 0, rfl⟩
  have heq : l.length = r.length := Classical.not_not.1 hne
  have d : ((l.length : Int) != r.length) = false := by rw [heq]; exact bne_self_eq_false _
  have HQ := Lib.hid heq
  clear hne heq
  have h2 := @neqgO
  go_enter Tryz.func65, Tryz.ntmps65
  go_wp2
  go_loopw [13] (fun i wr => ∃ k n : Nat, k ≤ l.length ∧ i = .int .i64 k ∧ wr = w.drewN n ∧ Hid (l.take k = r.take k)) (fun i _ => l.length - (intOf i).toNat)
  case atStart => exact ⟨0, 0, Nat.zero_le _, rfl, rfl, Lib.hid rfl⟩
  case round =>
    obtain ⟨k, n, hk, rfl, rfl, HK⟩ := hrel
    by_cases hlt : k < l.length
    · have hlt2 : k < r.length := by have := HQ.out; omega
      obtain ⟨g, cap, hgv, ⟨o0, o1, o2, o3, o4, o5, o6, o7, o8, o9, o10⟩, _⟩ := own_obj HL.out k hlt
      obtain ⟨g', cap', hgv', ⟨p0, p1, p2, p3, p4, p5, p6, p7, p8, p9, p10⟩, _⟩ := own_obj HR.out k hlt2
      injection hgv with hxa _ hxc
      injection hgv' with hya _ hyc
      subst hxa hxc hya hyc
      have HT1 := Lib.hid (take_last l k hlt)
      have HT2 := Lib.hid (take_last r k hlt2)
      have HIX := Lib.hid (show l = r → l[k] = r[k] from fun e => by subst e; rfl)
      obtain ⟨x, hx⟩ : ∃ x, l[k] = x := ⟨_, rfl⟩
      obtain ⟨y, hy⟩ : ∃ y, r[k] = y := ⟨_, rfl⟩
      rw [hx] at o0 o1 o2 o3 o4 o5 o6 o7 o8 o9 o10 HT1 HIX
      rw [hy] at p0 p1 p2 p3 p4 p5 p6 p7 p8 p9 p10 HT2 HIX
      obtain ⟨E, hE⟩ : ∃ E, eqO x y = E := ⟨_, rfl⟩
      have h3 := fun W => neqObj x.id y.id x.card y.card x.owner y.owner x.zone y.zone x.hurt y.hurt x.count y.count x.boost y.boost x.block y.block x.tapped y.tapped x.sick y.sick x.attacks y.attacks W
      have hE' := hE
      unfold eqO at hE'
      rw [hE'] at h3
      have d0 : (0 : Int) ≤ k := by omega
      have d1 : (k : Int) < l.length := by omega
      have d2 : (k : Int) < r.length := by omega
      clear hE' hx hy
      cases E
      · have HS := Lib.hid (show decide (l = r) = false from decide_eq_false (fun e => by
          have h4 := HIX.out e
          rw [(eqO_iff x y).2 h4] at hE
          cases hE))
        clear hE
        go_wp2
        go_quiet (fail)
        go_wp2
        go_ret
        exact ⟨ret_bool HS.out.symm, _, World.drewN_drewN _ _ _⟩
      · have HT : Hid (l.take (k + 1) = r.take (k + 1)) := Lib.hid (by
          rw [HT1.out, HT2.out, HK.out, (eqO_iff x y).1 hE])
        clear hE
        go_wp2
        go_quiet (fail)
        go_wp2
        go_roundw
        case rel => exact ⟨k + 1, _, by omega, by go_num, rfl, HT⟩
        case measure => simp [intOf]; omega
    · obtain rfl : k = l.length := by omega
      have HS := Lib.hid (show decide (l = r) = true from decide_eq_true (by
        have h1 := HK.out
        rw [List.take_length, HQ.out, List.take_length] at h1
        exact h1))
      go_wp2
      go_ret
      exact ⟨ret_bool HS.out.symm, _, rfl⟩
end Go.Proofs.YtjgjhfeopmakaaaGreat
namespace Go.Proofs.YtjgjhfeopmakaaaGreat
open Go.RowKit Go.Maps

set_option maxRecDepth 100000 in
set_option maxHeartbeats 4000000 in
theorem eqCards_true {w : World} {v u : Value} {T : List Crd.CardL} (hv : Crd.CardsAt w v T) (hu : Crd.CardsAt w u T) (hT : T.length ≤ 60) (hs : ∀ k (h : k < T.length), T[k].terms.length ≤ 30) :
    Calls Tryz.prog 68 #[v, u, .func (.func 69) #[] #[]] w (RetV w (.bool true)) := by
  obtain ⟨xa, xc, rfl⟩ := hv.form
  obtain ⟨ya, yc, rfl⟩ := hu.form
  have HV := Lib.hid hv
  have HU := Lib.hid hu
  have HS := Lib.hid hs
  have d : ((T.length : Int) != T.length) = false := bne_self_eq_false _
  clear hv hu hs
  go_enter Tryz.func68, Tryz.ntmps68
  go_wp2
  go_loopw [17] (fun i wr => ∃ k : Nat, k ≤ T.length ∧ i = .int .i64 k ∧ Hid (Below w.heap.size w wr)) (fun i _ => T.length - (intOf i).toNat)
  case atStart => exact ⟨0, Nat.zero_le _, rfl, Lib.hid (Below.refl _ _)⟩
  case round =>
    obtain ⟨k, hk, rfl, HB⟩ := hrel
    by_cases hlt : k < T.length
    · obtain ⟨b1, o1, hx1, ⟨pa, pc, t0, t1, t2, t3, t4, t5, t6, tt⟩⟩ := (HV.out.later HB.out).at k hlt
      obtain ⟨b2, o2, hx2, ⟨qa, qc, s0, s1, s2, s3, s4, s5, s6, st⟩⟩ := (HU.out.later HB.out).at k hlt
      have hc := HS.out k hlt
      obtain ⟨c, hcc⟩ : ∃ c, T[k] = c := ⟨_, rfl⟩
      rw [hcc] at t0 t1 t2 t3 t4 t5 t6 tt s0 s1 s2 s3 s4 s5 s6 st hc
      subst hx1 hx2
      have d0 : (0 : Int) ≤ k := by omega
      have d1 : (k : Int) < T.length := by omega
      have HSA : Hid (∀ w', Below wr.heap.size wr w' → Calls Tryz.prog 69 #[.agg #[.int .i64 c.kind, .int .i64 c.cost, .int .i64 c.power, .int .i64 c.tough, .int .i64 c.keys, .int .i64 c.whn, .slice pa c.terms.length pc], .agg #[.int .i64 c.kind, .int .i64 c.cost, .int .i64 c.power, .int .i64 c.tough, .int .i64 c.keys, .int .i64 c.whn, .slice qa c.terms.length qc]] w' (RetV w' (.bool true))) := Lib.hid fun w' hb => by
        have h := Crd.same_any (a := c) (b := c) (v := Crd.cagg c (.slice pa c.terms.length pc)) (u := Crd.cagg c (.slice qa c.terms.length qc)) (w := w') ⟨_, _, _, rfl, tt.later hb⟩ ⟨_, _, _, rfl, st.later hb⟩ (by omega)
        rw [(Crd.sameB_iff c c).2 rfl] at h
        exact h
      have s0' := cell_stays (below_new wr (.cells #[.int .i64 c.kind, .int .i64 c.cost, .int .i64 c.power, .int .i64 c.tough, .int .i64 c.keys, .int .i64 c.whn, .slice pa c.terms.length pc] 65)) s0
      have s1' := cell_stays (below_new wr (.cells #[.int .i64 c.kind, .int .i64 c.cost, .int .i64 c.power, .int .i64 c.tough, .int .i64 c.keys, .int .i64 c.whn, .slice pa c.terms.length pc] 65)) s1
      have s2' := cell_stays (below_new wr (.cells #[.int .i64 c.kind, .int .i64 c.cost, .int .i64 c.power, .int .i64 c.tough, .int .i64 c.keys, .int .i64 c.whn, .slice pa c.terms.length pc] 65)) s2
      have s3' := cell_stays (below_new wr (.cells #[.int .i64 c.kind, .int .i64 c.cost, .int .i64 c.power, .int .i64 c.tough, .int .i64 c.keys, .int .i64 c.whn, .slice pa c.terms.length pc] 65)) s3
      have s4' := cell_stays (below_new wr (.cells #[.int .i64 c.kind, .int .i64 c.cost, .int .i64 c.power, .int .i64 c.tough, .int .i64 c.keys, .int .i64 c.whn, .slice pa c.terms.length pc] 65)) s4
      have s5' := cell_stays (below_new wr (.cells #[.int .i64 c.kind, .int .i64 c.cost, .int .i64 c.power, .int .i64 c.tough, .int .i64 c.keys, .int .i64 c.whn, .slice pa c.terms.length pc] 65)) s5
      have s6' := cell_stays (below_new wr (.cells #[.int .i64 c.kind, .int .i64 c.cost, .int .i64 c.power, .int .i64 c.tough, .int .i64 c.keys, .int .i64 c.whn, .slice pa c.terms.length pc] 65)) s6
      clear tt st hcc s0 s1 s2 s3 s4 s5 s6
      go_wp2_with fail
      refine (HSA.out _ (below_alloc2 (below_new wr _) _)).mono ?_
      rintro e w5 ⟨rfl, hb5⟩
      have HB5 := Lib.hid (stepB (below_alloc2 (below_alloc2 HB.out _) _) hb5)
      clear hb5 HSA t0 t1 t2 t3 t4 t5 t6 s0' s1' s2' s3' s4' s5' s6'
      dsimp only
      go_wp2
      go_roundw
      case rel => exact ⟨k + 1, by omega, by go_num, HB5⟩
      case measure => simp [intOf]; omega
    · obtain rfl : k = T.length := by omega
      go_wp2
      go_ret
      exact ⟨rfl, HB.out⟩
set_option maxRecDepth 100000 in
theorem samePile_true {w : World} {lo lo' b b' : Nat} {g g' : Option Nat} {L : List Int} (h : PileAt w lo b g L) (h' : PileAt w lo' b' g' L) (hL : L.length ≤ 1000) :
    Calls Tryz.prog 67 #[.pointer (some ⟨b, 0, none⟩), .pointer (some ⟨b', 0, none⟩)] w (RetV w (.bool true)) := by
  have H1 := Lib.hid (list_any h hL)
  have H2 := Lib.hid (fun (w' : World) (hb : Below w.heap.size w w') => list_any (h'.later hb) hL)
  clear h h'
  go_enter Tryz.func67, Tryz.ntmps67
  go_wp2_with fail
  refine H1.out.mono ?_
  rintro e w1 ⟨v, rfl, ho, hb1⟩
  have HO := Lib.hid ho
  have HB := Lib.hid hb1
  clear ho hb1
  dsimp only
  go_wp2_with fail
  refine (H2.out w1 HB.out).mono ?_
  rintro e w2 ⟨u, rfl, ho2, hb2⟩
  have HQ := equal_ints (own_ints (own_later HO.out hb2)) (own_ints ho2) hL hL
  rw [decide_eq_true rfl] at HQ
  have HE := Lib.hid HQ
  have HB2 := Lib.hid (stepB HB.out hb2)
  clear HQ ho2 hb2
  dsimp only
  go_wp2_with fail
  refine HE.out.mono ?_
  rintro e w3 ⟨rfl, n, rfl⟩
  dsimp only
  go_wp2
  go_ret
  exact ⟨rfl, below_drewN HB2.out n⟩
set_option maxRecDepth 100000 in
/-- Maps of the same places are of one size. -/
theorem size_same {w w' : World} {mb mb' n n' N : Nat} {D D' : DataW Unit} {pb pb' : Nat → Nat → Nat} (ho : w.ownsMap Tryz.prog 110 ptrElem mb n D) (ho' : w'.ownsMap Tryz.prog 110 ptrElem mb' n' D') (hd : MapD D N pb) (hd' : MapD D' N pb') (hN : N ≤ 4) : Maps.size D = Maps.size D' := by
  obtain ⟨es, rfl, hp, hk⟩ := ho.entries place_keyed
  obtain ⟨es', rfl, hp', hk'⟩ := ho'.entries place_keyed
  rw [size_eq, size_eq]
  have hmem : ∀ (es : List (Lit × DataW Unit)) (hk : ∀ p ∈ es, WideAt.IsKeyLit p.1) (pb : Nat → Nat → Nat) (hd : MapD (.map es) N pb) (x : Lit), x ∈ es.map (·.1) ↔ ∃ s z : Nat, okK N s z ∧ x = kl s z := by
    intro es hk pb hd x
    constructor
    · intro hx
      obtain ⟨p, hp, rfl⟩ := List.mem_map.1 hx
      refine hd.only _ ?_
      rw [has_eq, List.any_eq_true]
      exact ⟨p, hp, WideAt.sameKey_self (hk p hp)⟩
    · rintro ⟨s, z, ok, rfl⟩
      obtain ⟨ws, wz⟩ := ok.wf hN
      have h1 := hd.has s z ws wz
      rw [decide_eq_true (okI_nat.2 ok), has_eq, List.any_eq_true] at h1
      obtain ⟨p, hp, e⟩ := h1
      exact List.mem_map.2 ⟨p, hp, WideAt.sameKey_eq e⟩
  have hn : (es.map (·.1)).Nodup := by unfold List.Nodup; rw [List.pairwise_map]; exact hp
  have hn' : (es'.map (·.1)).Nodup := by unfold List.Nodup; rw [List.pairwise_map]; exact hp'
  have := ((List.perm_ext_iff_of_nodup hn hn').2 (fun x => (hmem es hk pb hd x).trans (hmem es' hk' pb' hd' x).symm)).length_eq
  simpa using this
end Go.Proofs.YtjgjhfeopmakaaaGreat
namespace Go.Proofs.YtjgjhfeopmakaaaGreat
open Go.RowKit Go.Maps

/-- What the range over the first map holds. -/
structure EqI (w wr : World) (S : StoreL) (D : DataW Unit) (left : Lit → Bool) : Prop where
  sub : ∀ x, left x = true → Maps.has D x = true
  bel : Below w.heap.size w wr
  size : w.heap.size + 1 ≤ wr.heap.size
theorem map_kept {w w' : World} {mb n : Nat} {D : DataW Unit} (ho : w.ownsMap Tryz.prog 110 ptrElem mb n D) (hk : w'.heap[mb]? = w.heap[mb]?) : w'.ownsMap Tryz.prog 110 ptrElem mb n D := by
  obtain ⟨es, clock, he, q⟩ := ho
  exact ⟨es, clock, hk.trans he, q⟩
theorem map_lt {w : World} {mb n : Nat} {D : DataW Unit} (ho : w.ownsMap Tryz.prog 110 ptrElem mb n D) : mb < w.heap.size := by
  obtain ⟨es, clock, he, q⟩ := ho
  exact (Array.getElem?_eq_some_iff.1 he).1
set_option maxRecDepth 100000 in
/-- The look-up with ok. -/
theorem look_ok2 {w : World} {mb n q : Nat} {D : DataW Unit} {pb : Nat → Nat → Nat} (ho : w.ownsMap Tryz.prog 110 ptrElem mb n D) (hd : MapD D q pb) (hq : q ≤ 4) {s z : Nat} (ok : okK q s z) :
    (Instr.lookup 76 (.map (some mb)) (.agg #[.int .i64 s, .int .i64 z]) true).run Tryz.prog w = .ok (.tuple #[.pointer (some ⟨pb s z, 0, none⟩), .bool true]) w := by
  obtain ⟨ws, wz⟩ := ok.wf hq
  obtain ⟨v, ps, hrun, hv⟩ := ho.look_ok place_keyed Tryz.underlying76 (zero_ptr w) ptrElem_nil (place_key ws wz)
  rw [hd.val s z ok] at hv
  rw [hd.has _ _ ws wz, decide_eq_true (okI_nat.2 ok)] at hrun
  rcases ptrElem_inv hv with ⟨_, h⟩ | ⟨b, rfl, h⟩
  · omega
  · rw [show pb s z = b by omega]; exact hrun
set_option maxRecDepth 100000 in
set_option maxHeartbeats 8000000 in
theorem mapEq_true {w : World} {lo b lo' b' : Nat} {G G' : Ghost} {S : StoreL} (h : StoreAt w lo b G S) (h' : StoreAt w lo' b' G' S) (hS : ShortS S) :
    Calls Tryz.prog 66 #[.map (some G.mb), .map (some G'.mb), .func (.func 67) #[] #[]] w (RetV w (.bool true)) := by
  obtain ⟨D, ho, hsd, hdd⟩ := h.mp
  obtain ⟨D', ho', hsd', hdd'⟩ := h'.mp
  have hl1 := ho.len Tryz.underlying76 3
  have hl2 := ho'.len Tryz.underlying76 3
  rw [← size_same ho ho' hdd hdd' h.n4] at hl2
  obtain ⟨q, hq⟩ : ∃ q, Maps.size D = q := ⟨_, rfl⟩
  rw [hq] at hl1 hl2
  have d : ((q : Int) != (q : Int)) = false := bne_self_eq_false _
  have HH := Lib.hid h
  have HH' := Lib.hid h'
  have HSS := Lib.hid hS
  have HD := Lib.hid hdd
  have HD' := Lib.hid hdd'
  have HO := Lib.hid ho
  have HO' := Lib.hid ho'
  have HMB := Lib.hid (And.intro (map_lt ho) (map_lt ho'))
  clear h h' hS ho ho' hsd hsd' hdd hdd' hq
  go_enter Tryz.func66, Tryz.ntmps66
  go_wp2_with (at_range; refine wpList_range_own _ rfl _ 76 rfl 110 97 place_keyed Tryz.underlying76 ptrElem G.mb 1000 D rfl HO.out ?_; intro w4 hrg4 hg4 hs4)
  have HI4 : Hid (EqI w w4 S D (Maps.has D)) := Lib.hid ⟨fun x hx => hx, ⟨hg4.os, hg4.tape, hg4.output, hg4.size, fun k hk => hg4.block k hk (by simp)⟩, by rw [hs4]; exact Nat.le_refl _⟩
  clear hg4 hs4 hl1 hl2 d
  have HRG := Lib.hid hrg4
  clear hrg4
  go_frame
  go_loopw [8] (fun _ wr => ∃ (left : Lit → Bool) (cnt : Nat), wr.ranges Tryz.prog 110 ptrElem G.mb w.heap.size 1000 D left cnt ∧ Hid (EqI w wr S D left)) (fun _ wr => wr.rangeLeft G.mb w.heap.size)
  case atStart => exact ⟨_, _, HRG.out, HI4⟩
  case round =>
    obtain ⟨left, cnt, hrg, HEI⟩ := hrel
    go_wp2_with (at_next; refine wpList_next_places _ rfl _ rfl G.mb w.heap.size 1000 S.seats HH.out.n4 D G.pb HD.out left cnt HEI.out.sub rfl hrg ?_ ?_)
    · intro _ _
      go_wp2
      go_ret
      exact ⟨rfl, HEI.out.bel⟩
    · intro s z w5 cnt5 ok hls hrg5 hlt5 hg5 hs5 hen
      have HRG5 := Lib.hid hrg5
      have HRG0 := Lib.hid hrg
      have HLT := Lib.hid hlt5
      have HB5 := Lib.hid (show Below w.heap.size w w5 from HEI.out.bel.grown hg5 HEI.out.bel.size (fun k e => by injection e with e; omega))
      have HS5 := Lib.hid (show w.heap.size + 1 ≤ w5.heap.size by have := HEI.out.size; omega)
      have hlook := look_ok2 (map_kept HO'.out ((stepB HB5.out (below_new w5 (.cells #[.int .i64 s, .int .i64 z] 110))).block _ HMB.out.2)) HD'.out HH.out.n4 ok
      have hbx := stepB HB5.out (below_new w5 (.cells #[.int .i64 s, .int .i64 z] 110))
      have HSP := Lib.hid (samePile_true ((HH.out.later hbx).pi s z ok) ((HH'.out.later hbx).pi s z ok) (HSS.out.2 s z ok))
      have kp : ∀ j, (w5.alloc (.cells #[.int .i64 s, .int .i64 z] 110)).cell? ⟨w5.heap.size, j, none⟩ = (#[.int .i64 s, .int .i64 z] : Array Value)[j]? := fun j => cell_of_row _ _ j _ _ _ (heap_alloc_new w5 _)
      have kp0 : (w5.alloc (.cells #[.int .i64 s, .int .i64 z] 110)).cell? ⟨w5.heap.size, 0, none⟩ = some (.int .i64 s) := kp 0
      have kp1 : (w5.alloc (.cells #[.int .i64 s, .int .i64 z] 110)).cell? ⟨w5.heap.size, 1, none⟩ = some (.int .i64 z) := kp 1
      clear hls hrg5 hlt5 hg5 hs5 hrg kp hbx ok
      go_wp2_with fail
      refine HSP.out.mono ?_
      rintro e w7 ⟨rfl, hb7⟩
      have hb57 := stepB (below_new w5 (.cells #[.int .i64 s, .int .i64 z] 110)) hb7
      have HRG7 := Lib.hid (HRG5.out.kept (grown_row hb57 none) (by intro e; cases e) (by intro e; cases e))
      have HEI7 : Hid (EqI w w7 S D (fun x => left x && !x.sameKey (kl s z))) := Lib.hid ⟨fun x hx => HEI.out.sub x (by rw [Bool.and_eq_true] at hx; exact hx.1), stepB HB5.out hb57, by have := HS5.out; have := hb57.size; omega⟩
      clear hb7 hb57 HSP hlook kp0 kp1
      dsimp only
      go_wp2
      go_roundw
      case rel => exact ⟨_, _, HRG7.out, HEI7⟩
      case measure => rw [HRG7.out.left_eq, HRG0.out.left_eq]; exact HLT.out
theorem keep9 {w w1 w2 : World} {b c : Nat} {v0 v1 v2 v3 u0 u1 u2 u3 : Value} (hb : Below w1.heap.size w1 w2)
    (h : Below w.heap.size w w1 ∧ w1.cell? ⟨b, 0, none⟩ = some v0 ∧ w1.cell? ⟨b, 1, none⟩ = some v1 ∧ w1.cell? ⟨b, 2, none⟩ = some v2 ∧ w1.cell? ⟨b, 3, none⟩ = some v3 ∧ w1.cell? ⟨c, 0, none⟩ = some u0 ∧ w1.cell? ⟨c, 1, none⟩ = some u1 ∧ w1.cell? ⟨c, 2, none⟩ = some u2 ∧ w1.cell? ⟨c, 3, none⟩ = some u3) :
    Below w.heap.size w w2 ∧ w2.cell? ⟨b, 0, none⟩ = some v0 ∧ w2.cell? ⟨b, 1, none⟩ = some v1 ∧ w2.cell? ⟨b, 2, none⟩ = some v2 ∧ w2.cell? ⟨b, 3, none⟩ = some v3 ∧ w2.cell? ⟨c, 0, none⟩ = some u0 ∧ w2.cell? ⟨c, 1, none⟩ = some u1 ∧ w2.cell? ⟨c, 2, none⟩ = some u2 ∧ w2.cell? ⟨c, 3, none⟩ = some u3 :=
  ⟨stepB h.1 hb, cell_stays hb h.2.1, cell_stays hb h.2.2.1, cell_stays hb h.2.2.2.1, cell_stays hb h.2.2.2.2.1, cell_stays hb h.2.2.2.2.2.1, cell_stays hb h.2.2.2.2.2.2.1, cell_stays hb h.2.2.2.2.2.2.2.1, cell_stays hb h.2.2.2.2.2.2.2.2⟩
set_option maxRecDepth 100000 in
set_option maxHeartbeats 8000000 in
theorem same_true {w : World} {lo b lo' b' : Nat} {G G' : Ghost} {S : StoreL} (h : StoreAt w lo b G S) (h' : StoreAt w lo' b' G' S) (hS : ShortS S) :
    Calls Tryz.prog 33 #[.pointer (some ⟨b, 0, none⟩), .pointer (some ⟨b', 0, none⟩)] w (RetV w (.bool true)) := by
  have htab := h.tab.is
  have htab' := h'.tab.is
  have hob := h.ob
  have hob' := h'.ob
  obtain ⟨ta, tc, htv⟩ := htab.form
  obtain ⟨xa, xc, hov⟩ := own_form hob
  obtain ⟨ta', tc', htv'⟩ := htab'.form
  obtain ⟨xa', xc', hov'⟩ := own_form hob'
  have hc := fun j => cell_of_row w b j _ _ _ h.hd
  have hc' := fun j => cell_of_row w b' j _ _ _ h'.hd
  rw [htv, hov] at hc
  rw [htv', hov'] at hc'
  have HI : Hid (Below w.heap.size w w ∧ w.cell? ⟨b, 0, none⟩ = some (.slice ta S.T.length tc) ∧ w.cell? ⟨b, 1, none⟩ = some (.int .i64 S.seats) ∧ w.cell? ⟨b, 2, none⟩ = some (.slice xa S.objs.length xc) ∧ w.cell? ⟨b, 3, none⟩ = some (.map (some G.mb)) ∧ w.cell? ⟨b', 0, none⟩ = some (.slice ta' S.T.length tc') ∧ w.cell? ⟨b', 1, none⟩ = some (.int .i64 S.seats) ∧ w.cell? ⟨b', 2, none⟩ = some (.slice xa' S.objs.length xc') ∧ w.cell? ⟨b', 3, none⟩ = some (.map (some G'.mb))) := Lib.hid ⟨Below.refl _ _, hc 0, hc 1, hc 2, hc 3, hc' 0, hc' 1, hc' 2, hc' 3⟩
  rw [htv] at htab
  rw [hov] at hob
  rw [htv'] at htab'
  rw [hov'] at hob'
  have HEO : Hid (∀ w', Below w.heap.size w w' → Calls Tryz.prog 65 #[.slice xa S.objs.length xc, .slice xa' S.objs.length xc'] w' (RetV w' (.bool true))) := Lib.hid fun w' hb => by
    refine (equal_objs (own11_later hob fun k e => hb.block k (World.ownsRow.lt hob k e).2) (own11_later hob' fun k e => hb.block k (World.ownsRow.lt hob' k e).2) hS.1).mono ?_
    rintro e w2 ⟨rfl, n, rfl⟩
    exact ⟨by rw [decide_eq_true rfl], below_drewN (Below.refl _ _) n⟩
  have HEC : Hid (∀ w', Below w.heap.size w w' → Calls Tryz.prog 68 #[.slice ta S.T.length tc, .slice ta' S.T.length tc', .func (.func 69) #[] #[]] w' (RetV w' (.bool true))) := Lib.hid fun w' hb =>
    eqCards_true (htab.later hb) (htab'.later hb) (table_short h.ok) (may_terms h.ok)
  have HEM : Hid (∀ w', Below w.heap.size w w' → Calls Tryz.prog 66 #[.map (some G.mb), .map (some G'.mb), .func (.func 67) #[] #[]] w' (RetV w' (.bool true))) := Lib.hid fun w' hb =>
    mapEq_true (h.later hb) (h'.later hb) hS
  obtain ⟨m1, hm1⟩ : ∃ m1, G.mb = m1 := ⟨_, rfl⟩
  obtain ⟨m2, hm2⟩ : ∃ m2, G'.mb = m2 := ⟨_, rfl⟩
  obtain ⟨T, hT⟩ : ∃ T, S.T = T := ⟨_, rfl⟩
  obtain ⟨O, hO⟩ : ∃ O, S.objs = O := ⟨_, rfl⟩
  obtain ⟨n, hn⟩ : ∃ n, S.seats = n := ⟨_, rfl⟩
  rw [hm1, hm2, hT, hO, hn] at HI
  rw [hO] at HEO
  rw [hT] at HEC
  rw [hm1, hm2] at HEM
  have d : ((n : Int) == (n : Int)) = true := beq_self_eq_true _
  clear h h' hS htab htab' hob hob' htv htv' hov hov' hc hc' hm1 hm2 hT hO hn
  go_enter Tryz.func33, Tryz.ntmps33
  go_wp2
  go_region_held3 (fun w' => Below w.heap.size w w' ∧ w'.cell? ⟨b, 0, none⟩ = some (.slice ta T.length tc) ∧ w'.cell? ⟨b, 1, none⟩ = some (.int .i64 n) ∧ w'.cell? ⟨b, 2, none⟩ = some (.slice xa O.length xc) ∧ w'.cell? ⟨b, 3, none⟩ = some (.map (some m1)) ∧ w'.cell? ⟨b', 0, none⟩ = some (.slice ta' T.length tc') ∧ w'.cell? ⟨b', 1, none⟩ = some (.int .i64 n) ∧ w'.cell? ⟨b', 2, none⟩ = some (.slice xa' O.length xc') ∧ w'.cell? ⟨b', 3, none⟩ = some (.map (some m2)))
    (first | assumption | (with_reducible exact HI.out) | exact keep9 ((Below.refl _ _).drew) HI.out | exact keep9 (by assumption) (by assumption))
    (first
      | (go_at_call 65; refine (HEO.out _ (And.left (by assumption))).mono ?_; rintro e w2 ⟨rfl, hb2⟩)
      | (go_at_call 66; refine (HEM.out _ (And.left (by assumption))).mono ?_; rintro e w2 ⟨rfl, hb2⟩)
      | (go_at_call 68; refine (HEC.out _ (And.left (by assumption))).mono ?_; rintro e w2 ⟨rfl, hb2⟩))
  have hB : Below w.heap.size w w2 := And.left (by assumption)
  go_wp2
  go_ret
  exact ⟨rfl, hB⟩
end Go.Proofs.YtjgjhfeopmakaaaGreat

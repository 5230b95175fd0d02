/- Entries in memory (layer 12): rows of them; slices.Clone, slices.Equal of them. Stacks (layer 12): Len, Room, Push, New, Copy, Same; a stack that isn't there. A stack's All, told from the top on (layer 12); Top, Pop. A stack's Top and Pop (layer 12). A stack that isn't there: Top, Pop (layer 12). -/
import Derived.Test.YtdlkdilgjmmlaaaGreatJx
import Derived.Test.YtdlkdilgjmmlaaaGreatOt
namespace Go.Proofs.YtdlkdilgjmmlaaaGreat
open Go.RowKit Go.Maps

structure EntL where
  seat : Int
  obj : Int
  pos : Int
  trig : Bool
def ecells (x : EntL) : List Value := [.int .i64 x.seat, .int .i64 x.obj, .int .i64 x.pos, .bool x.trig]
def entV (x : EntL) : Value := .agg #[.int .i64 x.seat, .int .i64 x.obj, .int .i64 x.pos, .bool x.trig]
def entsV (l : List EntL) : List Value := l.flatMap ecells
theorem entsV_append (l r : List EntL) : entsV (l ++ r) = entsV l ++ entsV r := by simp [entsV]
def EntCells (w : World) (b o : Nat) (x : EntL) : Prop :=
  w.cell? ⟨b, o, none⟩ = some (.int .i64 x.seat) ∧ w.cell? ⟨b, o + 1, none⟩ = some (.int .i64 x.obj) ∧ w.cell? ⟨b, o + 2, none⟩ = some (.int .i64 x.pos) ∧ w.cell? ⟨b, o + 3, none⟩ = some (.bool x.trig)
theorem EntCells.later {w w' : World} {b o : Nat} {x : EntL} (h : EntCells w b o x) (hb : Below w.heap.size w w') : EntCells w' b o x := by
  obtain ⟨c0, c1, c2, c3⟩ := h
  exact ⟨cell_stays hb c0, cell_stays hb c1, cell_stays hb c2, cell_stays hb c3⟩
def EntsAt (w : World) (v : Value) (l : List EntL) : Prop :=
  (∃ xa cap, v = .slice xa 0 cap ∧ l = []) ∨ ∃ b off cap, v = .slice (some ⟨b, off, none⟩) l.length cap ∧ b < w.heap.size ∧ ∀ i (h : i < l.length), EntCells w b (off + i * 4) l[i]
theorem EntsAt.later {w w' : World} {v : Value} {l : List EntL} (h : EntsAt w v l) (hb : Below w.heap.size w w') : EntsAt w' v l := by
  rcases h with h | ⟨b, off, cap, rfl, hlt, hc⟩
  · exact .inl h
  · exact .inr ⟨b, off, cap, rfl, Nat.lt_of_lt_of_le hlt hb.size, fun i hi => (hc i hi).later hb⟩
theorem EntsAt.form {w : World} {v : Value} {l : List EntL} (h : EntsAt w v l) : ∃ xa xc, v = .slice xa l.length xc := by
  rcases h with ⟨xa, cap, rfl, rfl⟩ | ⟨b, off, cap, rfl, _⟩
  · exact ⟨xa, cap, rfl⟩
  · exact ⟨_, cap, rfl⟩
theorem EntsAt.at {w : World} {xa : Option Addr} {xc : Nat} {l : List EntL} (h : EntsAt w (.slice xa l.length xc) l) (k : Nat) (hk : k < l.length) : ∃ b off, xa = some ⟨b, off, none⟩ ∧ b < w.heap.size ∧ EntCells w b (off + k * 4) l[k] := by
  rcases h with ⟨_, _, _, h2⟩ | ⟨b, off, cap, h1, hlt, hc⟩
  · subst h2; simp at hk
  · injection h1 with h1 _ _; exact ⟨b, off, h1, hlt, hc k hk⟩
theorem info_ent : (Tryz.prog.info? 75).map (fun i => (i.zero, i.size, i.bytes)) = some (some (.agg #[.int .i64 0, .int .i64 0, .int .i64 0, .bool false]), 4, 32) := by kernel_rfl
theorem ecells_one (x : EntL) : ∀ u ∈ ecells x, u.oneCell' = true := by
  intro u hu
  simp only [ecells, List.mem_cons, List.not_mem_nil, or_false] at hu
  rcases hu with rfl | rfl | rfl | rfl <;> rfl
theorem step_append_ent {ops : Array Oper} {o : Oper} {a : Act} {w : World} {K : Act → World → Prop} {Q : Exit → Act → World → Prop} {E : Prop} (hgd : o.guard = none) (s x : Operand)
    (hop : o.op = .call { callee := .builtin .append, args := #[s, x], argTypes := #[71, 71] }) (base : Nat) (v : Value) (l : List EntL) (y : EntL) (hs : a.eval s = v) (r : Nat)
    (hown : w.ownsRow base 75 4 v l.length (entsV l)) (hx : a.eval x = .slice (some ⟨r, 0, none⟩) 1 1) (hr : w.heap[r]? = some (.cells (ecells y).toArray 75 (0, 0))) (h1 : l.length ≤ 1000) (hbase : base ≤ w.heap.size)
    (hK : ∀ g cap w', w'.ownsRow base 75 4 (.slice (some ⟨g, 0, none⟩) (l.length + 1) cap) (l.length + 1) (entsV (l ++ [y])) → w.grownBy w' v.ownBlock → (v.ownBlock = some g ∨ g = w.heap.size) → g < w'.heap.size → K (a.put o.dst (.slice (some ⟨g, 0, none⟩) (l.length + 1) cap)) w') :
    if Region.wanted o (yielded ops a.tmps) = true then Oper.wp Tryz.prog o a w K Q else E := by
  obtain ⟨i0, hi0, hz0, hz1, hz2⟩ := info_parts info_ent
  refine step_append_lies w hgd s x 71 hop base 75 i0 _ 4 32 Tryz.underlying71 hi0 hz0 hz1 hz2 rfl (by decide) v l.length (entsV l) hs hown ⟨r, 0, none⟩ 1 1 (ecells y) hx rfl (World.news_of_block hr) (ecells_one y) (by decide) (by unfold maxLen; omega) (by omega) hbase w.heap.size rfl ?_
  intro g cap w' h2 h3 h4 h5
  refine hK g cap w' ?_ h3 h4 h5
  rw [entsV_append, show entsV [y] = ecells y by simp [entsV]]
  exact h2
def eqE (x y : EntL) : Bool := x.seat == y.seat && (x.obj == y.obj && (x.pos == y.pos && (x.trig == y.trig)))
theorem eqE_iff (x y : EntL) : eqE x y = true ↔ x = y := by
  unfold eqE
  obtain ⟨x0, x1, x2, x3⟩ := x
  obtain ⟨y0, y1, y2, y3⟩ := y
  simp only [Bool.and_eq_true, beq_iff_eq, EntL.mk.injEq]
instance : DecidableEq EntL := fun x y => decidable_of_iff (eqE x y = true) (eqE_iff x y)
end Go.Proofs.YtdlkdilgjmmlaaaGreat
namespace Go.Proofs.YtdlkdilgjmmlaaaGreat
open Go.RowKit Go.Maps
attribute [local go_sem] Oper.semAt_some

theorem own_keepS {w w' : World} {base sz n : Nat} {t : TypeId} {v : Value} {xs : List Value} (h : w.ownsRow base t sz v n xs) (hk : ∀ k, v.ownBlock = some k → w'.heap[k]? = w.heap[k]?) : w'.ownsRow base t sz v n xs := by
  refine ⟨h.1, ?_⟩
  rcases h.2 with h2 | ⟨g, cap, cur, e, hb2, hg, r⟩
  · exact .inl h2
  · exact .inr ⟨g, cap, cur, e, hb2, (hk g (by rw [e]; rfl)).trans hg, r⟩
/-- A stack in memory: its box, its row. -/
def StackAt (w : World) (lo b : Nat) (g : Option Nat) (L : List EntL) : Prop :=
  ∃ v, w.heap[b]? = some (.cells #[v] 73 (0, 0)) ∧ v.ownBlock = g ∧ lo ≤ b ∧ w.ownsRow lo 75 4 v L.length (entsV L)
theorem StackAt.lt {w : World} {lo b : Nat} {g : Option Nat} {L : List EntL} (h : StackAt w lo b g L) : b < w.heap.size := by
  obtain ⟨v, h1, _⟩ := h
  exact (Array.getElem?_eq_some_iff.1 h1).1
theorem StackAt.lo {w : World} {lo b : Nat} {g : Option Nat} {L : List EntL} (h : StackAt w lo b g L) : lo ≤ b := by obtain ⟨v, _, _, h3, _⟩ := h; exact h3
theorem StackAt.row {w : World} {lo b : Nat} {g : Option Nat} {L : List EntL} (h : StackAt w lo b g L) : ∀ k, g = some k → lo ≤ k ∧ k < w.heap.size ∧ k ≠ b := by
  obtain ⟨v, h1, h2, _, h4⟩ := h
  intro k hk
  rw [← h2] at hk
  have := World.ownsRow.lt h4 k hk
  refine ⟨this.1, this.2, fun e => ?_⟩
  rcases h4.2 with ⟨rfl, _⟩ | ⟨g', cap, cur, rfl, _, hg, _⟩
  · simp [Value.ownBlock] at hk
  · obtain rfl : g' = k := by simpa [Value.ownBlock] using hk
    rw [e, h1] at hg
    injection hg with hg
    injection hg with _ ht
    exact absurd ht (by decide)
theorem StackAt.kept {w w' : World} {lo b : Nat} {g : Option Nat} {L : List EntL} (h : StackAt w lo b g L) (hb : w'.heap[b]? = w.heap[b]?) (hg : ∀ k, g = some k → w'.heap[k]? = w.heap[k]?) : StackAt w' lo b g L := by
  obtain ⟨v, h1, h2, h3, h4⟩ := h
  exact ⟨v, hb.trans h1, h2, h3, own_keepS h4 (fun k hk => hg k (by rw [← h2]; exact hk))⟩
theorem StackAt.later {w w' : World} {lo b : Nat} {g : Option Nat} {L : List EntL} (h : StackAt w lo b g L) (hb : Below w.heap.size w w') : StackAt w' lo b g L :=
  h.kept (hb.block b h.lt) fun k hk => hb.block k (h.row k hk).2.1
theorem StackAt.mono {w : World} {lo lo' b : Nat} {g : Option Nat} {L : List EntL} (h : StackAt w lo b g L) (hl : lo' ≤ lo) : StackAt w lo' b g L := by
  obtain ⟨v, h1, h2, h3, h4⟩ := h
  exact ⟨v, h1, h2, Nat.le_trans hl h3, own_mono h4 hl⟩
theorem StackAt.far {w w' : World} {lo b b2 : Nat} {g g2 : Option Nat} {L : List EntL} (h : StackAt w lo b2 g2 L) (hc : Chg w w' b g) (hs : Sep b g b2 g2) : StackAt w' lo b2 g2 L :=
  h.kept (hc.block b2 h.lt (Ne.symm hs.1) hs.2.1) fun k hk => hc.block k (h.row k hk).2.1 (fun e => hs.2.2.1 (by rw [hk, e])) (fun e => hs.2.2.2 k e hk)
theorem StackAt.free {w : World} {lo b : Nat} {g : Option Nat} {L : List EntL} (h : StackAt w lo b g L) (j : Nat) : w.frozen? ⟨b, j, none⟩ = false := by
  obtain ⟨v, h1, _⟩ := h
  exact frozen_of_row w b j _ _ h1
/-- The stack's field, its row. -/
theorem StackAt.field {w : World} {lo b : Nat} {g : Option Nat} {L : List EntL} (h : StackAt w lo b g L) : ∃ xa xc, w.cell? ⟨b, 0, none⟩ = some (.slice xa L.length xc) ∧ (Value.slice xa L.length xc).ownBlock = g ∧ w.ownsRow lo 75 4 (.slice xa L.length xc) L.length (entsV L) := by
  obtain ⟨v, h1, h2, h3, h4⟩ := h
  obtain ⟨xa, xc, rfl⟩ := own_form h4
  exact ⟨xa, xc, by rw [cell_of_row w b 0 _ _ _ h1]; rfl, h2, h4⟩
/-- A stack's row laid anew. -/
theorem stack_put {w w1 w2 : World} {lo b : Nat} {g : Option Nat} {v v' : Value} {L : List EntL} (hbl : w1.heap[b]? = some (.cells #[v] 73 (0, 0))) (hlo : lo ≤ b) (hb1 : Below w.heap.size w w1)
    (hg : w1.grownBy w2 g) (hgb : g ≠ some b) (hown : w2.ownsRow lo 75 4 v' L.length (entsV L)) (hnb : v'.ownBlock ≠ some b) :
    StackAt (w2.setCell ⟨b, 0, none⟩ v') lo b v'.ownBlock L ∧ Chg w (w2.setCell ⟨b, 0, none⟩ v') b g := by
  have h2 : w2.heap[b]? = some (.cells #[v] 73 (0, 0)) := (hg.block b (Array.getElem?_eq_some_iff.1 hbl).1 (Ne.symm hgb)).trans hbl
  refine ⟨⟨v', ?_, rfl, hlo, own_keepS hown (fun k hk => heap_setCell_other w2 ⟨b, 0, none⟩ k v' (fun e => hnb (by rw [hk, e])))⟩, ⟨hg.os.trans hb1.os, hg.tape.trans hb1.tape, hg.output.trans hb1.output, ?_, ?_⟩⟩
  · rw [heap_setCell_same w2 b 0 _ _ v' h2]; rfl
  · have := hb1.size; have := hg.size; simp; omega
  · intro k hk hkb hkg
    rw [heap_setCell_other w2 ⟨b, 0, none⟩ k v' hkb, hg.block k (Nat.lt_of_lt_of_le hk hb1.size) (Ne.symm hkg), hb1.block k hk]
def RetStk (w : World) (lo b : Nat) (g : Option Nat) (v : Value) (L : List EntL) (e : Ending) (w' : World) : Prop := ∃ g', e = .returned v ∧ StackAt w' lo b g' L ∧ Chg w w' b g ∧ Newer w g g'

theorem room_stk {w : World} {lo b : Nat} {g : Option Nat} {L : List EntL} (h : StackAt w lo b g L) (hL : L.length ≤ 1000) : Calls Tryz.prog 82 #[.pointer (some ⟨b, 0, none⟩)] w (Same w (.int .i64 (8 - (L.length : Int)))) := by
  obtain ⟨xa, xc, c0, -, -⟩ := h.field
  clear h
  go_enter Tryz.func82, Tryz.ntmps82
  go_wp2
  go_ret
  exact ⟨rfl, rfl⟩
set_option maxRecDepth 100000 in
/-- Push where there is no room. -/
theorem push_full {w : World} {lo b : Nat} {g : Option Nat} {L : List EntL} (x : EntL) (h : StackAt w lo b g L) (hL : L.length = 8) : Calls Tryz.prog 40 #[.pointer (some ⟨b, 0, none⟩), entV x] w (RetV w (.int .i64 6)) := by
  obtain ⟨x0, x1, x2, x3⟩ := x
  unfold entV
  dsimp only
  have HR := Lib.hid (room_stk (h.later (below_new w (.cells #[.int .i64 x0, .int .i64 x1, .int .i64 x2, .bool x3] 75))) (by omega))
  rw [hL] at HR
  clear h hL
  go_enter Tryz.func40, Tryz.ntmps40
  go_wp2_with fail
  refine HR.out.mono ?_
  rintro e w1 ⟨rfl, rfl⟩
  go_wp2
  go_ret
  exact ⟨rfl, below_new w _⟩
set_option maxRecDepth 100000 in
set_option maxHeartbeats 4000000 in
theorem push_ok {w : World} {lo b : Nat} {g : Option Nat} {L : List EntL} (x : EntL) (h : StackAt w lo b g L) (hL : L.length < 8) : Calls Tryz.prog 40 #[.pointer (some ⟨b, 0, none⟩), entV x] w (RetStk w lo b g (.int .i64 0) (L ++ [x])) := by
  obtain ⟨x0, x1, x2, x3⟩ := x
  have hW := below_new w (.cells #[.int .i64 x0, .int .i64 x1, .int .i64 x2, .bool x3] 75)
  have HR := Lib.hid (room_stk (h.later hW) (by omega))
  have e0 : ((8 : Int) - (L.length : Int) == 0) = false := beq_eq_false_iff_ne.2 (by omega)
  have HLO := Lib.hid (And.intro h.lo h.lt)
  have HRW := Lib.hid h.row
  obtain ⟨v, h1, h2, -, h4⟩ := h.later hW
  obtain ⟨xa, xc, rfl⟩ := own_form h4
  have c0 := cell_of_row _ b 0 _ _ _ h1
  rw [show #[Value.slice xa L.length xc][0]? = some (.slice xa L.length xc) from rfl] at c0
  have s0 := cell_of_row _ w.heap.size 0 _ _ _ (heap_alloc_new w (.cells #[.int .i64 x0, .int .i64 x1, .int .i64 x2, .bool x3] 75))
  have s1 := cell_of_row _ w.heap.size 1 _ _ _ (heap_alloc_new w (.cells #[.int .i64 x0, .int .i64 x1, .int .i64 x2, .bool x3] 75))
  have s2 := cell_of_row _ w.heap.size 2 _ _ _ (heap_alloc_new w (.cells #[.int .i64 x0, .int .i64 x1, .int .i64 x2, .bool x3] 75))
  have s3 := cell_of_row _ w.heap.size 3 _ _ _ (heap_alloc_new w (.cells #[.int .i64 x0, .int .i64 x1, .int .i64 x2, .bool x3] 75))
  rw [show #[Value.int .i64 x0, .int .i64 x1, .int .i64 x2, .bool x3][0]? = some (.int .i64 x0) from rfl] at s0
  rw [show #[Value.int .i64 x0, .int .i64 x1, .int .i64 x2, .bool x3][1]? = some (.int .i64 x1) from rfl] at s1
  rw [show #[Value.int .i64 x0, .int .i64 x1, .int .i64 x2, .bool x3][2]? = some (.int .i64 x2) from rfl] at s2
  rw [show #[Value.int .i64 x0, .int .i64 x1, .int .i64 x2, .bool x3][3]? = some (.bool x3) from rfl] at s3
  obtain ⟨W, hWW⟩ : ∃ W, w.alloc (.cells #[.int .i64 x0, .int .i64 x1, .int .i64 x2, .bool x3] 75) = W := ⟨_, rfl⟩
  rw [hWW] at HR hW h1 h4 c0 s0 s1 s2 s3
  have HH := Lib.hid (And.intro h1 h4)
  have HG := Lib.hid h2
  have HW := Lib.hid hWW
  have HB0 := Lib.hid hW
  unfold entV
  dsimp only
  clear h h1 h2 h4 hW hWW
  go_enter Tryz.func40, Tryz.ntmps40
  go_wp2_with fail
  rw [HW.out]
  refine HR.out.mono ?_
  rintro e w1 ⟨rfl, rfl⟩
  go_wp2
  have c0a := cell_stays (below_new w1 (.cells #[.int .i64 x0, .int .i64 x1, .int .i64 x2, .bool x3] 75)) c0
  go_region_law ((first
    | (refine step_append_ent rfl _ _ rfl lo (.slice xa L.length xc) L ⟨x0, x1, x2, x3⟩ rfl w1.heap.size (own_keepS HH.out.2 (fun k hk => (below_new w1 _).block k (World.ownsRow.lt HH.out.2 k hk).2)) rfl (heap_alloc_new w1 _) (by omega) (by have := HLO.out; have := HB0.out.size; simp; omega) ?_
       intro g' cap' w3 hown hgrow hat hlt3
       have hhd : w3.heap[b]? = some (.cells #[.slice xa L.length xc] 73 (0, 0)) := (hgrow.block b (by have := HLO.out.2; have := HB0.out.size; simp; omega) (by rw [HG.out]; exact fun e => (HRW.out b e.symm).2.2 rfl)).trans (((below_new w1 _).block b (by have := HLO.out.2; have := HB0.out.size; omega)).trans HH.out.1)
       have c3 : w3.cell? ⟨b, 0, none⟩ = some (.slice xa L.length xc) := (by rw [cell_of_row w3 b 0 _ _ _ hhd]; rfl)
       have f3 : w3.frozen? ⟨b, 0, none⟩ = false := frozen_of_row w3 b 0 _ _ hhd)
    | (fail "arm")))
  all_goals
    have hput := stack_put (w := w) (w1 := (w1.alloc (.cells #[.int .i64 x0, .int .i64 x1, .int .i64 x2, .bool x3] 75)).drew) (lo := lo) (g := g) (v' := .slice (some ⟨g', 0, none⟩) (L.length + 1) cap') (L := L ++ [⟨x0, x1, x2, x3⟩]) (((below_new w1 _).block b (by have := HLO.out.2; have := HB0.out.size; omega)).trans HH.out.1) HLO.out.1 (below_alloc2 HB0.out _).drew (by rw [← HG.out]; exact hgrow) (fun e => (HRW.out b e).2.2 rfl) (by simpa using hown) (by
      intro e
      have e1 : g' = b := by simpa [Value.ownBlock] using e
      rcases hat with h | h
      · rw [HG.out] at h; exact (HRW.out g' h).2.2 e1
      · have h1 := HLO.out.2; have h2 := HB0.out.size; have h3 : g' = w1.heap.size + 1 := by rw [h]; simp
        omega)
    have HPUT := Lib.hid hput
    have HN : Hid (Newer w g (some g')) := Lib.hid (by
      rcases hat with h | h
      · exact .inl (by rw [← HG.out, h])
      · exact .inr ⟨g', rfl, by have h2 := HB0.out.size; have h3 : g' = w1.heap.size + 1 := by rw [h]; simp
                                omega⟩)
    clear hown hgrow hat hlt3 hput hhd c3 f3
    go_wp2
    go_ret
    exact ⟨_, rfl, HPUT.out.1, HPUT.out.2, HN.out⟩
/-- A stack of its own. -/
def RetCopyK (w : World) (L : List EntL) (e : Ending) (w' : World) : Prop := ∃ b g, e = .returned (.pointer (some ⟨b, 0, none⟩)) ∧ StackAt w' w.heap.size b g L ∧ Below w.heap.size w w'
theorem take8_lt {l : List EntL} {k : Nat} (hk : k < l.length) (h8 : k < 8) : (l.take (k + 1)).take 8 = (l.take k).take 8 ++ [l[k]] := by
  rw [List.take_take, List.take_take, show min 8 (k + 1) = k + 1 by omega, show min 8 k = k by omega, take_last l k hk]
theorem take8_ge {l : List EntL} {k : Nat} (h8 : 8 ≤ k) : (l.take (k + 1)).take 8 = (l.take k).take 8 := by
  rw [List.take_take, List.take_take, show min 8 (k + 1) = 8 by omega, show min 8 k = 8 by omega]
set_option maxRecDepth 100000 in
set_option maxHeartbeats 4000000 in
theorem new_stk {w : World} {v : Value} {l : List EntL} (hv : EntsAt w v l) (hl : l.length ≤ 9223372036854775806) : Calls Tryz.prog 8 #[v] w (RetCopyK w (l.take 8)) := by
  obtain ⟨xa, xc, rfl⟩ := hv.form
  have HV := Lib.hid hv
  have HS0 : Hid (StackAt (w.alloc (.cells #[.slice none 0 0] 73)) w.heap.size w.heap.size none ((l.take 0).take 8)) := Lib.hid ⟨.slice none 0 0, heap_alloc_new w _, rfl, Nat.le_refl _, World.ownsRow_nil _ _ _ _⟩
  have HB0 := Lib.hid (below_new w (.cells #[.slice none 0 0] 73))
  clear hv
  go_enter Tryz.func8, Tryz.ntmps8
  go_wp2
  go_loopw [9] (fun i wr => ∃ (k : Nat) (g : Option Nat), k ≤ l.length ∧ i = .int .i64 k ∧ Hid (StackAt wr w.heap.size w.heap.size g ((l.take k).take 8)) ∧ Hid (Below w.heap.size w wr)) (fun i _ => l.length - (intOf i).toNat)
  case atStart => exact ⟨0, none, Nat.zero_le _, rfl, HS0, HB0⟩
  case round =>
    obtain ⟨k, g, hk, rfl, HS, HB⟩ := hrel
    by_cases hlt : k < l.length
    · have d0 : decide ((k : Int) < l.length) = true := decide_eq_true (by omega)
      have d1 : decide (k < l.length) = true := decide_eq_true hlt
      obtain ⟨bb, off, rfl, hbb, s0, s1, s2, s3⟩ := (HV.out.later HB.out).at k hlt
      have hlen : ((l.take k).take 8).length = min k 8 := by rw [List.length_take, List.length_take]; omega
      have HT8 := Lib.hid (And.intro (take8_lt (l := l) hlt) (take8_ge (l := l) (k := k)))
      obtain ⟨x, hx⟩ : ∃ x, l[k] = x := ⟨_, rfl⟩
      rw [hx] at s0 s1 s2 s3 HT8
      obtain ⟨x0, x1, x2, x3⟩ := x
      dsimp only at s0 s1 s2 s3
      have hb1 := below_new wr (.cells #[.int .i64 x0, .int .i64 x1, .int .i64 x2, .bool x3] 75)
      have HS1 := Lib.hid (HS.out.later hb1)
      have HB1 := Lib.hid (stepB HB.out hb1)
      by_cases h8 : k < 8
      · have HP := Lib.hid (push_ok ⟨x0, x1, x2, x3⟩ HS1.out (by omega))
        have HN := Lib.hid (HT8.out.1 h8)
        have HRW := Lib.hid HS1.out.row
        unfold entV at HP
        dsimp only at HP
        clear hx hb1 hlen h8
        go_wp2_with fail
        refine HP.out.mono ?_
        rintro e w2 ⟨g', rfl, hs2, hc2, -⟩
        have HS2 := Lib.hid hs2
        have HB2 := Lib.hid (hc2.below HB1.out (Nat.le_refl _) (fun q hq => (HRW.out q hq).1))
        clear hs2 hc2 HP s0 s1 s2 s3
        go_wp2
        go_roundw
        case rel => exact ⟨k + 1, g', by omega, by go_num, Lib.hid (by rw [HN.out]; exact HS2.out), HB2⟩
        case measure => simp [intOf]; omega
      · have HP := Lib.hid (push_full ⟨x0, x1, x2, x3⟩ HS1.out (by omega))
        have HN := Lib.hid (HT8.out.2 (by omega))
        unfold entV at HP
        dsimp only at HP
        clear hx hb1 hlen h8
        go_wp2_with fail
        refine HP.out.mono ?_
        rintro e w2 ⟨rfl, hb2⟩
        have HS2 := Lib.hid (HS1.out.later hb2)
        have HB2 := Lib.hid (stepB HB1.out hb2)
        clear hb2 HP s0 s1 s2 s3
        go_wp2
        go_roundw
        case rel => exact ⟨k + 1, g, by omega, by go_num, Lib.hid (by rw [HN.out]; exact HS2.out), HB2⟩
        case measure => simp [intOf]; omega
    · obtain rfl : k = l.length := by omega
      go_wp2
      go_ret
      rw [List.take_length] at HS
      exact ⟨_, g, rfl, HS.out, HB.out⟩
end Go.Proofs.YtdlkdilgjmmlaaaGreat
namespace Go.Proofs.YtdlkdilgjmmlaaaGreat
open Go.RowKit Go.Maps
attribute [local go_sem] Oper.semAt_some

end Go.Proofs.YtdlkdilgjmmlaaaGreat
namespace Go.Proofs.YtdlkdilgjmmlaaaGreat
open Go.RowKit Go.Maps
attribute [local go_sem] Oper.semAt_some

theorem KpP.cell {E H : Nat → Prop} {W : World} {b j : Nat} (u : Value) (hE : E b) (hH : ∀ c, H c → c ≠ b) : KpP E H W (W.setCell ⟨b, j, none⟩ u) :=
  ⟨by simp, fun k o ho hn _ => (heap_setCell_other W ⟨b, j, none⟩ k u (fun e => hn (by rw [e]; exact hE))).trans ho, fun c v hc hv => ⟨v, hv.of (heap_setCell_other W ⟨b, j, none⟩ c u (hH c hc)), .inl rfl⟩⟩
theorem KeepsFrom.cell {B : Nat} {W : World} {b j : Nat} (u : Value) (hb : b < B) : KeepsFrom B W (W.setCell ⟨b, j, none⟩ u) :=
  (KpP.cell (E := fun k => k = b) (H := fun _ => False) u rfl (fun _ h => h.elim)).from (fun k e => by rw [e]; exact hb)
end Go.Proofs.YtdlkdilgjmmlaaaGreat
namespace Go.Proofs.YtdlkdilgjmmlaaaGreat
open Go.RowKit Go.Maps
attribute [local go_sem] Oper.semAt_some

end Go.Proofs.YtdlkdilgjmmlaaaGreat

/- What a round of a loop over a pile keeps; the iterator of All (layer 5), as far as its rounds go on, whatever they make of the pile. -/
import Derived.Test.YthciiapdfjemaaaFh
import Derived.Test.YthciiapdfjemaaaRg
namespace Go.Proofs.Ythciiapdfjemaaa
open Go.RowKit

/-- A box with one value. -/
def HdAt (W : World) (b : Nat) (v : Value) : Prop := ∃ t, W.heap[b]? = some (.cells #[v] t (0, 0))
theorem HdAt.lt {W : World} {b : Nat} {v : Value} (h : HdAt W b v) : b < W.heap.size := by obtain ⟨t, h⟩ := h; exact (Array.getElem?_eq_some_iff.1 h).1
theorem HdAt.one {W : World} {b : Nat} {v v' : Value} (h : HdAt W b v) (h' : HdAt W b v') : v = v' := by
  obtain ⟨t, h⟩ := h
  obtain ⟨t', h'⟩ := h'
  rw [h] at h'
  injection h' with h'
  injection h' with h' _ _
  injection h' with h'
  injection h' with h' _
theorem HdAt.of {W W' : World} {b : Nat} {v : Value} (h : HdAt W b v) (he : W'.heap[b]? = W.heap[b]?) : HdAt W' b v := by obtain ⟨t, h⟩ := h; exact ⟨t, he.trans h⟩
theorem HdAt.later {W W' : World} {b : Nat} {v : Value} (h : HdAt W b v) (hb : Below W.heap.size W W') : HdAt W' b v := h.of (hb.block b h.lt)
theorem HdAt.cell {W : World} {b : Nat} {v : Value} (h : HdAt W b v) : W.cell? ⟨b, 0, none⟩ = some v := by obtain ⟨t, h⟩ := h; rw [cell_of_row W b 0 _ _ _ h]; rfl
theorem HdAt.frozen {W : World} {b : Nat} {v : Value} (h : HdAt W b v) : W.frozen? ⟨b, 0, none⟩ = false := by obtain ⟨t, h⟩ := h; exact frozen_of_row W b 0 _ _ h
theorem HdAt.new (W : World) (v : Value) (t : TypeId) : HdAt (W.alloc (.cells #[v] t)) W.heap.size v := ⟨t, World.alloc_heap_new W _⟩
theorem HdAt.set {W : World} {b : Nat} {v : Value} (h : HdAt W b v) (u : Value) : HdAt (W.setCell ⟨b, 0, none⟩ u) b u := by
  obtain ⟨t, h⟩ := h
  exact ⟨t, by rw [heap_setCell_same W b 0 _ _ u h]; rfl⟩
theorem HdAt.other {W : World} {b c j : Nat} {v : Value} (h : HdAt W b v) (hne : b ≠ c) (u : Value) : HdAt (W.setCell ⟨c, j, none⟩ u) b v := h.of (heap_setCell_other W ⟨c, j, none⟩ b u hne)
theorem PileAt.head {W : World} {lo b : Nat} {g : Option Nat} {L : List Int} (h : PileAt W lo b g L) : ∃ v, HdAt W b v ∧ v.ownBlock = g := by obtain ⟨v, h1, h2, _⟩ := h; exact ⟨v, ⟨_, h1⟩, h2⟩
theorem newer_ne1 {w : World} {g g' : Option Nat} {k : Nat} (hn : Newer w g g') (hk : k < w.heap.size) (hg : g ≠ some k) : g' ≠ some k := by
  rcases hn with e | ⟨r, e, hr⟩
  · rw [e]; exact hg
  · rw [e]; intro e2; injection e2 with e2; omega
/-- A block that is none of the heads, nor of their rows. -/
def Off (H : Nat → Prop) (W : World) (k : Nat) : Prop := ¬H k ∧ ∀ b, H b → ∃ v, HdAt W b v ∧ v.ownBlock ≠ some k
/-- What a round keeps: all but the blocks E, the heads H and their rows (as they are read off the world). -/
structure KpP (E H : Nat → Prop) (W W' : World) : Prop where
  size : W.heap.size ≤ W'.heap.size
  rest : ∀ k o, W.heap[k]? = some o → ¬E k → (o.isCells = true → Off H W k) → W'.heap[k]? = some o
  head : ∀ b v, H b → HdAt W b v → ∃ v', HdAt W' b v' ∧ Newer W v.ownBlock v'.ownBlock
theorem KpP.off {E H : Nat → Prop} {W W' : World} {k : Nat} (h : KpP E H W W') (ho : Off H W k) (hk : k < W.heap.size) : Off H W' k :=
  ⟨ho.1, fun b hb => by
    obtain ⟨v, h1, h2⟩ := ho.2 b hb
    obtain ⟨v', h3, h4⟩ := h.head b v hb h1
    exact ⟨v', h3, newer_ne1 h4 hk h2⟩⟩
theorem KpP.refl (E H : Nat → Prop) (W : World) : KpP E H W W := ⟨Nat.le_refl _, fun _ _ h _ _ => h, fun _ v _ h => ⟨v, h, .inl rfl⟩⟩
theorem KpP.trans {E H : Nat → Prop} {A B C : World} (h : KpP E H A B) (k : KpP E H B C) : KpP E H A C :=
  ⟨Nat.le_trans h.size k.size, fun i o ho hE hH => k.rest i o (h.rest i o ho hE hH) hE (fun hc => h.off (hH hc) (Array.getElem?_eq_some_iff.1 ho).1), fun b v hb hv => by
    obtain ⟨v1, h1, n1⟩ := h.head b v hb hv
    obtain ⟨v2, h2, n2⟩ := k.head b v1 hb h1
    refine ⟨v2, h2, ?_⟩
    rcases n2 with e | ⟨r, e, hr⟩
    · rw [e]; exact n1
    · exact .inr ⟨r, e, Nat.le_trans h.size hr⟩⟩
theorem KpP.mono {E E' H : Nat → Prop} {W W' : World} (h : KpP E H W W') (hE : ∀ k, E k → E' k) : KpP E' H W W' := ⟨h.size, fun k o ho hn hH => h.rest k o ho (fun e => hn (hE k e)) hH, h.head⟩
theorem KpP.of_below {W W' : World} (E H : Nat → Prop) (h : Below W.heap.size W W') : KpP E H W W' :=
  ⟨h.size, fun k _ ho _ _ => (h.block k (Array.getElem?_eq_some_iff.1 ho).1).trans ho, fun _ v _ hv => ⟨v, hv.later h, .inl rfl⟩⟩
theorem KpP.from {E H : Nat → Prop} {W W' : World} {B : Nat} (h : KpP E H W W') (hE : ∀ k, E k → k < B) : KeepsFrom B W W' :=
  ⟨h.size, fun k o hB ho hc => h.rest k o ho (fun e => by have := hE k e; omega) (fun hc' => by rw [hc] at hc'; cases hc')⟩
theorem KpP.put {E H : Nat → Prop} {W : World} {l : Nat} {o : Obj} (o' : Obj) (hl : E l) (ho : W.heap[l]? = some o) (hc : o.isCells = false) : KpP E H W (W.putObj l o') :=
  ⟨by simp, fun k _ hk hE _ => (World.putObj_heap_other (fun e => hE (by rw [e]; exact hl))).trans hk, fun _ v _ hv => by
    refine ⟨v, hv.of (World.putObj_heap_other (fun e => ?_)), .inl rfl⟩
    obtain ⟨t, hv⟩ := hv
    rw [e, ho] at hv
    injection hv with hv
    rw [hv] at hc
    simp [Obj.isCells] at hc⟩
theorem own_cells {W : World} {lo n : Nat} {t : TypeId} {v : Value} {xs : List Value} (h : W.ownsRow lo t 1 v n xs) : ∀ k, v.ownBlock = some k → ∃ o, W.heap[k]? = some o ∧ o.isCells = true := by
  intro k hk
  rcases h.2 with ⟨rfl, _⟩ | ⟨g', cap, cur, rfl, _, hg, _⟩
  · simp [Value.ownBlock] at hk
  · obtain rfl : g' = k := by simpa [Value.ownBlock] using hk
    exact ⟨_, hg, rfl⟩
theorem PileAt.cells {W : World} {lo b : Nat} {g : Option Nat} {L : List Int} (h : PileAt W lo b g L) : ∀ k o, W.heap[k]? = some o → o.isCells = false → k ≠ b ∧ g ≠ some k := by
  obtain ⟨v, h1, h2, _, h4⟩ := h
  intro k o ho hc
  refine ⟨fun e => ?_, fun e => ?_⟩
  · rw [e, h1] at ho; injection ho with ho; rw [← ho] at hc; simp [Obj.isCells] at hc
  · rw [← h2] at e
    obtain ⟨o', ho', hc'⟩ := own_cells h4 k e
    rw [ho] at ho'; injection ho' with ho'; rw [ho', hc'] at hc; cases hc
/-- A pile's change is such a step. -/
theorem KpP.of_chg {E H : Nat → Prop} {W W' : World} {lo lo' b : Nat} {g g' : Option Nat} {L L' : List Int} (hc : Chg W W' b g) (hp : PileAt W lo b g L) (hp' : PileAt W' lo' b g' L') (hn : Newer W g g') (hb : H b) (hs : ∀ c, H c → c ≠ b → g ≠ some c) : KpP E H W W' := by
  obtain ⟨v0, hv0, hg0⟩ := hp.head
  refine ⟨hc.size, fun k o ho _ hH => ?_, fun c v hcH hv => ?_⟩
  · have hkb : k ≠ b ∧ g ≠ some k := by
      cases hx : o.isCells with
      | false => exact hp.cells k o ho hx
      | true =>
        have hO := hH hx
        obtain ⟨v, h1, h2⟩ := hO.2 b hb
        exact ⟨fun e => hO.1 (e ▸ hb), by rw [← hg0, hv0.one h1]; exact h2⟩
    exact (hc.block k (Array.getElem?_eq_some_iff.1 ho).1 hkb.1 hkb.2).trans ho
  · by_cases hcb : c = b
    · subst hcb
      obtain ⟨v1, hv1, hg1⟩ := hp'.head
      exact ⟨v1, hv1, by rw [hv.one hv0, hg0, hg1]; exact hn⟩
    · exact ⟨v, hv.of (hc.block c hv.lt hcb (hs c hcH hcb)), .inl rfl⟩
theorem KpP.of_chg2 {E H : Nat → Prop} {W W' : World} {lo lo' b c : Nat} {g g' gc gc' : Option Nat} {L L' M M' : List Int} (hc : Chg2 W W' b g c gc) (hp : PileAt W lo b g L) (hp' : PileAt W' lo' b g' L') (hn : Newer W g g') (hb : H b)
    (hq : PileAt W lo c gc M) (hq' : PileAt W' lo' c gc' M') (hm : Newer W gc gc') (hcH : H c) (hs : ∀ d, H d → d ≠ b → d ≠ c → g ≠ some d ∧ gc ≠ some d) : KpP E H W W' := by
  obtain ⟨v0, hv0, hg0⟩ := hp.head
  obtain ⟨u0, hu0, hk0⟩ := hq.head
  refine ⟨hc.size, fun k o ho _ hH => ?_, fun d v hdH hv => ?_⟩
  · have hkb : (k ≠ b ∧ g ≠ some k) ∧ k ≠ c ∧ gc ≠ some k := by
      cases hx : o.isCells with
      | false => exact ⟨hp.cells k o ho hx, hq.cells k o ho hx⟩
      | true =>
        have hO := hH hx
        obtain ⟨v, h1, h2⟩ := hO.2 b hb
        obtain ⟨u, h3, h4⟩ := hO.2 c hcH
        exact ⟨⟨fun e => hO.1 (e ▸ hb), by rw [← hg0, hv0.one h1]; exact h2⟩, fun e => hO.1 (e ▸ hcH), by rw [← hk0, hu0.one h3]; exact h4⟩
    exact (hc.block k (Array.getElem?_eq_some_iff.1 ho).1 hkb.1.1 hkb.1.2 hkb.2.1 hkb.2.2).trans ho
  · by_cases hdb : d = b
    · subst hdb
      obtain ⟨v1, hv1, hg1⟩ := hp'.head
      exact ⟨v1, hv1, by rw [hv.one hv0, hg0, hg1]; exact hn⟩
    · by_cases hdc : d = c
      · subst hdc
        obtain ⟨v1, hv1, hg1⟩ := hq'.head
        exact ⟨v1, hv1, by rw [hv.one hu0, hk0, hg1]; exact hm⟩
      · exact ⟨v, hv.of (hc.block d hv.lt hdb (hs d hdH hdb hdc).1 hdc (hs d hdH hdb hdc).2), .inl rfl⟩
theorem Off.later {H : Nat → Prop} {W W' : World} {k : Nat} (h : Off H W k) (hb : Below W.heap.size W W') : Off H W' k := ⟨h.1, fun b hb' => by obtain ⟨v, h1, h2⟩ := h.2 b hb'; exact ⟨v, h1.later hb, h2⟩⟩
theorem HdAt.grown {A B : World} {b : Nat} {v : Value} {row : Option Nat} (h : HdAt A b v) (hg : A.grownBy B row) (hr : ∀ r, row = some r → ∃ o : Obj, A.heap[r]? = some o ∧ o.isCells = false) : HdAt B b v := by
  obtain ⟨t, h⟩ := h
  exact ⟨t, (grownBy_keeps_cells hg hr h rfl).trans h⟩
theorem Off.grown {H : Nat → Prop} {A B : World} {k : Nat} {row : Option Nat} (h : Off H A k) (hg : A.grownBy B row) (hr : ∀ r, row = some r → ∃ o : Obj, A.heap[r]? = some o ∧ o.isCells = false) : Off H B k :=
  ⟨h.1, fun b hb' => by obtain ⟨v, h1, h2⟩ := h.2 b hb'; exact ⟨v, h1.grown hg hr, h2⟩⟩
theorem PileAt.grown {A B : World} {lo b : Nat} {g : Option Nat} {L : List Int} {row : Option Nat} (h : PileAt A lo b g L) (hg : A.grownBy B row) (hr : ∀ r, row = some r → ∃ o : Obj, A.heap[r]? = some o ∧ o.isCells = false) : PileAt B lo b g L := by
  obtain ⟨v, h1, h2, h3, h4⟩ := h
  refine ⟨v, (grownBy_keeps_cells hg hr h1 rfl).trans h1, h2, h3, h4.1, ?_⟩
  rcases h4.2 with h5 | ⟨g', cap, cur, e, hb2, hg2, r⟩
  · exact .inl h5
  · exact .inr ⟨g', cap, cur, e, hb2, (grownBy_keeps_cells hg hr hg2 rfl).trans hg2, r⟩
/-- A slice's row stays. -/
theorem vals_kp {E H : Nat → Prop} {W W' : World} {v : Value} {xs : List Value} (h : ValsAt W v xs) (hk : KpP E H W W') (hv : ∀ k, v.ownBlock = some k → ¬E k ∧ Off H W k) : ValsAt W' v xs := by
  rcases h with h | ⟨r, off, cap, rfl, hlt, hcell⟩
  · exact .inl h
  · obtain ⟨h1, h2⟩ := hv r rfl
    obtain ⟨o, ho⟩ : ∃ o, W.heap[r]? = some o := ⟨_, Array.getElem?_eq_getElem hlt⟩
    refine .inr ⟨r, off, cap, rfl, Nat.lt_of_lt_of_le hlt hk.size, fun i hi => ?_⟩
    rw [World.cell?_of_block (w := W) (a := ⟨r, off + i, none⟩) ((hk.rest r o ho h1 (fun _ => h2)).trans ho.symm)]
    exact hcell i hi
/-- Boxes that stay. -/
def Boxes (H : Nat → Prop) (ks : List (Nat × Value)) (W : World) : Prop := ∀ q ∈ ks, HdAt W q.1 q.2 ∧ Off H W q.1
theorem Boxes.kept {E H : Nat → Prop} {ks : List (Nat × Value)} {W W' : World} (h : Boxes H ks W) (hk : KpP E H W W') (hE : ∀ q ∈ ks, ¬E q.1) : Boxes H ks W' := fun q hq => by
  obtain ⟨h1, h2⟩ := h q hq
  refine ⟨?_, hk.off h2 h1.lt⟩
  obtain ⟨t, h1⟩ := h1
  exact ⟨t, hk.rest q.1 _ h1 (hE q hq) (fun _ => h2)⟩
theorem Boxes.later {H : Nat → Prop} {ks : List (Nat × Value)} {W W' : World} (h : Boxes H ks W) (hb : Below W.heap.size W W') : Boxes H ks W' := fun q hq => ⟨(h q hq).1.later hb, (h q hq).2.later hb⟩
theorem Boxes.grown {H : Nat → Prop} {ks : List (Nat × Value)} {A B : World} {row : Option Nat} (h : Boxes H ks A) (hg : A.grownBy B row) (hr : ∀ r, row = some r → ∃ o : Obj, A.heap[r]? = some o ∧ o.isCells = false) : Boxes H ks B := fun q hq => ⟨(h q hq).1.grown hg hr, (h q hq).2.grown hg hr⟩
/-- The heads lie there, with rows. -/
def Heads (H : Nat → Prop) (W : World) : Prop := ∀ b, H b → ∃ v, HdAt W b v ∧ ∀ k, v.ownBlock = some k → k < W.heap.size
theorem Heads.later {H : Nat → Prop} {W W' : World} (h : Heads H W) (hb : Below W.heap.size W W') : Heads H W' := fun b hb' => by obtain ⟨v, h1, h2⟩ := h b hb'; exact ⟨v, h1.later hb, fun k hk => Nat.lt_of_lt_of_le (h2 k hk) hb.size⟩
theorem Heads.off {H : Nat → Prop} {W : World} {k : Nat} (h : Heads H W) (hk : W.heap.size ≤ k) {W' : World} (hb : Below W.heap.size W W') : Off H W' k :=
  ⟨fun e => by obtain ⟨v, h1, _⟩ := h k e; have := h1.lt; omega, fun b hb' => by obtain ⟨v, h1, h2⟩ := h b hb'; exact ⟨v, h1.later hb, fun e => by have := h2 k e; omega⟩⟩
theorem zip_at (L : List Int) (k : Nat) (h : k < L.length) : L.zipIdx.take (k + 1) = L.zipIdx.take k ++ [(L[k], k)] := by
  rw [take_last _ _ (by simpa using h)]
  simp
theorem own_below {W W' : World} (h : Below W.heap.size W W') : W.grownBy W' none := ⟨h.os, h.tape, h.output, h.size, fun k hk _ => h.block k hk⟩
theorem OwnFrom.later {β : Type} {B : Nat} {J : β → World → Prop} (h : OwnFrom B J) {s : β} {W W' : World} (hs : J s W) (hb : Below W.heap.size W W') : J s W' := h s W W' none hs (own_below hb) (fun r e => by cases e)

abbrev AItem := Int × Nat
def encA (x : AItem) : Array Value := #[.int .i64 (x.2 : Int), .int .i64 x.1]
set_option maxRecDepth 100000 in
set_option maxHeartbeats 2000000 in
theorem all1_in (n : Nat) (l c bp lo : Nat) (gp : Option Nat) (L : List Int) (E H : Nat → Prop) (W : World) (hE : ∀ k, E k → k < W.heap.size) (hc : HdAt W c (.pointer (some ⟨bp, 0, none⟩))) (hp : PileAt W lo bp gp L) (hL : L.length ≤ 1000) (hH : Heads H W)
    (J Jx : List AItem → World → Prop) (hJ : OwnFrom W.heap.size J)
    (hY : ∀ pre (x : AItem) W1, J pre W1 → pre ++ [x] <+: L.zipIdx → YieldAt Fence.wide (n - 1) Try.prog l (encA x) W1 fun e W' =>
      (e = .returned (.bool true) ∧ J (pre ++ [x]) W' ∧ KpP E H W1 W') ∨ (e = .returned (.bool false) ∧ Jx (pre ++ [x]) W' ∧ KpP E H W1 W'))
    (h0 : J [] W) (hn : 1 ≤ n) :
    CallsIn Fence.wide n Try.prog 88 #[.func (.yield l) #[] #[], .pointer (some ⟨c, 0, none⟩)] W fun e W' => (∃ v, e = .returned v) ∧
      ((∃ xs, xs = L.zipIdx ∧ J xs W') ∨ (∃ pre, pre <+: L.zipIdx ∧ Jx pre W')) := by
  have HJ := Lib.hid hJ
  have HY := Lib.hid hY
  have HE := Lib.hid hE
  have HH := Lib.hid hH
  have HP := Lib.hid (list_any hp hL)
  have HL := Lib.hid hL
  have c0 := hc.cell
  clear hJ hY hE hH hp hL hc
  refine callsIn_of_wp Try.func88 rfl trivial ?_ rfl
  simp only [Try.ntmps88, List.size_toArray, List.length_cons, List.length_nil, Nat.reduceAdd, Nat.reduceSub, Array.replicate_succ, Array.replicate_zero, List.push_toArray, List.append_toArray, List.nil_append, List.cons_append]
  gi_wp2_with fail
  refine ⟨trivial, (callsIn_wide.2 HP.out).mono ?_⟩
  rintro e w1 ⟨v, rfl, ho, hb1⟩
  have hi := own_ints ho
  have hr : ∀ k, v.ownBlock = some k → W.heap.size ≤ k ∧ Off H w1 k := fun k hk => ⟨(World.ownsRow.lt ho k hk).1, HH.out.off (World.ownsRow.lt ho k hk).1 hb1⟩
  obtain ⟨xa, xc, rfl⟩ := hi.form
  have HI := Lib.hid hi
  have HR := Lib.hid hr
  have HJ1 := Lib.hid (OwnFrom.later HJ.out h0 hb1)
  have HS1 := Lib.hid hb1.size
  clear ho hb1 hi hr h0 c0
  gi_wp2
  gi_loopw [8] (fun i wr => ∃ k, k ≤ L.length ∧ i = .int .i64 (k : Int) ∧ Hid (J (L.zipIdx.take k) wr) ∧ Hid (IntsAt wr (.slice xa L.length xc) L) ∧ Hid (∀ k, (Value.slice xa L.length xc).ownBlock = some k → W.heap.size ≤ k ∧ Off H wr k)) (fun i _ => L.length - (intOf i).toNat)
  case atStart => exact ⟨0, Nat.zero_le _, rfl, HJ1, HI, HR⟩
  case round =>
    obtain ⟨k, hk, rfl, HJR, HIR, HRR⟩ := hrel
    by_cases hlt : k < L.length
    · obtain ⟨r, off, hxa, hr, c1⟩ := HIR.out.at k hlt
      have hz := zip_at L k hlt
      obtain ⟨x, hx⟩ : ∃ x, L[k] = x := ⟨_, rfl⟩
      rw [hx] at c1 hz
      have HZ := Lib.hid hz
      subst hxa
      clear hx hz
      obtain ⟨fn, tmps, assign, body, hy, hR⟩ := HY.out (L.zipIdx.take k) (x, k) wr HJR.out (by rw [← HZ.out]; exact List.take_prefix _ _)
      simp only [encA] at hy
      gi_wp2
      refine hR.mono ?_
      rintro e w3 (⟨rfl, hJ3, hk3⟩ | ⟨rfl, hJ3, hk3⟩)
      · have HJ3 := Lib.hid hJ3
        have HI3 := Lib.hid (vals_kp HIR.out hk3 (fun k hk => ⟨fun e => by have := HE.out k e; have := (HRR.out k hk).1; omega, (HRR.out k hk).2⟩))
        have HR3 := Lib.hid (show ∀ k, (Value.slice (some ⟨r, off, none⟩) L.length xc).ownBlock = some k → W.heap.size ≤ k ∧ Off H w3 k from fun k hk => ⟨(HRR.out k hk).1, hk3.off (HRR.out k hk).2 (by rw [← Option.some.inj (show some r = some k from hk)]; exact hr)⟩)
        have hL1 := HL.out
        clear hJ3 hk3 hy hR c1
        gi_wp2
        go_roundw
        case rel => exact ⟨k + 1, by omega, by go_num, Lib.hid (by rw [HZ.out]; exact HJ3.out), HI3, HR3⟩
        case measure => simp [intOf]; omega
      · have HJ3 := Lib.hid hJ3
        clear hJ3 hk3 hy hR c1
        gi_wp2
        refine bodyPost_ret (results_none rfl _ _ _) rfl ?_
        exact ⟨⟨_, rfl⟩, .inr ⟨_, by rw [← HZ.out]; exact List.take_prefix _ _, HJ3.out⟩⟩
    · have hkl : L.zipIdx.take k = L.zipIdx := List.take_of_length_le (by simp; omega)
      rw [hkl] at HJR
      gi_wp2
      go_end0
      exact ⟨⟨_, rfl⟩, .inl ⟨_, rfl, HJR.out⟩⟩
/-- The function value that All returns keeps the contract of the law on ranges. -/
theorem all_seq (n : Nat) (hn : 1 ≤ n) {w : World} {c bp lo : Nat} {gp : Option Nat} {L : List Int} (E H : Nat → Prop) (hE : ∀ k, E k → k < w.heap.size) (hc : HdAt w c (.pointer (some ⟨bp, 0, none⟩))) (hp : PileAt w lo bp gp L) (hL : L.length ≤ 1000) (hH : Heads H w) :
    SeqW Fence.wide n Try.prog 88 #[.pointer (some ⟨c, 0, none⟩)] encA (fun l => KpP (fun k => E k ∨ k = l) H) (fun pre x => pre ++ [x] <+: L.zipIdx) (fun xs _ => xs = L.zipIdx) (fun pre _ => pre <+: L.zipIdx) w := by
  intro l J Jx W hW hl1 hl2 hJ _ hY h0
  exact all1_in n l c bp lo gp L (fun k => E k ∨ k = l) H W (fun k hk => by rcases hk with hk | rfl; exact Nat.lt_of_lt_of_le (hE k hk) hW.size; exact hl2) (hc.later hW) (hp.later hW) hL (hH.later hW) J Jx hJ hY h0 hn
end Go.Proofs.Ythciiapdfjemaaa

/- What the law StackPlays holds while it goes (layer 12). -/
import Derived.Test.YtgjojjhppgjkkaaGreatKq
import Derived.Test.YtgjojjhppgjkkaaGreatKh
import Derived.Sort.QuietIn
namespace Go.Proofs.YtgjojjhppgjkkaaGreat
open Go.RowKit Go.Maps
attribute [local go_sem] Oper.semAt_some

set_option maxRecDepth 100000 in
theorem arr167 (t : Array Value) (h : t.size = 167) : t = #[t.getD 0 undef, t.getD 1 undef, t.getD 2 undef, t.getD 3 undef, t.getD 4 undef, t.getD 5 undef, t.getD 6 undef, t.getD 7 undef, t.getD 8 undef, t.getD 9 undef, t.getD 10 undef, t.getD 11 undef, t.getD 12 undef, t.getD 13 undef, t.getD 14 undef, t.getD 15 undef, t.getD 16 undef, t.getD 17 undef, t.getD 18 undef, t.getD 19 undef, t.getD 20 undef, t.getD 21 undef, t.getD 22 undef, t.getD 23 undef, t.getD 24 undef, t.getD 25 undef, t.getD 26 undef, t.getD 27 undef, t.getD 28 undef, t.getD 29 undef, t.getD 30 undef, t.getD 31 undef, t.getD 32 undef, t.getD 33 undef, t.getD 34 undef, t.getD 35 undef, t.getD 36 undef, t.getD 37 undef, t.getD 38 undef, t.getD 39 undef, t.getD 40 undef, t.getD 41 undef, t.getD 42 undef, t.getD 43 undef, t.getD 44 undef, t.getD 45 undef, t.getD 46 undef, t.getD 47 undef, t.getD 48 undef, t.getD 49 undef, t.getD 50 undef, t.getD 51 undef, t.getD 52 undef, t.getD 53 undef, t.getD 54 undef, t.getD 55 undef, t.getD 56 undef, t.getD 57 undef, t.getD 58 undef, t.getD 59 undef, t.getD 60 undef, t.getD 61 undef, t.getD 62 undef, t.getD 63 undef, t.getD 64 undef, t.getD 65 undef, t.getD 66 undef, t.getD 67 undef, t.getD 68 undef, t.getD 69 undef, t.getD 70 undef, t.getD 71 undef, t.getD 72 undef, t.getD 73 undef, t.getD 74 undef, t.getD 75 undef, t.getD 76 undef, t.getD 77 undef, t.getD 78 undef, t.getD 79 undef, t.getD 80 undef, t.getD 81 undef, t.getD 82 undef, t.getD 83 undef, t.getD 84 undef, t.getD 85 undef, t.getD 86 undef, t.getD 87 undef, t.getD 88 undef, t.getD 89 undef, t.getD 90 undef, t.getD 91 undef, t.getD 92 undef, t.getD 93 undef, t.getD 94 undef, t.getD 95 undef, t.getD 96 undef, t.getD 97 undef, t.getD 98 undef, t.getD 99 undef, t.getD 100 undef, t.getD 101 undef, t.getD 102 undef, t.getD 103 undef, t.getD 104 undef, t.getD 105 undef, t.getD 106 undef, t.getD 107 undef, t.getD 108 undef, t.getD 109 undef, t.getD 110 undef, t.getD 111 undef, t.getD 112 undef, t.getD 113 undef, t.getD 114 undef, t.getD 115 undef, t.getD 116 undef, t.getD 117 undef, t.getD 118 undef, t.getD 119 undef, t.getD 120 undef, t.getD 121 undef, t.getD 122 undef, t.getD 123 undef, t.getD 124 undef, t.getD 125 undef, t.getD 126 undef, t.getD 127 undef, t.getD 128 undef, t.getD 129 undef, t.getD 130 undef, t.getD 131 undef, t.getD 132 undef, t.getD 133 undef, t.getD 134 undef, t.getD 135 undef, t.getD 136 undef, t.getD 137 undef, t.getD 138 undef, t.getD 139 undef, t.getD 140 undef, t.getD 141 undef, t.getD 142 undef, t.getD 143 undef, t.getD 144 undef, t.getD 145 undef, t.getD 146 undef, t.getD 147 undef, t.getD 148 undef, t.getD 149 undef, t.getD 150 undef, t.getD 151 undef, t.getD 152 undef, t.getD 153 undef, t.getD 154 undef, t.getD 155 undef, t.getD 156 undef, t.getD 157 undef, t.getD 158 undef, t.getD 159 undef, t.getD 160 undef, t.getD 161 undef, t.getD 162 undef, t.getD 163 undef, t.getD 164 undef, t.getD 165 undef, t.getD 166 undef] := by
  have e : t.toList = (List.range 167).map (fun i => t.getD i undef) := by
    apply List.ext_getElem
    · simp [h]
    · intro i h1 h2
      simp at h1
      simp [h1]
  have e2 : t = t.toList.toArray := by simp
  rw [e] at e2
  exact e2
/-- What is no block of cells stays. -/
def KeepsNC (W W' : World) : Prop := ∀ (k : Nat) (o : Obj), W.heap[k]? = some o → o.isCells = false → W'.heap[k]? = some o
theorem KeepsNC.trans {A B C : World} (h : KeepsNC A B) (k : KeepsNC B C) : KeepsNC A C := fun i o ho hc => k i o (h i o ho hc) hc
theorem KeepsNC.below {W W' : World} (hb : Below W.heap.size W W') : KeepsNC W W' := fun k _ ho _ => (hb.block k (Array.getElem?_eq_some_iff.1 ho).1).trans ho
theorem KeepsNC.cell {W : World} {b j : Nat} {cs : Array Value} {T : TypeId} (h : W.heap[b]? = some (.cells cs T (0, 0))) (u : Value) : KeepsNC W (W.setCell ⟨b, j, none⟩ u) := fun k o ho hc => by
  refine (heap_setCell_other W ⟨b, j, none⟩ k u (fun e => ?_)).trans ho
  have e : k = b := e
  rw [e, h] at ho
  injection ho with ho
  rw [← ho] at hc
  cases hc
theorem KeepsNC.grown {W W' : World} {r : Option Nat} (hg : W.grownBy W' r) (hr : ∀ k, r = some k → ∃ o, W.heap[k]? = some o ∧ o.isCells = true) : KeepsNC W W' := fun k o ho hc => by
  refine (hg.block k (Array.getElem?_eq_some_iff.1 ho).1 (fun e => ?_)).trans ho
  obtain ⟨o', h1, h2⟩ := hr k e.symm
  rw [ho] at h1
  injection h1 with h1
  rw [h1, h2] at hc
  cases hc
theorem KeepsNC.chg {W W' : World} {lo b : Nat} {g : Option Nat} {L : List EntL} (hs : StackAt W lo b g L) (hc : Chg W W' b g) : KeepsNC W W' := fun k o ho hn => by
  obtain ⟨v, h1, h2, _, h4⟩ := hs
  refine (hc.block k (Array.getElem?_eq_some_iff.1 ho).1 (fun e => ?_) (fun e => ?_)).trans ho
  · rw [e, h1] at ho
    injection ho with ho
    rw [← ho] at hn
    cases hn
  · rw [← h2] at e
    rcases h4.2 with ⟨rfl, _⟩ | ⟨g', cap, cur, rfl, _, hg, _⟩
    · simp [Value.ownBlock] at e
    · obtain rfl : g' = k := by simpa [Value.ownBlock] using e
      rw [hg] at ho
      injection ho with ho
      rw [← ho] at hn
      cases hn
/-- The marks that ranges have left. -/
def MarksK (B : Nat) (w : World) (df : List Deferred) : Prop := ∃ Ds : List Nat, df = Ds.map (fun D => { target := .collected D, args := #[] }) ∧ Ds.Nodup ∧ (∀ D ∈ Ds, B ≤ D) ∧ MarksO w Ds
theorem MarksK.keep {B : Nat} {w w' : World} {df : List Deferred} (h : MarksK B w df) (hk : KeepsNC w w') : MarksK B w' df := by
  obtain ⟨Ds, h1, h2, h3, h4⟩ := h
  exact ⟨Ds, h1, h2, h3, fun D hD => hk D _ (h4 D hD) rfl⟩
theorem MarksK.cons {B D : Nat} {w w' : World} {df : List Deferred} (h : MarksK B w df) (hk : KeepsNC w w') (hD : w'.heap[D]? = some (.deferred (some []))) (hB : B ≤ D) (hn : w.heap.size ≤ D) : MarksK B w' ({ target := .collected D, args := #[] } :: df) := by
  obtain ⟨Ds, rfl, h2, h3, h4⟩ := h
  refine ⟨D :: Ds, rfl, List.nodup_cons.2 ⟨fun hm => by have := h4.lt hm; omega, h2⟩, fun D' hD' => ?_, fun D' hD' => ?_⟩
  · rcases List.mem_cons.1 hD' with rfl | h
    · exact hB
    · exact h3 _ h
  · rcases List.mem_cons.1 hD' with rfl | h
    · exact hD
    · exact hk D' _ (h4 D' h) rfl
theorem MarksK.leave {w w0 : World} {fn : Func} {tmps : Array Value} {df : List Deferred} {q : Nat} {T : TypeId} {t : Bool} (h : MarksK w0.heap.size w df) (hb : Below w0.heap.size w0 w) (hq : w.heap[q]? = some (.cells #[.bool t] T (0, 0))) (hr : ∀ W' : World, W'.heap[q]? = some (.cells #[.bool t] T (0, 0)) → (results fn tmps).run Tryz.prog W' = .ok (.bool t) W') : LeavesInM Fence.wide 9 Tryz.prog fn tmps (RetV w0 (.bool t)) df .returning w := by
  obtain ⟨Ds, rfl, h2, h3, h4⟩ := h
  exact leaves_marksO (B := w0.heap.size) Ds _ h2 h3 h4 (fun W' hb' hc => ⟨_, hr W' (hc q _ hq rfl), rfl, hb.trans hb'⟩)
/-- The law's state: the stack, the law's own list in its box, what is returned in its box, the marks. -/
structure PlI (w : World) (q2 q4 b lo : Nat) (df : List Deferred) (W : World) (gk : Option Nat) (v : Value) (Ls Ll : List EntL) : Prop where
  res : W.heap[q2]? = some (.cells #[.bool false] 4 (0, 0))
  st : StackAt W lo b gk Ls
  bx : W.heap[q4]? = some (.cells #[v] 57 (0, 0))
  ow : W.ownsRow (q4 + 1) 59 4 v Ll.length (entsV Ll)
  n2 : ¬ownK b gk q2
  n4 : ¬ownK b gk q4
  nv : ∀ k, v.ownBlock = some k → ¬ownK b gk k
  q24 : q2 < q4
  low : w.heap.size ≤ lo
  lw : w.heap.size ≤ q2
  bw : Below w.heap.size w W
  mks : MarksK w.heap.size W df
theorem PlI.later {w : World} {q2 q4 b lo : Nat} {df : List Deferred} {W W' : World} {gk : Option Nat} {v : Value} {Ls Ll : List EntL} (h : PlI w q2 q4 b lo df W gk v Ls Ll) (hb : Below W.heap.size W W') : PlI w q2 q4 b lo df W' gk v Ls Ll :=
  ⟨(hb.block _ (Crd.lt_of_row h.res)).trans h.res, h.st.later hb, (hb.block _ (Crd.lt_of_row h.bx)).trans h.bx, own_keepS h.ow (fun k hk => hb.block k (World.ownsRow.lt h.ow k hk).2), h.n2, h.n4, h.nv, h.q24, h.low, h.lw, stepB h.bw hb, h.mks.keep (KeepsNC.below hb)⟩
theorem PlI.stk {w : World} {q2 q4 b lo : Nat} {df : List Deferred} {W W' : World} {gk gk' : Option Nat} {v : Value} {Ls Ls' Ll : List EntL} (h : PlI w q2 q4 b lo df W gk v Ls Ll) (hs : StackAt W' lo b gk' Ls') (hc : Chg W W' b gk) (hn : Newer W gk gk') : PlI w q2 q4 b lo df W' gk' v Ls' Ll := by
  have ht := chg_o hc hn
  have hl := fun k (hk : k < W.heap.size) (hnk : ¬ownK b gk k) (h2 : ownK b gk' k) => hnk (ht.own k hk h2)
  exact ⟨(ht.block _ (Crd.lt_of_row h.res) h.n2).trans h.res, hs, (ht.block _ (Crd.lt_of_row h.bx) h.n4).trans h.bx, own_keepS h.ow (fun k hk => ht.block k (World.ownsRow.lt h.ow k hk).2 (h.nv k hk)),
    hl _ (Crd.lt_of_row h.res) h.n2, hl _ (Crd.lt_of_row h.bx) h.n4, fun k hk => hl k (World.ownsRow.lt h.ow k hk).2 (h.nv k hk), h.q24, h.low, h.lw, ht.below h.bw (fun k hk => Nat.le_trans h.low (h.st.ownLo hk)), h.mks.keep (KeepsNC.chg h.st hc)⟩
theorem PlI.lst {w : World} {q2 q4 b lo : Nat} {df : List Deferred} {W W1 : World} {gk : Option Nat} {v v' : Value} {Ls Ll Ll' : List EntL} (h : PlI w q2 q4 b lo df W gk v Ls Ll) (hg : W.grownBy W1 v.ownBlock) (ho : W1.ownsRow (q4 + 1) 59 4 v' Ll'.length (entsV Ll')) (hv : ∀ k, v'.ownBlock = some k → v.ownBlock = some k ∨ W.heap.size ≤ k) :
    PlI w q2 q4 b lo df (W1.setCell ⟨q4, 0, none⟩ v') gk v' Ls Ll' := by
  have hrow : ∀ k, v.ownBlock = some k → q4 + 1 ≤ k ∧ k < W.heap.size := fun k hk => World.ownsRow.lt h.ow k hk
  have hrc : ∀ k, v.ownBlock = some k → ∃ o, W.heap[k]? = some o ∧ o.isCells = true := fun k hk => by
    rcases h.ow.2 with ⟨e, _⟩ | ⟨g', cap, cur, e, _, hg', _⟩
    · rw [e] at hk; simp [Value.ownBlock] at hk
    · rw [e] at hk
      obtain rfl : g' = k := by simpa [Value.ownBlock] using hk
      exact ⟨_, hg', rfl⟩
  have hk1 : ∀ k, k < W.heap.size → v.ownBlock ≠ some k → W1.heap[k]? = W.heap[k]? := fun k hk hne => hg.block k hk (fun e => hne e.symm)
  have h24 : v.ownBlock ≠ some q2 := fun e => by have := hrow _ e; have := h.q24; omega
  have h44 : v.ownBlock ≠ some q4 := fun e => by have := hrow _ e; omega
  have hb1 : W1.heap[q4]? = some (.cells #[v] 57 (0, 0)) := (hk1 _ (Crd.lt_of_row h.bx) h44).trans h.bx
  have hoth : ∀ k, k ≠ q4 → (W1.setCell ⟨q4, 0, none⟩ v').heap[k]? = W1.heap[k]? := fun k hne => heap_setCell_other W1 ⟨q4, 0, none⟩ k v' hne
  have hnv : ∀ k, v'.ownBlock = some k → ¬ownK b gk k := fun k hk hn => by
    rcases hv k hk with h2 | h2
    · exact h.nv k h2 hn
    · have := h.st.ownLt hn; omega
  refine ⟨(hoth q2 (by have := h.q24; omega)).trans ((hk1 _ (Crd.lt_of_row h.res) h24).trans h.res), ?_, ?_, own_keepS ho (fun k hk => hoth k (by have := (World.ownsRow.lt ho k hk).1; omega)), h.n2, h.n4, hnv, h.q24, h.low, h.lw, ?_, ?_⟩
  · refine h.st.kept ?_ fun k hk => ?_
    · exact (hoth b (fun e => h.n4 (.inl e.symm))).trans (hk1 b h.st.lt (fun e => h.nv b e (.inl rfl)))
    · exact (hoth k (fun e => h.n4 (.inr (e ▸ hk)))).trans (hk1 k (h.st.row k hk).2.1 (fun e => h.nv k e (.inr hk)))
  · rw [heap_setCell_same W1 q4 0 _ _ v' hb1]; rfl
  · have hbw := h.bw
    refine ⟨hg.os.trans hbw.os, hg.tape.trans hbw.tape, hg.output.trans hbw.output, by have h1 := hg.size; have h2 := hbw.size; simp; omega, fun k hk => ?_⟩
    have hkw : k < W.heap.size := Nat.lt_of_lt_of_le hk hbw.size
    rw [hoth k (by have := h.lw; have := h.q24; omega), hk1 k hkw (fun e => by have := hrow k e; have := h.lw; have := h.q24; omega)]
    exact hbw.block k hk
  · exact h.mks.keep ((KeepsNC.grown hg hrc).trans (KeepsNC.cell hb1 v'))
theorem PlI.cons {w : World} {q2 q4 b lo D : Nat} {df : List Deferred} {W W' : World} {gk : Option Nat} {v : Value} {Ls Ll : List EntL} (h : PlI w q2 q4 b lo df W gk v Ls Ll) (hb : Below W.heap.size W W') (hD : W'.heap[D]? = some (.deferred (some []))) (hn : W.heap.size ≤ D) : PlI w q2 q4 b lo ({ target := .collected D, args := #[] } :: df) W' gk v Ls Ll := by
  have h2 := h.later hb
  exact ⟨h2.res, h2.st, h2.bx, h2.ow, h2.n2, h2.n4, h2.nv, h2.q24, h2.low, h2.lw, h2.bw, h.mks.cons (KeepsNC.below hb) hD (Nat.le_trans h.bw.size hn) hn⟩
theorem rev_at {L : List EntL} {pre : List EntL} {x : EntL} (h : pre ++ [x] <+: L.reverse) : pre.length < L.length ∧ ∃ hj : L.length - 1 - pre.length < L.length, L[L.length - 1 - pre.length] = x := by
  have hl := h.length_le
  simp at hl
  refine ⟨hl, by omega, ?_⟩
  obtain ⟨r, hr⟩ := h
  have h1 : L.reverse[pre.length]? = some x := by rw [← hr]; simp
  rw [List.getElem?_reverse (by omega)] at h1
  rw [List.getElem?_eq_getElem (by omega)] at h1
  injection h1
theorem pop_any' {w : World} {lo b : Nat} {g : Option Nat} {L : List EntL} (h : StackAt w lo b g L) (hL : L.length ≤ 1000) : Calls Tryz.prog 23 #[.pointer (some ⟨b, 0, none⟩)] w (RetStk w lo b g (.tuple #[entV (topE L), .bool (decide (0 < L.length))]) L.dropLast) := by
  rcases List.eq_nil_or_concat L with rfl | ⟨M, y, rfl⟩
  · refine (pop_empty h).mono ?_
    rintro e w1 ⟨rfl, hb⟩
    exact ⟨g, rfl, h.later hb, Chg.of_below hb, .inl rfl⟩
  · rw [List.concat_eq_append] at h hL ⊢
    rw [topE_snoc, show decide (0 < (M ++ [y]).length) = true from decide_eq_true (by simp), List.dropLast_concat]
    exact pop_ok y h (by simp at hL; omega)
/-- A box with a number, in a range: its round's store. -/
theorem KpP.box {E H : Nat → Prop} {W : World} {b : Nat} {v u : Value} (hb : HdAt W b v) (hv : v.ownBlock = none) (hu : u.ownBlock = none) (hH : ∀ c, H c → c = b) (hbH : H b) : KpP E H W (W.setCell ⟨b, 0, none⟩ u) := by
  refine ⟨by simp, fun k o ho _ hc => ?_, fun c v0 hc hv0 => ?_⟩
  · refine (heap_setCell_other W ⟨b, 0, none⟩ k u (fun e => ?_)).trans ho
    have e : k = b := e
    subst e
    obtain ⟨t, hb⟩ := hb
    rw [hb] at ho
    injection ho with ho
    exact (hc (by rw [← ho]; rfl)).1 hbH
  · obtain rfl := hH c hc
    refine ⟨u, hb.set u, .inl ?_⟩
    rw [hv0.one hb, hv, hu]
theorem grown_own {B q : Nat} {W0 A A' : World} {row : Option Nat} (h : W0.grownBy A (some q)) (hg : A.grownBy A' row) (hB : W0.heap.size ≤ B) (hr : ∀ r, row = some r → B ≤ r) : W0.grownBy A' (some q) :=
  ⟨hg.os.trans h.os, hg.tape.trans h.tape, hg.output.trans h.output, Nat.le_trans h.size hg.size, fun k hk hn => (hg.block k (Nat.lt_of_lt_of_le hk h.size) (fun e => by have := hr k e.symm; omega)).trans (h.block k hk hn)⟩
theorem plays_results {W : World} {q : Nat} {t : Bool} {T : TypeId} {tmps : Array Value} (e4 : tmps.getD 2 undef = .pointer (some ⟨q, 0, none⟩)) (h2 : W.heap[q]? = some (.cells #[.bool t] T (0, 0))) :
    (results Tryz.f4 tmps).run Tryz.prog W = .ok (.bool t) W := by
  have m0 : W.cell? ⟨q, 0, none⟩ = some (.bool t) := cell_of_row W q 0 _ _ _ h2
  simp only [Array.getD_eq_getD_getElem?] at e4
  simp [results, Tryz.results4, go_sem, e4, m0]
end Go.Proofs.YtgjojjhppgjkkaaGreat

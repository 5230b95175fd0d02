/- What a range over a function holds: a box with a list that grows, ranges whose two ends are one. -/
import Derived.Test.YtciieodmihgpgaaFn
import Derived.Test.YtciieodmihgpgaaFh
namespace Go.Proofs.Ytciieodmihgpgaa
open Go.RowKit
attribute [local go_sem] Oper.semAt_some

theorem roundIn_wide {n m : Nat} {P : Program} {l : Nat} {f : FuncId} {tmps : Array Value} {assign body : Code} {w : World} {R : Ending → World → Prop} (h : RoundIn Fence.wide n P l f tmps assign body w R) : RoundIn Fence.wide m P l f tmps assign body w R := by
  exact ⟨h.1, fun c cs _ => h.2 c cs (room_wide _)⟩
end Go.Proofs.Ytciieodmihgpgaa
namespace Go.Proofs.Ytciieodmihgpgaa
open Go.RowKit
theorem vals_grownN {A B : World} {v : Value} {xs : List Value} {row : Option Nat} (h : ValsAt A v xs) (hg : A.grownBy B row) (hr : ∀ r, row = some r → ∃ o : Obj, A.heap[r]? = some o ∧ o.isCells = false) : ValsAt B v xs := by
  rcases h with h | ⟨r, off, cap, rfl, hlt, hcell⟩
  · exact .inl h
  · refine .inr ⟨r, off, cap, rfl, Nat.lt_of_lt_of_le hlt hg.size, fun i hi => ?_⟩
    have hc := hcell i hi
    obtain ⟨o, ho⟩ : ∃ o, A.heap[r]? = some o := ⟨_, Array.getElem?_eq_getElem hlt⟩
    have hx : o.isCells = true := by
      unfold World.cell? at hc
      rw [ho] at hc
      cases o <;> simp_all [Obj.isCells]
    rw [World.cell?_of_block (w := A) (a := ⟨r, off + i, none⟩) (grownBy_keeps_cells hg hr ho hx)]
    exact hc
attribute [local go_sem] Oper.semAt_some

/-- A range whose two ends are one: all have come, or a round has broken out by c0. -/
theorem range_both {F : Fence} {n : Nat} {P : Program} {α : Type} {g : Operand} {ps : Array Tmp} {assign body : Code} {Q : Exit → Act → World → Prop} {a : Act} {w : World} (c0 : Code)
    (hro : F.round = none) (h1 : 1 ≤ n) {gf : Nat} {lb : Array Value} (hg : a.eval g = .func (.func gf) #[] lb) (hFg : F.fn gf) (eg : ∀ args w, (callFunc gf args).run P w = .ok (.enter gf args) w)
    {encs : α → Array Value} {Kp : Nat → World → World → Prop} {T : List α → α → Prop} {S Sp : List α → World → Prop} {w0 : World} (hseq : SeqW F (n - 1) P gf lb encs Kp T S Sp w0)
    (hKt : ∀ {A B C : World}, Kp (w.heap.size + 1) A B → Kp (w.heap.size + 1) B C → Kp (w.heap.size + 1) A C) (hKb : ∀ (W : World) (o o' : Obj), W.heap[w.heap.size + 1]? = some o → o.isCells = false → o.isWalk = false → Kp (w.heap.size + 1) W (W.putObj (w.heap.size + 1) o')) (hb0 : Below w0.heap.size w0 w) (hps : ∀ x, (encs x).size = ps.size)
    (I Ix : List α → World → Prop) (hI : OwnFrom w.heap.size I) (hIx : OwnFrom w.heap.size Ix) (hS : OwnFrom w.heap.size S) (hSp : OwnFrom w.heap.size Sp) (h0 : I [] w)
    (hround : ∀ (pre : List α) (x : α) (W Wb : World) (K : Act → World → Prop), I pre Wb → T pre x → w.heap.size + 1 < Wb.heap.size → (∀ a1, body.wpIn (F.inRound (w.heap.size + 1)) (n - 1 - 1) P (postW w.heap.size (w.heap.size + 1) Kp I (fun c pre W => c = c0 ∧ Ix pre W) (pre ++ [x]) Wb) a1 Wb → K a1 W) →
      assign.wpIn (F.inRound (w.heap.size + 1)) (n - 1 - 1) P (Exit.then K (fun _ _ _ => False)) { tmps := (ps.zip (encs x)).foldl (fun t (p, v) => t.setIfInBounds p v) a.tmps, defers := [] } W)
    (hx : ∀ a W, Q .normal a W → c0.wpIn F n P Q a W)
    (hend : ∀ (D : Nat) (W : World), w.heap.size ≤ D → ((∃ xs, S xs W ∧ I xs W) ∨ ∃ pre, Sp pre W ∧ Ix pre W) → W.heap[D]? = some (.deferred (some [])) → Q .normal { a with defers := { target := .collected D, args := #[] } :: a.defers } W) :
    (Code.rangeFunc g ps assign body).wpIn F n P Q a w := by
  refine range_world2 hro h1 hg hFg eg hseq hKt hKb hb0 hps I (fun c pre W => c = c0 ∧ Ix pre W) hI (fun c s A B row hs hg hr => ⟨hs.1, hIx s A B row hs.2 hg hr⟩) hS hSp h0 hround
    (fun D xs W hD hSx hIx hK => hend D W hD (.inl ⟨xs, hSx, hIx⟩) hK) ?_
  rintro D c pre W hD hSp ⟨rfl, hi⟩ hK
  exact hx _ _ (hend D W hD (.inr ⟨pre, hSp, hi⟩) hK)
set_option maxRecDepth 100000 in
theorem wpListIn_append_ints {F : Fence} {m : Nat} {w : World} {ops : Array Oper} {rest : List Oper} {o : Oper} {a : Act} {Q : Exit → Act → World → Prop} (hgd : o.guard = none) (s x : Operand)
    (ho : o.op = .call { callee := .builtin .append, args := #[s, x], argTypes := #[29, 29] }) (hty : o.type = 29) (base : Nat) (v : Value) (n : Nat) (xs : List Value) (hs : a.eval s = v)
    (hown : w.ownsRow base 3 1 v n xs) (xa : Option Addr) (xn xc : Nat) (l : List Int) (hx : a.eval x = .slice xa xn xc) (hn : xn = l.length) (ht : IntsAt w (.slice xa xn xc) l) (h1 : n + l.length ≤ 1000) (hbase : base ≤ w.heap.size)
    (h : ∀ v' w', w'.ownsRow base 3 1 v' (n + l.length) (xs ++ intsV l) → w.grownBy w' v.ownBlock → (v'.ownBlock = v.ownBlock ∨ v'.ownBlock = some w.heap.size) → wpListIn F m Try.prog ops Q rest (a.put o.dst v') w') : wpListIn F m Try.prog ops Q (o :: rest) a w := by
  subst hn
  obtain ⟨v', w', hrun, h2, h3, h4⟩ := append_ints w base v n xs hown xa xc l ht h1 hbase
  refine wpListIn_plain hgd fun K hK' => ?_
  unfold Oper.wpIn
  refine ⟨?_, ?_⟩
  · simp [Oper.about, ho, resolve, Target.leads, Sem.run_pure]
  · rw [Oper.semAt_plain F _ _ (by rw [ho]; intro c hc'; cases hc')]
    simp [execOp, ho, resolve, invoke, builtin, hs, hx, hty, hrun, Result.andThen]
    exact hK' _ _ (h v' w' h2 h3 h4)
/-- The rest stays, as far as a world that lies before a loop tells it. -/
theorem kpP_own {β : Type} {E H : Nat → Prop} {A : World} {B : Nat} (hB : A.heap.size ≤ B) : OwnFrom B (fun (_ : β) W => KpP E H A W) := fun _ X Y row hs hg hr => by
  have hr' : ∀ r, row = some r → ∃ o : Obj, X.heap[r]? = some o ∧ o.isCells = false := fun r e => (hr r e).2
  refine ⟨Nat.le_trans hs.size hg.size, fun k o ho hE hO => ?_, fun b v hb hv => ?_⟩
  · have h1 := (Array.getElem?_eq_some_iff.1 ho).1
    have h2 := hs.rest k o ho hE hO
    exact (hg.block k (Array.getElem?_eq_some_iff.1 h2).1 (fun e => by have := (hr k e.symm).1; omega)).trans h2
  · obtain ⟨v', h1, h2⟩ := hs.head b v hb hv
    exact ⟨v', h1.grown hg hr', h2⟩
/-- A box with a list of the call's own: it grows. -/
structure ListIn (W : World) (lo s : Nat) (v : Value) (L : List Int) : Prop where
  box : W.heap[s]? = some (.cells #[v] 29 (0, 0))
  own : W.ownsRow lo 3 1 v L.length (intsV L)
theorem ListIn.head {W : World} {lo s : Nat} {v : Value} {L : List Int} (h : ListIn W lo s v L) : HdAt W s v := ⟨_, h.box⟩
theorem ListIn.row {W : World} {lo s : Nat} {v : Value} {L : List Int} (h : ListIn W lo s v L) : ∀ k, v.ownBlock = some k → lo ≤ k ∧ k < W.heap.size ∧ k ≠ s := fun k hk => by
  have := World.ownsRow.lt h.own k hk
  refine ⟨this.1, this.2, fun e => ?_⟩
  rcases h.own.2 with ⟨rfl, _⟩ | ⟨g', cap, cur, rfl, _, hg, _⟩
  · simp [Value.ownBlock] at hk
  · obtain rfl : g' = k := by simpa [Value.ownBlock] using hk
    rw [e, h.box] at hg
    injection hg with hg
    injection hg with _ ht
    exact absurd ht (by decide)
theorem ListIn.later {W W' : World} {lo s : Nat} {v : Value} {L : List Int} (h : ListIn W lo s v L) (hb : Below W.heap.size W W') : ListIn W' lo s v L :=
  ⟨(hb.block s (Array.getElem?_eq_some_iff.1 h.box).1).trans h.box, own_later h.own hb⟩
theorem own_grownN {A B : World} {lo n : Nat} {t : TypeId} {v : Value} {xs : List Value} {row : Option Nat} (h : A.ownsRow lo t 1 v n xs) (hg : A.grownBy B row) (hr : ∀ r, row = some r → ∃ o : Obj, A.heap[r]? = some o ∧ o.isCells = false) : B.ownsRow lo t 1 v n xs := by
  refine ⟨h.1, ?_⟩
  rcases h.2 with h5 | ⟨g', cap, cur, e, hb2, hg2, r⟩
  · exact .inl h5
  · exact .inr ⟨g', cap, cur, e, hb2, (grownBy_keeps_cells hg hr hg2 rfl).trans hg2, r⟩
theorem ListIn.grown {A B : World} {lo s : Nat} {v : Value} {L : List Int} {row : Option Nat} (h : ListIn A lo s v L) (hg : A.grownBy B row) (hr : ∀ r, row = some r → ∃ o : Obj, A.heap[r]? = some o ∧ o.isCells = false) : ListIn B lo s v L :=
  ⟨(grownBy_keeps_cells hg hr h.box rfl).trans h.box, own_grownN h.own hg hr⟩
/-- One more is put behind. -/
theorem ListIn.snoc {E H : Nat → Prop} {W w6 : World} {lo s : Nat} {v v' : Value} {L : List Int} {x : Int} {o : Obj} (h : ListIn W lo s v L) (hs : H s) (hg : (W.alloc o).grownBy w6 v.ownBlock) (hown : w6.ownsRow lo 3 1 v' (L.length + 1) (intsV L ++ intsV [x]))
    (hn : v'.ownBlock = v.ownBlock ∨ v'.ownBlock = some (W.alloc o).heap.size) (hsep : ∀ b, H b → v.ownBlock ≠ some b) :
    ListIn (w6.setCell ⟨s, 0, none⟩ v') lo s v' (L ++ [x]) ∧ KpP E H W (w6.setCell ⟨s, 0, none⟩ v') ∧ HdAt w6 s v := by
  have hsl := (Array.getElem?_eq_some_iff.1 h.box).1
  have hblk : ∀ k, k < W.heap.size → v.ownBlock ≠ some k → w6.heap[k]? = W.heap[k]? := fun k hk hv => (hg.block k (by simp; omega) (Ne.symm hv)).trans ((below_new W o).block k hk)
  have h6 := (hblk s hsl (hsep s hs)).trans h.box
  have hnew : Newer W v.ownBlock v'.ownBlock := by
    rcases hn with e | e
    · exact .inl e
    · exact .inr ⟨_, e, by simp⟩
  have hne : v'.ownBlock ≠ some s := newer_ne1 hnew hsl (hsep s hs)
  refine ⟨⟨?_, ?_⟩, ⟨?_, fun k ob ho _ hO => ?_, fun b u hb hu => ?_⟩, ⟨_, h6⟩⟩
  · rw [heap_setCell_same w6 s 0 _ _ v' h6]; rfl
  · have h7 := own_set (j := 0) (u := v') hown hne
    simpa [intsV] using h7
  · have := hg.size; simp at this ⊢; omega
  · have hk := (Array.getElem?_eq_some_iff.1 ho).1
    have hks : k ≠ s ∧ v.ownBlock ≠ some k := by
      cases hx : ob.isCells with
      | true =>
        have hO' := hO hx
        obtain ⟨u, h1, h2⟩ := hO'.2 s hs
        exact ⟨fun e => hO'.1 (by rw [e]; exact hs), by rw [← h1.one h.head]; exact h2⟩
      | false =>
        refine ⟨fun e => ?_, fun e => ?_⟩
        · rw [e, h.box] at ho; injection ho with ho; rw [← ho] at hx; simp [Obj.isCells] at hx
        · obtain ⟨o', ho', hc'⟩ := own_cells h.own k e
          rw [ho] at ho'; injection ho' with ho'; rw [ho', hc'] at hx; cases hx
    rw [heap_setCell_other w6 ⟨s, 0, none⟩ k v' hks.1, hblk k hk hks.2]
    exact ho
  · by_cases hbs : b = s
    · subst hbs
      exact ⟨v', HdAt.set ⟨_, h6⟩ v', by rw [hu.one h.head]; exact hnew⟩
    · exact ⟨u, (hu.of (hblk b hu.lt (hsep b hb))).other hbs v', .inl rfl⟩
theorem ListIn.kept {E H : Nat → Prop} {W W' : World} {lo s : Nat} {v : Value} {L : List Int} (h : ListIn W lo s v L) (hk : KpP E H W W') (h1 : ¬E s ∧ Off H W s) (h2 : ∀ k, v.ownBlock = some k → ¬E k ∧ Off H W k) : ListIn W' lo s v L := by
  refine ⟨hk.rest s _ h.box h1.1 (fun _ => h1.2), ?_⟩
  refine ⟨h.own.1, ?_⟩
  rcases h.own.2 with h5 | ⟨g', cap, cur, e, hb2, hg2, r⟩
  · exact .inl h5
  · have h3 := h2 g' (by rw [e]; rfl)
    exact .inr ⟨g', cap, cur, e, hb2, hk.rest g' _ hg2 h3.1 (fun _ => h3.2), r⟩
end Go.Proofs.Ytciieodmihgpgaa

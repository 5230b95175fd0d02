/- What the law PhaseLands keeps: turns with lands laid, the map put, eight phases on. -/
import Derived.Test.YtdlkdilgjmmlaaaDoorYb
namespace Go.Proofs.YtdlkdilgjmmlaaaDoor
open Go.RowKit
attribute [local go_sem] Oper.semAt_some

theorem LaidMap.mono {w : World} {b n m : Nat} {f : Int → Bool} (h : LaidMap w b n f) (hm : n ≤ m) : LaidMap w b m f := by
  obtain ⟨D, ho, r⟩ := h
  exact ⟨D, ho.mono hm, r⟩
theorem LaidMap.later {w w' : World} {b n : Nat} {f : Int → Bool} (h : LaidMap w b n f) (hb : Below w.heap.size w w') : LaidMap w' b n f := h.of (hb.block b h.lt)
/-- A seat more. -/
theorem LaidMap.put {w : World} {b n : Nat} {f : Int → Bool} (h : LaidMap w b n f) (hn : n < maxLen) {x : Int} (hx : (Lit.int .i64 x).wf = true) :
    ∃ w', (Instr.mapUpdate 28 (.map (some b)) (.int .i64 x) (.bool true)).run Tryd.prog w = .ok () w' ∧ LaidMap w' b (n + 1) (fun y => if y = x then true else f y) ∧ w.grownBy w' (some b) := by
  obtain ⟨D, hown, htd, hat⟩ := h
  obtain ⟨w', h1, h2, h3⟩ := hown.update (Maps.int_keyed Tryd.underlying3) Tryd.underlying28 hn (Maps.keyOf_int_mk Tryd.underlying3 hx) (plainElem_bool Tryd.underlying4 true)
  refine ⟨w', h1, ⟨_, h2, htd.put (key_lit x) _, fun y hy => ?_⟩, h3⟩
  dsimp only
  by_cases e : y = x
  · subst e
    rw [if_pos rfl, Maps.atKey_put_same htd.isMap (key_lit y)]
  · rw [if_neg e, Maps.atKey_put_other (fun h => e (by injection h))]
    exact hat y hy
/-- The turn i phases on, who laid a land kept. -/
def atZ (T : TeamL) (y : TurnL) (i : Nat) : TurnL := if i < 8 then { y with phase := 1 + (i : Int) } else ⟨nextT T y.team, y.no + 1, 1, dry0⟩
theorem atZ_next {T : TeamL} {y : TurnL} {i : Nat} (hi : i < 8) : nextY T (atZ T y i) = atZ T y (i + 1) := by
  have e : atZ T y i = { y with phase := 1 + (i : Int) } := if_pos hi
  rw [e]
  unfold nextY atZ
  dsimp only
  by_cases h7 : i + 1 < 8
  · rw [if_pos h7, if_pos (by omega), show (1 : Int) + (i : Int) + 1 = 1 + ((i + 1 : Nat) : Int) by omega]
  · rw [if_neg h7, if_neg (by omega)]
theorem atZ_ok {T : TeamL} {y : TurnL} {i : Nat} (hi : i < 8) : 1 ≤ (atZ T y i).phase ∧ (atZ T y i).phase ≤ 8 ∧ (atZ T y i).no = y.no := by
  have e : atZ T y i = { y with phase := 1 + (i : Int) } := if_pos hi
  rw [e]
  exact ⟨by show 1 ≤ 1 + (i : Int); omega, by show 1 + (i : Int) ≤ 8; omega, rfl⟩
theorem dry0_getD (k : Int) : dry0.get k = false := by
  unfold DryL.get dry0
  split <;> (try rfl) <;> split <;> (try rfl) <;> split <;> (try rfl) <;> split <;> rfl
theorem put_getD (D : DryL) {s : Nat} (hs : s < 4) (k : Int) : (D.put (s : Int)).get k = if k = (s : Int) then true else D.get k := by
  have h4 : s = 0 ∨ s = 1 ∨ s = 2 ∨ s = 3 := by omega
  unfold DryL.put DryL.get
  rcases h4 with rfl | rfl | rfl | rfl <;> by_cases e0 : k = 0 <;> by_cases e1 : k = 1 <;> by_cases e2 : k = 2 <;> by_cases e3 : k = 3 <;> simp_all
theorem PhJ.row {V wr : World} {lo q t : Nat} {g : GhostB} {T : TeamL} {y : TurnL} {P : Nat → Prop} (h : PhJ V wr lo g q t T y P) (o : Obj) : PhJ V (wr.alloc o) lo g q t T y (fun i => i = wr.heap.size) := by
  obtain ⟨g1, D1, h1, h2, h3, h4⟩ := h
  have hb := below_new wr o
  exact ⟨g1, D1, h1.later hb, h2, h3.trans (TurnedO.of_below hb), fun k hk => by subst hk; exact ⟨by simp, fun e => Nat.lt_irrefl _ (h1.ownLt e)⟩⟩
/-- A seat has laid a land. -/
theorem PhJ.lay {V wr : World} {lo q t s : Nat} {g : GhostB} {T : TeamL} {y : TurnL} {P : Nat → Prop} (h : PhJ V wr lo g q t T y P) (hs : s < 4) : PhJ V (wr.setCell ⟨t, 3 + s, none⟩ (.bool true)) lo g q t T { y with laid := y.laid.put s } P := by
  obtain ⟨g1, D1, h1, h2, h3, h4⟩ := h
  have hp := h1.turn (y' := { y with laid := y.laid.put s }) (w' := wr.setCell ⟨t, 3 + s, none⟩ (.bool true)) (by simp) (fun k hk _ => heap_setCell_other _ ⟨t, 3 + s, none⟩ k _ hk) (h1.tu.lay hs) ⟨rfl, rfl, rfl⟩
  exact ⟨g1, D1, hp.1, h2, h3.trans hp.2, fun k hk => ⟨by simpa using (h4 k hk).1, (h4 k hk).2⟩⟩
/-- The map has changed. -/
theorem PhJ.map {V wr w' : World} {lo q t b : Nat} {g : GhostB} {T : TeamL} {y : TurnL} (h : PhJ V wr lo g q t T y (fun i => i = b)) (hV : V.heap.size ≤ b) (hg : wr.grownBy w' (some b)) : PhJ V w' lo g q t T y (fun i => i = b) := by
  obtain ⟨g1, D1, h1, h2, h3, h4⟩ := h
  have hb := (h4 b rfl)
  have hk : ∀ k, k < wr.heap.size → k ≠ b → w'.heap[k]? = wr.heap[k]? := fun k h1 h2 => hg.block k h1 (by simpa using h2)
  have ho : ∀ k, own3 g1 t k → k ≠ b := fun k e e2 => hb.2 (by rw [← e2]; exact e)
  exact ⟨g1, D1, ⟨h1.bd.kept hg.size fun k e => hk k (h1.bd.ownLt e) (ho k (.inl e)), h1.tu.of (hk t h1.tu.lt (ho t (.inr rfl))), h1.nt⟩, h2,
    ⟨hg.os.trans h3.os, hg.tape.trans h3.tape, hg.output.trans h3.output, Nat.le_trans h3.size hg.size, fun k a c => (hk k (Nat.lt_of_lt_of_le a h3.size) (by omega)).trans (h3.block k a c), h3.own⟩, fun k e => ⟨Nat.lt_of_lt_of_le (h4 k e).1 hg.size, (h4 k e).2⟩⟩
end Go.Proofs.YtdlkdilgjmmlaaaDoor

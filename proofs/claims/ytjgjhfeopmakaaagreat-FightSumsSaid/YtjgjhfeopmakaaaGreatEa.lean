/- The law EffectAll, walked (layer 11). -/
import Derived.Test.YtjgjhfeopmakaaaGreatBi
import Derived.Test.YtjgjhfeopmakaaaGreatBj
import Derived.Test.YtjgjhfeopmakaaaGreatAq
namespace Go.Proofs.YtjgjhfeopmakaaaGreat
open Go.RowKit Go.Maps
attribute [local go_sem] Oper.semAt_some

theorem keepB1 {A w w' : World} {a0 : Addr} {v0 : Value} (hb : Below w.heap.size w w') (h : Below A.heap.size A w ∧ w.cell? a0 = some v0) : Below A.heap.size A w' ∧ w'.cell? a0 = some v0 := ⟨stepB h.1 hb, cell_stays hb h.2⟩
/-- Two boards alike are the same. -/
theorem bsame_self {w : World} {lo lo' : Nat} {g g' : GhostB} {B : BoardL} (h : BoardAt w lo g B) (h' : BoardAt w lo' g' B) : Calls Tryz.prog 13 #[.pointer (some ⟨g.q, 0, none⟩), .pointer (some ⟨g'.q, 0, none⟩)] w (RetV w (.bool true)) := by
  have := bsame_any (S := B.S) (T := B.T) (D := B.D) (E := B.D) h h'
  rwa [eqD_self] at this
theorem TurnedB.terms {w w' : World} {g g' : GhostB} {u : Value} {l : List Crd.TermL} {lo : Nat} (hu : Crd.TermsIs w u l) (ht : TurnedB w w' g g') (hlo : ∀ k, g.own k → lo ≤ k) (hb : ∀ b off n c, u = .slice (some ⟨b, off, none⟩) n c → l ≠ [] → b < lo) : Crd.TermsIs w' u l := by
  rcases hu with ⟨xa, cap, h1, h2⟩ | ⟨b, off, cap, rfl, hlt, hc⟩
  · exact .inl ⟨xa, cap, h1, h2⟩
  · by_cases hl : l = []
    · subst hl
      exact .inl ⟨_, cap, rfl, rfl⟩
    · have hbl := hb b off _ cap rfl hl
      have hk := (ht.keeps hlt (fun e => by have := hlo b e; omega)).1
      refine .inr ⟨b, off, cap, rfl, Nat.lt_of_lt_of_le hlt ht.size, fun i hi => ?_⟩
      rw [World.cell?_of_block (a := ⟨b, off + i * 3, none⟩) hk, World.cell?_of_block (a := ⟨b, off + i * 3 + 1, none⟩) hk, World.cell?_of_block (a := ⟨b, off + i * 3 + 2, none⟩) hk]
      exact hc i hi
theorem TurnedB.cell {w w' : World} {g g' : GhostB} {lo : Nat} {a : Addr} {v : Value} (hv : w.cell? a = some v) (ht : TurnedB w w' g g') (hlo : ∀ k, g.own k → lo ≤ k) (hk : a.block < lo) (hlt : a.block < w.heap.size) : w'.cell? a = some v := by
  rw [World.cell?_of_block (ht.keeps hlt (fun e => by have := hlo _ e; omega)).1]
  exact hv
theorem TurnedB.two {w w' : World} {g g' : GhostB} {lo : Nat} {B : BoardL} {A : World} (h : TurnedB w w' g g') (hb : BoardAt w lo g B) (hA : Below A.heap.size A w) (hlo : A.heap.size ≤ lo) : Below A.heap.size A w' := h.below hA (fun _ hk => Nat.le_trans hlo (hb.ownLo hk))
end Go.Proofs.YtjgjhfeopmakaaaGreat

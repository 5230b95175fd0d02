/- Plain facts (layer 3): the order of a deck's numbers doesn't matter; a change of two places of a row of the call's own; a list of turns in memory. -/
import Derived.Test.YtcbjekdbkhibbaaDt
import Derived.Test.YtcbjekdbkhibbaaDr
namespace Go.Proofs.Ytcbjekdbkhibbaa
open Go.ChangeShapes Go.WideShapes Go.RowKit

theorem known_perm {t : List CardL} {l m : List Int} (h : l.Perm m) : knownE t l = knownE t m := by
  unfold knownE
  rw [h.all_eq]
theorem deck_perm {t : List CardL} {l m : List Int} (h : l.Perm m) : deckE t l = deckE t m := by
  rw [deckE_ref, deckE_ref, known_perm h, h.length_eq]
  have e : okD t l = okD t m := by
    funext x
    unfold okD
    rw [h.count_eq]
  rw [e, h.all_eq]
theorem scheme_perm {t : List CardL} {l m : List Int} (h : l.Perm m) : schemeE t l = schemeE t m := by
  rw [schemeE_ref, schemeE_ref, known_perm h, h.length_eq]
  have e : okS t l = okS t m := by
    funext x
    unfold okS
    rw [h.count_eq]
  rw [e, h.all_eq]
theorem sum_perm {l m : List Int} (h : l.Perm m) : l.sum = m.sum := by
  induction h with
  | nil => rfl
  | cons x _ ih => simp [ih]
  | swap x y l => simp; omega
  | trans _ _ ih1 ih2 => exact ih1.trans ih2
theorem worth_perm {t : List CardL} {l m : List Int} (h : l.Perm m) : worthL t l = worthL t m := by
  unfold worthL sumC ofL
  exact sum_perm ((h.filter _).map _)
theorem wf_perm {l m : List Int} (h : l.Perm m) (hw : WfI l) : WfI m := fun x hx => hw x (h.mem_iff.2 hx)
/-- Two places of a list are changed. -/
def swapI (x : List Int) (i j : Nat) : List Int := (x.set i (x.getD j 0)).set j (x.getD i 0)
theorem swapI_perm (x : List Int) (i j : Nat) (hi : i < x.length) (hj : j < x.length) : (swapI x i j).Perm x := by
  unfold swapI
  have e1 : x.getD j 0 = x[j] := by simp [List.getD, hj]
  have e2 : x.getD i 0 = x[i] := by simp [List.getD, hi]
  rw [e1, e2]
  exact List.set_set_perm hi hj
/-- What a round of the changes keeps: a row of the call's own that holds the list in some order. -/
def TurnIs (w wr : World) (B g cap : Nat) (l X : List Int) : Prop :=
  wr.ownsRow B 3 1 (.slice (some ⟨g, 0, none⟩) l.length cap) l.length (intsV X) ∧ l.Perm X ∧ w.heap.size ≤ B ∧ Below w.heap.size w wr
theorem turn_step {w wr : World} {B g cap a b nd : Nat} {l X : List Int} {u v : Int} (h : TurnIs w wr B g cap l X) (hg : B ≤ g) (ha : a < l.length) (hb : b < l.length) (hu : X.getD b 0 = u) (hv : X.getD a 0 = v) :
    TurnIs w (((wr.drewN nd).setCell ⟨g, a, none⟩ (.int .i64 u)).setCell ⟨g, b, none⟩ (.int .i64 v)) B g cap l (swapI X a b) := by
  obtain ⟨h1, h2, h3, h4⟩ := h
  have hl := h2.length_eq
  have h1' : (wr.drewN nd).ownsRow B 3 1 (.slice (some ⟨g, 0, none⟩) l.length cap) l.length (intsV X) := h1
  refine ⟨?_, h2.trans (swapI_perm X a b (by omega) (by omega)).symm, h3, ?_⟩
  · have := ((h1'.stored a (.int .i64 u)).1.stored b (.int .i64 v)).1
    unfold swapI
    rw [hu, hv]
    unfold intsV at this ⊢
    rw [List.map_set, List.map_set]
    exact this
  · exact ((below_drewN h4 nd).setCell (p := ⟨g, a, none⟩) (Nat.le_trans h3 hg) _).setCell (p := ⟨g, b, none⟩) (Nat.le_trans h3 hg) _

/-- A list of small numbers (uint8) in memory, or no list. -/
def U8At (w : World) (v : Value) (l : List Int) : Prop :=
  (∃ xa cap, v = .slice xa 0 cap ∧ l = []) ∨ ∃ b off cap, v = .slice (some ⟨b, off, none⟩) l.length cap ∧ b < w.heap.size ∧ ∀ i (h : i < l.length), w.cell? ⟨b, off + i, none⟩ = some (.int .u8 l[i])
theorem U8At.later {w w' : World} {v : Value} {l : List Int} (h : U8At w v l) (hb : Below w.heap.size w w') : U8At w' v l := by
  rcases h with h | ⟨b, off, cap, rfl, hlt, hc⟩
  · exact .inl h
  · exact .inr ⟨b, off, cap, rfl, Nat.lt_of_lt_of_le hlt hb.size, fun i hi => cell_stays hb (hc i hi)⟩
theorem U8At.form {w : World} {v : Value} {l : List Int} (h : U8At w v l) : ∃ xa xc, v = .slice xa l.length xc := by
  rcases h with ⟨xa, cap, rfl, rfl⟩ | ⟨b, off, cap, rfl, _⟩
  · exact ⟨xa, cap, rfl⟩
  · exact ⟨_, cap, rfl⟩
theorem U8At.at {w : World} {xa : Option Addr} {xc : Nat} {l : List Int} (h : U8At w (.slice xa l.length xc) l) (k : Nat) (hk : k < l.length) : ∃ b off, xa = some ⟨b, off, none⟩ ∧ w.cell? ⟨b, off + k, none⟩ = some (.int .u8 l[k]) := by
  rcases h with ⟨_, _, _, h2⟩ | ⟨b, off, cap, h1, _, hc⟩
  · subst h2; simp at hk
  · injection h1 with h1 _ _; exact ⟨b, off, h1, hc k hk⟩
def Wf8 (l : List Int) : Prop := ∀ x ∈ l, 0 ≤ x ∧ x < 256
theorem cells8 : Try.prog.cellsOf 5 = 1 := by kernel_rfl
set_option maxRecDepth 100000 in
theorem open_turns {H : Type} {enc : TypeId × Value → H} {w : World} {base : Nat} {v : Value} {d : DataW H} {p : List MemPlace} (hv : Value.okWide Try.prog w .any base 55 v) (h : DataW.Trod enc Try.prog w 0 (fun _ => true) true 55 v d p) :
    ∃ l : List Int, U8At w v l ∧ l.length ≤ maxLen ∧ Wf8 l := by
  obtain ⟨a0, len0, cap0, rfl⟩ := okWide_slice Try.underlying55 hv
  obtain ⟨fuel, h⟩ := h
  rcases open_ints Try.underlying55 Try.underlying5 cells8 h with ⟨hcs, _⟩ | ⟨ad, len', cap', zs, hcs, _, hl, hm, hz, hx, hcell, hwz⟩
  · exact ⟨[], .inl ⟨_, _, (List.cons.inj hcs).1, rfl⟩, Nat.zero_le _, fun x hx => by cases hx⟩
  · have hv2 : Value.slice a0 len0 cap0 = .slice (some ad) len' cap' := (List.cons.inj hcs).1
    rw [hv2]
    simp only [if_true] at hz
    by_cases h0 : len' = 0
    · subst h0
      exact ⟨[], .inl ⟨_, _, rfl, rfl⟩, Nat.zero_le _, fun x hx => by cases hx⟩
    · have hlen : (zs.take len').length = len' := by rw [List.length_take]; omega
      obtain ⟨b, off, spot⟩ := ad
      have hspot : spot = none := by simpa [Addr.add] using World.cell?_spot (hcell 0 (by omega))
      subst hspot
      refine ⟨zs.take len', .inr ⟨b, off, cap', by rw [hlen], ?_, fun i hi => ?_⟩, by rw [hlen]; omega, fun x hx => ?_⟩
      · have := hcell 0 (by omega)
        rw [addr_at] at this
        exact World.block_lt_of_cell? w _ this
      · rw [hlen] at hi
        have := hcell i (by omega)
        rw [addr_at] at this
        rw [this]
        simp [List.getD, show i < zs.length by omega]
      · have := hwz x (List.mem_of_mem_take hx)
        simp [Lit.wf, IntKind.min, IntKind.max, IntKind.signed, IntKind.bits] at this
        omega
end Go.Proofs.Ytcbjekdbkhibbaa

/- Lists of cards in memory; the contracts of deck.Table and of the document's Table (layer 3). Lists of numbers in memory; the contracts of within, checkNumbers, and of the document's Table, Known, Many (layer 3). The contracts of the document's Known and of Great (layer 3). -/
import Derived.Test.YtekbdbcomfleeaaCr
import Derived.Test.YtekbdbcomfleeaaRn
namespace Go.Proofs.Ytekbdbcomfleeaa
open Go.RowKit

/-- A card's cells at a place. -/
def CardCells (w : World) (b o : Nat) (c : CardL) : Prop :=
  ∃ ya yc, w.cell? ⟨b, o, none⟩ = some (.int .i64 c.kind) ∧ w.cell? ⟨b, o + 1, none⟩ = some (.int .i64 c.cost) ∧ w.cell? ⟨b, o + 2, none⟩ = some (.int .i64 c.power) ∧ w.cell? ⟨b, o + 3, none⟩ = some (.int .i64 c.tough) ∧
    w.cell? ⟨b, o + 4, none⟩ = some (.int .i64 c.keys) ∧ w.cell? ⟨b, o + 5, none⟩ = some (.int .i64 c.whn) ∧ w.cell? ⟨b, o + 6, none⟩ = some (.slice ya c.terms.length yc) ∧ TermsIs w (.slice ya c.terms.length yc) c.terms
theorem CardCells.later {w w' : World} {b o : Nat} {c : CardL} (h : CardCells w b o c) (hb : Below w.heap.size w w') : CardCells w' b o c := by
  obtain ⟨ya, yc, c0, c1, c2, c3, c4, c5, c6, ht⟩ := h
  exact ⟨ya, yc, cell_stays hb c0, cell_stays hb c1, cell_stays hb c2, cell_stays hb c3, cell_stays hb c4, cell_stays hb c5, cell_stays hb c6, ht.later hb⟩
/-- A list of cards in memory, or no list; what it holds. -/
def CardsAt (w : World) (v : Value) (l : List CardL) : Prop :=
  (∃ xa cap, v = .slice xa 0 cap ∧ l = []) ∨ ∃ b off cap, v = .slice (some ⟨b, off, none⟩) l.length cap ∧ b < w.heap.size ∧ ∀ i (h : i < l.length), CardCells w b (off + i * 7) l[i]
theorem CardsAt.later {w w' : World} {v : Value} {l : List CardL} (h : CardsAt w v l) (hb : Below w.heap.size w w') : CardsAt w' v l := by
  rcases h with h | ⟨b, off, cap, rfl, hlt, hc⟩
  · exact .inl h
  · exact .inr ⟨b, off, cap, rfl, Nat.lt_of_lt_of_le hlt hb.size, fun i hi => (hc i hi).later hb⟩
theorem CardsAt.form {w : World} {v : Value} {l : List CardL} (h : CardsAt w v l) : ∃ xa xc, v = .slice xa l.length xc := by
  rcases h with ⟨xa, cap, rfl, rfl⟩ | ⟨b, off, cap, rfl, _⟩
  · exact ⟨xa, cap, rfl⟩
  · exact ⟨_, cap, rfl⟩
theorem CardsAt.at {w : World} {xa : Option Addr} {xc : Nat} {l : List CardL} (h : CardsAt w (.slice xa l.length xc) l) (k : Nat) (hk : k < l.length) : ∃ b off, xa = some ⟨b, off, none⟩ ∧ CardCells w b (off + k * 7) l[k] := by
  rcases h with ⟨_, _, _, h2⟩ | ⟨b, off, cap, h1, _, hc⟩
  · subst h2; simp at hk
  · injection h1 with h1 _ _; exact ⟨b, off, h1, hc k hk⟩
def tableE (l : List CardL) : Int := if 60 < l.length then 5 else if l.all mayB then 0 else 8
/-- No list of terms is longer than an int tells. -/
def SmallC (l : List CardL) : Prop := ∀ c ∈ l, c.terms.length ≤ 9223372036854775807
theorem SmallC.at {l : List CardL} (h : SmallC l) (k : Nat) (hk : k < l.length) : l[k].terms.length ≤ 9223372036854775807 := h _ (List.getElem_mem hk)
theorem allB_next {α : Type} {p : α → Bool} {l : List α} {k : Nat} (hk : k < l.length) (h : (l.take k).all p = true) (hp : p l[k] = true) : (l.take (k + 1)).all p = true := by
  rw [take_last l k hk, List.all_append, h]; simp [hp]
theorem allB_not {α : Type} {p : α → Bool} {l : List α} {k : Nat} (hk : k < l.length) (hp : p l[k] = false) : l.all p = false := by
  cases h : l.all p
  · rfl
  · rw [List.all_eq_true] at h
    rw [h _ (List.getElem_mem hk)] at hp; exact absurd hp (by decide)
theorem allB_done {α : Type} {p : α → Bool} {l : List α} (h : (l.take l.length).all p = true) : l.all p = true := by rwa [List.take_length] at h

end Go.Proofs.Ytekbdbcomfleeaa
namespace Go.Proofs.Ytekbdbcomfleeaa
open Go.RowKit

/-- A list of numbers in memory, or no list (at whatever address). -/
def IntsAt (w : World) (v : Value) (l : List Int) : Prop :=
  (∃ xa cap, v = .slice xa 0 cap ∧ l = []) ∨ ∃ b off cap, v = .slice (some ⟨b, off, none⟩) l.length cap ∧ b < w.heap.size ∧ ∀ i (h : i < l.length), w.cell? ⟨b, off + i, none⟩ = some (.int .i64 l[i])
theorem IntsAt.later {w w' : World} {v : Value} {l : List Int} (h : IntsAt w v l) (hb : Below w.heap.size w w') : IntsAt w' v l := by
  rcases h with h | ⟨b, off, cap, rfl, hlt, hc⟩
  · exact .inl h
  · exact .inr ⟨b, off, cap, rfl, Nat.lt_of_lt_of_le hlt hb.size, fun i hi => cell_stays hb (hc i hi)⟩
theorem IntsAt.form {w : World} {v : Value} {l : List Int} (h : IntsAt w v l) : ∃ xa xc, v = .slice xa l.length xc := by
  rcases h with ⟨xa, cap, rfl, rfl⟩ | ⟨b, off, cap, rfl, _⟩
  · exact ⟨xa, cap, rfl⟩
  · exact ⟨_, cap, rfl⟩
theorem IntsAt.at {w : World} {xa : Option Addr} {xc : Nat} {l : List Int} (h : IntsAt w (.slice xa l.length xc) l) (k : Nat) (hk : k < l.length) : ∃ b off, xa = some ⟨b, off, none⟩ ∧ w.cell? ⟨b, off + k, none⟩ = some (.int .i64 l[k]) := by
  rcases h with ⟨_, _, _, h2⟩ | ⟨b, off, cap, h1, _, hc⟩
  · subst h2; simp at hk
  · injection h1 with h1 _ _; exact ⟨b, off, h1, hc k hk⟩
theorem IntsAt.of {w : World} {v : Value} {l : List Int} (h : NumsAt w v l) : IntsAt w v l := by
  rcases h with ⟨h1, h2⟩ | ⟨b, off, cap, h1, h2, h3⟩
  · exact .inl ⟨_, _, h1, h2⟩
  · exact .inr ⟨b, off, cap, h1, h2, fun i hi => by rw [h3 i hi]; simp [hi]⟩
def inT (m : Nat) (n : Int) : Bool := decide (0 ≤ n) && decide (n < m)
def knownE (t : List CardL) (l : List Int) : Int := if tableE t = 0 then (if l.all (inT t.length) then 0 else 2) else tableE t

end Go.Proofs.Ytekbdbcomfleeaa
namespace Go.Proofs.Ytekbdbcomfleeaa
open Go.RowKit

def greatB (t : List CardL) (l : List Int) : Bool := decide (70 < t.length) || (decide (60 < l.length) || !(t.all fun c => decide (c.terms.length ≤ 10)))
end Go.Proofs.Ytekbdbcomfleeaa

/- A list of terms in memory from some block on, and what keeps it. -/
import Derived.Test.YtekbdbcomfleeaaCd
namespace Go.Proofs.Ytekbdbcomfleeaa
open Go.RowKit

def zeroT : TermL := ⟨0, 0, 0⟩
def zeroC : CardL := ⟨0, 0, 0, 0, 0, 0, []⟩
/-- A list of terms in blocks from B on, or no list; what it holds. -/
def TermsFrom (B : Nat) (w : World) (v : Value) (l : List TermL) : Prop :=
  (v = .slice none 0 0 ∧ l = []) ∨ ∃ b off cap, v = .slice (some ⟨b, off, none⟩) l.length cap ∧ B ≤ b ∧ b < w.heap.size ∧
    ∀ i (h : i < l.length), w.cell? ⟨b, off + i * 3, none⟩ = some (.int .i64 l[i].op) ∧ w.cell? ⟨b, off + i * 3 + 1, none⟩ = some (.int .i64 l[i].n) ∧ w.cell? ⟨b, off + i * 3 + 2, none⟩ = some (.int .i64 l[i].on)
theorem TermsFrom.is {B : Nat} {w : World} {v : Value} {l : List TermL} (h : TermsFrom B w v l) : TermsIs w v l := by
  rcases h with h | ⟨b, off, cap, rfl, _, hlt, hc⟩
  · exact .inl ⟨none, 0, h⟩
  · exact .inr ⟨b, off, cap, rfl, hlt, hc⟩
theorem TermsFrom.none (B : Nat) (w : World) : TermsFrom B w (.slice none 0 0) [] := .inl ⟨rfl, rfl⟩
theorem TermsFrom.drew {B : Nat} {w : World} {v : Value} {l : List TermL} (h : TermsFrom B w v l) : TermsFrom B w.drew v l := h
theorem TermsFrom.mono {B B' : Nat} {w : World} {v : Value} {l : List TermL} (h : TermsFrom B w v l) (hB : B' ≤ B) : TermsFrom B' w v l := by
  rcases h with h | ⟨b, off, cap, rfl, hb, hc⟩
  · exact .inl h
  · exact .inr ⟨b, off, cap, rfl, Nat.le_trans hB hb, hc⟩
theorem TermsFrom.later {B : Nat} {w w' : World} {v : Value} {l : List TermL} (h : TermsFrom B w v l) (hb : Below w.heap.size w w') : TermsFrom B w' v l := by
  rcases h with h | ⟨b, off, cap, rfl, hB, hlt, hc⟩
  · exact .inl h
  · exact .inr ⟨b, off, cap, rfl, hB, Nat.lt_of_lt_of_le hlt hb.size, fun i hi => ⟨cell_stays hb (hc i hi).1, cell_stays hb (hc i hi).2.1, cell_stays hb (hc i hi).2.2⟩⟩
theorem cell_far {w : World} {p : Addr} {u v : Value} {b o : Nat} (hp : p.block < b) (h : w.cell? ⟨b, o, none⟩ = some v) : (w.setCell p u).cell? ⟨b, o, none⟩ = some v := by
  rw [World.cell?_setCell_other _ _ _ _ (fun e => by rw [e] at hp; simp at hp)]
  exact h
theorem TermsFrom.setCell {B : Nat} {w : World} {v : Value} {l : List TermL} (h : TermsFrom B w v l) {p : Addr} (hp : p.block < B) (u : Value) : TermsFrom B (w.setCell p u) v l := by
  rcases h with h | ⟨b, off, cap, rfl, hb, hlt, hc⟩
  · exact .inl h
  · exact .inr ⟨b, off, cap, rfl, hb, by simpa [World.setCell] using hlt, fun i hi => ⟨cell_far (by omega) (hc i hi).1, cell_far (by omega) (hc i hi).2.1, cell_far (by omega) (hc i hi).2.2⟩⟩
theorem TermsFrom.at7 {w W : World} {o1 o2 o3 o4 o5 o6 o7 : Obj} {v : Value} {l : List TermL} (h : TermsFrom (((((((w.alloc o1).alloc o2).alloc o3).alloc o4).alloc o5).alloc o6).alloc o7).heap.size W v l) :
    TermsFrom (w.heap.size + 1 + 1 + 1 + 1 + 1 + 1 + 1) W v l := h.mono (by simp)
end Go.Proofs.Ytekbdbcomfleeaa

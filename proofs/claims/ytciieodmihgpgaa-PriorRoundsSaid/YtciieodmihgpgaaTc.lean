/- What changes teams (layer 9): Lose, Gain, Sicken, of any number. -/
import Derived.Test.YtciieodmihgpgaaTb
namespace Go.Proofs.Ytciieodmihgpgaa
open Go.RowKit

theorem sharesV_set : ∀ (l : List ShareL) (n j : Nat) (u : Value) (x : ShareL) (hn : n < l.length) (_ : j < 3) (_ : scells x = (scells l[n]).set j u), (sharesV l).set (n * 3 + j) u = sharesV (l.set n x)
  | y :: l, 0, j, u, x, _, hj, hx => by
    simp only [List.getElem_cons_zero] at hx
    simp only [sharesV, List.flatMap_cons, List.set_cons_zero, Nat.zero_mul, Nat.zero_add]
    rw [List.set_append_left _ _ (by simpa [scells] using hj), ← hx]
  | y :: l, n + 1, j, u, x, hn, hj, hx => by
    have h := sharesV_set l n j u x (by simpa using hn) hj (by simpa using hx)
    simp only [sharesV, List.flatMap_cons, List.set_cons_succ] at h ⊢
    rw [← h, List.set_append_right _ _ (by simp [scells]; omega)]
    congr 2
    simp [scells]; omega
def putT (T : TeamL) (n : Nat) (x : ShareL) : TeamL := ⟨T.sides, T.sh.set n x⟩
theorem TeamAt.put {w : World} {lo b s r : Nat} {T : TeamL} (h : TeamAt w lo b s r T) (n j : Nat) (hn : n < T.sh.length) (hj : j < 3) (u : Value) (x : ShareL) (hx : scells x = (scells T.sh[n]).set j u) :
    TeamAt (w.setCell ⟨r, n * 3 + j, none⟩ u) lo b s r (putT T n x) ∧ w.grownBy (w.setCell ⟨r, n * 3 + j, none⟩ u) (some r) ∧ w.frozen? ⟨r, n * 3 + j, none⟩ = false := by
  have hg := grown_set w r (n * 3 + j) u
  obtain ⟨c1, c2, h0⟩ := h.hd
  obtain ⟨cur, hr, ht⟩ := h.rw
  have e : (putT T n x).sh.length = T.sh.length := by simp [putT]
  refine ⟨⟨⟨c1, c2, ?_⟩, ⟨Nat.lt_of_lt_of_le h.sd.1 hg.size, fun k hk => (hg.cell_far ⟨s, k, none⟩ h.sd.1 (by simpa using h.sr)).trans (h.sd.2 k hk)⟩, ⟨_, heap_setCell_same w r (n * 3 + j) cur _ u hr, ?_⟩, h.lb, h.ls, h.lr, h.br, h.sr, h.n1, by rw [e]; exact h.n2, fun y hy => by rw [e]; exact h.nd y hy⟩, hg, frozen_of_row w r _ _ _ hr⟩
  · rw [e]
    exact (hg.block b h.lt (by simpa using h.br)).trans h0
  · rw [e]
    have e2 := sharesV_set T.sh n j u x hn hj hx
    show _ = sharesV (T.sh.set n x)
    rw [← e2, ← ht]
    simp [List.take_set]
def RetT (w : World) (lo b s r : Nat) (v : Value) (T : TeamL) (e : Ending) (w' : World) : Prop := e = .returned v ∧ TeamAt w' lo b s r T ∧ w.grownBy w' (some r)
def shAt (T : TeamL) (n : Nat) : ShareL := T.sh.getD n ⟨0, 0, true⟩
def loseT (T : TeamL) (k : Int) : TeamL := if inL T k then putT T k.toNat ⟨(shAt T k.toNat).life, (shAt T k.toNat).poison, true⟩ else T
def gainT (T : TeamL) (k n : Int) : TeamL := if inL T k then putT T k.toNat ⟨addZ (shAt T k.toNat).life n, (shAt T k.toNat).poison, (shAt T k.toNat).lost⟩ else T
def sickT (T : TeamL) (k n : Int) : TeamL := if inL T k then putT T k.toNat ⟨(shAt T k.toNat).life, max (addZ (shAt T k.toNat).poison n) 0, (shAt T k.toNat).lost⟩ else T
theorem shAt_in {T : TeamL} {n : Nat} (h : n < T.sh.length) : shAt T n = T.sh[n] := by simp [shAt, List.getD, h]
theorem putT_self {T : TeamL} {n : Nat} (h : n < T.sh.length) : putT T n T.sh[n] = T := by simp [putT]
end Go.Proofs.Ytciieodmihgpgaa

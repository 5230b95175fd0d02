/- Gain, Sicken of any number; who is left, who has won, who is next; a team's seats (layer 9). -/
import Derived.Test.YtciieodmihgpgaaTc
namespace Go.Proofs.Ytciieodmihgpgaa
open Go.RowKit

set_option maxRecDepth 100000 in
theorem wpList_push {A wr : World} {ops : Array Oper} {rest : List Oper} {o : Oper} {a : Act} {Q : Exit → Act → World → Prop} (hgd : o.guard = none) (s x : Operand)
    (ho : o.op = .call { callee := .builtin .append, args := #[s, x], argTypes := #[29, 29] }) (hty : o.type = 29) (v : Value) (L : List Int) (k : Int) (hs : a.eval s = v)
    (hown : wr.ownsRow A.heap.size 3 1 v L.length (intsV L)) (hb : Below A.heap.size A wr) (hx : a.eval x = .slice (some ⟨wr.heap.size, 0, none⟩) 1 1) (hl : L.length ≤ 900)
    (h : ∀ v' w', w'.ownsRow A.heap.size 3 1 v' (L ++ [k]).length (intsV (L ++ [k])) → Below A.heap.size A w' → wpList Try.prog ops Q rest (a.put o.dst v') w') :
    wpList Try.prog ops Q (o :: rest) a (wr.alloc (.cells #[.int .i64 k] 3)) := by
  have hsz := hb.size
  refine wpList_append_ints hgd s x ho hty A.heap.size v L.length (intsV L) hs (hown.alloc _) _ 1 1 [k] hx rfl ((RowAt.new wr 3 (intsV [k])).vals 1) (by simp; omega) (by simp; omega) ?_
  intro v' w' h1 h2 _
  refine h v' w' ?_ ?_
  · have e : intsV (L ++ [k]) = intsV L ++ intsV [k] := by simp [intsV]
    rw [e, List.length_append]
    exact h1
  · exact grown_of (below_alloc2 hb _) h2 (fun q hq => (hown.lt q hq).1)
def upTo (p : Nat → Bool) (k : Nat) : List Int := ((List.range k).filter p).map fun n => ((n : Nat) : Int)
theorem upTo_yes {p : Nat → Bool} {k : Nat} (h : p k = true) : upTo p (k + 1) = upTo p k ++ [(k : Int)] := by simp [upTo, List.range_succ, List.filter_append, h]
theorem upTo_no {p : Nat → Bool} {k : Nat} (h : p k = false) : upTo p (k + 1) = upTo p k := by simp [upTo, List.range_succ, List.filter_append, h]
theorem upTo_len (p : Nat → Bool) (k : Nat) : (upTo p k).length ≤ k := by
  have := List.length_filter_le p (List.range k)
  simpa [upTo] using this
def leftT (T : TeamL) : List Int := upTo (fun n => !lostT T n) T.sh.length
def seatsT (T : TeamL) (k : Int) : List Int := upTo (fun n => ofT T n == k) T.sides.length
end Go.Proofs.Ytciieodmihgpgaa

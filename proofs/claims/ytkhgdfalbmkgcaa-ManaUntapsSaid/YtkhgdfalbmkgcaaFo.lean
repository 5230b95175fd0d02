/- All, so and Where (layer 5): the iterator of Where hands those things to its rounds of which a function says so. -/
import Derived.Test.YtkhgdfalbmkgcaaFn
namespace Go.Proofs.Ytkhgdfalbmkgcaa
open Go.RowKit
attribute [local go_sem] Oper.semAt_some

def RetFn (w : World) (f : Nat) (v : Value) (e : Ending) (w' : World) : Prop := e = .returned (.func (.func f) #[] #[.pointer (some ⟨w.heap.size, 0, none⟩)]) ∧ HdAt w' w.heap.size v ∧ Below w.heap.size w w'
theorem all_any (p : Option Addr) (w : World) : Calls Try.prog 65 #[.pointer p] w (RetFn w 82 (.pointer p)) := by
  have hmf := @mk_func
  go_enter Try.func65, Try.ntmps65
  go_wp2
  go_ret
  exact ⟨rfl, HdAt.new w _ _, below_new w _⟩
def RetFn2 (w : World) (f : Nat) (u v : Value) (e : Ending) (w' : World) : Prop := e = .returned (.func (.func f) #[] #[.pointer (some ⟨w.heap.size + 1, 0, none⟩), .pointer (some ⟨w.heap.size, 0, none⟩)]) ∧ HdAt w' (w.heap.size + 1) u ∧ HdAt w' w.heap.size v ∧ Below w.heap.size w w'
theorem roundIn_wide {n m : Nat} {P : Program} {l : Nat} {f : FuncId} {tmps : Array Value} {assign body : Code} {w : World} {R : Ending → World → Prop} (h : RoundIn Fence.wide n P l f tmps assign body w R) : RoundIn Fence.wide m P l f tmps assign body w R := by
  exact ⟨h.1, fun c cs _ => h.2 c cs (room_wide _)⟩
def filtA (f : Int → Bool) (pre : List AItem) : List Int := (pre.map (·.1)).filter f
theorem filt_snoc (f : Int → Bool) (pre : List AItem) (x : AItem) : filtA f (pre ++ [x]) = if f x.1 then filtA f pre ++ [x.1] else filtA f pre := by
  cases h : f x.1 <;> simp [filtA, h]
theorem filt_all (f : Int → Bool) (L : List Int) : filtA f L.zipIdx = L.filter f := by
  simp [filtA]
theorem filt_pre (f : Int → Bool) {L : List Int} {pre : List AItem} (h : pre <+: L.zipIdx) : filtA f pre <+: L.filter f := by
  rw [← filt_all]
  exact (h.map _).filter _
def encW (x : Int) : Array Value := #[.int .i64 x]
end Go.Proofs.Ytkhgdfalbmkgcaa

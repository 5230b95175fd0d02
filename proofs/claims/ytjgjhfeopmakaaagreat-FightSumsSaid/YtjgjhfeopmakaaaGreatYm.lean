/- A law's own map of numbers that are so (out of layer 15); Move of what there isn't (out of layer 6). -/
import Derived.Test.YtjgjhfeopmakaaaGreatEa
import Derived.Test.YtjgjhfeopmakaaaGreatAq
import Derived.Deep.Cut
import Derived.Deep.DeepCutAuto
import Derived.Deep.RegionHeld3
import Derived.Deep.RegionWith
import Derived.Maps.OwnOps
import Derived.Maps.OwnSet
import Derived.Maps.Views
import Derived.Deep.Slices
import Derived.Deep.Fields
import Derived.ChangeSame
import Derived.Laws.IdiomArrays
namespace Go.Proofs.YtjgjhfeopmakaaaGreat
open Go.RowKit Go.Maps
def LaidMap (w : World) (b n : Nat) (f : Int → Bool) : Prop :=
  ∃ D : DataW Unit, w.ownsMap Tryz.prog 3 (plainElem Tryz.prog 4) b n D ∧ Maps.Tidy D ∧ ∀ x, (Lit.int .i64 x).wf = true → D.atKey (.int .i64 x) (.lit (.bool false)) = .lit (.bool (f x))
theorem key_lit (x : Int) : WideAt.IsKeyLit (.int .i64 x) := by first | trivial | simp [WideAt.IsKeyLit] | constructor
theorem LaidMap.lt {w : World} {b n : Nat} {f : Int → Bool} (h : LaidMap w b n f) : b < w.heap.size := by
  obtain ⟨D, ho, _⟩ := h
  exact ho.lt
theorem LaidMap.of {w w' : World} {b n : Nat} {f : Int → Bool} (h : LaidMap w b n f) (he : w'.heap[b]? = w.heap[b]?) : LaidMap w' b n f := by
  obtain ⟨D, ⟨es, clock, hb, rest⟩, r⟩ := h
  exact ⟨D, ⟨es, clock, he.trans hb, rest⟩, r⟩
theorem laid_made (w : World) : LaidMap (w.alloc (.map #[] 0)) w.heap.size 0 (fun _ => false) :=
  ⟨.map [], World.ownsMap_made w Tryz.prog 3 (plainElem (H := Unit) Tryz.prog 4), Maps.tidy_empty, fun _ _ => rfl⟩
theorem plain_bool_inv {P : Program} {e : TypeId} (he : P.underlying e = some .bool) {v : Value} {z : DataW Unit × List MemPlace} (h : plainElem P e v = some z) : ∃ c : Bool, v = .bool c ∧ z = (.lit (.bool c), []) := by
  unfold plainElem at h
  rw [he] at h
  cases v <;> simp at h
  exact ⟨_, rfl, h.symm⟩
theorem LaidMap.look {w : World} {b n : Nat} {f : Int → Bool} (h : LaidMap w b n f) {x : Int} (hx : (Lit.int .i64 x).wf = true) : (Instr.lookup 59 (.map (some b)) (.int .i64 x) false).run Tryz.prog w = .ok (.bool (f x)) w := by
  obtain ⟨D, hown, _, hat⟩ := h
  obtain ⟨v, ps, hrun, hv⟩ := hown.lookup (Maps.int_keyed Tryz.underlying3) Tryz.underlying59 (Tryz.zeroValue4 _) (plainElem_bool Tryz.underlying4 false) (Maps.keyOf_int_mk Tryz.underlying3 hx)
  obtain ⟨c, rfl, hc⟩ := plain_bool_inv Tryz.underlying4 hv
  rw [hat x hx] at hc
  simp only [Prod.mk.injEq, DataW.lit.injEq, Lit.bool.injEq] at hc
  rw [hrun, hc.1]
theorem LaidMap.mono {w : World} {b n m : Nat} {f : Int → Bool} (h : LaidMap w b n f) (hm : n ≤ m) : LaidMap w b m f := by
  obtain ⟨D, ho, r⟩ := h
  exact ⟨D, ho.mono hm, r⟩
theorem LaidMap.later {w w' : World} {b n : Nat} {f : Int → Bool} (h : LaidMap w b n f) (hb : Below w.heap.size w w') : LaidMap w' b n f := h.of (hb.block b h.lt)
/-- A seat more. -/
theorem LaidMap.put {w : World} {b n : Nat} {f : Int → Bool} (h : LaidMap w b n f) (hn : n < maxLen) {x : Int} (hx : (Lit.int .i64 x).wf = true) :
    ∃ w', (Instr.mapUpdate 59 (.map (some b)) (.int .i64 x) (.bool true)).run Tryz.prog w = .ok () w' ∧ LaidMap w' b (n + 1) (fun y => if y = x then true else f y) ∧ w.grownBy w' (some b) := by
  obtain ⟨D, hown, htd, hat⟩ := h
  obtain ⟨w', h1, h2, h3⟩ := hown.update (Maps.int_keyed Tryz.underlying3) Tryz.underlying59 hn (Maps.keyOf_int_mk Tryz.underlying3 hx) (plainElem_bool Tryz.underlying4 true)
  refine ⟨w', h1, ⟨_, h2, htd.put (key_lit x) _, fun y hy => ?_⟩, h3⟩
  dsimp only
  by_cases e : y = x
  · subst e
    rw [if_pos rfl, Maps.atKey_put_same htd.isMap (key_lit y)]
  · rw [if_neg e, Maps.atKey_put_other (fun h => e (by injection h))]
    exact hat y hy
theorem move_out {w : World} {p : Option Addr} {i n zone : Int} (under : Bool) (hn : n ≠ 0) (h : Calls Tryz.prog 9 #[.pointer p, .int .i64 i] w (RetGet w zeroO n)) :
    Calls Tryz.prog 20 #[.pointer p, .int .i64 i, .int .i64 zone, .bool under] w (RetV w (.int .i64 n)) := by
  have HG := Lib.hid h
  have e0 : (n != 0) = true := bne_iff_ne.2 hn
  unfold RetGet oagg zeroO at HG
  dsimp only at HG
  clear h hn
  go_enter Tryz.func20, Tryz.ntmps20
  go_wp2_with fail
  refine HG.out.mono ?_
  rintro e w1 ⟨rfl, hb1⟩
  dsimp only
  go_wp2
  go_ret
  exact ⟨rfl, below_alloc2 hb1 _⟩
def u8sV (l : List Int) : List Value := l.map fun x => .int .u8 x
open Go.ChangeShapes Go.WideShapes Go.Deep
theorem cells8 : Tryz.prog.cellsOf 5 = 1 := by kernel_rfl
set_option maxRecDepth 100000 in
theorem open_bytes {H : Type} {enc : TypeId × Value → H} {w : World} {base : Nat} {v : Value} {d : DataW H} {p : List MemPlace} (hv : Value.okWide Tryz.prog w .any base 58 v) (h : DataW.Trod enc Tryz.prog w 0 (fun _ => true) true 58 v d p) :
    ∃ l : List Int, ValsAt w v (u8sV l) ∧ l.length ≤ maxLen ∧ ∀ x ∈ l, 0 ≤ x ∧ x < 256 := by
  obtain ⟨a0, len0, cap0, rfl⟩ := okWide_slice Tryz.underlying58 hv
  obtain ⟨fuel, h⟩ := h
  rcases open_ints Tryz.underlying58 Tryz.underlying5 cells8 h with ⟨hcs, _⟩ | ⟨ad, len', cap', zs, hcs, _, hl, hm, hz, hx, hcell, hwz⟩
  · exact ⟨[], .inl ⟨_, _, (List.cons.inj hcs).1, rfl⟩, Nat.zero_le _, fun x hx => by cases hx⟩
  · have hv2 : Value.slice a0 len0 cap0 = .slice (some ad) len' cap' := (List.cons.inj hcs).1
    rw [hv2]
    simp only [if_true] at hz
    by_cases h0 : len' = 0
    · subst h0
      exact ⟨[], .inl ⟨_, _, rfl, rfl⟩, Nat.zero_le _, fun x hx => by cases hx⟩
    · have hlen : (zs.take len').length = len' := by rw [List.length_take]; omega
      have hlen8 : ∀ l : List Int, (u8sV l).length = l.length := fun l => by simp [u8sV]
      obtain ⟨b, off, spot⟩ := ad
      have hspot : spot = none := by simpa [Addr.add] using World.cell?_spot (hcell 0 (by omega))
      subst hspot
      refine ⟨zs.take len', .inr ⟨b, off, cap', by rw [hlen8, hlen], ?_, fun i hi => ?_⟩, by rw [hlen]; omega, fun x hx => ?_⟩
      · have := hcell 0 (by omega)
        rw [addr_at2] at this
        exact World.block_lt_of_cell? w _ this
      · rw [hlen8, hlen] at hi
        have := hcell i (by omega)
        rw [addr_at2] at this
        rw [this]
        simp [u8sV, List.getD, show i < zs.length by omega]
      · have := hwz x (List.mem_of_mem_take hx)
        simp [Lit.wf, IntKind.min, IntKind.max, IntKind.signed, IntKind.bits] at this
        omega
end Go.Proofs.YtjgjhfeopmakaaaGreat

/- Stores of objects (layer 6) in memory: objects, piles by places (a map of pointers), what belongs to a store, what a store's change leaves as it was. -/
import Derived.Test.YtkhgdfalbmkgcaaCd
import Derived.Test.YtkhgdfalbmkgcaaFf
import Derived.Maps.OwnSet
import Derived.DeepKeys4
namespace Go.Proofs.Ytkhgdfalbmkgcaa
open Go.RowKit Go.Maps

structure ObjL where
  id : Int
  card : Int
  owner : Int
  zone : Int
  tapped : Bool
  sick : Bool
  hurt : Int
  count : Int
  boost : Int
  block : Int
  attacks : Bool
def ocells (o : ObjL) : List Value := [.int .i64 o.id, .int .i64 o.card, .int .i64 o.owner, .int .i64 o.zone, .bool o.tapped, .bool o.sick, .int .i64 o.hurt, .int .i64 o.count, .int .i64 o.boost, .int .i64 o.block, .bool o.attacks]
def oagg (o : ObjL) : Value := .agg #[.int .i64 o.id, .int .i64 o.card, .int .i64 o.owner, .int .i64 o.zone, .bool o.tapped, .bool o.sick, .int .i64 o.hurt, .int .i64 o.count, .int .i64 o.boost, .int .i64 o.block, .bool o.attacks]
def objsV (l : List ObjL) : List Value := l.flatMap ocells
theorem objsV_len (l : List ObjL) : (objsV l).length = l.length * 11 := by
  induction l with
  | nil => rfl
  | cons o l ih => simp only [objsV, List.flatMap_cons, List.length_append, List.length_cons] at ih ⊢; rw [ih]; simp [ocells]; omega
theorem objsV_append (l r : List ObjL) : objsV (l ++ r) = objsV l ++ objsV r := by simp [objsV]
theorem objsV_at : ∀ (l : List ObjL) (k j : Nat) (h : k < l.length) (_ : j < 11), (objsV l)[k * 11 + j]? = (ocells l[k])[j]?
  | [], k, j, h, _ => by simp at h
  | o :: l, 0, j, _, hj => by
    simp only [objsV, List.flatMap_cons, Nat.zero_mul, Nat.zero_add, List.getElem_cons_zero]
    exact List.getElem?_append_left (by simpa [ocells] using hj)
  | o :: l, k + 1, j, h, hj => by
    have e : (objsV (o :: l))[(k + 1) * 11 + j]? = (objsV l)[k * 11 + j]? := by
      rw [show (k + 1) * 11 + j = k * 11 + j + 11 by omega]
      simp [objsV, ocells]
    rw [e, objsV_at l k j (by simpa using h) hj]
    rfl

/-! Keys of the map of piles. -/
theorem laidOut : laidOutB Try.prog = true := by kernel_rfl
theorem place_row : decide (91 < Try.prog.types.size) = true := by kernel_rfl
theorem place_law : WideMaps.KeyLaw Try.prog 91 := deep_law_laid laidOut (m := 2) (by omega) (of_decide_eq_true place_row) (by kernel_rfl) (by kernel_rfl)
set_option maxRecDepth 100000 in
theorem place_keyed : Keyed Try.prog 91 := Keyed.of_law place_law
def Wf (x : Int) : Prop := -9223372036854775808 ≤ x ∧ x ≤ 9223372036854775807
theorem Wf.lit {x : Int} (h : Wf x) : (Lit.int .i64 x).wf = true := WalkArith.wf_i64 (by obtain ⟨h1, h2⟩ := h; omega)
def kv (s z : Int) : Value := .agg #[.int .i64 s, .int .i64 z]
noncomputable def kl (s z : Int) : Lit := (keyOf Try.prog 91 (kv s z)).getD (.bool false)
set_option maxRecDepth 100000 in
theorem place_key {s z : Int} (hs : Wf s) (hz : Wf z) : keyOf Try.prog 91 (kv s z) = some (kl s z) := by
  have h : ∃ bs, keyOf Try.prog 91 (kv s z) = some (.string bs) := by
    have hs := hs.lit
    have hz := hz.lit
    have hu := Try.underlying91
    have hc : Try.prog.cellsOf 91 = 2 := by kernel_rfl
    have hc3 : Try.prog.cellsOf 3 = 1 := by kernel_rfl
    have hu3 := Try.underlying3
    have hk : Try.prog.keyType 91 = true := by kernel_rfl
    obtain ⟨n, hsz⟩ : ∃ n, Try.prog.types.size = n + 1 := ⟨_, (Nat.succ_pred_eq_of_pos (Nat.lt_of_le_of_lt (Nat.zero_le _) (of_decide_eq_true place_row))).symm⟩
    unfold keyOf kv
    rw [hsz, hu]
    simp only [hk]
    simp [Program.keyLits, hu, hc, hc3, hu3, Value.cells, hs, hz, Value.formed, List.mapM_cons]
  obtain ⟨bs, h⟩ := h
  unfold kl
  rw [h]
  rfl
set_option maxRecDepth 100000 in
theorem kl_ne {s z s' z' : Int} (hs : Wf s) (hz : Wf z) (hs' : Wf s') (hz' : Wf z') (h : s ≠ s' ∨ z ≠ z') : kl s z ≠ kl s' z' := by
  intro e
  have h1 := place_key hs hz
  have h2 := place_key hs' hz'
  rw [e] at h1
  have := place_keyed.inj h1 h2
  simp [kv] at this
  omega
set_option maxRecDepth 100000 in
theorem kl_key {s z : Int} (hs : Wf s) (hz : Wf z) : WideAt.IsKeyLit (kl s z) := place_keyed.key (place_key hs hz)
/-- How a pointer to a pile reads: by its block's number. -/
def ptrElem : Value → Option (DataW Unit × List MemPlace)
  | .pointer none => some (.lit (.int .i64 (-1)), [])
  | .pointer (some ⟨b, 0, none⟩) => some (.lit (.int .i64 (b : Int)), [])
  | _ => none
theorem ptrElem_ptr (b : Nat) : ptrElem (.pointer (some ⟨b, 0, none⟩)) = some (.lit (.int .i64 (b : Int)), []) := rfl
theorem ptrElem_nil : ptrElem (.pointer none) = some (.lit (.int .i64 (-1)), []) := rfl
set_option maxRecDepth 100000 in
theorem ptrElem_inv {v : Value} {x : Int} {ps : List MemPlace} (h : ptrElem v = some (.lit (.int .i64 x), ps)) : (v = .pointer none ∧ x = -1) ∨ ∃ b : Nat, v = .pointer (some ⟨b, 0, none⟩) ∧ x = b := by
  unfold ptrElem at h
  split at h
  · injection h with h; injection h with h _; injection h with h; injection h with _ h; exact .inl ⟨rfl, h.symm⟩
  · injection h with h; injection h with h _; injection h with h; injection h with _ h; exact .inr ⟨_, rfl, h.symm⟩
  · cases h
/-- Places that there are, in a store of n seats: Field and Stack at seat 0 alone. -/
def okK (n s z : Nat) : Prop := s < n ∧ 1 ≤ z ∧ z ≤ 7 ∧ (z = 3 ∨ z = 4 → s = 0)
instance (n s z : Nat) : Decidable (okK n s z) := by unfold okK; infer_instance
def okI (n : Nat) (s z : Int) : Prop := 0 ≤ s ∧ 0 ≤ z ∧ okK n s.toNat z.toNat
instance (n : Nat) (s z : Int) : Decidable (okI n s z) := by unfold okI; infer_instance
theorem okI_nat {n s z : Nat} : okI n (s : Int) (z : Int) ↔ okK n s z := by unfold okI; simp
theorem okK.wf {n s z : Nat} (h : okK n s z) (hn : n ≤ 4) : Wf (s : Int) ∧ Wf (z : Int) := by
  obtain ⟨h1, h2, h3, _⟩ := h
  exact ⟨⟨by omega, by omega⟩, ⟨by omega, by omega⟩⟩
/-- What a map of piles holds: just the places of n seats, each with its pile's block. -/
structure MapD (D : DataW Unit) (n : Nat) (pb : Nat → Nat → Nat) : Prop where
  has : ∀ s z : Int, Wf s → Wf z → Maps.has D (kl s z) = decide (okI n s z)
  val : ∀ s z : Nat, okK n s z → D.atKey (kl s z) (.lit (.int .i64 (-1))) = .lit (.int .i64 (pb s z : Int))
  only : ∀ k, Maps.has D k = true → ∃ s z : Nat, okK n s z ∧ k = kl s z
def MapAt (w : World) (mb n : Nat) (pb : Nat → Nat → Nat) : Prop := ∃ D, w.ownsMap Try.prog 91 ptrElem mb 1000 D ∧ Maps.size D ≤ 100 ∧ MapD D n pb
theorem MapAt.kept {w w' : World} {mb n : Nat} {pb : Nat → Nat → Nat} (h : MapAt w mb n pb) (hk : w'.heap[mb]? = w.heap[mb]?) : MapAt w' mb n pb := by
  obtain ⟨D, ⟨es, clock, hb, r⟩, h2⟩ := h
  exact ⟨D, ⟨es, clock, hk.trans hb, r⟩, h2⟩
theorem MapAt.lt {w : World} {mb n : Nat} {pb : Nat → Nat → Nat} (h : MapAt w mb n pb) : mb < w.heap.size := h.choose_spec.1.lt
theorem zero_ptr (w : World) : (zeroValue 87).run Try.prog w = .ok (.pointer none) w := by kernel_rfl
/-- The pile that a look-up tells: none, if there is no such place. -/
def ptrOf (n : Nat) (pb : Nat → Nat → Nat) (s z : Int) : Value := if okI n s z then .pointer (some ⟨pb s.toNat z.toNat, 0, none⟩) else .pointer none
set_option maxRecDepth 100000 in
theorem MapAt.look {w : World} {mb n : Nat} {pb : Nat → Nat → Nat} (h : MapAt w mb n pb) {s z : Int} (hs : Wf s) (hz : Wf z) :
    (Instr.lookup 82 (.map (some mb)) (kv s z) false).run Try.prog w = .ok (ptrOf n pb s z) w := by
  obtain ⟨D, ho, _, hd⟩ := h
  obtain ⟨v, ps, hrun, hv⟩ := ho.lookup place_keyed Try.underlying82 (zero_ptr w) ptrElem_nil (place_key hs hz)
  rw [hrun]
  congr 1
  unfold ptrOf
  by_cases hk : okI n s z
  · rw [if_pos hk]
    obtain ⟨h1, h2, h3⟩ := hk
    have ha := hd.val _ _ h3
    rw [Int.toNat_of_nonneg h1, Int.toNat_of_nonneg h2] at ha
    rw [ha] at hv
    rcases ptrElem_inv hv with ⟨_, h⟩ | ⟨b, rfl, h⟩
    · omega
    · rw [show b = pb s.toNat z.toNat by omega]
  · rw [if_neg hk]
    have hh := hd.has s z hs hz
    rw [decide_eq_false hk] at hh
    rw [atKey_of_not_has hh] at hv
    rcases ptrElem_inv hv with ⟨h, _⟩ | ⟨b, rfl, h⟩
    · exact h
    · omega
end Go.Proofs.Ytkhgdfalbmkgcaa

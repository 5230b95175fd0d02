/- slices.Insert of one number into a row of the call's own (layer 5): the row that comes of it, in place or anew. -/
import Derived.Test.YtphcdeppilaceaaFb
import Derived.Deep.Upon
namespace Go.Proofs.Ytphcdeppilaceaa
open Go.RowKit

theorem splice_mid {α : Type} (A M C cs : List α) (h : M.length = cs.length) : splice (A ++ M ++ C) A.length cs = A ++ cs ++ C := by
  unfold splice
  rw [List.append_assoc A M C, List.take_left' rfl, ← h, List.append_assoc A cs C]
  congr 2
  rw [show A.length + M.length = (A ++ M).length by simp, ← List.append_assoc, List.drop_left' rfl]
theorem heap_setCells_same {g : Nat} {t : TypeId} : ∀ (vs : List Value) (o : Nat) {w : World} {cur : Array Value}, w.heap[g]? = some (.cells cur t (0, 0)) → o + vs.length ≤ cur.size →
    (w.setCells g o vs).heap[g]? = some (.cells (splice cur.toList o vs).toArray t (0, 0))
  | [], o, w, cur, h, hl => by
    show w.heap[g]? = _
    rw [h]; simp [splice]
  | v :: r, o, w, cur, h, hl => by
    show ((w.setCell ⟨g, o, none⟩ v).setCells g (o + 1) r).heap[g]? = _
    rw [List.length_cons] at hl
    rw [heap_setCells_same r (o + 1) (heap_setCell_same w g o cur t v h) (by simp; omega)]
    congr 3
    have ho : o < cur.toList.length := by simp; omega
    unfold splice
    simp only [Array.toList_setIfInBounds]
    rw [List.take_succ_eq_append_getElem (by simp; omega), List.getElem_set_self, List.take_set_of_le (Nat.le_refl _), List.drop_set_of_lt (by omega), List.length_cons]
    simp only [List.append_assoc, List.cons_append, List.nil_append]
    rw [show o + 1 + r.length = o + (r.length + 1) by omega]
theorem grown_setCells (g : Nat) : ∀ (vs : List Value) (o : Nat) (w : World), w.grownBy (w.setCells g o vs) (some g)
  | [], _, _ => ⟨rfl, rfl, rfl, Nat.le_refl _, fun _ _ _ => rfl⟩
  | v :: r, o, w => grown_trans (grown_set w g o v) (grown_setCells g r (o + 1) _)
theorem zero_len (n : Nat) : (Builtin.zeroCells (Value.int .i64 0).cells n).size = n := by simp [Builtin.zeroCells, Value.cells]
theorem zero_lenS (n : Nat) : (Builtin.zeroCells (Value.string ⟨#[]⟩).cells n).size = n := by simp [Builtin.zeroCells, Value.cells]

def insL {α : Type} (L : List α) (i : Nat) (x : α) : List α := L.take i ++ x :: L.drop i
theorem insL_len {α : Type} (L : List α) (i : Nat) (x : α) : (insL L i x).length = L.length + 1 := by
  simp [insL, List.length_take, List.length_drop]; omega
theorem ints_ins (L : List Int) (i : Nat) (x : Int) : intsV (insL L i x) = insL (intsV L) i (.int .i64 x) := by simp [intsV, insL, List.map_take, List.map_drop]
def RetIns (t : TypeId) (w : World) (lo : Nat) (v : Value) (n : Nat) (xs : List Value) (e : Ending) (w' : World) : Prop :=
  ∃ v', e = .returned v' ∧ w'.ownsRow lo t 1 v' n xs ∧ w.grownBy w' v.ownBlock ∧ (v'.ownBlock = v.ownBlock ∨ ∃ r, v'.ownBlock = some r ∧ w.heap.size ≤ r)
theorem grown_undrew {w w' : World} {r : Option Nat} (h : w.drew.grownBy w' r) : w.grownBy w' r := ⟨h.os, h.tape, h.output, h.size, h.block⟩
theorem grown_any {w w' : World} {r : Option Nat} (h : w.grownBy w' none) : w.grownBy w' r := ⟨h.os, h.tape, h.output, h.size, fun k hk _ => h.block k hk (by simp)⟩
theorem grown_fresh {w w' : World} {g : Nat} {r : Option Nat} (h : w.grownBy w' (some g)) (hg : w.heap.size ≤ g) : w.grownBy w' r := ⟨h.os, h.tape, h.output, h.size, fun k hk _ => h.block k hk (by intro e; injection e with e; omega)⟩
theorem grown_alloc {w w1 : World} {o : Obj} {r : Option Nat} (h : (w.alloc o).grownBy w1 (some w.heap.size)) : w.grownBy w1 r :=
  ⟨h.os, h.tape, h.output, Nat.le_trans (by simp) h.size, fun k hk _ => (h.block k (by simp; omega) (by intro e; injection e with e; omega)).trans ((below_new w o).block k hk)⟩

theorem grown_drew (w : World) (o : Obj) {r : Option Nat} : w.grownBy (w.drew.alloc o) r := ⟨(below_new w.drew o).os, (below_new w.drew o).tape, (below_new w.drew o).output, (below_new w.drew o).size, fun k hk _ => (below_new w.drew o).block k hk⟩
theorem addr_at (b off k : Nat) : (⟨b, off, none⟩ : Addr).add k = ⟨b, off + k, none⟩ := by simp [Addr.add]

set_option maxHeartbeats 1000000 in
theorem insert_int {w : World} {lo i vb : Nat} {v : Value} {L : List Int} (x : Int) (h : w.ownsRow lo 3 1 v L.length (intsV L)) (hi : i ≤ L.length) (hL : L.length ≤ 1000) (hlo : lo ≤ w.heap.size)
    (hvb : w.heap[vb]? = some (.cells #[.int .i64 x] 3 (0, 0))) (hne : v.ownBlock ≠ some vb) :
    Calls Try.prog 50 #[v, .int .i64 (i : Int), .slice (some ⟨vb, 0, none⟩) 1 1] w (RetIns 3 w lo v (L.length + 1) (intsV (insL L i x))) := by
  have hvs : ∀ (j : Nat) u, ([.int .i64 x] : List Value)[j]? = some u → w.cell? ⟨vb, 0 + j, none⟩ = some u := fun j u hj => by
    obtain ⟨hj1, rfl⟩ := List.getElem?_eq_some_iff.1 hj
    obtain rfl : j = 0 := by simpa using hj1
    rw [cell_of_row w vb 0 _ _ _ hvb]; rfl
  have h1v : ∀ u ∈ ([.int .i64 x] : List Value), u.oneCell' = true := by simp [Value.oneCell']
  have hcl : (intsV L).length = L.length := intsV_len L
  rcases h.2 with ⟨rfl, h0⟩ | ⟨g, cap, cur, rfl, hb, hg, hn, hm, hs, ht⟩
  · have : L = [] := List.eq_nil_of_length_eq_zero h0
    subst this
    obtain rfl : i = 0 := by simpa using hi
    refine (Any2.slices_Insert_int_end_grow Try.laysNm221 none 0 0 vb 0 1 1 [] [.int .i64 x] w (by omega) (by omega) (by omega) (by omega) rfl rfl (fun _ => rfl) (fun a e => by cases e) hvs h1v).mono ?_
    rintro e w' ⟨rfl, rfl⟩
    refine ⟨_, rfl, ⟨by simp [insL, intsV], .inr ⟨w.heap.size, _, _, rfl, hlo, heap_alloc_new w.drew _, grownCap_ge _ _ _ _, grownCap_le_maxLen _ _ _ _ (by unfold maxLen; omega), ?_, ?_⟩⟩, ?_, .inr ⟨_, rfl, Nat.le_refl _⟩⟩
    · have := grownCap_ge w (0 + 1) 0 3
      simp [zero_len]
      show 1 + (grownCap w (0 + 1) 0 3 - (0 + 1)) = grownCap w (0 + 1) 0 3
      omega
    · simp [insL, intsV]
    · exact grown_drew w _
  · have hsz : cur.toList.length = cap := by simp; omega
    rw [Nat.mul_one] at ht
    have hcs : ∀ (j : Nat) u, (intsV L)[j]? = some u → w.cell? ⟨g, 0 + j, none⟩ = some u := fun j u hj => by
      rw [Nat.zero_add, cell_of_row w g j _ _ _ hg, ← Array.getElem?_toList]
      rw [← ht, List.getElem?_take] at hj
      split at hj
      · exact hj
      · cases hj
    unfold maxLen at hm
    obtain ⟨A, hA⟩ : ∃ A, (intsV L).take i = A := ⟨_, rfl⟩
    obtain ⟨B, hB⟩ : ∃ B, (intsV L).drop i = B := ⟨_, rfl⟩
    have hAB : A ++ B = intsV L := by rw [← hA, ← hB, List.take_append_drop]
    have hAl : A.length = i := by rw [← hA, List.length_take, hcl]; omega
    have hBl : B.length = L.length - i := by rw [← hB, List.length_drop, hcl]
    obtain ⟨C, hC⟩ : ∃ C, cur.toList.drop L.length = C := ⟨_, rfl⟩
    have hcur : cur.toList = A ++ B ++ C := by rw [hAB, ← ht, ← hC, List.take_append_drop]
    have hCl : C.length = cap - L.length := by rw [← hC, List.length_drop, hsz]
    have hfz : ∀ j, w.frozen? ⟨g, j, none⟩ = false := fun j => frozen_of_row w g j _ _ hg
    have hins : intsV (insL L i x) = A ++ .int .i64 x :: B := by rw [ints_ins]; unfold insL; rw [hA, hB]
    rw [hins]
    have hlen : (A ++ Value.int .i64 x :: B).length = L.length + 1 := by simp; omega
    have hsome : ∀ j, j < cap → (w.cell? ⟨g, 0 + j, none⟩).isSome = true := fun j hj => by
      rw [Nat.zero_add, cell_of_row w g j _ _ _ hg]
      rw [Array.getElem?_eq_getElem (by omega)]; rfl
    by_cases hroom : L.length + 1 ≤ cap
    · obtain ⟨c0, C', rfl⟩ : ∃ c0 C', C = c0 :: C' := by
        cases C with
        | nil => simp at hCl; omega
        | cons c0 C' => exact ⟨c0, C', rfl⟩
      by_cases hin : i < L.length
      · obtain ⟨b0, B', rfl⟩ : ∃ b0 B', B = b0 :: B' := by
          cases B with
          | nil => simp at hBl; omega
          | cons b0 B' => exact ⟨b0, B', rfl⟩
        refine (Any2.slices_Insert_int_shift Try.laysNm221 g 0 L.length cap i vb 0 1 1 (intsV L) [.int .i64 x] w hin (by omega) hroom hm (fun e => hne (by rw [e]; rfl)) hcl rfl hcs (fun j hj => hsome j (by omega)) (fun j _ => hfz _) hvs (intsV_one L) h1v
          3 3 1 cap (by simp [World.shape?, hvb]) (by simp [World.shape?, hg]; omega) (by omega) (frozen_of_row w vb 0 _ _ hvb) (frozen_of_row w vb 1 _ _ hvb)).mono ?_
        rintro e w' ⟨rfl, rfl⟩
        rw [hB]
        have g1 := heap_setCells_same (g := g) (b0 :: B') (0 + (i + 1)) (w := w.drew) hg (by simp only [Array.size] at hs ⊢; rw [hBl]; simp at hsz; omega)
        have e1 : splice cur.toList (0 + (i + 1)) (b0 :: B') = A ++ [b0] ++ (b0 :: B' ++ C') := by
          have h2 := splice_mid (A ++ [b0]) (B' ++ [c0]) C' (b0 :: B') (by simp)
          rw [show 0 + (i + 1) = (A ++ [b0]).length by simp; omega, hcur]
          rw [show A ++ b0 :: B' ++ c0 :: C' = A ++ [b0] ++ (B' ++ [c0]) ++ C' by simp, h2]
          simp
        rw [e1] at g1
        have g2 := heap_setCells_same (g := g) [.int .i64 x] (0 + i) g1 (by simp; omega)
        have e2 : splice (A ++ [b0] ++ (b0 :: B' ++ C')) (0 + i) [Value.int .i64 x] = A ++ [Value.int .i64 x] ++ (b0 :: B' ++ C') := by
          rw [show 0 + i = A.length by omega]
          exact splice_mid A [b0] _ [_] rfl
        rw [show (A ++ [b0] ++ (b0 :: B' ++ C')).toArray.toList = A ++ [b0] ++ (b0 :: B' ++ C') from rfl, e2] at g2
        refine ⟨_, rfl, ⟨by rw [hlen]; omega, .inr ⟨g, cap, _, rfl, hb, g2, hroom, hm, ?_, ?_⟩⟩, ?_, .inl rfl⟩
        · simp at hBl hCl ⊢; omega
        · rw [Nat.mul_one, ← hlen]
          simp [List.take_append]
          exact List.take_of_length_le (by omega)
        · exact grown_undrew (grown_trans (grown_setCells g _ _ w.drew) (grown_setCells g _ _ _))
      · obtain rfl : i = L.length := by omega
        have hB0 : B = [] := List.eq_nil_of_length_eq_zero (by omega)
        subst hB0
        refine (Any2.slices_Insert_int_end_room Try.laysNm221 g 0 L.length cap vb 0 1 1 [.int .i64 x] w (by omega) hroom hm rfl (fun j hj => by have := hsome (L.length + j) (by omega); rwa [← Nat.add_assoc] at this) (fun j _ => hfz _) hvs h1v).mono ?_
        rintro e w' ⟨rfl, rfl⟩
        have g1 := heap_setCells_same (g := g) [.int .i64 x] (0 + L.length) (w := w) hg (by simp; omega)
        have e1 : splice cur.toList (0 + L.length) [Value.int .i64 x] = A ++ [Value.int .i64 x] ++ C' := by
          rw [show 0 + L.length = A.length by omega, hcur, List.append_nil]
          rw [show A ++ c0 :: C' = A ++ [c0] ++ C' by simp]
          exact splice_mid A [c0] _ [_] rfl
        rw [e1] at g1
        refine ⟨_, rfl, ⟨by rw [hlen]; omega, .inr ⟨g, cap, _, rfl, hb, g1, hroom, hm, ?_, ?_⟩⟩, grown_setCells g _ _ w, .inl rfl⟩
        · simp at hCl ⊢; omega
        · rw [Nat.mul_one, ← hlen]
          simp [List.take_append]
          exact List.take_of_length_le (by omega)
    · have hC0 : C = [] := List.eq_nil_of_length_eq_zero (by omega)
      subst hC0
      by_cases hin : i < L.length
      · refine (Any2.slices_Insert_int_grow Try.laysNm221 g 0 L.length cap i vb 0 1 1 (intsV L) [.int .i64 x] w hin (by omega) hn (by omega) (by omega) hcl rfl hcs hvs (intsV_one L) h1v).mono ?_
        rintro e w' ⟨rfl, rfl⟩
        rw [hA, hB]
        have hgc := grownCap_ge w (L.length + 1) cap 3
        have hgm := grownCap_le_maxLen w (L.length + 1) cap 3 (by unfold maxLen; omega)
        obtain ⟨K, hK⟩ : ∃ K, grownCap w (L.length + 1) cap (Try.laysNm221_ren.t 3) = K := ⟨_, rfl⟩
        replace hgc : L.length + 1 ≤ K := by rw [← hK]; exact hgc
        replace hgm : K ≤ maxLen := by rw [← hK]; exact hgm
        rw [hK]
        obtain ⟨Z, hZ⟩ : ∃ Z, Builtin.zeroCells (Value.int .i64 0).cells (L.length + 1 - i) = Z := ⟨_, rfl⟩
        obtain ⟨Y, hY⟩ : ∃ Y, Builtin.zeroCells (Value.int .i64 0).cells (K - (L.length + 1)) = Y := ⟨_, rfl⟩
        have hZl : Z.toList.length = L.length + 1 - i := by rw [← hZ]; exact zero_len _
        have hYl : Y.toList.length = K - (L.length + 1) := by rw [← hY]; exact zero_len _
        rw [hZ, hY]
        obtain ⟨z0, Z', hZe⟩ : ∃ z0 Z', Z.toList = z0 :: Z' := by
          cases hq : Z.toList with
          | nil => rw [hq] at hZl; simp at hZl; omega
          | cons z0 Z' => exact ⟨z0, Z', rfl⟩
        have hZ' : Z'.length = B.length := by rw [hZe] at hZl; simp at hZl; omega
        have g0 := heap_alloc_new w (.cells (A.toArray ++ Z ++ Y) 3)
        have hto : (A.toArray ++ Z ++ Y).toList = A ++ (z0 :: Z') ++ Y.toList := by simp [hZe]
        have g1 := heap_setCells_same (g := w.heap.size) [.int .i64 x] i (w := (w.alloc (.cells (A.toArray ++ Z ++ Y) 3)).drew) g0 (by rw [← Array.length_toList, hto]; simp; omega)
        have e1 : splice (A.toArray ++ Z ++ Y).toList i [Value.int .i64 x] = A ++ [Value.int .i64 x] ++ (Z' ++ Y.toList) := by
          rw [hto, show A ++ z0 :: Z' ++ Y.toList = A ++ [z0] ++ (Z' ++ Y.toList) by simp]
          rw [← hAl]
          exact splice_mid A [z0] _ [_] rfl
        rw [e1] at g1
        have g2 := heap_setCells_same (g := w.heap.size) B (i + 1) (w := (((w.alloc (.cells (A.toArray ++ Z ++ Y) 3)).drew.setCells w.heap.size i [.int .i64 x])).drew) g1 (by simp; omega)
        have e2 : splice (A ++ [Value.int .i64 x] ++ (Z' ++ Y.toList)) (i + 1) B = A ++ [Value.int .i64 x] ++ B ++ Y.toList := by
          rw [← List.append_assoc, show i + 1 = (A ++ [Value.int .i64 x]).length by simp; omega]
          exact splice_mid _ Z' _ B hZ'
        rw [show (A ++ [Value.int .i64 x] ++ (Z' ++ Y.toList)).toArray.toList = A ++ [Value.int .i64 x] ++ (Z' ++ Y.toList) from rfl, e2] at g2
        refine ⟨_, rfl, ⟨by rw [hlen]; omega, .inr ⟨w.heap.size, K, _, rfl, hlo, g2, hgc, hgm, ?_, ?_⟩⟩, ?_, .inr ⟨_, rfl, Nat.le_refl _⟩⟩
        · simp at hYl ⊢; omega
        · rw [Nat.mul_one, ← hlen]
          simp [List.take_append]
          exact List.take_of_length_le (by omega)
        · exact grown_alloc (grown_undrew (grown_trans (grown_setCells w.heap.size _ _ (w.alloc _).drew) (grown_undrew (grown_setCells w.heap.size _ _ (World.drew _)))))
      · obtain rfl : i = L.length := by omega
        have hB0 : B = [] := List.eq_nil_of_length_eq_zero (by omega)
        subst hB0
        refine (Any2.slices_Insert_int_end_grow Try.laysNm221 (some ⟨g, 0, none⟩) L.length cap vb 0 1 1 (intsV L) [.int .i64 x] w (by omega) hn (by omega) (by omega) hcl rfl (fun e => by cases e) (fun a e j u hj => by
          injection e with e
          subst e
          have := hcs j u hj
          rw [addr_at]; exact this) hvs h1v).mono ?_
        rintro e w' ⟨rfl, rfl⟩
        refine ⟨_, rfl, ⟨by rw [hlen]; omega, .inr ⟨w.heap.size, _, _, rfl, hlo, heap_alloc_new w.drew _, grownCap_ge _ _ _ _, grownCap_le_maxLen _ _ _ _ (by unfold maxLen; omega), ?_, ?_⟩⟩, ?_, .inr ⟨_, rfl, Nat.le_refl _⟩⟩
        · have := grownCap_ge w (L.length + 1) cap 3
          simp [zero_len, intsV_len]
          show L.length + 1 + (grownCap w (L.length + 1) cap 3 - (L.length + 1)) = grownCap w (L.length + 1) cap 3
          omega
        · rw [Nat.mul_one, ← hlen, ← hAB]
          simp [List.take_append]
          exact List.take_of_length_le (by omega)
        · exact grown_drew w _
end Go.Proofs.Ytphcdeppilaceaa

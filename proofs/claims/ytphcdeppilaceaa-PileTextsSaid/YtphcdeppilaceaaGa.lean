/- The contracts of a pile of texts (layer 5): Len, Place, Has, At, Push, Under, Pop, Drop: as those of a pile of numbers, in a namespace within. -/
import Derived.Test.YtphcdeppilaceaaFe
import Derived.Sort.EncStr
namespace Go.Proofs.Ytphcdeppilaceaa.Txt
open Go.RowKit Go.Sort

theorem ba_beq (a b : ByteArray) : (a == b) = (a.data == b.data) := by cases a; cases b; rfl
instance : LawfulBEq ByteArray where
  eq_of_beq {a b} h := by
    cases a; cases b
    have h' : (_ : Array UInt8) = _ := eq_of_beq (by rw [ba_beq] at h; exact h)
    exact congrArg ByteArray.mk h'
  rfl {a} := by rw [ba_beq]; exact beq_self_eq_true _
def intsV (l : List ByteArray) : List Value := l.map fun x => .string x
theorem intsV_len (l : List ByteArray) : (intsV l).length = l.length := by simp [intsV]
theorem intsV_one (l : List ByteArray) : ∀ u ∈ intsV l, u.oneCell' = true := by
  intro u hu
  obtain ⟨x, _, rfl⟩ := List.mem_map.1 hu
  rfl
/-- What a slice of numbers shows. -/
def IntsAt (w : World) (v : Value) (l : List ByteArray) : Prop := ValsAt w v (intsV l)
theorem IntsAt.later {w w' : World} {v : Value} {l : List ByteArray} (h : IntsAt w v l) (hb : Below w.heap.size w w') : IntsAt w' v l := ValsAt.later h hb
theorem IntsAt.form {w : World} {v : Value} {l : List ByteArray} (h : IntsAt w v l) : ∃ xa xc, v = .slice xa l.length xc := by
  obtain ⟨xa, xc, h⟩ := ValsAt.form h
  rw [intsV_len] at h
  exact ⟨xa, xc, h⟩
theorem IntsAt.at {w : World} {xa : Option Addr} {xc : Nat} {l : List ByteArray} (h : IntsAt w (.slice xa l.length xc) l) (k : Nat) (hk : k < l.length) : ∃ b off, xa = some ⟨b, off, none⟩ ∧ b < w.heap.size ∧ w.cell? ⟨b, off + k, none⟩ = some (.string l[k]) := by
  have h' : ValsAt w (.slice xa (intsV l).length xc) (intsV l) := by rw [intsV_len]; exact h
  obtain ⟨b, off, h1, h2, h3⟩ := h'.at k (by rw [intsV_len]; exact hk)
  exact ⟨b, off, h1, h2, by rw [h3]; simp [intsV]⟩

theorem own_ints {w : World} {base : Nat} {v : Value} {n : Nat} {l : List ByteArray} (h : w.ownsRow base 9 1 v n (intsV l)) : IntsAt w v l := own_vals h
/-- A pile of numbers in memory: its block, and that of its row, if it has one. -/
def PileAt (w : World) (lo b : Nat) (g : Option Nat) (L : List ByteArray) : Prop :=
  ∃ v, w.heap[b]? = some (.cells #[v] 73 (0, 0)) ∧ v.ownBlock = g ∧ lo ≤ b ∧ w.ownsRow lo 9 1 v L.length (intsV L)
theorem PileAt.later {w w' : World} {lo b : Nat} {g : Option Nat} {L : List ByteArray} (h : PileAt w lo b g L) (hb : Below w.heap.size w w') : PileAt w' lo b g L := by
  obtain ⟨v, h1, h2, h3, h4⟩ := h
  exact ⟨v, (hb.block b (Array.getElem?_eq_some_iff.1 h1).1).trans h1, h2, h3, own_later h4 hb⟩
theorem PileAt.lt {w : World} {lo b : Nat} {g : Option Nat} {L : List ByteArray} (h : PileAt w lo b g L) : b < w.heap.size := by
  obtain ⟨v, h1, _⟩ := h
  exact (Array.getElem?_eq_some_iff.1 h1).1
theorem PileAt.row {w : World} {lo b : Nat} {g : Option Nat} {L : List ByteArray} (h : PileAt w lo b g L) : ∀ k, g = some k → lo ≤ k ∧ k < w.heap.size ∧ k ≠ b := by
  obtain ⟨v, h1, h2, _, h4⟩ := h
  intro k hk
  rw [← h2] at hk
  have := World.ownsRow.lt h4 k hk
  refine ⟨this.1, this.2, fun e => ?_⟩
  rcases h4.2 with ⟨rfl, _⟩ | ⟨g', cap, cur, rfl, _, hg, _⟩
  · simp [Value.ownBlock] at hk
  · obtain rfl : g' = k := by simpa [Value.ownBlock] using hk
    rw [e, h1] at hg
    injection hg with hg
    injection hg with _ ht
    exact absurd ht (by decide)
theorem PileAt.lo {w : World} {lo b : Nat} {g : Option Nat} {L : List ByteArray} (h : PileAt w lo b g L) : lo ≤ b := by obtain ⟨v, _, _, h3, _⟩ := h; exact h3
theorem PileAt.far {w w' : World} {lo b b2 : Nat} {g g2 : Option Nat} {L : List ByteArray} (h : PileAt w lo b2 g2 L) (hc : Chg w w' b g) (hs : Sep b g b2 g2) : PileAt w' lo b2 g2 L := by
  obtain ⟨v, h1, h2, h3, h4⟩ := h
  refine ⟨v, (hc.block b2 (Array.getElem?_eq_some_iff.1 h1).1 (Ne.symm hs.1) hs.2.1).trans h1, h2, h3, h4.1, ?_⟩
  rcases h4.2 with h5 | ⟨g', cap, cur, e, hb2, hg, r⟩
  · exact .inl h5
  · have hg2 : g2 = some g' := by rw [← h2, e]; rfl
    exact .inr ⟨g', cap, cur, e, hb2, (hc.block g' (Array.getElem?_eq_some_iff.1 hg).1 (fun e => hs.2.2.1 (by rw [hg2, e])) (fun e => hs.2.2.2 g' e hg2)).trans hg, r⟩


/-- Where something is in a list; -1, if it isn't there. -/
def placeL (L : List ByteArray) (x : ByteArray) : Int := if x ∈ L then ((L.idxOf x : Nat) : Int) else -1
theorem idx_place (L : List ByteArray) (x : ByteArray) : Lib.idxOfS L x = placeL L x := by
  unfold placeL
  have ht : L.take L.length = L := List.take_length
  by_cases h : x ∈ L
  · rw [if_pos h]
    have hk := List.idxOf_lt_length_iff.2 h
    have h1 : L.getD (L.idxOf x) ByteArray.empty = x := by
      rw [List.getD_eq_getElem?_getD, List.getElem?_eq_getElem hk]
      exact List.getElem_idxOf hk
    have := Lib.idxOfS_hit L L.length (L.idxOf x) x hk (Nat.le_refl _) h1 (fun j hj => by
      have hjl : j < L.length := by omega
      rw [List.getD_eq_getElem?_getD, List.getElem?_eq_getElem hjl]
      intro e
      have h2 := List.not_of_lt_findIdx (p := fun y => y == x) (xs := L) (i := j) hj
      simp at h2
      exact h2 e)
    rwa [ht] at this
  · rw [if_neg h]
    have := Lib.idxOfS_miss L L.length x (fun j hj => by
      rw [List.getD_eq_getElem?_getD, List.getElem?_eq_getElem hj]
      intro e
      exact h (by rw [← e]; exact List.getElem_mem hj))
    rwa [ht] at this
theorem place_nonneg (L : List ByteArray) (x : ByteArray) : decide (0 ≤ placeL L x) = decide (x ∈ L) := by
  unfold placeL
  by_cases h : x ∈ L
  · simp [h]
  · simp [h]
theorem place_bd (L : List ByteArray) (x : ByteArray) : -1 ≤ placeL L x ∧ placeL L x < L.length ∨ (L = [] ∧ placeL L x = -1) := by
  unfold placeL
  by_cases h : x ∈ L
  · rw [if_pos h]
    have hk := List.idxOf_lt_length_iff.2 h
    left; omega
  · rw [if_neg h]
    cases L with
    | nil => right; exact ⟨rfl, rfl⟩
    | cons a l => left; simp; omega

theorem index_own {w : World} {base : Nat} {v : Value} {L : List ByteArray} (x : ByteArray) (h : w.ownsRow base 9 1 v L.length (intsV L)) (hL : L.length ≤ 1000) :
    Calls Try.prog 58 #[v, .string x] w (Same w (.int .i64 (placeL L x))) := by
  have hv := own_ints h
  rcases hv with ⟨xa, xc, rfl, h0⟩ | ⟨b, off, cap, rfl, hlt, hc⟩
  · have : L = [] := by simpa [intsV] using h0
    subst this
    refine (Try.slices_Index_string_empty xa xc x w).mono ?_
    rintro e w' ⟨rfl, rfl⟩
    exact ⟨by rw [idx_place], rfl⟩
  · rw [intsV_len]
    refine (Try.slices_Index_string b off L.length cap L x w (Nat.le_refl _) (by omega) (fun j hj => ?_)).mono ?_
    · rw [hc j (by rw [intsV_len]; exact hj)]
      simp [intsV, List.getD, hj]
    · rintro e w' ⟨rfl, rfl⟩
      exact ⟨by rw [List.take_length, idx_place], rfl⟩

theorem cd_place (p : Option Addr) (w : World) :
    CallsD Try.prog 57 #[.pointer p] .returning w fun e u' w' => e = .returned (.tuple #[]) ∧ u' = .returning ∧ w' = w := by
  refine callsD_of_wpS Try.func57 rfl fun c₀ cs hu => ?_
  apply wpS_seq
  apply wpS_region
  simp [wpOpsS, go_sem, recoverD, hu, Try.ntmps57, Exit.thenS]
  refine wpS_cond (t := false) (by simp [Act.eval, Array.replicate]) ?_
  simp only [Bool.false_eq_true, if_false]
  refine wpS_of_wp (wp_skip ?_)
  cases c₀
  simp_all [bodyPostS, results, Try.results57]

set_option maxRecDepth 100000 in
set_option maxHeartbeats 2000000 in
theorem place_any {w : World} {lo b : Nat} {g : Option Nat} {L : List ByteArray} (x : ByteArray) (h : PileAt w lo b g L) (hL : L.length ≤ 1000) :
    Calls Try.prog 49 #[.pointer (some ⟨b, 0, none⟩), .string x] w (RetV w (.int .i64 (placeL L x))) := by
  obtain ⟨v, hb, hg, hlo, hown⟩ := h
  have hmf := @mk_func
  have hbl := (Array.getElem?_eq_some_iff.1 hb).1
  have c0 : (w.alloc (.cells #[.int .i64 0] 3)).cell? ⟨b, 0, none⟩ = some v := cell_stays (below_new w _) (by rw [cell_of_row w b 0 _ _ _ hb]; rfl)
  have HO := Lib.hid (own_later hown (below_new w (.cells #[.int .i64 0] 3)))
  clear hb hg hown
  go_enter_defers Try.func49, Try.ntmps49
  go_wp2_with fail
  refine (index_own x HO.out hL).mono ?_
  rintro e w1 ⟨rfl, rfl⟩
  go_wp2
  refine leaves_cons (f := 57) (args := #[.pointer (some ⟨w.heap.size, 0, none⟩)]) (by simp) (by simp [go_sem]) ?_
  refine (cd_place _ _).mono ?_
  rintro e u' w'' ⟨rfl, rfl, rfl⟩
  simp [Leaves, settle, results, Try.results49, go_sem]
  exact ⟨rfl, below_new w _⟩

set_option maxRecDepth 100000 in
theorem has_any {w : World} {lo b : Nat} {g : Option Nat} {L : List ByteArray} (x : ByteArray) (h : PileAt w lo b g L) (hL : L.length ≤ 1000) :
    Calls Try.prog 54 #[.pointer (some ⟨b, 0, none⟩), .string x] w (RetV w (.bool (decide (x ∈ L)))) := by
  have HP := Lib.hid (place_any x h hL)
  clear h
  go_enter Try.func54, Try.ntmps54
  go_wp2_with fail
  refine HP.out.mono ?_
  rintro e w1 ⟨rfl, hb1⟩
  have hn := place_nonneg L x
  go_wp2
  go_ret
  exact ⟨rfl, hb1⟩

set_option maxRecDepth 100000 in
theorem len_any {w : World} {lo b : Nat} {g : Option Nat} {L : List ByteArray} (h : PileAt w lo b g L) :
    Calls Try.prog 34 #[.pointer (some ⟨b, 0, none⟩)] w (Same w (.int .i64 L.length)) := by
  obtain ⟨v, hb, hg, hlo, hown⟩ := h
  have c0 : w.cell? ⟨b, 0, none⟩ = some v := by rw [cell_of_row w b 0 _ _ _ hb]; rfl
  obtain ⟨xa, xc, rfl⟩ := (own_ints hown).form
  clear hb hg hown hlo
  go_enter Try.func34, Try.ntmps34
  go_wp2
  go_ret
  exact ⟨rfl, rfl⟩

set_option maxRecDepth 100000 in
theorem at_in {w : World} {lo b k : Nat} {g : Option Nat} {L : List ByteArray} (h : PileAt w lo b g L) (hk : k < L.length) :
    Calls Try.prog 35 #[.pointer (some ⟨b, 0, none⟩), .int .i64 (k : Int)] w (Same w (.tuple #[.string L[k], .bool true])) := by
  have HLN := Lib.hid (len_any h)
  obtain ⟨v, hb, hg, hlo, hown⟩ := h
  have c0 : w.cell? ⟨b, 0, none⟩ = some v := by rw [cell_of_row w b 0 _ _ _ hb]; rfl
  have hi := own_ints hown
  obtain ⟨xa, xc, rfl⟩ := hi.form
  obtain ⟨r, off, rfl, hr, c1⟩ := hi.at k hk
  obtain ⟨x, hx⟩ : ∃ x, L[k] = x := ⟨_, rfl⟩
  rw [hx] at c1 ⊢
  have d0 : decide ((k : Int) < 0) = false := decide_eq_false (by omega)
  have d1 : decide ((L.length : Int) ≤ (k : Int)) = false := decide_eq_false (by omega)
  have d2 : decide (L.length ≤ k) = false := decide_eq_false (by omega)
  clear hb hg hown hlo hi hx
  go_enter Try.func35, Try.ntmps35
  go_wp2_with fail
  refine HLN.out.mono ?_
  rintro e w1 ⟨rfl, rfl⟩
  go_wp2
  go_ret2
  exact ⟨rfl, rfl⟩

set_option maxRecDepth 100000 in
theorem at_out {w : World} {lo b : Nat} {g : Option Nat} {L : List ByteArray} (i : Int) (h : PileAt w lo b g L) (hi : i < 0 ∨ (L.length : Int) ≤ i) :
    Calls Try.prog 35 #[.pointer (some ⟨b, 0, none⟩), .int .i64 i] w (Same w (.tuple #[.string ⟨#[]⟩, .bool false])) := by
  have HLN := Lib.hid (len_any h)
  clear h
  by_cases h0 : i < 0
  · go_enter Try.func35, Try.ntmps35
    go_wp2
    go_ret2
    exact ⟨rfl, rfl⟩
  · have h1 : (L.length : Int) ≤ i := by omega
    go_enter Try.func35, Try.ntmps35
    go_wp2_with fail
    refine HLN.out.mono ?_
    rintro e w1 ⟨rfl, rfl⟩
    go_wp2
    go_ret2
    exact ⟨rfl, rfl⟩

theorem ints_ins (L : List ByteArray) (i : Nat) (x : ByteArray) : intsV (insL L i x) = insL (intsV L) i (.string x) := by simp [intsV, insL, List.map_take, List.map_drop]
set_option maxHeartbeats 1000000 in
theorem insert_int {w : World} {lo i vb : Nat} {v : Value} {L : List ByteArray} (x : ByteArray) (h : w.ownsRow lo 9 1 v L.length (intsV L)) (hi : i ≤ L.length) (hL : L.length ≤ 1000) (hlo : lo ≤ w.heap.size)
    (hvb : w.heap[vb]? = some (.cells #[.string x] 9 (0, 0))) (hne : v.ownBlock ≠ some vb) :
    Calls Try.prog 55 #[v, .int .i64 (i : Int), .slice (some ⟨vb, 0, none⟩) 1 1] w (RetIns 9 w lo v (L.length + 1) (intsV (insL L i x))) := by
  have hvs : ∀ (j : Nat) u, ([.string x] : List Value)[j]? = some u → w.cell? ⟨vb, 0 + j, none⟩ = some u := fun j u hj => by
    obtain ⟨hj1, rfl⟩ := List.getElem?_eq_some_iff.1 hj
    obtain rfl : j = 0 := by simpa using hj1
    rw [cell_of_row w vb 0 _ _ _ hvb]; rfl
  have h1v : ∀ u ∈ ([.string x] : List Value), u.oneCell' = true := by simp [Value.oneCell']
  have hcl : (intsV L).length = L.length := intsV_len L
  rcases h.2 with ⟨rfl, h0⟩ | ⟨g, cap, cur, rfl, hb, hg, hn, hm, hs, ht⟩
  · have : L = [] := List.eq_nil_of_length_eq_zero h0
    subst this
    obtain rfl : i = 0 := by simpa using hi
    refine (Any2.slices_Insert_string_end_grow Try.laysNm222 none 0 0 vb 0 1 1 [] [.string x] w (by omega) (by omega) (by omega) (by omega) rfl rfl (fun _ => rfl) (fun a e => by cases e) hvs h1v).mono ?_
    rintro e w' ⟨rfl, rfl⟩
    refine ⟨_, rfl, ⟨by simp [insL, intsV], .inr ⟨w.heap.size, _, _, rfl, hlo, heap_alloc_new w.drew _, grownCap_ge _ _ _ _, grownCap_le_maxLen _ _ _ _ (by unfold maxLen; omega), ?_, ?_⟩⟩, ?_, .inr ⟨_, rfl, Nat.le_refl _⟩⟩
    · have := grownCap_ge w (0 + 1) 0 9
      simp [zero_lenS]
      show 1 + (grownCap w (0 + 1) 0 9 - (0 + 1)) = grownCap w (0 + 1) 0 9
      omega
    · simp [insL, intsV]
    · exact grown_drew w _
  · have hsz : cur.toList.length = cap := by simp; omega
    rw [Nat.mul_one] at ht
    have hcs : ∀ (j : Nat) u, (intsV L)[j]? = some u → w.cell? ⟨g, 0 + j, none⟩ = some u := fun j u hj => by
      rw [Nat.zero_add, cell_of_row w g j _ _ _ hg, ← Array.getElem?_toList]
      rw [← ht, List.getElem?_take] at hj
      split at hj
      · exact hj
      · cases hj
    unfold maxLen at hm
    obtain ⟨A, hA⟩ : ∃ A, (intsV L).take i = A := ⟨_, rfl⟩
    obtain ⟨B, hB⟩ : ∃ B, (intsV L).drop i = B := ⟨_, rfl⟩
    have hAB : A ++ B = intsV L := by rw [← hA, ← hB, List.take_append_drop]
    have hAl : A.length = i := by rw [← hA, List.length_take, hcl]; omega
    have hBl : B.length = L.length - i := by rw [← hB, List.length_drop, hcl]
    obtain ⟨C, hC⟩ : ∃ C, cur.toList.drop L.length = C := ⟨_, rfl⟩
    have hcur : cur.toList = A ++ B ++ C := by rw [hAB, ← ht, ← hC, List.take_append_drop]
    have hCl : C.length = cap - L.length := by rw [← hC, List.length_drop, hsz]
    have hfz : ∀ j, w.frozen? ⟨g, j, none⟩ = false := fun j => frozen_of_row w g j _ _ hg
    have hins : intsV (insL L i x) = A ++ .string x :: B := by rw [ints_ins]; unfold insL; rw [hA, hB]
    rw [hins]
    have hlen : (A ++ Value.string x :: B).length = L.length + 1 := by simp; omega
    have hsome : ∀ j, j < cap → (w.cell? ⟨g, 0 + j, none⟩).isSome = true := fun j hj => by
      rw [Nat.zero_add, cell_of_row w g j _ _ _ hg]
      rw [Array.getElem?_eq_getElem (by omega)]; rfl
    by_cases hroom : L.length + 1 ≤ cap
    · obtain ⟨c0, C', rfl⟩ : ∃ c0 C', C = c0 :: C' := by
        cases C with
        | nil => simp at hCl; omega
        | cons c0 C' => exact ⟨c0, C', rfl⟩
      by_cases hin : i < L.length
      · obtain ⟨b0, B', rfl⟩ : ∃ b0 B', B = b0 :: B' := by
          cases B with
          | nil => simp at hBl; omega
          | cons b0 B' => exact ⟨b0, B', rfl⟩
        refine (Any2.slices_Insert_string_shift Try.laysNm222 g 0 L.length cap i vb 0 1 1 (intsV L) [.string x] w hin (by omega) hroom hm (fun e => hne (by rw [e]; rfl)) hcl rfl hcs (fun j hj => hsome j (by omega)) (fun j _ => hfz _) hvs (intsV_one L) h1v
          9 9 1 cap (by simp [World.shape?, hvb]) (by simp [World.shape?, hg]; omega) (by omega) (frozen_of_row w vb 0 _ _ hvb) (frozen_of_row w vb 1 _ _ hvb)).mono ?_
        rintro e w' ⟨rfl, rfl⟩
        rw [hB]
        have g1 := heap_setCells_same (g := g) (b0 :: B') (0 + (i + 1)) (w := w.drew) hg (by simp only [Array.size] at hs ⊢; rw [hBl]; simp at hsz; omega)
        have e1 : splice cur.toList (0 + (i + 1)) (b0 :: B') = A ++ [b0] ++ (b0 :: B' ++ C') := by
          have h2 := splice_mid (A ++ [b0]) (B' ++ [c0]) C' (b0 :: B') (by simp)
          rw [show 0 + (i + 1) = (A ++ [b0]).length by simp; omega, hcur]
          rw [show A ++ b0 :: B' ++ c0 :: C' = A ++ [b0] ++ (B' ++ [c0]) ++ C' by simp, h2]
          simp
        rw [e1] at g1
        have g2 := heap_setCells_same (g := g) [.string x] (0 + i) g1 (by simp; omega)
        have e2 : splice (A ++ [b0] ++ (b0 :: B' ++ C')) (0 + i) [Value.string x] = A ++ [Value.string x] ++ (b0 :: B' ++ C') := by
          rw [show 0 + i = A.length by omega]
          exact splice_mid A [b0] _ [_] rfl
        rw [show (A ++ [b0] ++ (b0 :: B' ++ C')).toArray.toList = A ++ [b0] ++ (b0 :: B' ++ C') from rfl, e2] at g2
        refine ⟨_, rfl, ⟨by rw [hlen]; omega, .inr ⟨g, cap, _, rfl, hb, g2, hroom, hm, ?_, ?_⟩⟩, ?_, .inl rfl⟩
        · simp at hBl hCl ⊢; omega
        · rw [Nat.mul_one, ← hlen]
          simp [List.take_append]
          exact List.take_of_length_le (by omega)
        · exact grown_undrew (grown_trans (grown_setCells g _ _ w.drew) (grown_setCells g _ _ _))
      · obtain rfl : i = L.length := by omega
        have hB0 : B = [] := List.eq_nil_of_length_eq_zero (by omega)
        subst hB0
        refine (Any2.slices_Insert_string_end_room Try.laysNm222 g 0 L.length cap vb 0 1 1 [.string x] w (by omega) hroom hm rfl (fun j hj => by have := hsome (L.length + j) (by omega); rwa [← Nat.add_assoc] at this) (fun j _ => hfz _) hvs h1v).mono ?_
        rintro e w' ⟨rfl, rfl⟩
        have g1 := heap_setCells_same (g := g) [.string x] (0 + L.length) (w := w) hg (by simp; omega)
        have e1 : splice cur.toList (0 + L.length) [Value.string x] = A ++ [Value.string x] ++ C' := by
          rw [show 0 + L.length = A.length by omega, hcur, List.append_nil]
          rw [show A ++ c0 :: C' = A ++ [c0] ++ C' by simp]
          exact splice_mid A [c0] _ [_] rfl
        rw [e1] at g1
        refine ⟨_, rfl, ⟨by rw [hlen]; omega, .inr ⟨g, cap, _, rfl, hb, g1, hroom, hm, ?_, ?_⟩⟩, grown_setCells g _ _ w, .inl rfl⟩
        · simp at hCl ⊢; omega
        · rw [Nat.mul_one, ← hlen]
          simp [List.take_append]
          exact List.take_of_length_le (by omega)
    · have hC0 : C = [] := List.eq_nil_of_length_eq_zero (by omega)
      subst hC0
      by_cases hin : i < L.length
      · refine (Any2.slices_Insert_string_grow Try.laysNm222 g 0 L.length cap i vb 0 1 1 (intsV L) [.string x] w hin (by omega) hn (by omega) (by omega) hcl rfl hcs hvs (intsV_one L) h1v).mono ?_
        rintro e w' ⟨rfl, rfl⟩
        rw [hA, hB]
        have hgc := grownCap_ge w (L.length + 1) cap 9
        have hgm := grownCap_le_maxLen w (L.length + 1) cap 9 (by unfold maxLen; omega)
        obtain ⟨K, hK⟩ : ∃ K, grownCap w (L.length + 1) cap (Try.laysNm222_ren.t 9) = K := ⟨_, rfl⟩
        replace hgc : L.length + 1 ≤ K := by rw [← hK]; exact hgc
        replace hgm : K ≤ maxLen := by rw [← hK]; exact hgm
        rw [hK]
        obtain ⟨Z, hZ⟩ : ∃ Z, Builtin.zeroCells (Value.string ⟨#[]⟩).cells (L.length + 1 - i) = Z := ⟨_, rfl⟩
        obtain ⟨Y, hY⟩ : ∃ Y, Builtin.zeroCells (Value.string ⟨#[]⟩).cells (K - (L.length + 1)) = Y := ⟨_, rfl⟩
        have hZl : Z.toList.length = L.length + 1 - i := by rw [← hZ]; exact zero_lenS _
        have hYl : Y.toList.length = K - (L.length + 1) := by rw [← hY]; exact zero_lenS _
        rw [hZ, hY]
        obtain ⟨z0, Z', hZe⟩ : ∃ z0 Z', Z.toList = z0 :: Z' := by
          cases hq : Z.toList with
          | nil => rw [hq] at hZl; simp at hZl; omega
          | cons z0 Z' => exact ⟨z0, Z', rfl⟩
        have hZ' : Z'.length = B.length := by rw [hZe] at hZl; simp at hZl; omega
        have g0 := heap_alloc_new w (.cells (A.toArray ++ Z ++ Y) 9)
        have hto : (A.toArray ++ Z ++ Y).toList = A ++ (z0 :: Z') ++ Y.toList := by simp [hZe]
        have g1 := heap_setCells_same (g := w.heap.size) [.string x] i (w := (w.alloc (.cells (A.toArray ++ Z ++ Y) 9)).drew) g0 (by rw [← Array.length_toList, hto]; simp; omega)
        have e1 : splice (A.toArray ++ Z ++ Y).toList i [Value.string x] = A ++ [Value.string x] ++ (Z' ++ Y.toList) := by
          rw [hto, show A ++ z0 :: Z' ++ Y.toList = A ++ [z0] ++ (Z' ++ Y.toList) by simp]
          rw [← hAl]
          exact splice_mid A [z0] _ [_] rfl
        rw [e1] at g1
        have g2 := heap_setCells_same (g := w.heap.size) B (i + 1) (w := (((w.alloc (.cells (A.toArray ++ Z ++ Y) 9)).drew.setCells w.heap.size i [.string x])).drew) g1 (by simp; omega)
        have e2 : splice (A ++ [Value.string x] ++ (Z' ++ Y.toList)) (i + 1) B = A ++ [Value.string x] ++ B ++ Y.toList := by
          rw [← List.append_assoc, show i + 1 = (A ++ [Value.string x]).length by simp; omega]
          exact splice_mid _ Z' _ B hZ'
        rw [show (A ++ [Value.string x] ++ (Z' ++ Y.toList)).toArray.toList = A ++ [Value.string x] ++ (Z' ++ Y.toList) from rfl, e2] at g2
        refine ⟨_, rfl, ⟨by rw [hlen]; omega, .inr ⟨w.heap.size, K, _, rfl, hlo, g2, hgc, hgm, ?_, ?_⟩⟩, ?_, .inr ⟨_, rfl, Nat.le_refl _⟩⟩
        · simp at hYl ⊢; omega
        · rw [Nat.mul_one, ← hlen]
          simp [List.take_append]
          exact List.take_of_length_le (by omega)
        · exact grown_alloc (grown_undrew (grown_trans (grown_setCells w.heap.size _ _ (w.alloc _).drew) (grown_undrew (grown_setCells w.heap.size _ _ (World.drew _)))))
      · obtain rfl : i = L.length := by omega
        have hB0 : B = [] := List.eq_nil_of_length_eq_zero (by omega)
        subst hB0
        refine (Any2.slices_Insert_string_end_grow Try.laysNm222 (some ⟨g, 0, none⟩) L.length cap vb 0 1 1 (intsV L) [.string x] w (by omega) hn (by omega) (by omega) hcl rfl (fun e => by cases e) (fun a e j u hj => by
          injection e with e
          subst e
          have := hcs j u hj
          rw [addr_at]; exact this) hvs h1v).mono ?_
        rintro e w' ⟨rfl, rfl⟩
        refine ⟨_, rfl, ⟨by rw [hlen]; omega, .inr ⟨w.heap.size, _, _, rfl, hlo, heap_alloc_new w.drew _, grownCap_ge _ _ _ _, grownCap_le_maxLen _ _ _ _ (by unfold maxLen; omega), ?_, ?_⟩⟩, ?_, .inr ⟨_, rfl, Nat.le_refl _⟩⟩
        · have := grownCap_ge w (L.length + 1) cap 9
          simp [zero_lenS, intsV_len]
          show L.length + 1 + (grownCap w (L.length + 1) cap 9 - (L.length + 1)) = grownCap w (L.length + 1) cap 9
          omega
        · rw [Nat.mul_one, ← hlen, ← hAB]
          simp [List.take_append]
          exact List.take_of_length_le (by omega)
        · exact grown_drew w _
/-- A pile's header laid anew, behind a change of its row. -/
theorem pile_put {w w1 w2 : World} {lo b : Nat} {g : Option Nat} {v v' : Value} {L : List ByteArray} (hbl : w1.heap[b]? = some (.cells #[v] 73 (0, 0))) (hlo : lo ≤ b) (hb1 : Below w.heap.size w w1)
    (hg : w1.grownBy w2 g) (hgb : g ≠ some b) (hown : w2.ownsRow lo 9 1 v' L.length (intsV L)) (hnb : v'.ownBlock ≠ some b) :
    PileAt (w2.setCell ⟨b, 0, none⟩ v') lo b v'.ownBlock L ∧ Chg w (w2.setCell ⟨b, 0, none⟩ v') b g := by
  have h2 : w2.heap[b]? = some (.cells #[v] 73 (0, 0)) := (hg.block b (Array.getElem?_eq_some_iff.1 hbl).1 (Ne.symm hgb)).trans hbl
  refine ⟨⟨v', ?_, rfl, hlo, own_set hown hnb⟩, ⟨hg.os.trans hb1.os, hg.tape.trans hb1.tape, hg.output.trans hb1.output, ?_, ?_⟩⟩
  · rw [heap_setCell_same w2 b 0 _ _ v' h2]; rfl
  · have := hb1.size; have := hg.size; simp; omega
  · intro k hk hkb hkg
    rw [heap_setCell_other w2 ⟨b, 0, none⟩ k v' hkb, hg.block k (Nat.lt_of_lt_of_le hk hb1.size) (Ne.symm hkg), hb1.block k hk]

/-- What a change of a pile ends with: what it returns, the pile behind it, and all else as it was. -/
def RetPile (w : World) (lo b : Nat) (g : Option Nat) (v : Value) (L : List ByteArray) (e : Ending) (w' : World) : Prop := ∃ g', e = .returned v ∧ PileAt w' lo b g' L ∧ Chg w w' b g ∧ Newer w g g'
def layL (L : List ByteArray) (i : Nat) (x : ByteArray) : List ByteArray := if x ∈ L then L else insL L i x

set_option maxRecDepth 100000 in
set_option maxHeartbeats 2000000 in
theorem lay_any {w : World} {lo b i : Nat} {g : Option Nat} {L : List ByteArray} (x : ByteArray) (h : PileAt w lo b g L) (hi : i ≤ L.length) (hL : L.length ≤ 1000) :
    Calls Try.prog 47 #[.pointer (some ⟨b, 0, none⟩), .int .i64 (i : Int), .string x] w (RetPile w lo b g (.bool (!decide (x ∈ L))) (layL L i x)) := by
  have HH := Lib.hid (has_any x h hL)
  have HP := Lib.hid h
  by_cases hx : x ∈ L
  · have hd : decide (x ∈ L) = true := decide_eq_true hx
    rw [hd] at HH
    have hlay : layL L i x = L := if_pos hx
    rw [hd, hlay]
    clear h hx hd hlay
    go_enter Try.func47, Try.ntmps47
    go_wp2_with fail
    refine HH.out.mono ?_
    rintro e w1 ⟨rfl, hb1⟩
    go_wp2
    go_ret
    exact ⟨g, rfl, HP.out.later hb1, .of_below hb1, .inl rfl⟩
  · have hd : decide (x ∈ L) = false := decide_eq_false hx
    rw [hd] at HH
    have hlay : layL L i x = insL L i x := if_neg hx
    rw [hd, hlay]
    clear h hx hd hlay
    go_enter Try.func47, Try.ntmps47
    go_wp2_with fail
    refine HH.out.mono ?_
    rintro e w1 ⟨rfl, hb1⟩
    have hbw := HP.out.lt
    have hrow := (HP.out.later hb1).row
    obtain ⟨v, hbl, hg, hlo, hown⟩ := HP.out.later hb1
    have c0 : (w1.cell? ⟨b, 0, none⟩) = some v := by rw [cell_of_row w1 b 0 _ _ _ hbl]; rfl
    have hvn : v.ownBlock ≠ some w1.heap.size := fun e => by rw [hg] at e; have := hrow _ e; omega
    have HB2 := Lib.hid ((below_new w1 (.cells #[.string x] 9)).block b (by have := hb1.size; omega) |>.trans hbl)
    have HI := Lib.hid (insert_int (vb := w1.heap.size) x (own_later hown (below_new w1 (.cells #[.string x] 9))) hi hL (by simp; have := hb1.size; omega) (heap_alloc_new w1 _) hvn)
    have HN := Lib.hid (And.intro hg (And.intro hlo (And.intro hbw hrow)))
    have HB1 := Lib.hid (below_alloc2 hb1 (.cells #[.string x] 9))
    clear hb1 hbl hg hlo hown hvn hbw hrow
    go_wp2_with fail
    refine HI.out.mono ?_
    rintro e w2 ⟨v', rfl, hown', hgr, hnew⟩
    obtain ⟨ya, yc, rfl⟩ := (own_ints hown').form
    rw [insL_len] at hown' hnew ⊢
    obtain ⟨v', hv'⟩ : ∃ v', Value.slice ya (L.length + 1) yc = v' := ⟨_, rfl⟩
    rw [hv'] at hown' hnew
    have hgb : v.ownBlock ≠ some b := fun e => by rw [HN.out.1] at e; exact (HN.out.2.2.2 b e).2.2 rfl
    have hnb : v'.ownBlock ≠ some b := by
      rcases hnew with h | ⟨r, h, hr⟩
      · rw [h]; exact hgb
      · rw [h]; intro e; injection e with e; have := HN.out.2.2.1; have := HB1.out.size; omega
    rw [← insL_len (x := x) L i] at hown'
    have HR := Lib.hid (pile_put HB2.out HN.out.2.1 HB1.out hgr hgb hown' hnb)
    have hblk : w2.heap[b]? = some (.cells #[v] 73 (0, 0)) := (hgr.block b (Array.getElem?_eq_some_iff.1 HB2.out).1 (Ne.symm hgb)).trans HB2.out
    have c1 : (w2.cell? ⟨b, 0, none⟩) = some v := by rw [cell_of_row w2 b 0 _ _ _ hblk]; rfl
    have f1 : w2.frozen? ⟨b, 0, none⟩ = false := frozen_of_row w2 b 0 _ _ hblk
    have HW := Lib.hid (show Newer w v.ownBlock v'.ownBlock from by
      rcases hnew with h | ⟨r, h, hr⟩
      · exact .inl h
      · exact .inr ⟨r, h, Nat.le_trans HB1.out.size hr⟩)
    subst hv'
    clear hown' hgr hnew hgb hnb hblk
    go_wp2
    go_ret
    have hgg := HN.out.1
    exact ⟨_, rfl, HR.out.1, by rw [← hgg]; exact HR.out.2, by rw [← hgg]; exact HW.out⟩

set_option maxRecDepth 100000 in
theorem push_any {w : World} {lo b : Nat} {g : Option Nat} {L : List ByteArray} (x : ByteArray) (h : PileAt w lo b g L) (hL : L.length ≤ 1000) :
    Calls Try.prog 31 #[.pointer (some ⟨b, 0, none⟩), .string x] w (RetPile w lo b g (.bool (!decide (x ∈ L))) (layL L 0 x)) := by
  have HL := Lib.hid (lay_any x h (Nat.zero_le _) hL)
  clear h
  go_enter Try.func31, Try.ntmps31
  go_wp2_with fail
  refine HL.out.mono ?_
  rintro e w1 ⟨g', rfl, hr⟩
  go_wp2
  go_ret
  exact ⟨g', rfl, hr⟩
set_option maxRecDepth 100000 in
theorem under_any {w : World} {lo b : Nat} {g : Option Nat} {L : List ByteArray} (x : ByteArray) (h : PileAt w lo b g L) (hL : L.length ≤ 1000) :
    Calls Try.prog 30 #[.pointer (some ⟨b, 0, none⟩), .string x] w (RetPile w lo b g (.bool (!decide (x ∈ L))) (layL L L.length x)) := by
  have HL := Lib.hid (lay_any x h (Nat.le_refl _) hL)
  have HN := Lib.hid (len_any h)
  clear h
  go_enter Try.func30, Try.ntmps30
  go_wp2_with fail
  refine HN.out.mono ?_
  rintro e w1 ⟨rfl, rfl⟩
  go_wp2_with fail
  refine HL.out.mono ?_
  rintro e w1 ⟨g', rfl, hr⟩
  go_wp2
  go_ret
  exact ⟨g', rfl, hr⟩
theorem strs_of (L : List ByteArray) : Lib.strsOf (fun i => L.getD i ByteArray.empty) L.length = L.map fun x : ByteArray => x.data.toList := by
  refine List.ext_getElem (by simp [Lib.strsOf]) fun i h1 h2 => ?_
  simp at h2
  simp [Lib.strsOf, List.getD, h2]
theorem enc_list (x : ByteArray) : encStr x.data.toList = .string x := by rfl
theorem delete_own {w : World} {lo k : Nat} {v : Value} {L : List ByteArray} (h : w.ownsRow lo 9 1 v L.length (intsV L)) (hk : k < L.length) :
    Calls Try.prog 56 #[v, .int .i64 (k : Int), .int .i64 ((k : Int) + 1)] w fun e w' =>
      ∃ v', e = .returned v' ∧ w'.ownsRow lo 9 1 v' (L.eraseIdx k).length (intsV (L.eraseIdx k)) ∧ w.grownBy w' v.ownBlock ∧ v'.ownBlock = v.ownBlock := by
  rcases h.2 with ⟨rfl, h0⟩ | ⟨g, cap, cur, rfl, hb, hg, hn, hm, hs, ht⟩
  · omega
  · have hm' := hm
    unfold maxLen at hm
    rw [Nat.mul_one] at ht
    have hcell : ∀ j, j < L.length → w.cell? ⟨g, 0 + j, none⟩ = some (.string (L.getD j ByteArray.empty)) := fun j hj => by
      rw [Nat.zero_add, cell_of_row w g j _ _ _ hg, ← Array.getElem?_toList]
      have h1 : (cur.toList.take L.length)[j]? = (intsV L)[j]? := by rw [ht]
      rw [List.getElem?_take, if_pos hj] at h1
      rw [h1]
      simp [intsV, List.getD, hj]
    refine (Try.slices_Delete_string_cells g 0 L.length cap k (k + 1) (fun i => L.getD i ByteArray.empty) w hn (by omega) (by omega) (by omega) hcell (fun j _ => frozen_of_row w g _ _ _ hg)).mono ?_
    rintro e w' ⟨rfl, q, rfl⟩
    rw [strs_of, show k + 1 - k = 1 by omega]
    have hsz : cur.toList.length = cap := by simp; omega
    have hel : (L.eraseIdx k).length = L.length - 1 := List.length_eraseIdx_of_lt hk
    have hM : (((L.map fun x : ByteArray => x.data.toList).take k ++ (L.map fun x : ByteArray => x.data.toList).drop (k + 1) ++ List.replicate 1 []).map encStr) = intsV (L.eraseIdx k) ++ [encStr []] := by
      rw [List.eraseIdx_eq_take_drop_succ]
      have he : (encStr ∘ fun x : ByteArray => x.data.toList) = fun x => Value.string x := funext fun x => enc_list x
      simp [intsV, he]
    rw [hM]
    have hMl : (intsV (L.eraseIdx k) ++ [encStr []]).length = L.length := by rw [List.length_append, intsV_len, hel]; simp; omega
    have g1 := heap_setCells_same (g := g) (intsV (L.eraseIdx k) ++ [encStr []]) 0 (w := w.drewN q) hg (by rw [hMl]; simp at hsz; omega)
    refine ⟨_, rfl, ⟨by rw [intsV_len]; omega, .inr ⟨g, cap, _, by rw [hel], hb, g1, by omega, hm', ?_, ?_⟩⟩, grown_drewN (grown_setCells g _ _ _), rfl⟩
    · rw [← Array.length_toList, List.toList_toArray, length_splice _ _ _ (by rw [hMl, hsz]; omega), hsz, Nat.mul_one]
    · rw [Nat.mul_one]
      unfold splice
      simp only [List.take_zero, List.nil_append]
      rw [List.append_assoc]
      exact List.take_left' (intsV_len _)

theorem erase_idx : ∀ (L : List ByteArray) (x : ByteArray), x ∈ L → L.erase x = L.eraseIdx (L.idxOf x)
  | [], _, h => by cases h
  | a :: l, x, h => by
    by_cases ha : a = x
    · subst ha; simp
    · have hl : x ∈ l := by rcases List.mem_cons.1 h with e | e
                            · exact absurd e.symm ha
                            · exact e
      have hb : (a == x) = false := beq_eq_false_iff_ne.2 ha
      rw [List.erase_cons, hb, List.idxOf_cons, hb]
      simp [erase_idx l x hl]
def RetOff (w : World) (lo b : Nat) (g : Option Nat) (v : Value) (L : List ByteArray) (e : Ending) (w' : World) : Prop := e = .returned v ∧ PileAt w' lo b g L ∧ Chg w w' b g
set_option maxRecDepth 100000 in
set_option maxHeartbeats 2000000 in
theorem take_off {w : World} {lo b k : Nat} {g : Option Nat} {L : List ByteArray} (h : PileAt w lo b g L) (hk : k < L.length) (hL : L.length ≤ 1000) :
    Calls Try.prog 48 #[.pointer (some ⟨b, 0, none⟩), .int .i64 (k : Int)] w (RetOff w lo b g (.tuple #[]) (L.eraseIdx k)) := by
  have hrow := h.row
  obtain ⟨v, hbl, hg, hlo, hown⟩ := h
  have c0 : w.cell? ⟨b, 0, none⟩ = some v := by rw [cell_of_row w b 0 _ _ _ hbl]; rfl
  have HD := Lib.hid (delete_own hown hk)
  have HB := Lib.hid hbl
  have HN := Lib.hid (And.intro hg (And.intro hlo hrow))
  have d1 : (k : Int) + 1 ≤ 1001 := by omega
  clear hbl hg hlo hown hrow
  go_enter Try.func48, Try.ntmps48
  go_wp2_with fail
  refine HD.out.mono ?_
  rintro e w2 ⟨v', rfl, hown', hgr, hsame⟩
  obtain ⟨ya, yc, rfl⟩ := (own_ints hown').form
  obtain ⟨v', hv'⟩ : ∃ v', Value.slice ya (L.eraseIdx k).length yc = v' := ⟨_, rfl⟩
  rw [hv'] at hown' hsame
  have hgb : v.ownBlock ≠ some b := fun e => by rw [HN.out.1] at e; exact (HN.out.2.2 b e).2.2 rfl
  have hnb : v'.ownBlock ≠ some b := by rw [hsame]; exact hgb
  have hput := pile_put HB.out HN.out.2.1 (Below.refl w.heap.size w) hgr hgb hown' hnb
  have hblk : w2.heap[b]? = some (.cells #[v] 73 (0, 0)) := (hgr.block b (Array.getElem?_eq_some_iff.1 HB.out).1 (Ne.symm hgb)).trans HB.out
  have c1 : (w2.cell? ⟨b, 0, none⟩) = some v := by rw [cell_of_row w2 b 0 _ _ _ hblk]; rfl
  have f1 : w2.frozen? ⟨b, 0, none⟩ = false := frozen_of_row w2 b 0 _ _ hblk
  rw [hsame, HN.out.1] at hput
  have HR := Lib.hid hput
  subst hv'
  clear hown' hgr hsame hgb hnb hblk hput
  go_wp2
  go_end0
  exact ⟨rfl, HR.out⟩

set_option maxRecDepth 100000 in
theorem pop_any {w : World} {lo b : Nat} {g : Option Nat} {L : List ByteArray} (h : PileAt w lo b g L) (hL : L.length ≤ 1000) :
    Calls Try.prog 32 #[.pointer (some ⟨b, 0, none⟩)] w (RetOff w lo b g (.tuple #[.string (L.headD ⟨#[]⟩), .bool (decide (0 < L.length))]) L.tail) := by
  cases L with
  | nil =>
    have HP := Lib.hid h
    have HA := Lib.hid (at_out 0 h (by simp))
    clear h
    go_enter Try.func32, Try.ntmps32
    go_wp2_with fail
    refine HA.out.mono ?_
    rintro e w1 ⟨rfl, rfl⟩
    go_wp2
    go_ret2
    exact ⟨rfl, HP.out, .of_below (Below.refl _ _)⟩
  | cons x L =>
    have HA := Lib.hid (at_in (k := 0) h (by simp))
    have HT := Lib.hid (take_off (k := 0) h (by simp) hL)
    clear h
    go_enter Try.func32, Try.ntmps32
    go_wp2_with fail
    refine HA.out.mono ?_
    rintro e w1 ⟨rfl, rfl⟩
    go_wp2_with fail
    refine HT.out.mono ?_
    rintro e w2 ⟨rfl, hr⟩
    have HR := Lib.hid hr
    clear hr
    go_wp2
    go_ret2
    exact ⟨by simp, HR.out⟩

set_option maxRecDepth 100000 in
theorem drop_any {w : World} {lo b : Nat} {g : Option Nat} {L : List ByteArray} (x : ByteArray) (h : PileAt w lo b g L) (hL : L.length ≤ 1000) :
    Calls Try.prog 33 #[.pointer (some ⟨b, 0, none⟩), .string x] w (RetOff w lo b g (.bool (decide (x ∈ L))) (L.erase x)) := by
  have HP := Lib.hid h
  have HA := Lib.hid (place_any x h hL)
  by_cases hx : x ∈ L
  · have hk := List.idxOf_lt_length_iff.2 hx
    obtain ⟨k, hke⟩ : ∃ k, L.idxOf x = k := ⟨_, rfl⟩
    have hp : placeL L x = (k : Int) := by unfold placeL; rw [if_pos hx, hke]
    rw [hp] at HA
    rw [decide_eq_true hx, erase_idx L x hx, hke]
    rw [hke] at hk
    have d0 : decide ((k : Int) < 0) = false := decide_eq_false (by omega)
    clear h hx hke hp
    go_enter Try.func33, Try.ntmps33
    go_wp2_with fail
    refine HA.out.mono ?_
    rintro e w1 ⟨rfl, hb1⟩
    have HT := Lib.hid (take_off (HP.out.later hb1) hk hL)
    have HB1 := Lib.hid hb1
    clear hb1
    go_wp2_with fail
    refine HT.out.mono ?_
    rintro e w2 ⟨rfl, hp2, hc2⟩
    have HP2 := Lib.hid hp2
    have HC2 := Lib.hid (Chg.ahead HB1.out hc2)
    clear hp2 hc2
    go_wp2
    go_ret
    exact ⟨rfl, HP2.out, HC2.out⟩
  · have hp : placeL L x = -1 := by unfold placeL; rw [if_neg hx]
    rw [hp] at HA
    rw [decide_eq_false hx, List.erase_of_not_mem hx]
    clear h hx hp
    go_enter Try.func33, Try.ntmps33
    go_wp2_with fail
    refine HA.out.mono ?_
    rintro e w1 ⟨rfl, hb1⟩
    go_wp2
    go_ret
    exact ⟨rfl, HP.out.later hb1, .of_below hb1⟩

end Go.Proofs.Ytphcdeppilaceaa.Txt

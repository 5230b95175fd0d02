/- A team's seats; the library's Equal and Clone at what teams share; Copy, Same (layer 9). Copy and Same of teams (layer 9). -/
import Derived.Test.YtgjojjhppgjkkaaGreatTd
import Derived.Laws.StructEq
import Derived.Deep.RegionHeld3
namespace Go.Proofs.YtgjojjhppgjkkaaGreat
open Go.RowKit

set_option maxHeartbeats 4000000 in
theorem eqShare (n : Nat) (a0 c0 a1 c1 : Int) (a2 c2 : Bool) (w : World) : (Op.equalIn (n + 2) 136 (.agg #[.int .i64 a0, .int .i64 a1, .bool a2]) (.agg #[.int .i64 c0, .int .i64 c1, .bool c2])).run Tryz.prog w = .ok (a0 == c0 && (a1 == c1 && (a2 == c2))) w := by
  have uI := Tryz.underlying3
  have gI := Tryz.isAgg3
  have zI := Tryz.sizeOf3
  have uB := Tryz.underlying4
  have gB := Tryz.isAgg4
  have zB := Tryz.sizeOf4
  have hS : Tryz.prog.underlying 136 = some (.struct (Tryz.prog.fieldsOf 136)) := by kernel_rfl
  rw [run_equalIn_agg w (n + 1) 136 _ _ hS (by kernel_rfl)]
  simp only [Program.fieldsOf, Tryz.underlying136]
  go_simp
  by_cases h0 : a0 = c0
  · subst h0
    by_cases h1 : a1 = c1
    · subst h1
      by_cases h2 : a2 = c2
      · subst h2
        simp
      · simp [h2]
    · simp [h1]
  · simp [h0]
theorem neqShare (a0 c0 a1 c1 : Int) (a2 c2 : Bool) (w : World) : (binOp .neq 136 (.agg #[.int .i64 a0, .int .i64 a1, .bool a2]) (.agg #[.int .i64 c0, .int .i64 c1, .bool c2])).run Tryz.prog w = .ok (.bool (!(a0 == c0 && (a1 == c1 && (a2 == c2))))) w := by
  rw [run_neq_struct, eqShare 9998]
  rfl
theorem neqgS (x y : Operand) (xs ys : Array Value) (W : World) : (eqGuard .neq 136 x y (.agg xs) (.agg ys)).run Tryz.prog W = .ok () W := run_eqGuard_agg W .neq 136 x y xs ys (by kernel_rfl)
def eqS (x y : ShareL) : Bool := x.life == y.life && (x.poison == y.poison && (x.lost == y.lost))
theorem eqS_iff (x y : ShareL) : eqS x y = true ↔ x = y := by
  unfold eqS
  obtain ⟨x0, x1, x2⟩ := x
  obtain ⟨y0, y1, y2⟩ := y
  simp only [Bool.and_eq_true, beq_iff_eq, ShareL.mk.injEq]
instance : DecidableEq ShareL := fun x y => decidable_of_iff (eqS x y = true) (eqS_iff x y)
def ShAt (w : World) (r : Nat) (l : List ShareL) : Prop := ∀ n (hn : n < l.length), w.cell? ⟨r, n * 3, none⟩ = some (.int .i64 l[n].life) ∧ w.cell? ⟨r, n * 3 + 1, none⟩ = some (.int .i64 l[n].poison) ∧ w.cell? ⟨r, n * 3 + 2, none⟩ = some (.bool l[n].lost)
set_option maxRecDepth 100000 in
set_option maxHeartbeats 4000000 in
theorem equal_shares {w : World} {q r xc yc : Nat} {l m : List ShareL} (hl : ShAt w q l) (hr : ShAt w r m) (hn : l.length ≤ 1000) :
    Calls Tryz.prog 90 #[.slice (some ⟨q, 0, none⟩) l.length xc, .slice (some ⟨r, 0, none⟩) m.length yc] w fun e w' => e = .returned (.bool (decide (l = m))) ∧ ∃ n, w' = w.drewN n := by
  have HL := Lib.hid hl
  have HR := Lib.hid hr
  clear hl hr
  by_cases hne : l.length ≠ m.length
  · have d : ((l.length : Int) != m.length) = true := bne_iff_ne.2 (by omega)
    have HS := Lib.hid (show decide (l = m) = false from decide_eq_false (fun e => hne (by rw [e])))
    clear hne
    go_enter Tryz.func90, Tryz.ntmps90
    go_wp2
    go_ret
    exact ⟨ret_bool HS.out.symm, 0, rfl⟩
  have heq : l.length = m.length := Classical.not_not.1 hne
  have d : ((l.length : Int) != m.length) = false := by rw [heq]; exact bne_self_eq_false _
  have HQ := Lib.hid heq
  clear hne heq
  have h2 := @neqgS
  go_enter Tryz.func90, Tryz.ntmps90
  go_wp2
  go_loopw [13] (fun i wr => ∃ k n : Nat, k ≤ l.length ∧ i = .int .i64 k ∧ wr = w.drewN n ∧ Hid (l.take k = m.take k)) (fun i _ => l.length - (intOf i).toNat)
  case atStart => exact ⟨0, 0, Nat.zero_le _, rfl, rfl, Lib.hid rfl⟩
  case round =>
    obtain ⟨k, n, hk, rfl, rfl, HK⟩ := hrel
    by_cases hlt : k < l.length
    · have hlt2 : k < m.length := by have := HQ.out; omega
      obtain ⟨o0, o1, o2⟩ := HL.out k hlt
      obtain ⟨p0, p1, p2⟩ := HR.out k hlt2
      have HT1 := Lib.hid (take_last l k hlt)
      have HT2 := Lib.hid (take_last m k hlt2)
      have HIX := Lib.hid (show l = m → l[k] = m[k] from fun e => by subst e; rfl)
      obtain ⟨x, hx⟩ : ∃ x, l[k] = x := ⟨_, rfl⟩
      obtain ⟨y, hy⟩ : ∃ y, m[k] = y := ⟨_, rfl⟩
      rw [hx] at o0 o1 o2 HT1 HIX
      rw [hy] at p0 p1 p2 HT2 HIX
      obtain ⟨E, hE⟩ : ∃ E, eqS x y = E := ⟨_, rfl⟩
      have h3 := fun W => neqShare x.life y.life x.poison y.poison x.lost y.lost W
      have hE' := hE
      unfold eqS at hE'
      rw [hE'] at h3
      have d0 : (0 : Int) ≤ k := by omega
      have d1 : (k : Int) < l.length := by omega
      have d2 : (k : Int) < m.length := by omega
      clear hE' hx hy
      cases E
      · have HS := Lib.hid (show decide (l = m) = false from decide_eq_false (fun e => by
          have h4 := HIX.out e
          rw [(eqS_iff x y).2 h4] at hE
          cases hE))
        clear hE
        go_wp2
        go_quiet (fail)
        go_wp2
        go_ret
        exact ⟨ret_bool HS.out.symm, _, World.drewN_drewN _ _ _⟩
      · have HT : Hid (l.take (k + 1) = m.take (k + 1)) := Lib.hid (by
          rw [HT1.out, HT2.out, HK.out, (eqS_iff x y).1 hE])
        clear hE
        go_wp2
        go_quiet (fail)
        go_wp2
        go_roundw
        case rel => exact ⟨k + 1, _, by omega, by go_num, rfl, HT⟩
        case measure => simp [intOf]; omega
    · obtain rfl : k = l.length := by omega
      have HS := Lib.hid (show decide (l = m) = true from decide_eq_true (by
        have h1 := HK.out
        rw [List.take_length, HQ.out, List.take_length] at h1
        exact h1))
      go_wp2
      go_ret
      exact ⟨ret_bool HS.out.symm, _, rfl⟩
end Go.Proofs.YtgjojjhppgjkkaaGreat
namespace Go.Proofs.YtgjojjhppgjkkaaGreat
open Go.RowKit

theorem info_share : (Tryz.prog.info? 136).map (fun i => (i.zero, i.size, i.bytes)) = some (some (.agg #[.int .i64 0, .int .i64 0, .bool false]), 3, 24) := by kernel_rfl
/-- A row that begins with xs. -/
def RowI9 (w : World) (t : TypeId) (g : Nat) (xs : List Value) : Prop := ∃ cur, w.heap[g]? = some (.cells cur t (0, 0)) ∧ cur.toList.take xs.length = xs
theorem RowI9.lt {w : World} {t : TypeId} {g : Nat} {xs : List Value} (h : RowI9 w t g xs) : g < w.heap.size := by
  obtain ⟨_, h, _⟩ := h
  exact (Array.getElem?_eq_some_iff.1 h).1
theorem RowI9.later {w w' : World} {t : TypeId} {g : Nat} {xs : List Value} (h : RowI9 w t g xs) (hb : Below w.heap.size w w') : RowI9 w' t g xs := by
  have hl := h.lt
  obtain ⟨cur, h1, h2⟩ := h
  exact ⟨cur, (hb.block g hl).trans h1, h2⟩
theorem RowI9.cell {w : World} {t : TypeId} {g : Nat} {xs : List Value} (h : RowI9 w t g xs) (j : Nat) (hj : j < xs.length) : w.cell? ⟨g, j, none⟩ = some xs[j] := by
  obtain ⟨cur, h1, h2⟩ := h
  have e : cur[j]? = xs[j]? := by rw [← Array.getElem?_toList, ← List.getElem?_take_of_lt hj, h2]
  rw [cell_of_row w g j cur t _ h1, e]
  simp [hj]
theorem own_rowIn {w : World} {base sz : Nat} {t : TypeId} {v : Value} {n : Nat} {xs : List Value} (h : w.ownsRow base t sz v n xs) (hn : 0 < n) : ∃ g cap, v = .slice (some ⟨g, 0, none⟩) n cap ∧ base ≤ g ∧ RowI9 w t g xs := by
  have hl : xs.length = n * sz := h.1
  rcases h.2 with ⟨rfl, h0⟩ | ⟨g, cap, cur, rfl, hb, hg, _, _, hs, ht⟩
  · omega
  · exact ⟨g, cap, rfl, hb, cur, hg, by rw [hl]; exact ht⟩
def RetRow (w : World) (t : TypeId) (n : Nat) (xs : List Value) (e : Ending) (w' : World) : Prop := ∃ g cap, e = .returned (.slice (some ⟨g, 0, none⟩) n cap) ∧ w.heap.size ≤ g ∧ RowI9 w' t g xs ∧ Below w.heap.size w w'
theorem clone_ints {w : World} {b off cap : Nat} {L : List Int} (hc : ∀ j (h : j < L.length), w.cell? ⟨b, off + j, none⟩ = some (.int .i64 L[j])) (h0 : 0 < L.length) (hL : L.length ≤ 1000) :
    Calls Tryz.prog 73 #[.slice (some ⟨b, off, none⟩) L.length cap] w (RetRow w 3 L.length (intsV L)) := by
  refine (Tryz.slices_Clone_int b off L.length cap L w (Nat.le_refl _) (by omega) (fun j hj => ?_)).mono ?_
  · rw [hc j hj]
    simp [List.getD, hj]
  · rintro e w' ⟨v', rfl, ho, _, hb'⟩
    rw [List.take_length] at ho
    obtain ⟨g, cap', rfl, h1, h2⟩ := own_rowIn ho h0
    exact ⟨g, cap', rfl, h1, h2, hb'⟩
theorem some_share (a : Addr) (n c : Nat) (W : World) : (binOp .eql 102 (.slice (some a) n c) (.slice none 0 0)).run Tryz.prog W = .ok (.bool false) W := by kernel_rfl
set_option maxRecDepth 100000 in
set_option maxHeartbeats 2000000 in
theorem clone_shares {w : World} {r cap : Nat} {l : List ShareL} (h : RowI9 w 136 r (sharesV l)) (h0 : 0 < l.length) (hl : l.length ≤ 1000) :
    Calls Tryz.prog 74 #[.slice (some ⟨r, 0, none⟩) l.length cap] w (RetRow w 136 l.length (sharesV l)) := by
  obtain ⟨i0, hi0, hz0, hz1, hz2⟩ := info_parts info_share
  have HNW : Hid (∀ j u, (sharesV l)[j]? = some u → (w.alloc (.cells #[] 136)).cell? ((⟨r, 0, none⟩ : Addr).add j) = some u) := Lib.hid fun j u hu => by
    obtain ⟨hj, rfl⟩ := List.getElem?_eq_some_iff.1 hu
    rw [show (⟨r, 0, none⟩ : Addr).add j = ⟨r, j, none⟩ by simp [Addr.add]; omega]
    exact cell_stays (below_new w _) (h.cell j hj)
  have HTL := Lib.hid (sharesV_len l)
  have HW0 := Lib.hid (show (w.alloc (.cells #[] 136)).ownsRow w.heap.size 136 3 (.slice (some ⟨w.heap.size, 0, none⟩) 0 0) 0 [] from ⟨rfl, .inr ⟨w.heap.size, 0, #[], rfl, Nat.le_refl _, heap_alloc_new w _, Nat.le_refl _, Nat.zero_le _, rfl, rfl⟩⟩)
  clear h
  have hq := some_share
  go_enter Tryz.func74, Tryz.ntmps74
  go_wp2_with (at_builtin; refine wpList_append_lies _ rfl _ _ 102 rfl w.heap.size 136 i0 _ 3 24 Tryz.underlying102 hi0 hz0 hz1 hz2 rfl (by decide) (.slice (some ⟨w.heap.size, 0, none⟩) 0 0) 0 [] rfl HW0.out ⟨r, 0, none⟩ l.length cap (sharesV l) rfl HTL.out HNW.out (sharesV_one _) h0 (by unfold maxLen; omega) (by omega) (by simp) _ rfl ?_)
  intro g' cap' w6 hown hgrow hat hlt6
  have HO := Lib.hid hown
  have HB := Lib.hid (show Below w.heap.size w w6 from (below_new w _).grown hgrow (by simp) (fun c e => by have e1 : w.heap.size = c := Option.some.inj e; omega))
  clear hown hgrow hat hlt6 hi0 hz0 hz1 hz2
  go_wp2
  go_ret
  obtain ⟨g, cap2, he, h1, h2⟩ := own_rowIn HO.out (by omega)
  (try simp only [Nat.zero_add, List.nil_append] at he h2)
  exact ⟨g, cap2, by simp [he], h1, h2, HB.out⟩
theorem team_parts {w : World} {lo b s r c1 c2 : Nat} {T : TeamL} (hd : w.heap[b]? = some (.cells #[.slice (some ⟨s, 0, none⟩) T.sides.length c1, .slice (some ⟨r, 0, none⟩) T.sh.length c2] 104 (0, 0)))
    (hs : RowI9 w 3 s (intsV T.sides)) (hr : RowI9 w 136 r (sharesV T.sh)) (lb : lo ≤ b) (ls : lo ≤ s) (lr : lo ≤ r) (br : b ≠ r) (sr : s ≠ r) (n1 : 1 ≤ T.sides.length ∧ T.sides.length ≤ 4) (n2 : T.sh.length ≤ 4)
    (nd : ∀ x ∈ T.sides, 0 ≤ x ∧ x < T.sh.length) : TeamAt w lo b s r T := by
  refine ⟨⟨c1, c2, hd⟩, ⟨hs.lt, fun k hk => ?_⟩, ?_, lb, ls, lr, br, sr, n1, n2, nd⟩
  · rw [hs.cell k (by rw [intsV_len]; exact hk)]
    simp [intsV]
  · obtain ⟨cur, h1, h2⟩ := hr
    rw [sharesV_len] at h2
    exact ⟨cur, h1, h2⟩
theorem TeamAt.rowS {w : World} {lo b s r : Nat} {T : TeamL} (h : TeamAt w lo b s r T) : RowI9 w 136 r (sharesV T.sh) := by
  obtain ⟨cur, h1, h2⟩ := h.rw
  exact ⟨cur, h1, by rw [sharesV_len]; exact h2⟩
theorem TeamAt.pos {w : World} {lo b s r : Nat} {T : TeamL} (h : TeamAt w lo b s r T) : 0 < T.sh.length := by
  have h1 := h.n1.1
  have := h.nd _ (List.getElem_mem (show 0 < T.sides.length by omega))
  omega
def RetTeam (w : World) (T : TeamL) (e : Ending) (w' : World) : Prop := ∃ b s r, e = .returned (.pointer (some ⟨b, 0, none⟩)) ∧ TeamAt w' w.heap.size b s r T ∧ Below w.heap.size w w'
set_option maxRecDepth 100000 in
set_option maxHeartbeats 4000000 in
theorem tcopy_any {w : World} {lo b s r : Nat} {T : TeamL} (h : TeamAt w lo b s r T) : Calls Tryz.prog 43 #[.pointer (some ⟨b, 0, none⟩)] w (RetTeam w T) := by
  obtain ⟨c1, c2, k0, k1⟩ := h.heads
  have HS : Hid (∀ w', Below w.heap.size w w' → Calls Tryz.prog 73 #[.slice (some ⟨s, 0, none⟩) T.sides.length c1] w' (RetRow w' 3 T.sides.length (intsV T.sides))) := Lib.hid fun w' hb =>
    clone_ints (fun j hj => by rw [Nat.zero_add]; exact cell_stays hb (h.sd.2 j hj)) (by have := h.n1; omega) (by have := h.n1; omega)
  have HR : Hid (∀ w', Below w.heap.size w w' → Calls Tryz.prog 74 #[.slice (some ⟨r, 0, none⟩) T.sh.length c2] w' (RetRow w' 136 T.sh.length (sharesV T.sh))) := Lib.hid fun w' hb =>
    clone_shares (h.rowS.later hb) h.pos (by have := h.n2; omega)
  have HT := Lib.hid (And.intro h.n1 (And.intro h.n2 h.nd))
  clear h
  go_enter Tryz.func43, Tryz.ntmps43
  go_wp2
  go_region_law ((first
    | (go_simp; go_at_call 73; refine (HS.out _ (below_drewN (Below.refl _ _) _)).mono ?_; rintro e w7 ⟨g7, x7, rfl, l7, o7, hb7⟩; have hb7' := stepB (below_drewN (Below.refl w.heap.size w) _) hb7; have c17 := cell_stays hb7' k1; dsimp only)
    | (go_simp; go_at_call 74; refine (HR.out _ hb7').mono ?_; rintro e w8 ⟨g8, x8, rfl, l8, o8, hb8⟩; have hb8' := stepB hb7' hb8; have c18 := cell_stays hb8' k0; have HRES : Hid (w.heap.size ≤ g7 ∧ w.heap.size ≤ g8 ∧ g7 ≠ g8 ∧ RowI9 w8 3 g7 (intsV T.sides) ∧ RowI9 w8 136 g8 (sharesV T.sh) ∧ Below w.heap.size w w8) := Lib.hid ⟨l7, Nat.le_trans hb7'.size l8, by have := o7.lt; omega, o7.later hb8, o8, hb8'⟩; dsimp only)
    | (go_simp; go_at_call 74; refine (HR.out _ (below_drewN (Below.refl _ _) _)).mono ?_; rintro e w7 ⟨g8, x8, rfl, l8, o8, hb7⟩; have hb7' := stepB (below_drewN (Below.refl w.heap.size w) _) hb7; have c07 := cell_stays hb7' k0; dsimp only)
    | (go_simp; go_at_call 73; refine (HS.out _ hb7').mono ?_; rintro e w8 ⟨g7, x7, rfl, l7, o7, hb8⟩; have hb8' := stepB hb7' hb8; have c18 := cell_stays hb8' k1; have HRES : Hid (w.heap.size ≤ g7 ∧ w.heap.size ≤ g8 ∧ g7 ≠ g8 ∧ RowI9 w8 3 g7 (intsV T.sides) ∧ RowI9 w8 136 g8 (sharesV T.sh) ∧ Below w.heap.size w w8) := Lib.hid ⟨Nat.le_trans hb7'.size l7, l8, by have := o8.lt; omega, o7, o8.later hb8, hb8'⟩; dsimp only)
    | (trace_state; fail "arm")))
  all_goals
    go_wp2
    go_ret
    obtain ⟨e1, e2, e3, e4, e5, e6⟩ := HRES.out
    have e7 := e4.lt
    have e8 := e5.lt
    refine ⟨_, g7, g8, rfl, team_parts (heap_alloc_new _ _) (e4.later (below_new _ _)) (e5.later (below_new _ _)) e6.size e1 e2 ?_ e3 HT.out.1 HT.out.2.1 HT.out.2.2, below_alloc2 e6 _⟩
    first | omega | (simp; omega)
end Go.Proofs.YtgjojjhppgjkkaaGreat

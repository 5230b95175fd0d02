/- The law PileTurns (layer 5), walked: for every list of numbers, and both ways, it returns true, and only new memory is made. -/
import Derived.Test.YtphcdeppilaceaaFo
import Derived.Test.YtphcdeppilaceaaFl
namespace Go.Proofs.Ytphcdeppilaceaa
open Go.RowKit
attribute [local go_sem] Oper.semAt_some

theorem vals_grownN {A B : World} {v : Value} {xs : List Value} {row : Option Nat} (h : ValsAt A v xs) (hg : A.grownBy B row) (hr : ∀ r, row = some r → ∃ o : Obj, A.heap[r]? = some o ∧ o.isCells = false) : ValsAt B v xs := by
  rcases h with h | ⟨r, off, cap, rfl, hlt, hcell⟩
  · exact .inl h
  · refine .inr ⟨r, off, cap, rfl, Nat.lt_of_lt_of_le hlt hg.size, fun i hi => ?_⟩
    have hc := hcell i hi
    obtain ⟨o, ho⟩ : ∃ o, A.heap[r]? = some o := ⟨_, Array.getElem?_eq_getElem hlt⟩
    have hx : o.isCells = true := by
      unfold World.cell? at hc
      rw [ho] at hc
      cases o <;> simp_all [Obj.isCells]
    rw [World.cell?_of_block (w := A) (a := ⟨r, off + i, none⟩) (grownBy_keeps_cells hg hr ho hx)]
    exact hc
def turnedL (u : Bool) (L : List Int) : List Int := if u then L else L.reverse
theorem turned_snoc (u : Bool) (L : List Int) (x : Int) : turnedL u (L ++ [x]) = if u then turnedL u L ++ [x] else x :: turnedL u L := by cases u <;> simp [turnedL]
theorem turned_len (u : Bool) (L : List Int) : (turnedL u L).length = L.length := by cases u <;> simp [turnedL]
theorem turned_mem (u : Bool) (L : List Int) (x : Int) : x ∈ turnedL u L ↔ x ∈ L := by cases u <;> simp [turnedL]
theorem turned_at (u : Bool) (L : List Int) (k : Nat) (h : k < L.length) (j : Nat) (hj : j = if u then k else L.length - 1 - k) (hj' : j < (turnedL u L).length) : (turnedL u L)[j] = L[k] := by
  subst hj
  cases u
  · simp only [turnedL, Bool.false_eq_true, if_false, List.getElem_reverse]
    congr 1; omega
  · simp [turnedL]
theorem filter_all (L : List Int) : L.filter (fun _ => true) = L := by simp
/-- What the loop that turns them holds. -/
def TurnsI (u : Bool) (lo bp bq : Nat) (ks : List (Nat × Value)) (wv : Value) (L : List Int) (A : World) (pre : List Int) (W : World) : Prop :=
  (∃ gp gq, PileAt W lo bp gp (L.drop pre.length) ∧ PileAt W lo bq gq (turnedL u pre) ∧ Sep bp gp bq gq) ∧ Boxes (fun k => k = bp ∨ k = bq) ks W ∧ IntsAt W wv L ∧ (∀ k, wv.ownBlock = some k → k < W.heap.size ∧ Off (fun k => k = bp ∨ k = bq) W k) ∧ Below A.heap.size A W
theorem turnsI_own {u : Bool} {lo bp bq : Nat} {ks : List (Nat × Value)} {wv : Value} {L : List Int} {A : World} {B : Nat} (hB : A.heap.size ≤ B) : OwnFrom B (TurnsI u lo bp bq ks wv L A) := by
  rintro s X Y row ⟨⟨gp, gq, h1, h2, h3⟩, h4, h5, h6, h7⟩ hg hr
  have hr' : ∀ r, row = some r → ∃ o : Obj, X.heap[r]? = some o ∧ o.isCells = false := fun r e => (hr r e).2
  exact ⟨⟨gp, gq, h1.grown hg hr', h2.grown hg hr', h3⟩, h4.grown hg hr', vals_grownN h5 hg hr', fun k hk => ⟨Nat.lt_of_lt_of_le (h6 k hk).1 hg.size, (h6 k hk).2.grown hg hr'⟩, ownFrom_below (β := Unit) (Nat.le_refl _) hB () X Y row h7 hg hr⟩
/-- One of them is turned. -/
theorem TurnsI.step {u : Bool} {lo bp bq : Nat} {ks : List (Nat × Value)} {wv : Value} {L : List Int} {A W w1 w2 : World} {pre : List Int} {x : Int} {r : List Int} {gp gq g1 g2 : Option Nat}
    (hlo : A.heap.size ≤ lo) (h4 : Boxes (fun k => k = bp ∨ k = bq) ks W) (h5 : IntsAt W wv L) (h6 : ∀ k, wv.ownBlock = some k → k < W.heap.size ∧ Off (fun k => k = bp ∨ k = bq) W k) (h7 : Below A.heap.size A W)
    (hL : L.drop (pre ++ [x]).length = r) (p1 : PileAt W lo bp gp (x :: r)) (q1 : PileAt W lo bq gq (turnedL u pre))
    (p2 : PileAt w1 lo bp gp r) (q2 : PileAt w1 lo bq g1 (turnedL u (pre ++ [x]))) (c2 : Chg2 W w1 bp gp bq gq) (n2 : Newer W gq g1)
    (p3 : PileAt w2 lo bp gp r) (q3 : PileAt w2 lo bq g2 (turnedL u (pre ++ [x]))) (s3 : Sep bp gp bq g2) (c3 : Chg2 w1 w2 bp gp bq g1) (n3 : Newer w1 g1 g2) :
    KpP (fun _ => False) (fun k => k = bp ∨ k = bq) W w2 ∧ TurnsI u lo bp bq ks wv L A (pre ++ [x]) w2 := by
  have k1 : KpP (fun _ => False) (fun k => k = bp ∨ k = bq) W w1 := KpP.of_chg2 c2 p1 p2 (.inl rfl) (.inl rfl) q1 q2 n2 (.inr rfl) (fun d hd h1 h2 => by rcases hd with e | e; exact absurd e h1; exact absurd e h2)
  have k2 : KpP (fun _ => False) (fun k => k = bp ∨ k = bq) w1 w2 := KpP.of_chg2 c3 p2 p3 (.inl rfl) (.inl rfl) q2 q3 n3 (.inr rfl) (fun d hd h1 h2 => by rcases hd with e | e; exact absurd e h1; exact absurd e h2)
  have k3 := k1.trans k2
  refine ⟨k3, ⟨gp, g2, by rw [hL]; exact p3, q3, s3⟩, h4.kept k3 (fun _ _ e => e), vals_kp h5 k3 (fun k hk => ⟨fun e => e, (h6 k hk).2⟩), fun k hk => ⟨Nat.lt_of_lt_of_le (h6 k hk).1 k3.size, k3.off (h6 k hk).2 (h6 k hk).1⟩, ?_⟩
  · have b1 := c2.below h7 (Nat.le_trans hlo p1.lo) (fun k hk => Nat.le_trans hlo (p1.row k hk).1) (Nat.le_trans hlo q1.lo) (fun k hk => Nat.le_trans hlo (q1.row k hk).1)
    exact c3.below b1 (Nat.le_trans hlo p2.lo) (fun k hk => Nat.le_trans hlo (p2.row k hk).1) (Nat.le_trans hlo q2.lo) (fun k hk => Nat.le_trans hlo (q2.row k hk).1)
theorem results_box {fn : Func} {tmps : Array Value} {W : World} {b : Nat} {v : Bool} (h : fn.results = #[.cell 4 4]) (ht : tmps.getD 4 undef = .pointer (some ⟨b, 0, none⟩)) (hc : HdAt W b (.bool v)) : (results fn tmps).run Try.prog W = .ok (.bool v) W := by
  have hc := hc.cell
  simp only [Array.getD_eq_getD_getElem?] at ht
  simp [results, h, go_sem, ht, hc]
theorem off_two {W : World} {lo lo' bp bq k : Nat} {gp gq : Option Nat} {L M : List Int} (hp : PileAt W lo bp gp L) (hq : PileAt W lo' bq gq M) (h1 : k ≠ bp) (h2 : k ≠ bq) (h3 : gp ≠ some k) (h4 : gq ≠ some k) : Off (fun k => k = bp ∨ k = bq) W k :=
  ⟨fun e => by rcases e with e | e; exact h1 e; exact h2 e, fun b hb => by
    rcases hb with rfl | rfl
    · obtain ⟨v, hv, hg⟩ := hp.head; exact ⟨v, hv, by rw [hg]; exact h3⟩
    · obtain ⟨v, hv, hg⟩ := hq.head; exact ⟨v, hv, by rw [hg]; exact h4⟩⟩
theorem heads_two {W : World} {lo lo' bp bq : Nat} {gp gq : Option Nat} {L M : List Int} (hp : PileAt W lo bp gp L) (hq : PileAt W lo' bq gq M) : Heads (fun k => k = bp ∨ k = bq) W := fun b hb => by
  rcases hb with rfl | rfl
  · obtain ⟨v, hv, hg⟩ := hp.head; exact ⟨v, hv, fun k hk => (hp.row k (by rw [← hg]; exact hk)).2.1⟩
  · obtain ⟨v, hv, hg⟩ := hq.head; exact ⟨v, hv, fun k hk => (hq.row k (by rw [← hg]; exact hk)).2.1⟩
theorem below_put {A W : World} {D : Nat} {o : Obj} (o' : Obj) (h : Below A.heap.size A W) (hD : A.heap.size ≤ D) (ho : W.heap[D]? = some o) (hc : o.isCells = false) : Below A.heap.size A (W.putObj D o') :=
  OwnFrom.putObj (ownFrom_below (β := Unit) (n₀ := A.heap.size) (w₀ := A) (Nat.le_refl _) (Nat.le_refl _)) (s := ()) o' h hD ho hc
set_option maxRecDepth 100000 in
set_option maxHeartbeats 4000000 in
theorem pileTurns_walk {v : Value} {l : List Int} {u : Bool} {w : World} (hv : IntsAt w v l) (hl : l.length ≤ 9223372036854775807) :
    Calls Try.prog 6 #[v, .bool u] w (RetV w (.bool true)) := by
  obtain ⟨ya, yc, rfl⟩ := hv.form
  have HV := Lib.hid hv
  clear hv
  refine (callsIn_wide (n := 6)).1 ?_
  have hbx := below_new w (.cells #[.bool u] 4)
  have hby := stepB hbx (below_new (w.alloc (.cells #[.bool u] 4)) (.cells #[.bool false] 4))
  have hub := (HdAt.new w (.bool u) 4).later (below_new (w.alloc (.cells #[.bool u] 4)) (.cells #[.bool false] 4))
  have hrb := HdAt.new (w.alloc (.cells #[.bool u] 4)) (.bool false) 4
  rw [World.size_alloc] at hrb
  refine callsIn_of_wp_marks Try.func6 rfl trivial ?_ rfl
  simp only [Try.ntmps6, List.size_toArray, List.length_cons, List.length_nil, Nat.reduceAdd, Nat.reduceSub, Array.replicate_succ, Array.replicate_zero, List.push_toArray, List.append_toArray, List.nil_append, List.cons_append]
  gi_wp2_with fail
  refine ⟨trivial, (callsIn_wide.2 (awake5_any _)).mono ?_⟩
  rintro e w1 ⟨rfl, hb1⟩
  have HB1 := Lib.hid (stepB hby hb1)
  have HUB := Lib.hid (hub.later hb1)
  have HRB := Lib.hid (hrb.later hb1)
  clear hb1 hbx hby hub hrb
  by_cases hg : 60 < l.length
  · have b1 : decide ((60 : Int) < l.length) = true := decide_eq_true (by omega)
    have c1 := HRB.out.cell
    have f1 := HRB.out.frozen
    have HR := Lib.hid (HRB.out.set (.bool true))
    have HB2 := Lib.hid (HB1.out.setCell (p := ⟨w.heap.size + 1, 0, none⟩) (by show w.heap.size ≤ w.heap.size + 1; omega) (.bool true))
    gi_wp2
    exact ⟨_, results_box rfl rfl HR.out, rfl, HB2.out⟩
  · have b1 : decide ((60 : Int) < l.length) = false := decide_eq_false (by omega)
    have HG := Lib.hid (show l.length ≤ 60 by omega)
    have HN := Lib.hid (new_any (HV.out.later HB1.out) (by omega))
    clear hl
    gi_wp2_with fail
    refine ⟨trivial, (callsIn_wide.2 HN.out).mono ?_⟩
    rintro e w2 ⟨bp, gp, rfl, hp2, hb2⟩
    have HP2 := Lib.hid hp2
    have HB2 := Lib.hid (stepB HB1.out hb2)
    have HUB2 := Lib.hid (HUB.out.later hb2)
    have HRB2 := Lib.hid (HRB.out.later hb2)
    have HN3 := Lib.hid (new_any (v := .slice none 0 0) (l := []) (w := w2) (.inl ⟨_, _, rfl, rfl⟩) (by simp))
    obtain ⟨L, hL⟩ : ∃ L, onceL l = L := ⟨_, rfl⟩
    have HLL := Lib.hid (show L.length ≤ 60 by rw [← hL]; have h := onceL_len l l.length; rw [List.take_length] at h; have := HG.out; omega)
    have HND := Lib.hid (show L.Nodup by rw [← hL]; exact once_nodup l)
    rw [hL] at HP2
    clear hp2 hb2 hL
    gi_wp2_with fail
    refine ⟨trivial, (callsIn_wide.2 HN3.out).mono ?_⟩
    rintro e w3 ⟨bq, gq, rfl, hq3, hb3⟩
    have HQ3 := Lib.hid hq3
    have HP3 := Lib.hid (HP2.out.later hb3)
    have HB3 := Lib.hid (stepB HB2.out hb3)
    have HUB3 := Lib.hid (HUB2.out.later hb3)
    have HRB3 := Lib.hid (HRB2.out.later hb3)
    have HS3 := Lib.hid (show Sep bp gp bq gq from by
      have h1 := HP2.out.lt
      have h2 := hq3.lo
      exact ⟨by omega, fun e => by have := (HP2.out.row bq e).2.1; omega, fun e => by have := (hq3.row bp e).1; omega, fun k e e' => by have := (HP2.out.row k e).2.1; have := (hq3.row k e').1; omega⟩)
    have HLT := Lib.hid (And.intro HP2.out.lo HP2.out.lt)
    have HLQ := Lib.hid (And.intro hq3.lo (And.intro hq3.lt HB1.out.size))
    clear hq3 hb3 HP2 HUB2 HRB2 HN HN3
    have ha := stepB (below_new w3 (.cells #[.pointer (some ⟨bp, 0, none⟩)] 25)) (below_new (w3.alloc (.cells #[.pointer (some ⟨bp, 0, none⟩)] 25)) (.cells #[.pointer (some ⟨bq, 0, none⟩)] 25))
    have hcp := (HdAt.new w3 (.pointer (some ⟨bp, 0, none⟩)) 25).later (below_new (w3.alloc (.cells #[.pointer (some ⟨bp, 0, none⟩)] 25)) (.cells #[.pointer (some ⟨bq, 0, none⟩)] 25))
    have hcq := HdAt.new (w3.alloc (.cells #[.pointer (some ⟨bp, 0, none⟩)] 25)) (.pointer (some ⟨bq, 0, none⟩)) 25
    rw [World.size_alloc] at hcq
    have hLi := list_any (HP3.out.later ha) (by have := HLL.out; omega)
    gi_wp2_with fail
    obtain ⟨wA, hwA⟩ : ∃ wA, (w3.alloc (.cells #[.pointer (some ⟨bp, 0, none⟩)] 25)).alloc (.cells #[.pointer (some ⟨bq, 0, none⟩)] 25) = wA := ⟨_, rfl⟩
    have hsz : wA.heap.size = w3.heap.size + 2 := by rw [← hwA]; simp
    rw [hwA] at ha hcp hcq hLi ⊢
    refine ⟨trivial, (callsIn_wide.2 hLi).mono ?_⟩
    rintro e w4 ⟨wv, rfl, ho4, hb4⟩
    have hi4 := own_ints ho4
    have hrow4 := World.ownsRow.lt ho4
    obtain ⟨xa, xc, rfl⟩ := hi4.form
    have HI4 := Lib.hid hi4
    have HR4 := Lib.hid hrow4
    have HA := Lib.hid ha
    have HA4 := Lib.hid (stepB ha hb4)
    have HCP := Lib.hid (hcp.later hb4)
    have HCQ := Lib.hid (hcq.later hb4)
    have HSZ := Lib.hid hsz
    have c4 := (hcp.later hb4).cell
    clear hi4 hrow4 ho4 hb4 ha hcp hcq hsz hLi hwA
    gi_wp2_with fail
    refine ⟨trivial, (callsIn_wide.2 (where_any (some ⟨bp, 0, none⟩) 36 #[] w4)).mono ?_⟩
    rintro e w5 ⟨rfl, hf5, hp5, hb5⟩
    have HB5 := Lib.hid (stepB HA4.out hb5)
    have HF5 := Lib.hid hf5
    have HPB5 := Lib.hid hp5
    have HI5 := Lib.hid (HI4.out.later hb5)
    have HS5 := Lib.hid hb5.size
    have hP := (HP3.out.later HB5.out).mono (lo' := w1.heap.size) (by omega)
    have hQ := (HQ3.out.later HB5.out).mono (lo' := w1.heap.size) (by have := HLT.out; have := HLQ.out; omega)
    have hw1 : w.heap.size + 2 ≤ w1.heap.size := by have := HRB.out.lt; omega
    have rP := HP3.out.row
    have rQ := HQ3.out.row
    have HW1 := Lib.hid hw1
    have HKS : Hid (Boxes (fun k => k = bp ∨ k = bq) [(w.heap.size, .bool u), (w.heap.size + 1, .bool false), (w3.heap.size, .pointer (some ⟨bp, 0, none⟩)), (w3.heap.size + 1, .pointer (some ⟨bq, 0, none⟩))] w5) := Lib.hid (fun q hq => by
      have h1 := HLT.out
      have h2 := HLQ.out
      simp only [List.mem_cons, List.not_mem_nil, or_false] at hq
      rcases hq with rfl | rfl | rfl | rfl
      · exact ⟨HUB3.out.later HB5.out, off_two hP hQ (by simp only; omega) (by simp only; omega) (fun e => by have := hP.row _ e; simp only at *; omega) (fun e => by have := hQ.row _ e; simp only at *; omega)⟩
      · exact ⟨HRB3.out.later HB5.out, off_two hP hQ (by simp only; omega) (by simp only; omega) (fun e => by have := hP.row _ e; simp only at *; omega) (fun e => by have := hQ.row _ e; simp only at *; omega)⟩
      · exact ⟨HCP.out.later hb5, off_two hP hQ (by simp only; omega) (by simp only; omega) (fun e => by have := rP _ e; simp only at *; omega) (fun e => by have := rQ _ e; simp only at *; omega)⟩
      · exact ⟨HCQ.out.later hb5, off_two hP hQ (by simp only; omega) (by simp only; omega) (fun e => by have := rP _ e; simp only at *; omega) (fun e => by have := rQ _ e; simp only at *; omega)⟩)
    have HKF : Hid (Boxes (fun k => k = bp ∨ k = bq) [(w4.heap.size + 1, .func (.func 36) #[] #[])] w5) := Lib.hid (fun q hq => by
      have h1 := HLT.out
      have h2 := HLQ.out
      have h3 := HSZ.out
      have h4 := HA4.out.size
      simp only [List.mem_cons, List.not_mem_nil, or_false] at hq
      subst hq
      exact ⟨hf5, off_two hP hQ (by simp only; omega) (by simp only; omega) (fun e => by have := rP _ e; simp only at *; omega) (fun e => by have := rQ _ e; simp only at *; omega)⟩)
    have HOW : Hid (∀ k, (Value.slice xa L.length xc).ownBlock = some k → k < w5.heap.size ∧ Off (fun k => k = bp ∨ k = bq) w5 k) := Lib.hid (fun k hk => by
      have h1 := HLT.out
      have h2 := HLQ.out
      have h3 := HSZ.out
      have h4 := HR4.out k hk
      have h5 := HS5.out
      exact ⟨by omega, off_two hP hQ (by omega) (by omega) (fun e => by have := rP _ e; omega) (fun e => by have := rQ _ e; omega)⟩)
    have HP5 := Lib.hid hP
    have HQ5 := Lib.hid hQ
    have HBW := Lib.hid (stepB HB3.out HB5.out)
    have HFL := Lib.hid (filter_all L)
    clear hP hQ hw1 rP rQ hf5 hp5 hb5 c4
    gi_wp2_with fail
    have HSEQ := Lib.hid (where_seq 5 (by omega) (w := w5) (c1 := w4.heap.size + 1) (f := fun _ => true) (fun _ => False) (fun k => k = bp ∨ k = bq) [(w4.heap.size + 1, .func (.func 36) #[] #[])] (fun _ e => e.elim) HPB5.out HKF.out (by simp) (fun _ _ e => e) HP5.out (by have := HLL.out; omega) (heads_two HP5.out HQ5.out) (fun x w' _ => so_turns x w'))
    rw [HFL.out] at HSEQ
    have hIo : OwnFrom w5.heap.size (TurnsI u w1.heap.size bp bq [(w.heap.size, .bool u), (w.heap.size + 1, .bool false), (w3.heap.size, .pointer (some ⟨bp, 0, none⟩)), (w3.heap.size + 1, .pointer (some ⟨bq, 0, none⟩))] (.slice xa L.length xc) L w) := turnsI_own HBW.out.size
    refine range_world rfl (by omega) (gf := 45) (lb := #[.pointer (some ⟨w4.heap.size + 1, 0, none⟩), .pointer (some ⟨w4.heap.size, 0, none⟩)]) rfl trivial (fun _ _ => by kernel_rfl) HSEQ.out KpP.trans (fun W' o o' ho hc _ => KpP.put o' (.inr rfl) ho hc) (Below.refl _ _) (fun _ => rfl)
      (TurnsI u w1.heap.size bp bq [(w.heap.size, .bool u), (w.heap.size + 1, .bool false), (w3.heap.size, .pointer (some ⟨bp, 0, none⟩)), (w3.heap.size + 1, .pointer (some ⟨bq, 0, none⟩))] (.slice xa L.length xc) L w)
      (fun _ _ _ => False) hIo (fun c s A B row hs hg hr => hs) (fun s A B row hs hg hr => hs) (fun s A B row hs hg hr => hs)
      ⟨⟨gp, gq, by simpa using HP5.out, by simpa [turnedL, onceL] using HQ5.out, HS3.out⟩, HKS.out, HI5.out, HOW.out, HBW.out⟩ ?a1 ?assign ?body ?done ?stop
    case assign =>
      intro l' x W' K hK
      simp only [encW]
      gi_wp2
      exact hK
    case stop =>
      rintro D c pre W' hD hS hI hK
      exact hI.elim
    case body =>
      rintro pre x W' ⟨⟨g1, g2, p1, q1, s1⟩, hks, hwi, how, hbw⟩ hT hsz
      have hd0 : L.drop pre.length = x :: L.drop (pre ++ [x]).length := by
        obtain ⟨r, hr⟩ := hT
        rw [← hr]
        simp
      have hxp : x ∉ pre := by
        obtain ⟨r, hr⟩ := hT
        have h := HND.out
        rw [← hr, List.append_assoc] at h
        exact fun e => (List.nodup_append.1 h).2.2 x e x (by simp) rfl
      have hpl : pre.length ≤ 60 := by have h1 := hT.length_le; have h2 := HLL.out; rw [List.length_append] at h1; omega
      obtain ⟨r, hr⟩ : ∃ r, L.drop (pre ++ [x]).length = r := ⟨_, rfl⟩
      have hrl : r.length ≤ 60 := by rw [← hr]; have := HLL.out; simp; omega
      rw [hd0, hr] at p1
      have e1 : (x :: r).erase x = r := by simp
      have hxq : x ∉ turnedL u pre := by rw [turned_mem]; exact hxp
      have ht1 := turn_yes x u p1 q1 s1 (by simp; omega) (by rw [turned_len]; omega) (by unfold turnB; simp [hxq])
      rw [e1, ← turned_snoc] at ht1
      have c1 := (hks (w.heap.size, .bool u) (by simp)).1.cell
      have c2 := (hks (w3.heap.size, .pointer (some ⟨bp, 0, none⟩)) (by simp)).1.cell
      have c3 := (hks (w3.heap.size + 1, .pointer (some ⟨bq, 0, none⟩)) (by simp)).1.cell
      simp only at c1 c2 c3
      have HT1 := Lib.hid ht1
      have HR := Lib.hid hr
      have HP1 := Lib.hid p1
      have HQ1 := Lib.hid q1
      have HKS' := Lib.hid hks
      have HWI := Lib.hid hwi
      have HOW' := Lib.hid how
      have HBW' := Lib.hid hbw
      have HRL := Lib.hid (And.intro hrl hpl)
      clear ht1 hd0 hxp hpl hr hrl p1 q1 s1 e1 hxq hks hwi how hbw hT hIo
      gi_wp2_with fail
      refine ⟨trivial, ?_⟩
      refine CallsIn.mono (F := Fence.wide) (callsIn_wide.2 HT1.out) ?_
      rintro e w6 ⟨g3, rfl, p2, q2, s2, ch2, n2⟩
      have ht2 := turn_no x u p2 q2 s2 (by have := HRL.out; omega) (by rw [turned_len, List.length_append]; have := HRL.out; simp; omega) (by unfold turnB; rw [turned_snoc]; cases u <;> simp)
      have HP2 := Lib.hid p2
      have HQ2 := Lib.hid q2
      have HC2 := Lib.hid ch2
      have HN2 := Lib.hid n2
      have HT2 := Lib.hid ht2
      have hk2 := KpP.of_chg2 (E := fun _ => False) (H := fun k => k = bp ∨ k = bq) ch2 HP1.out p2 (.inl rfl) (.inl rfl) HQ1.out q2 n2 (.inr rfl) (fun d hd h1 h2 => by rcases hd with e | e; exact absurd e h1; exact absurd e h2)
      have hks2 := HKS'.out.kept hk2 (fun _ _ e => e)
      have c1' := (hks2 (w.heap.size, .bool u) (by simp)).1.cell
      have c2' := (hks2 (w3.heap.size, .pointer (some ⟨bp, 0, none⟩)) (by simp)).1.cell
      have c3' := (hks2 (w3.heap.size + 1, .pointer (some ⟨bq, 0, none⟩)) (by simp)).1.cell
      simp only at c1' c2' c3'
      clear p2 q2 s2 ch2 n2 ht2 hk2 hks2 c1 c2 c3
      dsimp only
      gi_wp2_with fail
      refine ⟨trivial, ?_⟩
      refine CallsIn.mono (F := Fence.wide) (callsIn_wide.2 HT2.out) ?_
      rintro e w7 ⟨g4, rfl, p3, q3, s3, ch3, n3⟩
      have hst := TurnsI.step (A := w) (Nat.le_trans (by omega) HW1.out) HKS'.out HWI.out HOW'.out HBW'.out HR.out HP1.out HQ1.out HP2.out HQ2.out HC2.out HN2.out p3 q3 s3 ch3 n3
      have HST := Lib.hid hst
      clear p3 q3 s3 ch3 n3 hst c1' c2' c3'
      dsimp only
      gi_wp2
      exact ⟨HST.out.1.from (fun k e => e.elim), HST.out.1.mono (fun k h => .inl h), HST.out.2⟩
    case done =>
      rintro D xs W' hD rfl ⟨⟨g1, g2, p1, q1, s1⟩, hks, hwi, how, hbw⟩ hK
      rw [List.drop_of_length_le (Nat.le_refl _)] at p1
      have c1 := (hks (w.heap.size, .bool u) (by simp)).1.cell
      have c2 := (hks (w3.heap.size, .pointer (some ⟨bp, 0, none⟩)) (by simp)).1.cell
      have c3 := (hks (w3.heap.size + 1, .pointer (some ⟨bq, 0, none⟩)) (by simp)).1.cell
      have hrb := (hks (w.heap.size + 1, .bool false) (by simp)).1
      simp only at c1 c2 c3 hrb
      have hl1 := len_any p1
      rw [show ((([] : List Int).length : Nat) : Int) = 0 from rfl] at hl1
      have hl2 := len_any q1
      rw [turned_len] at hl2
      have HL1 := Lib.hid hl1
      have HL2 := Lib.hid hl2
      have HQ1 := Lib.hid q1
      have HWI := Lib.hid hwi
      have HRB' := Lib.hid hrb
      have HBW' := Lib.hid hbw
      have HK := Lib.hid hK
      have HD := Lib.hid hD
      clear hks hwi how hbw hK hD p1 q1 s1 hrb hIo hl1 hl2
      gi_wp2_with fail
      refine ⟨trivial, ?_⟩
      refine CallsIn.mono (F := Fence.wide) (callsIn_wide.2 HL1.out) ?_
      rintro e w6 ⟨rfl, rfl⟩
      have e0 : ((0 : Int) != 0) = false := rfl
      have e1 : ((xs.length : Int) != (xs.length : Int)) = false := by simp
      dsimp only
      gi_wp2_with fail
      refine ⟨trivial, ?_⟩
      refine CallsIn.mono (F := Fence.wide) (callsIn_wide.2 HL2.out) ?_
      rintro e w7 ⟨rfl, rfl⟩
      clear e0
      dsimp only
      gi_wp2
      clear e1 HL1 HL2
      gi_loopw [52] (fun i wr => ∃ k : Nat, k ≤ xs.length ∧ i = .int .i64 k ∧ wr = w7) (fun i _ => xs.length - (intOf i).toNat)
      case atStart => exact ⟨0, Nat.zero_le _, rfl, rfl⟩
      case round =>
        obtain ⟨k, hk, rfl, rfl⟩ := hrel
        have hlen := HLL.out
        by_cases hlt : k < xs.length
        · obtain ⟨r, off, hxa, hr, c5⟩ := HWI.out.at k hlt
          obtain ⟨x, hx⟩ : ∃ x, xs[k] = x := ⟨_, rfl⟩
          rw [hx] at c5
          subst hxa
          have e2 : (x != x) = false := by simp
          have d1 : decide ((k : Int) < (xs.length : Int)) = true := decide_eq_true (by omega)
          cases u with
          | true =>
            have hat := at_in HQ1.out (k := k) (by rw [turned_len]; exact hlt)
            rw [turned_at true xs k hlt k rfl, hx] at hat
            have HAT := Lib.hid hat
            clear hat hx
            gi_wp2_with fail
            refine ⟨trivial, ?_⟩
            refine CallsIn.mono (F := Fence.wide) (callsIn_wide.2 HAT.out) ?_
            rintro e w8 ⟨rfl, rfl⟩
            dsimp only
            gi_wp2
            go_roundw
            case rel => exact ⟨k + 1, by omega, by go_num, trivial⟩
            case measure => simp [intOf]; omega
          | false =>
            have hat := at_in HQ1.out (k := xs.length - 1 - k) (by rw [turned_len]; omega)
            rw [turned_at false xs k hlt (xs.length - 1 - k) rfl, hx, show ((xs.length - 1 - k : Nat) : Int) = (xs.length : Int) - 1 - (k : Int) by omega] at hat
            have HAT := Lib.hid hat
            clear hat hx
            gi_wp2_with fail
            refine ⟨trivial, ?_⟩
            refine CallsIn.mono (F := Fence.wide) (callsIn_wide.2 HAT.out) ?_
            rintro e w8 ⟨rfl, rfl⟩
            dsimp only
            gi_wp2
            go_roundw
            case rel => exact ⟨k + 1, by omega, by go_num, trivial⟩
            case measure => simp [intOf]; omega
        · have d1 : decide ((k : Int) < (xs.length : Int)) = false := decide_eq_false (by omega)
          have c6 := HRB'.out.cell
          have f6 := HRB'.out.frozen
          have HR := Lib.hid (HRB'.out.set (.bool true))
          have HB7 := Lib.hid (HBW'.out.setCell (p := ⟨w.heap.size + 1, 0, none⟩) (by show w.heap.size ≤ w.heap.size + 1; omega) (.bool true))
          have hDn : D ≠ w.heap.size + 1 := by have := HD.out; have := HBW.out.size; have := HRB.out.lt; have := HB5.out.size; have := HB3.out.size; have := HRB3.out.lt; omega
          have HK7 := Lib.hid ((heap_setCell_other wr ⟨w.heap.size + 1, 0, none⟩ D (.bool true) hDn).trans HK.out)
          have HR7 := Lib.hid (HR.out.of (World.putObj_heap_other (o := .deferred none) (Ne.symm hDn)))
          gi_wp2
          refine ⟨by simp, .inl ⟨_, _, rfl, run_takeDeferred HK7.out, ?_⟩⟩
          exact ⟨_, results_box rfl rfl HR7.out, rfl, below_put _ HB7.out (by have := HD.out; have := HBW.out.size; omega) HK7.out rfl⟩
end Go.Proofs.Ytphcdeppilaceaa

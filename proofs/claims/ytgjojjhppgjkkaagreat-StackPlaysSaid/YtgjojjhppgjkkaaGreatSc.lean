/- What changes a creature (layer 8): Hurt, Count, Boost. -/
import Derived.Test.YtgjojjhppgjkkaaGreatSb
import Derived.Test.YtgjojjhppgjkkaaGreatJe
namespace Go.Proofs.YtgjojjhppgjkkaaGreat
open Go.RowKit Go.Maps

def hurtO (o : ObjL) (n : Int) : ObjL := ⟨o.id, o.card, o.owner, o.zone, o.tapped, o.sick, raiseZ o.hurt n, o.count, o.boost, o.block, o.attacks⟩
def countO (o : ObjL) (n : Int) : ObjL := ⟨o.id, o.card, o.owner, o.zone, o.tapped, o.sick, o.hurt, addZ o.count n, o.boost, o.block, o.attacks⟩
def boostO (o : ObjL) (n : Int) : ObjL := ⟨o.id, o.card, o.owner, o.zone, o.tapped, o.sick, o.hurt, o.count, addZ o.boost n, o.block, o.attacks⟩
set_option maxRecDepth 100000 in
set_option maxHeartbeats 4000000 in
theorem hurtFn {w : World} {q g : Nat} {h n : Int} (hq : w.cell? ⟨q, 6, none⟩ = some (.int .i64 h)) (hf : w.frozen? ⟨q, 6, none⟩ = false) (hg : w.cell? ⟨g, 0, none⟩ = some (.int .i64 n)) :
    Calls Tryz.prog 131 #[.pointer (some ⟨q, 0, none⟩), .pointer (some ⟨g, 0, none⟩)] w (fun e w' => e = .returned (.tuple #[]) ∧ w' = (w.setCell ⟨q, 6, none⟩ (.int .i64 (raiseZ h n))).drew) := by
  have HC := Lib.hid (raise_any h n)
  go_enter Tryz.func131, Tryz.ntmps131
  go_wp2
  go_region_with ((go_at_call 132; refine (HC.out _).mono ?_; rintro e w1 ⟨rfl, rfl⟩; dsimp only))
  all_goals
    go_wp2
    exact bodyPost_end (v := .tuple #[]) (by simp [results, Tryz.results131, go_sem]) rfl ⟨rfl, rfl⟩
set_option maxRecDepth 100000 in
set_option maxHeartbeats 4000000 in
theorem countFn {w : World} {q g : Nat} {h n : Int} (hq : w.cell? ⟨q, 7, none⟩ = some (.int .i64 h)) (hf : w.frozen? ⟨q, 7, none⟩ = false) (hg : w.cell? ⟨g, 0, none⟩ = some (.int .i64 n)) :
    Calls Tryz.prog 116 #[.pointer (some ⟨q, 0, none⟩), .pointer (some ⟨g, 0, none⟩)] w (fun e w' => e = .returned (.tuple #[]) ∧ w' = (w.setCell ⟨q, 7, none⟩ (.int .i64 (addZ h n))).drew) := by
  have HC := Lib.hid (add_any h n)
  go_enter Tryz.func116, Tryz.ntmps116
  go_wp2
  go_region_with ((go_at_call 93; refine (HC.out _).mono ?_; rintro e w1 ⟨rfl, rfl⟩; dsimp only))
  all_goals
    go_wp2
    exact bodyPost_end (v := .tuple #[]) (by simp [results, Tryz.results116, go_sem]) rfl ⟨rfl, rfl⟩
set_option maxRecDepth 100000 in
set_option maxHeartbeats 4000000 in
theorem boostFn {w : World} {q g : Nat} {h n : Int} (hq : w.cell? ⟨q, 8, none⟩ = some (.int .i64 h)) (hf : w.frozen? ⟨q, 8, none⟩ = false) (hg : w.cell? ⟨g, 0, none⟩ = some (.int .i64 n)) :
    Calls Tryz.prog 115 #[.pointer (some ⟨q, 0, none⟩), .pointer (some ⟨g, 0, none⟩)] w (fun e w' => e = .returned (.tuple #[]) ∧ w' = (w.setCell ⟨q, 8, none⟩ (.int .i64 (addZ h n))).drew) := by
  have HC := Lib.hid (add_any h n)
  go_enter Tryz.func115, Tryz.ntmps115
  go_wp2
  go_region_with ((go_at_call 93; refine (HC.out _).mono ?_; rintro e w1 ⟨rfl, rfl⟩; dsimp only))
  all_goals
    go_wp2
    exact bodyPost_end (v := .tuple #[]) (by simp [results, Tryz.results115, go_sem]) rfl ⟨rfl, rfl⟩
set_option maxRecDepth 100000 in
set_option maxHeartbeats 4000000 in
theorem change_out {w : World} {p : Option Addr} {i n : Int} {f : Value} (hn : n ≠ 0) (h : Calls Tryz.prog 129 #[.pointer p, .int .i64 i] w (RetCre w zeroO zeroC n)) :
    Calls Tryz.prog 114 #[.pointer p, .int .i64 i, f] w (RetV w (.int .i64 n)) := by
  have H := Lib.hid h
  have e0 : (n != 0) = true := bne_iff_ne.2 hn
  unfold RetCre Crd.cagg oagg zeroO zeroC at H
  dsimp only at H
  clear h hn
  go_enter Tryz.func114, Tryz.ntmps114
  go_wp2_with fail
  refine H.out.mono ?_
  rintro e w1 ⟨xa, xc, rfl, hb1⟩
  dsimp only
  go_wp2
  go_ret
  exact ⟨rfl, below_alloc2 (below_alloc2 hb1 _) _⟩
set_option maxRecDepth 100000 in
set_option maxHeartbeats 4000000 in
theorem change_hurt {w : World} {lo b : Nat} {G : Ghost} {S : StoreL} (h : StoreAt w lo b G S) (hS : S.objs.length ≤ 1000) (k m : Nat) (hk : k < S.objs.length) (hm : m < S.T.length) (hc : S.objs[k].card = m) (hz : S.objs[k].zone = 3) (hd : S.T[m].kind = 2)
    (hi : S.objs[k].id = (k : Int) + 1) (g : Nat) (n : Int) (hg : w.cell? ⟨g, 0, none⟩ = some (.int .i64 n)) :
    Calls Tryz.prog 114 #[.pointer (some ⟨b, 0, none⟩), .int .i64 ((k : Int) + 1), .func (.func 131) #[] #[.pointer (some ⟨g, 0, none⟩)]] w (RetS w lo b G (setL S k (hurtO S.objs[k] n)) (.int .i64 0)) := by
  have HC := Lib.hid ((creature_in h hS k m hk hm hc).1 hz hd)
  have HF := Lib.hid (fun (w' : World) (q : Nat) (x : Int) => @hurtFn w' q g x n)
  obtain ⟨x, hx⟩ : ∃ x, S.objs[k] = x := ⟨_, rfl⟩
  have HST := Lib.hid (fun (w' : World) (hb : Below w.heap.size w w') (y : ObjL) (h0 : y.id = (k : Int) + 1) (h1 : y.card = x.card) (h2 : y.owner = x.owner) (h3 : y.zone = x.zone) =>
    set_any (h.later hb) hS k hk y h0 (h1.trans (by rw [hx])) (h2.trans (by rw [hx])) (h3.trans (by rw [hx])))
  obtain ⟨c, hcq⟩ : ∃ c, S.T[m] = c := ⟨_, rfl⟩
  rw [hcq] at HC
  rw [hx] at HC hz hi ⊢
  obtain ⟨x0, x1, x2, x3, x4, x5, x6, x7, x8, x9, x10⟩ := x
  obtain ⟨d0, d1, d2, d3, d4, d5, dt⟩ := c
  dsimp only at hz hi
  subst hz hi
  unfold RetCre Crd.cagg oagg at HC
  unfold setL hurtO
  dsimp only at HC ⊢
  have HG := Lib.hid hg
  clear h hx hS hcq hc hd hm hg
  go_enter Tryz.func114, Tryz.ntmps114
  go_wp2_with fail
  refine HC.out.mono ?_
  rintro e w1 ⟨xa, xc, rfl, hb1⟩
  have HB1 := Lib.hid hb1
  have kg := cell_stays (stepB (stepB hb1 (below_new w1 (.cells #[.int .i64 ((k : Int) + 1), .int .i64 x1, .int .i64 x2, .int .i64 3, .bool x4, .bool x5, .int .i64 x6, .int .i64 x7, .int .i64 x8, .int .i64 x9, .bool x10] 35))) (below_new _ (.cells #[.int .i64 d0, .int .i64 d1, .int .i64 d2, .int .i64 d3, .int .i64 d4, .int .i64 d5, .slice xa dt.length xc] 45))) HG.out
  have p0 : ((w1.alloc (.cells #[.int .i64 ((k : Int) + 1), .int .i64 x1, .int .i64 x2, .int .i64 3, .bool x4, .bool x5, .int .i64 x6, .int .i64 x7, .int .i64 x8, .int .i64 x9, .bool x10] 35)).alloc (.cells #[.int .i64 d0, .int .i64 d1, .int .i64 d2, .int .i64 d3, .int .i64 d4, .int .i64 d5, .slice xa dt.length xc] 45)).cell? ⟨w1.heap.size, 0, none⟩ = some (.int .i64 ((k : Int) + 1)) := by simp [go_sem]
  have p1 : ((w1.alloc (.cells #[.int .i64 ((k : Int) + 1), .int .i64 x1, .int .i64 x2, .int .i64 3, .bool x4, .bool x5, .int .i64 x6, .int .i64 x7, .int .i64 x8, .int .i64 x9, .bool x10] 35)).alloc (.cells #[.int .i64 d0, .int .i64 d1, .int .i64 d2, .int .i64 d3, .int .i64 d4, .int .i64 d5, .slice xa dt.length xc] 45)).cell? ⟨w1.heap.size, 1, none⟩ = some (.int .i64 x1) := by simp [go_sem]
  have p2 : ((w1.alloc (.cells #[.int .i64 ((k : Int) + 1), .int .i64 x1, .int .i64 x2, .int .i64 3, .bool x4, .bool x5, .int .i64 x6, .int .i64 x7, .int .i64 x8, .int .i64 x9, .bool x10] 35)).alloc (.cells #[.int .i64 d0, .int .i64 d1, .int .i64 d2, .int .i64 d3, .int .i64 d4, .int .i64 d5, .slice xa dt.length xc] 45)).cell? ⟨w1.heap.size, 2, none⟩ = some (.int .i64 x2) := by simp [go_sem]
  have p3 : ((w1.alloc (.cells #[.int .i64 ((k : Int) + 1), .int .i64 x1, .int .i64 x2, .int .i64 3, .bool x4, .bool x5, .int .i64 x6, .int .i64 x7, .int .i64 x8, .int .i64 x9, .bool x10] 35)).alloc (.cells #[.int .i64 d0, .int .i64 d1, .int .i64 d2, .int .i64 d3, .int .i64 d4, .int .i64 d5, .slice xa dt.length xc] 45)).cell? ⟨w1.heap.size, 3, none⟩ = some (.int .i64 3) := by simp [go_sem]
  have p4 : ((w1.alloc (.cells #[.int .i64 ((k : Int) + 1), .int .i64 x1, .int .i64 x2, .int .i64 3, .bool x4, .bool x5, .int .i64 x6, .int .i64 x7, .int .i64 x8, .int .i64 x9, .bool x10] 35)).alloc (.cells #[.int .i64 d0, .int .i64 d1, .int .i64 d2, .int .i64 d3, .int .i64 d4, .int .i64 d5, .slice xa dt.length xc] 45)).cell? ⟨w1.heap.size, 4, none⟩ = some (.bool x4) := by simp [go_sem]
  have p5 : ((w1.alloc (.cells #[.int .i64 ((k : Int) + 1), .int .i64 x1, .int .i64 x2, .int .i64 3, .bool x4, .bool x5, .int .i64 x6, .int .i64 x7, .int .i64 x8, .int .i64 x9, .bool x10] 35)).alloc (.cells #[.int .i64 d0, .int .i64 d1, .int .i64 d2, .int .i64 d3, .int .i64 d4, .int .i64 d5, .slice xa dt.length xc] 45)).cell? ⟨w1.heap.size, 5, none⟩ = some (.bool x5) := by simp [go_sem]
  have p6 : ((w1.alloc (.cells #[.int .i64 ((k : Int) + 1), .int .i64 x1, .int .i64 x2, .int .i64 3, .bool x4, .bool x5, .int .i64 x6, .int .i64 x7, .int .i64 x8, .int .i64 x9, .bool x10] 35)).alloc (.cells #[.int .i64 d0, .int .i64 d1, .int .i64 d2, .int .i64 d3, .int .i64 d4, .int .i64 d5, .slice xa dt.length xc] 45)).cell? ⟨w1.heap.size, 6, none⟩ = some (.int .i64 x6) := by simp [go_sem]
  have p7 : ((w1.alloc (.cells #[.int .i64 ((k : Int) + 1), .int .i64 x1, .int .i64 x2, .int .i64 3, .bool x4, .bool x5, .int .i64 x6, .int .i64 x7, .int .i64 x8, .int .i64 x9, .bool x10] 35)).alloc (.cells #[.int .i64 d0, .int .i64 d1, .int .i64 d2, .int .i64 d3, .int .i64 d4, .int .i64 d5, .slice xa dt.length xc] 45)).cell? ⟨w1.heap.size, 7, none⟩ = some (.int .i64 x7) := by simp [go_sem]
  have p8 : ((w1.alloc (.cells #[.int .i64 ((k : Int) + 1), .int .i64 x1, .int .i64 x2, .int .i64 3, .bool x4, .bool x5, .int .i64 x6, .int .i64 x7, .int .i64 x8, .int .i64 x9, .bool x10] 35)).alloc (.cells #[.int .i64 d0, .int .i64 d1, .int .i64 d2, .int .i64 d3, .int .i64 d4, .int .i64 d5, .slice xa dt.length xc] 45)).cell? ⟨w1.heap.size, 8, none⟩ = some (.int .i64 x8) := by simp [go_sem]
  have p9 : ((w1.alloc (.cells #[.int .i64 ((k : Int) + 1), .int .i64 x1, .int .i64 x2, .int .i64 3, .bool x4, .bool x5, .int .i64 x6, .int .i64 x7, .int .i64 x8, .int .i64 x9, .bool x10] 35)).alloc (.cells #[.int .i64 d0, .int .i64 d1, .int .i64 d2, .int .i64 d3, .int .i64 d4, .int .i64 d5, .slice xa dt.length xc] 45)).cell? ⟨w1.heap.size, 9, none⟩ = some (.int .i64 x9) := by simp [go_sem]
  have p10 : ((w1.alloc (.cells #[.int .i64 ((k : Int) + 1), .int .i64 x1, .int .i64 x2, .int .i64 3, .bool x4, .bool x5, .int .i64 x6, .int .i64 x7, .int .i64 x8, .int .i64 x9, .bool x10] 35)).alloc (.cells #[.int .i64 d0, .int .i64 d1, .int .i64 d2, .int .i64 d3, .int .i64 d4, .int .i64 d5, .slice xa dt.length xc] 45)).cell? ⟨w1.heap.size, 10, none⟩ = some (.bool x10) := by simp [go_sem]
  have pf : ((w1.alloc (.cells #[.int .i64 ((k : Int) + 1), .int .i64 x1, .int .i64 x2, .int .i64 3, .bool x4, .bool x5, .int .i64 x6, .int .i64 x7, .int .i64 x8, .int .i64 x9, .bool x10] 35)).alloc (.cells #[.int .i64 d0, .int .i64 d1, .int .i64 d2, .int .i64 d3, .int .i64 d4, .int .i64 d5, .slice xa dt.length xc] 45)).frozen? ⟨w1.heap.size, 6, none⟩ = false := by simp [go_sem]
  clear hb1
  dsimp only
  go_wp2_with fail
  refine (HF.out _ _ _ p6 pf kg).mono ?_
  rintro e w2 ⟨rfl, rfl⟩
  have HB2 := Lib.hid ((below_alloc2 (below_alloc2 HB1.out (.cells #[.int .i64 ((k : Int) + 1), .int .i64 x1, .int .i64 x2, .int .i64 3, .bool x4, .bool x5, .int .i64 (raiseZ x6 n), .int .i64 x7, .int .i64 x8, .int .i64 x9, .bool x10] 35)) (.cells #[.int .i64 d0, .int .i64 d1, .int .i64 d2, .int .i64 d3, .int .i64 d4, .int .i64 d5, .slice xa dt.length xc] 45)).drew)
  dsimp only
  go_wp2_with fail
  refine (HST.out _ HB2.out ⟨(k : Int) + 1, x1, x2, 3, x4, x5, raiseZ x6 n, x7, x8, x9, x10⟩ rfl rfl rfl rfl).mono ?_
  rintro e w3 ⟨rfl, G', h1, h2⟩
  dsimp only
  go_wp2
  go_ret
  exact ⟨rfl, G', h1, (Turned.of_below HB2.out).trans h2⟩

set_option maxRecDepth 100000 in
set_option maxHeartbeats 4000000 in
theorem hurt_ok {w : World} {lo b : Nat} {G : Ghost} {S : StoreL} (h : StoreAt w lo b G S) (hS : S.objs.length ≤ 1000) (k m : Nat) (hk : k < S.objs.length) (hm : m < S.T.length) (hc : S.objs[k].card = m) (hz : S.objs[k].zone = 3) (hd : S.T[m].kind = 2)
    (hi : S.objs[k].id = (k : Int) + 1) (n : Int) :
    Calls Tryz.prog 113 #[.pointer (some ⟨b, 0, none⟩), .int .i64 ((k : Int) + 1), .int .i64 n] w (RetS w lo b G (setL S k (hurtO S.objs[k] n)) (.int .i64 0)) := by
  have HC := Lib.hid (change_hurt (h.later (below_new w (.cells #[.int .i64 n] 3))) hS k m hk hm hc hz hd hi w.heap.size n (by simp [go_sem]))
  have HB := Lib.hid (Turned.of_below (G := G) (below_new w (.cells #[.int .i64 n] 3)))
  have hmf := @mk_func
  clear h hm hc hz hd hi hS
  go_enter Tryz.func113, Tryz.ntmps113
  go_wp2_with fail
  refine HC.out.mono ?_
  rintro e w1 ⟨rfl, G', h1, h2⟩
  dsimp only
  go_wp2
  go_ret
  exact ⟨rfl, G', h1, HB.out.trans h2⟩
set_option maxRecDepth 100000 in
set_option maxHeartbeats 4000000 in
theorem hurt_out {w : World} {p : Option Addr} {i m n : Int} (hn : m ≠ 0) (h : ∀ w', Below w.heap.size w w' → Calls Tryz.prog 129 #[.pointer p, .int .i64 i] w' (RetCre w' zeroO zeroC m)) :
    Calls Tryz.prog 113 #[.pointer p, .int .i64 i, .int .i64 n] w (RetV w (.int .i64 m)) := by
  have HC := Lib.hid (fun f => change_out (f := f) hn (h _ (below_new w (.cells #[.int .i64 n] 3))))
  have hmf := @mk_func
  clear h hn
  go_enter Tryz.func113, Tryz.ntmps113
  go_wp2_with fail
  refine (HC.out _).mono ?_
  rintro e w1 ⟨rfl, hb1⟩
  dsimp only
  go_wp2
  go_ret
  exact ⟨rfl, stepB (below_new w _) hb1⟩
set_option maxRecDepth 100000 in
set_option maxHeartbeats 4000000 in
theorem change_count {w : World} {lo b : Nat} {G : Ghost} {S : StoreL} (h : StoreAt w lo b G S) (hS : S.objs.length ≤ 1000) (k m : Nat) (hk : k < S.objs.length) (hm : m < S.T.length) (hc : S.objs[k].card = m) (hz : S.objs[k].zone = 3) (hd : S.T[m].kind = 2)
    (hi : S.objs[k].id = (k : Int) + 1) (g : Nat) (n : Int) (hg : w.cell? ⟨g, 0, none⟩ = some (.int .i64 n)) :
    Calls Tryz.prog 114 #[.pointer (some ⟨b, 0, none⟩), .int .i64 ((k : Int) + 1), .func (.func 116) #[] #[.pointer (some ⟨g, 0, none⟩)]] w (RetS w lo b G (setL S k (countO S.objs[k] n)) (.int .i64 0)) := by
  have HC := Lib.hid ((creature_in h hS k m hk hm hc).1 hz hd)
  have HF := Lib.hid (fun (w' : World) (q : Nat) (x : Int) => @countFn w' q g x n)
  obtain ⟨x, hx⟩ : ∃ x, S.objs[k] = x := ⟨_, rfl⟩
  have HST := Lib.hid (fun (w' : World) (hb : Below w.heap.size w w') (y : ObjL) (h0 : y.id = (k : Int) + 1) (h1 : y.card = x.card) (h2 : y.owner = x.owner) (h3 : y.zone = x.zone) =>
    set_any (h.later hb) hS k hk y h0 (h1.trans (by rw [hx])) (h2.trans (by rw [hx])) (h3.trans (by rw [hx])))
  obtain ⟨c, hcq⟩ : ∃ c, S.T[m] = c := ⟨_, rfl⟩
  rw [hcq] at HC
  rw [hx] at HC hz hi ⊢
  obtain ⟨x0, x1, x2, x3, x4, x5, x6, x7, x8, x9, x10⟩ := x
  obtain ⟨d0, d1, d2, d3, d4, d5, dt⟩ := c
  dsimp only at hz hi
  subst hz hi
  unfold RetCre Crd.cagg oagg at HC
  unfold setL countO
  dsimp only at HC ⊢
  have HG := Lib.hid hg
  clear h hx hS hcq hc hd hm hg
  go_enter Tryz.func114, Tryz.ntmps114
  go_wp2_with fail
  refine HC.out.mono ?_
  rintro e w1 ⟨xa, xc, rfl, hb1⟩
  have HB1 := Lib.hid hb1
  have kg := cell_stays (stepB (stepB hb1 (below_new w1 (.cells #[.int .i64 ((k : Int) + 1), .int .i64 x1, .int .i64 x2, .int .i64 3, .bool x4, .bool x5, .int .i64 x6, .int .i64 x7, .int .i64 x8, .int .i64 x9, .bool x10] 35))) (below_new _ (.cells #[.int .i64 d0, .int .i64 d1, .int .i64 d2, .int .i64 d3, .int .i64 d4, .int .i64 d5, .slice xa dt.length xc] 45))) HG.out
  have p0 : ((w1.alloc (.cells #[.int .i64 ((k : Int) + 1), .int .i64 x1, .int .i64 x2, .int .i64 3, .bool x4, .bool x5, .int .i64 x6, .int .i64 x7, .int .i64 x8, .int .i64 x9, .bool x10] 35)).alloc (.cells #[.int .i64 d0, .int .i64 d1, .int .i64 d2, .int .i64 d3, .int .i64 d4, .int .i64 d5, .slice xa dt.length xc] 45)).cell? ⟨w1.heap.size, 0, none⟩ = some (.int .i64 ((k : Int) + 1)) := by simp [go_sem]
  have p1 : ((w1.alloc (.cells #[.int .i64 ((k : Int) + 1), .int .i64 x1, .int .i64 x2, .int .i64 3, .bool x4, .bool x5, .int .i64 x6, .int .i64 x7, .int .i64 x8, .int .i64 x9, .bool x10] 35)).alloc (.cells #[.int .i64 d0, .int .i64 d1, .int .i64 d2, .int .i64 d3, .int .i64 d4, .int .i64 d5, .slice xa dt.length xc] 45)).cell? ⟨w1.heap.size, 1, none⟩ = some (.int .i64 x1) := by simp [go_sem]
  have p2 : ((w1.alloc (.cells #[.int .i64 ((k : Int) + 1), .int .i64 x1, .int .i64 x2, .int .i64 3, .bool x4, .bool x5, .int .i64 x6, .int .i64 x7, .int .i64 x8, .int .i64 x9, .bool x10] 35)).alloc (.cells #[.int .i64 d0, .int .i64 d1, .int .i64 d2, .int .i64 d3, .int .i64 d4, .int .i64 d5, .slice xa dt.length xc] 45)).cell? ⟨w1.heap.size, 2, none⟩ = some (.int .i64 x2) := by simp [go_sem]
  have p3 : ((w1.alloc (.cells #[.int .i64 ((k : Int) + 1), .int .i64 x1, .int .i64 x2, .int .i64 3, .bool x4, .bool x5, .int .i64 x6, .int .i64 x7, .int .i64 x8, .int .i64 x9, .bool x10] 35)).alloc (.cells #[.int .i64 d0, .int .i64 d1, .int .i64 d2, .int .i64 d3, .int .i64 d4, .int .i64 d5, .slice xa dt.length xc] 45)).cell? ⟨w1.heap.size, 3, none⟩ = some (.int .i64 3) := by simp [go_sem]
  have p4 : ((w1.alloc (.cells #[.int .i64 ((k : Int) + 1), .int .i64 x1, .int .i64 x2, .int .i64 3, .bool x4, .bool x5, .int .i64 x6, .int .i64 x7, .int .i64 x8, .int .i64 x9, .bool x10] 35)).alloc (.cells #[.int .i64 d0, .int .i64 d1, .int .i64 d2, .int .i64 d3, .int .i64 d4, .int .i64 d5, .slice xa dt.length xc] 45)).cell? ⟨w1.heap.size, 4, none⟩ = some (.bool x4) := by simp [go_sem]
  have p5 : ((w1.alloc (.cells #[.int .i64 ((k : Int) + 1), .int .i64 x1, .int .i64 x2, .int .i64 3, .bool x4, .bool x5, .int .i64 x6, .int .i64 x7, .int .i64 x8, .int .i64 x9, .bool x10] 35)).alloc (.cells #[.int .i64 d0, .int .i64 d1, .int .i64 d2, .int .i64 d3, .int .i64 d4, .int .i64 d5, .slice xa dt.length xc] 45)).cell? ⟨w1.heap.size, 5, none⟩ = some (.bool x5) := by simp [go_sem]
  have p6 : ((w1.alloc (.cells #[.int .i64 ((k : Int) + 1), .int .i64 x1, .int .i64 x2, .int .i64 3, .bool x4, .bool x5, .int .i64 x6, .int .i64 x7, .int .i64 x8, .int .i64 x9, .bool x10] 35)).alloc (.cells #[.int .i64 d0, .int .i64 d1, .int .i64 d2, .int .i64 d3, .int .i64 d4, .int .i64 d5, .slice xa dt.length xc] 45)).cell? ⟨w1.heap.size, 6, none⟩ = some (.int .i64 x6) := by simp [go_sem]
  have p7 : ((w1.alloc (.cells #[.int .i64 ((k : Int) + 1), .int .i64 x1, .int .i64 x2, .int .i64 3, .bool x4, .bool x5, .int .i64 x6, .int .i64 x7, .int .i64 x8, .int .i64 x9, .bool x10] 35)).alloc (.cells #[.int .i64 d0, .int .i64 d1, .int .i64 d2, .int .i64 d3, .int .i64 d4, .int .i64 d5, .slice xa dt.length xc] 45)).cell? ⟨w1.heap.size, 7, none⟩ = some (.int .i64 x7) := by simp [go_sem]
  have p8 : ((w1.alloc (.cells #[.int .i64 ((k : Int) + 1), .int .i64 x1, .int .i64 x2, .int .i64 3, .bool x4, .bool x5, .int .i64 x6, .int .i64 x7, .int .i64 x8, .int .i64 x9, .bool x10] 35)).alloc (.cells #[.int .i64 d0, .int .i64 d1, .int .i64 d2, .int .i64 d3, .int .i64 d4, .int .i64 d5, .slice xa dt.length xc] 45)).cell? ⟨w1.heap.size, 8, none⟩ = some (.int .i64 x8) := by simp [go_sem]
  have p9 : ((w1.alloc (.cells #[.int .i64 ((k : Int) + 1), .int .i64 x1, .int .i64 x2, .int .i64 3, .bool x4, .bool x5, .int .i64 x6, .int .i64 x7, .int .i64 x8, .int .i64 x9, .bool x10] 35)).alloc (.cells #[.int .i64 d0, .int .i64 d1, .int .i64 d2, .int .i64 d3, .int .i64 d4, .int .i64 d5, .slice xa dt.length xc] 45)).cell? ⟨w1.heap.size, 9, none⟩ = some (.int .i64 x9) := by simp [go_sem]
  have p10 : ((w1.alloc (.cells #[.int .i64 ((k : Int) + 1), .int .i64 x1, .int .i64 x2, .int .i64 3, .bool x4, .bool x5, .int .i64 x6, .int .i64 x7, .int .i64 x8, .int .i64 x9, .bool x10] 35)).alloc (.cells #[.int .i64 d0, .int .i64 d1, .int .i64 d2, .int .i64 d3, .int .i64 d4, .int .i64 d5, .slice xa dt.length xc] 45)).cell? ⟨w1.heap.size, 10, none⟩ = some (.bool x10) := by simp [go_sem]
  have pf : ((w1.alloc (.cells #[.int .i64 ((k : Int) + 1), .int .i64 x1, .int .i64 x2, .int .i64 3, .bool x4, .bool x5, .int .i64 x6, .int .i64 x7, .int .i64 x8, .int .i64 x9, .bool x10] 35)).alloc (.cells #[.int .i64 d0, .int .i64 d1, .int .i64 d2, .int .i64 d3, .int .i64 d4, .int .i64 d5, .slice xa dt.length xc] 45)).frozen? ⟨w1.heap.size, 7, none⟩ = false := by simp [go_sem]
  clear hb1
  dsimp only
  go_wp2_with fail
  refine (HF.out _ _ _ p7 pf kg).mono ?_
  rintro e w2 ⟨rfl, rfl⟩
  have HB2 := Lib.hid ((below_alloc2 (below_alloc2 HB1.out (.cells #[.int .i64 ((k : Int) + 1), .int .i64 x1, .int .i64 x2, .int .i64 3, .bool x4, .bool x5, .int .i64 x6, .int .i64 (addZ x7 n), .int .i64 x8, .int .i64 x9, .bool x10] 35)) (.cells #[.int .i64 d0, .int .i64 d1, .int .i64 d2, .int .i64 d3, .int .i64 d4, .int .i64 d5, .slice xa dt.length xc] 45)).drew)
  dsimp only
  go_wp2_with fail
  refine (HST.out _ HB2.out ⟨(k : Int) + 1, x1, x2, 3, x4, x5, x6, addZ x7 n, x8, x9, x10⟩ rfl rfl rfl rfl).mono ?_
  rintro e w3 ⟨rfl, G', h1, h2⟩
  dsimp only
  go_wp2
  go_ret
  exact ⟨rfl, G', h1, (Turned.of_below HB2.out).trans h2⟩

set_option maxRecDepth 100000 in
set_option maxHeartbeats 4000000 in
theorem count_ok {w : World} {lo b : Nat} {G : Ghost} {S : StoreL} (h : StoreAt w lo b G S) (hS : S.objs.length ≤ 1000) (k m : Nat) (hk : k < S.objs.length) (hm : m < S.T.length) (hc : S.objs[k].card = m) (hz : S.objs[k].zone = 3) (hd : S.T[m].kind = 2)
    (hi : S.objs[k].id = (k : Int) + 1) (n : Int) :
    Calls Tryz.prog 81 #[.pointer (some ⟨b, 0, none⟩), .int .i64 ((k : Int) + 1), .int .i64 n] w (RetS w lo b G (setL S k (countO S.objs[k] n)) (.int .i64 0)) := by
  have HC := Lib.hid (change_count (h.later (below_new w (.cells #[.int .i64 n] 3))) hS k m hk hm hc hz hd hi w.heap.size n (by simp [go_sem]))
  have HB := Lib.hid (Turned.of_below (G := G) (below_new w (.cells #[.int .i64 n] 3)))
  have hmf := @mk_func
  clear h hm hc hz hd hi hS
  go_enter Tryz.func81, Tryz.ntmps81
  go_wp2_with fail
  refine HC.out.mono ?_
  rintro e w1 ⟨rfl, G', h1, h2⟩
  dsimp only
  go_wp2
  go_ret
  exact ⟨rfl, G', h1, HB.out.trans h2⟩
set_option maxRecDepth 100000 in
set_option maxHeartbeats 4000000 in
theorem count_out {w : World} {p : Option Addr} {i m n : Int} (hn : m ≠ 0) (h : ∀ w', Below w.heap.size w w' → Calls Tryz.prog 129 #[.pointer p, .int .i64 i] w' (RetCre w' zeroO zeroC m)) :
    Calls Tryz.prog 81 #[.pointer p, .int .i64 i, .int .i64 n] w (RetV w (.int .i64 m)) := by
  have HC := Lib.hid (fun f => change_out (f := f) hn (h _ (below_new w (.cells #[.int .i64 n] 3))))
  have hmf := @mk_func
  clear h hn
  go_enter Tryz.func81, Tryz.ntmps81
  go_wp2_with fail
  refine (HC.out _).mono ?_
  rintro e w1 ⟨rfl, hb1⟩
  dsimp only
  go_wp2
  go_ret
  exact ⟨rfl, stepB (below_new w _) hb1⟩
set_option maxRecDepth 100000 in
set_option maxHeartbeats 4000000 in
theorem change_boost {w : World} {lo b : Nat} {G : Ghost} {S : StoreL} (h : StoreAt w lo b G S) (hS : S.objs.length ≤ 1000) (k m : Nat) (hk : k < S.objs.length) (hm : m < S.T.length) (hc : S.objs[k].card = m) (hz : S.objs[k].zone = 3) (hd : S.T[m].kind = 2)
    (hi : S.objs[k].id = (k : Int) + 1) (g : Nat) (n : Int) (hg : w.cell? ⟨g, 0, none⟩ = some (.int .i64 n)) :
    Calls Tryz.prog 114 #[.pointer (some ⟨b, 0, none⟩), .int .i64 ((k : Int) + 1), .func (.func 115) #[] #[.pointer (some ⟨g, 0, none⟩)]] w (RetS w lo b G (setL S k (boostO S.objs[k] n)) (.int .i64 0)) := by
  have HC := Lib.hid ((creature_in h hS k m hk hm hc).1 hz hd)
  have HF := Lib.hid (fun (w' : World) (q : Nat) (x : Int) => @boostFn w' q g x n)
  obtain ⟨x, hx⟩ : ∃ x, S.objs[k] = x := ⟨_, rfl⟩
  have HST := Lib.hid (fun (w' : World) (hb : Below w.heap.size w w') (y : ObjL) (h0 : y.id = (k : Int) + 1) (h1 : y.card = x.card) (h2 : y.owner = x.owner) (h3 : y.zone = x.zone) =>
    set_any (h.later hb) hS k hk y h0 (h1.trans (by rw [hx])) (h2.trans (by rw [hx])) (h3.trans (by rw [hx])))
  obtain ⟨c, hcq⟩ : ∃ c, S.T[m] = c := ⟨_, rfl⟩
  rw [hcq] at HC
  rw [hx] at HC hz hi ⊢
  obtain ⟨x0, x1, x2, x3, x4, x5, x6, x7, x8, x9, x10⟩ := x
  obtain ⟨d0, d1, d2, d3, d4, d5, dt⟩ := c
  dsimp only at hz hi
  subst hz hi
  unfold RetCre Crd.cagg oagg at HC
  unfold setL boostO
  dsimp only at HC ⊢
  have HG := Lib.hid hg
  clear h hx hS hcq hc hd hm hg
  go_enter Tryz.func114, Tryz.ntmps114
  go_wp2_with fail
  refine HC.out.mono ?_
  rintro e w1 ⟨xa, xc, rfl, hb1⟩
  have HB1 := Lib.hid hb1
  have kg := cell_stays (stepB (stepB hb1 (below_new w1 (.cells #[.int .i64 ((k : Int) + 1), .int .i64 x1, .int .i64 x2, .int .i64 3, .bool x4, .bool x5, .int .i64 x6, .int .i64 x7, .int .i64 x8, .int .i64 x9, .bool x10] 35))) (below_new _ (.cells #[.int .i64 d0, .int .i64 d1, .int .i64 d2, .int .i64 d3, .int .i64 d4, .int .i64 d5, .slice xa dt.length xc] 45))) HG.out
  have p0 : ((w1.alloc (.cells #[.int .i64 ((k : Int) + 1), .int .i64 x1, .int .i64 x2, .int .i64 3, .bool x4, .bool x5, .int .i64 x6, .int .i64 x7, .int .i64 x8, .int .i64 x9, .bool x10] 35)).alloc (.cells #[.int .i64 d0, .int .i64 d1, .int .i64 d2, .int .i64 d3, .int .i64 d4, .int .i64 d5, .slice xa dt.length xc] 45)).cell? ⟨w1.heap.size, 0, none⟩ = some (.int .i64 ((k : Int) + 1)) := by simp [go_sem]
  have p1 : ((w1.alloc (.cells #[.int .i64 ((k : Int) + 1), .int .i64 x1, .int .i64 x2, .int .i64 3, .bool x4, .bool x5, .int .i64 x6, .int .i64 x7, .int .i64 x8, .int .i64 x9, .bool x10] 35)).alloc (.cells #[.int .i64 d0, .int .i64 d1, .int .i64 d2, .int .i64 d3, .int .i64 d4, .int .i64 d5, .slice xa dt.length xc] 45)).cell? ⟨w1.heap.size, 1, none⟩ = some (.int .i64 x1) := by simp [go_sem]
  have p2 : ((w1.alloc (.cells #[.int .i64 ((k : Int) + 1), .int .i64 x1, .int .i64 x2, .int .i64 3, .bool x4, .bool x5, .int .i64 x6, .int .i64 x7, .int .i64 x8, .int .i64 x9, .bool x10] 35)).alloc (.cells #[.int .i64 d0, .int .i64 d1, .int .i64 d2, .int .i64 d3, .int .i64 d4, .int .i64 d5, .slice xa dt.length xc] 45)).cell? ⟨w1.heap.size, 2, none⟩ = some (.int .i64 x2) := by simp [go_sem]
  have p3 : ((w1.alloc (.cells #[.int .i64 ((k : Int) + 1), .int .i64 x1, .int .i64 x2, .int .i64 3, .bool x4, .bool x5, .int .i64 x6, .int .i64 x7, .int .i64 x8, .int .i64 x9, .bool x10] 35)).alloc (.cells #[.int .i64 d0, .int .i64 d1, .int .i64 d2, .int .i64 d3, .int .i64 d4, .int .i64 d5, .slice xa dt.length xc] 45)).cell? ⟨w1.heap.size, 3, none⟩ = some (.int .i64 3) := by simp [go_sem]
  have p4 : ((w1.alloc (.cells #[.int .i64 ((k : Int) + 1), .int .i64 x1, .int .i64 x2, .int .i64 3, .bool x4, .bool x5, .int .i64 x6, .int .i64 x7, .int .i64 x8, .int .i64 x9, .bool x10] 35)).alloc (.cells #[.int .i64 d0, .int .i64 d1, .int .i64 d2, .int .i64 d3, .int .i64 d4, .int .i64 d5, .slice xa dt.length xc] 45)).cell? ⟨w1.heap.size, 4, none⟩ = some (.bool x4) := by simp [go_sem]
  have p5 : ((w1.alloc (.cells #[.int .i64 ((k : Int) + 1), .int .i64 x1, .int .i64 x2, .int .i64 3, .bool x4, .bool x5, .int .i64 x6, .int .i64 x7, .int .i64 x8, .int .i64 x9, .bool x10] 35)).alloc (.cells #[.int .i64 d0, .int .i64 d1, .int .i64 d2, .int .i64 d3, .int .i64 d4, .int .i64 d5, .slice xa dt.length xc] 45)).cell? ⟨w1.heap.size, 5, none⟩ = some (.bool x5) := by simp [go_sem]
  have p6 : ((w1.alloc (.cells #[.int .i64 ((k : Int) + 1), .int .i64 x1, .int .i64 x2, .int .i64 3, .bool x4, .bool x5, .int .i64 x6, .int .i64 x7, .int .i64 x8, .int .i64 x9, .bool x10] 35)).alloc (.cells #[.int .i64 d0, .int .i64 d1, .int .i64 d2, .int .i64 d3, .int .i64 d4, .int .i64 d5, .slice xa dt.length xc] 45)).cell? ⟨w1.heap.size, 6, none⟩ = some (.int .i64 x6) := by simp [go_sem]
  have p7 : ((w1.alloc (.cells #[.int .i64 ((k : Int) + 1), .int .i64 x1, .int .i64 x2, .int .i64 3, .bool x4, .bool x5, .int .i64 x6, .int .i64 x7, .int .i64 x8, .int .i64 x9, .bool x10] 35)).alloc (.cells #[.int .i64 d0, .int .i64 d1, .int .i64 d2, .int .i64 d3, .int .i64 d4, .int .i64 d5, .slice xa dt.length xc] 45)).cell? ⟨w1.heap.size, 7, none⟩ = some (.int .i64 x7) := by simp [go_sem]
  have p8 : ((w1.alloc (.cells #[.int .i64 ((k : Int) + 1), .int .i64 x1, .int .i64 x2, .int .i64 3, .bool x4, .bool x5, .int .i64 x6, .int .i64 x7, .int .i64 x8, .int .i64 x9, .bool x10] 35)).alloc (.cells #[.int .i64 d0, .int .i64 d1, .int .i64 d2, .int .i64 d3, .int .i64 d4, .int .i64 d5, .slice xa dt.length xc] 45)).cell? ⟨w1.heap.size, 8, none⟩ = some (.int .i64 x8) := by simp [go_sem]
  have p9 : ((w1.alloc (.cells #[.int .i64 ((k : Int) + 1), .int .i64 x1, .int .i64 x2, .int .i64 3, .bool x4, .bool x5, .int .i64 x6, .int .i64 x7, .int .i64 x8, .int .i64 x9, .bool x10] 35)).alloc (.cells #[.int .i64 d0, .int .i64 d1, .int .i64 d2, .int .i64 d3, .int .i64 d4, .int .i64 d5, .slice xa dt.length xc] 45)).cell? ⟨w1.heap.size, 9, none⟩ = some (.int .i64 x9) := by simp [go_sem]
  have p10 : ((w1.alloc (.cells #[.int .i64 ((k : Int) + 1), .int .i64 x1, .int .i64 x2, .int .i64 3, .bool x4, .bool x5, .int .i64 x6, .int .i64 x7, .int .i64 x8, .int .i64 x9, .bool x10] 35)).alloc (.cells #[.int .i64 d0, .int .i64 d1, .int .i64 d2, .int .i64 d3, .int .i64 d4, .int .i64 d5, .slice xa dt.length xc] 45)).cell? ⟨w1.heap.size, 10, none⟩ = some (.bool x10) := by simp [go_sem]
  have pf : ((w1.alloc (.cells #[.int .i64 ((k : Int) + 1), .int .i64 x1, .int .i64 x2, .int .i64 3, .bool x4, .bool x5, .int .i64 x6, .int .i64 x7, .int .i64 x8, .int .i64 x9, .bool x10] 35)).alloc (.cells #[.int .i64 d0, .int .i64 d1, .int .i64 d2, .int .i64 d3, .int .i64 d4, .int .i64 d5, .slice xa dt.length xc] 45)).frozen? ⟨w1.heap.size, 8, none⟩ = false := by simp [go_sem]
  clear hb1
  dsimp only
  go_wp2_with fail
  refine (HF.out _ _ _ p8 pf kg).mono ?_
  rintro e w2 ⟨rfl, rfl⟩
  have HB2 := Lib.hid ((below_alloc2 (below_alloc2 HB1.out (.cells #[.int .i64 ((k : Int) + 1), .int .i64 x1, .int .i64 x2, .int .i64 3, .bool x4, .bool x5, .int .i64 x6, .int .i64 x7, .int .i64 (addZ x8 n), .int .i64 x9, .bool x10] 35)) (.cells #[.int .i64 d0, .int .i64 d1, .int .i64 d2, .int .i64 d3, .int .i64 d4, .int .i64 d5, .slice xa dt.length xc] 45)).drew)
  dsimp only
  go_wp2_with fail
  refine (HST.out _ HB2.out ⟨(k : Int) + 1, x1, x2, 3, x4, x5, x6, x7, addZ x8 n, x9, x10⟩ rfl rfl rfl rfl).mono ?_
  rintro e w3 ⟨rfl, G', h1, h2⟩
  dsimp only
  go_wp2
  go_ret
  exact ⟨rfl, G', h1, (Turned.of_below HB2.out).trans h2⟩

set_option maxRecDepth 100000 in
set_option maxHeartbeats 4000000 in
theorem boost_ok {w : World} {lo b : Nat} {G : Ghost} {S : StoreL} (h : StoreAt w lo b G S) (hS : S.objs.length ≤ 1000) (k m : Nat) (hk : k < S.objs.length) (hm : m < S.T.length) (hc : S.objs[k].card = m) (hz : S.objs[k].zone = 3) (hd : S.T[m].kind = 2)
    (hi : S.objs[k].id = (k : Int) + 1) (n : Int) :
    Calls Tryz.prog 80 #[.pointer (some ⟨b, 0, none⟩), .int .i64 ((k : Int) + 1), .int .i64 n] w (RetS w lo b G (setL S k (boostO S.objs[k] n)) (.int .i64 0)) := by
  have HC := Lib.hid (change_boost (h.later (below_new w (.cells #[.int .i64 n] 3))) hS k m hk hm hc hz hd hi w.heap.size n (by simp [go_sem]))
  have HB := Lib.hid (Turned.of_below (G := G) (below_new w (.cells #[.int .i64 n] 3)))
  have hmf := @mk_func
  clear h hm hc hz hd hi hS
  go_enter Tryz.func80, Tryz.ntmps80
  go_wp2_with fail
  refine HC.out.mono ?_
  rintro e w1 ⟨rfl, G', h1, h2⟩
  dsimp only
  go_wp2
  go_ret
  exact ⟨rfl, G', h1, HB.out.trans h2⟩
set_option maxRecDepth 100000 in
set_option maxHeartbeats 4000000 in
theorem boost_out {w : World} {p : Option Addr} {i m n : Int} (hn : m ≠ 0) (h : ∀ w', Below w.heap.size w w' → Calls Tryz.prog 129 #[.pointer p, .int .i64 i] w' (RetCre w' zeroO zeroC m)) :
    Calls Tryz.prog 80 #[.pointer p, .int .i64 i, .int .i64 n] w (RetV w (.int .i64 m)) := by
  have HC := Lib.hid (fun f => change_out (f := f) hn (h _ (below_new w (.cells #[.int .i64 n] 3))))
  have hmf := @mk_func
  clear h hn
  go_enter Tryz.func80, Tryz.ntmps80
  go_wp2_with fail
  refine (HC.out _).mono ?_
  rintro e w1 ⟨rfl, hb1⟩
  dsimp only
  go_wp2
  go_ret
  exact ⟨rfl, stepB (below_new w _) hb1⟩
end Go.Proofs.YtgjojjhppgjkkaaGreat

/- What the laws of layer 6 call besides: Great, New and Move where they refuse; calls in memory. -/
import Derived.Test.YtkhgdfalbmkgcaaGreatJj
namespace Go.Proofs.YtkhgdfalbmkgcaaGreat.Crd
open Go.RowKit
def greatB (t : List CardL) (l : List Int) : Bool := decide (70 < t.length) || (decide (60 < l.length) || !(t.all fun c => decide (c.terms.length ≤ 10)))
set_option maxRecDepth 100000 in
set_option maxHeartbeats 4000000 in
theorem great_any {v : Value} {t : List CardL} (ya : Option Addr) (n yc : Nat) {l : List Int} {w : World} (h : CardsAt w v t) (hnl : n = l.length) (hn : t.length ≤ 9223372036854775807) (hl : l.length ≤ 9223372036854775807) :
    Calls Tryz.prog 21 #[v, .slice ya n yc] w (fun e w' => e = .returned (.bool (greatB t l)) ∧ Below w.heap.size w w') := by
  subst hnl
  obtain ⟨xa, xc, rfl⟩ := h.form
  have HL := Lib.hid h
  clear h
  by_cases h70 : 70 < t.length
  · have HE := Lib.hid (show greatB t l = true by simp [greatB, h70])
    have e1 : decide ((70 : Int) < t.length) = true := decide_eq_true (by omega)
    clear h70
    go_enter Tryz.func21, Tryz.ntmps21
    go_wp2
    go_ret
    exact ⟨ret_bool HE.out.symm, Below.refl _ _⟩
  have e1 : decide ((70 : Int) < t.length) = false := decide_eq_false (by omega)
  by_cases h60 : 60 < l.length
  · have HE := Lib.hid (show greatB t l = true by simp [greatB, h60])
    have e2 : decide ((60 : Int) < l.length) = true := decide_eq_true (by omega)
    clear h60 h70
    go_enter Tryz.func21, Tryz.ntmps21
    go_wp2
    go_ret
    exact ⟨ret_bool HE.out.symm, Below.refl _ _⟩
  have e2 : decide ((60 : Int) < l.length) = false := decide_eq_false (by omega)
  have HE := Lib.hid (show greatB t l = !(t.all fun c => decide (c.terms.length ≤ 10)) by simp [greatB, h70, h60])
  go_enter Tryz.func21, Tryz.ntmps21
  go_wp2
  go_loopw [17] (fun i wr => ∃ k : Nat, k ≤ t.length ∧ i = .int .i64 k ∧ Hid ((t.take k).all (fun c => decide (c.terms.length ≤ 10)) = true) ∧ Hid (Below w.heap.size w wr)) (fun i _ => t.length - (intOf i).toNat)
  case atStart => exact ⟨0, Nat.zero_le _, rfl, Lib.hid (by simp), Lib.hid (Below.refl _ _)⟩
  case round =>
    obtain ⟨k, hk, rfl, HK, HB⟩ := hrel
    by_cases hlt : k < t.length
    · obtain ⟨b, off, rfl, hcell⟩ := (HL.out.later HB.out).at k hlt
      obtain ⟨c, hcc⟩ : ∃ c, t[k] = c := ⟨_, rfl⟩
      rw [hcc] at hcell
      have HCC := Lib.hid hcc
      obtain ⟨za, zc, c0, c1, c2, c3, c4, c5, c6, ht⟩ := hcell
      have HLT := Lib.hid hlt
      have d0 : (0 : Int) ≤ k := by omega
      have d1 : (k : Int) < t.length := by omega
      clear ht hcc
      by_cases h10 : c.terms.length ≤ 10
      · have HM := Lib.hid (show decide (c.terms.length ≤ 10) = true from decide_eq_true h10)
        have b1 : decide ((10 : Int) < c.terms.length) = false := decide_eq_false (by omega)
        have HB2 := Lib.hid (below_alloc2 HB.out (.cells #[.int .i64 c.kind, .int .i64 c.cost, .int .i64 c.power, .int .i64 c.tough, .int .i64 c.keys, .int .i64 c.whn, .slice za c.terms.length zc] 42))
        go_wp2
        go_roundw
        case rel => exact ⟨k + 1, by omega, by go_num, Lib.hid (allB_next HLT.out HK.out (by rw [HCC.out]; exact HM.out)), HB2⟩
        case measure => simp [intOf]; omega
      · have HM := Lib.hid (show decide (c.terms.length ≤ 10) = false from decide_eq_false h10)
        have b1 : decide ((10 : Int) < c.terms.length) = true := decide_eq_true (by omega)
        have HB2 := Lib.hid (below_alloc2 HB.out (.cells #[.int .i64 c.kind, .int .i64 c.cost, .int .i64 c.power, .int .i64 c.tough, .int .i64 c.keys, .int .i64 c.whn, .slice za c.terms.length zc] 42))
        go_wp2
        go_ret
        exact ⟨ret_bool (by rw [HE.out, allB_not HLT.out (by rw [HCC.out]; exact HM.out)]; rfl), HB2.out⟩
    · obtain rfl : k = t.length := by omega
      have HA := Lib.hid (allB_done HK.out)
      go_wp2
      go_ret
      exact ⟨ret_bool (by rw [HE.out, HA.out]; rfl), HB.out⟩
end Go.Proofs.YtkhgdfalbmkgcaaGreat.Crd
namespace Go.Proofs.YtkhgdfalbmkgcaaGreat
open Go.RowKit Go.Maps

theorem great_small {t : List Crd.CardL} (h : Crd.greatB t [] = false) : t.length ≤ 70 ∧ Crd.SmallC t := by
  unfold Crd.greatB at h
  rw [Bool.or_eq_false_iff, Bool.or_eq_false_iff] at h
  obtain ⟨h1, _, h3⟩ := h
  have h1 := of_decide_eq_false h1
  refine ⟨by omega, fun c hc => ?_⟩
  have h3 : (t.all fun c => decide (c.terms.length ≤ 10)) = true := by simpa using h3
  have := of_decide_eq_true (List.all_eq_true.1 h3 c hc)
  omega
set_option maxRecDepth 100000 in
theorem newS_bad {w : World} {v : Value} {T : List Crd.CardL} (h : Crd.CardsAt w v T) (hl : T.length ≤ 70) (hs : Crd.SmallC T) (ht : Crd.tableE T ≠ 0) (n : Int) : Calls Tryz.prog 20 #[v, .int .i64 n] w (RetV w (.tuple #[.pointer none, .int .i64 (Crd.tableE T)])) := by
  have HT := Lib.hid (Crd.table_any h (by omega) hs)
  obtain ⟨q, hq⟩ : ∃ q, Crd.tableE T = q := ⟨_, rfl⟩
  rw [hq] at HT ht ⊢
  have d0 : (q != 0) = true := bne_iff_ne.2 ht
  clear h hs hl hq ht
  go_enter Tryz.func20, Tryz.ntmps20
  go_wp2_with fail
  refine HT.out.mono ?_
  rintro e w1 ⟨rfl, hb1⟩
  dsimp only
  go_wp2
  go_ret2
  exact ⟨rfl, hb1⟩
theorem move_out {w : World} {p : Option Addr} {i n zone : Int} (under : Bool) (hn : n ≠ 0) (h : Calls Tryz.prog 9 #[.pointer p, .int .i64 i] w (RetGet w zeroO n)) :
    Calls Tryz.prog 10 #[.pointer p, .int .i64 i, .int .i64 zone, .bool under] w (RetV w (.int .i64 n)) := by
  have HG := Lib.hid h
  have e0 : (n != 0) = true := bne_iff_ne.2 hn
  unfold RetGet oagg zeroO at HG
  dsimp only at HG
  clear h hn
  go_enter Tryz.func10, Tryz.ntmps10
  go_wp2_with fail
  refine HG.out.mono ?_
  rintro e w1 ⟨rfl, hb1⟩
  dsimp only
  go_wp2
  go_ret
  exact ⟨rfl, below_alloc2 hb1 _⟩
set_option maxRecDepth 100000 in
set_option maxHeartbeats 4000000 in
theorem move_bad {w : World} {lo b : Nat} {G : Ghost} {S : StoreL} (h : StoreAt w lo b G S) (hS : WfS S) (hl : S.objs.length ≤ 1000) (k : Nat) (hk : k < S.objs.length) (zone : Int) (hz : Wf zone) (hb : ¬ (1 ≤ zone ∧ zone ≤ 7)) (under : Bool) :
    Calls Tryz.prog 10 #[.pointer (some ⟨b, 0, none⟩), .int .i64 ((k : Int) + 1), .int .i64 zone, .bool under] w (RetV w (.int .i64 2)) := by
  have HG := Lib.hid (get_in h hl k hk)
  obtain ⟨_, _, _, i2, i2', _, _⟩ := hS.ids k hk
  have hn4 := h.n4
  obtain ⟨x, hx⟩ : ∃ x, S.objs[k] = x := ⟨_, rfl⟩
  rw [hx] at HG i2 i2'
  obtain ⟨x0, x1, x2, x3, x4, x5, x6, x7, x8, x9, x10⟩ := x
  unfold RetGet oagg at HG
  dsimp only at HG i2 i2'
  have hptr : ptrOf S.seats G.pb (canS x2 zone) zone = .pointer none := by
    refine if_neg (fun hk => hb ?_)
    obtain ⟨_, k2, _, k4, k5, _⟩ := hk
    omega
  have HPA := Lib.hid (fun (w' : World) (hb' : Below w.heap.size w w') => pileAt_any (h.later hb') (s := x2) ⟨by omega, by omega⟩ hz)
  rw [hptr] at HPA
  clear h hS hx hb hz hptr
  go_enter Tryz.func10, Tryz.ntmps10
  go_wp2_with fail
  refine HG.out.mono ?_
  rintro e w1 ⟨rfl, hb1⟩
  have HB1 := Lib.hid (below_alloc2 hb1 (.cells #[.int .i64 x0, .int .i64 x1, .int .i64 x2, .int .i64 x3, .bool x4, .bool x5, .int .i64 x6, .int .i64 x7, .int .i64 x8, .int .i64 x9, .bool x10] 35))
  clear hb1
  dsimp only
  go_wp2_with fail
  refine (HPA.out _ HB1.out).mono ?_
  rintro e w2 ⟨rfl, hb2⟩
  have HB2 := Lib.hid (stepB HB1.out hb2)
  clear hb2
  dsimp only
  go_wp2
  go_ret
  exact ⟨rfl, HB2.out⟩
/-! Calls, as they are handed in. -/
structure OpL where
  k : Int
  a : Int
  b : Int
  c : Int
  under : Bool
def OpCells (w : World) (b o : Nat) (x : OpL) : Prop :=
  w.cell? ⟨b, o, none⟩ = some (.int .i64 x.k) ∧ w.cell? ⟨b, o + 1, none⟩ = some (.int .i64 x.a) ∧ w.cell? ⟨b, o + 2, none⟩ = some (.int .i64 x.b) ∧ w.cell? ⟨b, o + 3, none⟩ = some (.int .i64 x.c) ∧ w.cell? ⟨b, o + 4, none⟩ = some (.bool x.under)
def OpsAt (w : World) (v : Value) (l : List OpL) : Prop :=
  (∃ xa cap, v = .slice xa 0 cap ∧ l = []) ∨ ∃ b off cap, v = .slice (some ⟨b, off, none⟩) l.length cap ∧ b < w.heap.size ∧ ∀ i (h : i < l.length), OpCells w b (off + i * 5) l[i]
theorem OpCells.later {w w' : World} {b o : Nat} {x : OpL} (h : OpCells w b o x) (hb : Below w.heap.size w w') : OpCells w' b o x := by
  obtain ⟨c0, c1, c2, c3, c4⟩ := h
  exact ⟨cell_stays hb c0, cell_stays hb c1, cell_stays hb c2, cell_stays hb c3, cell_stays hb c4⟩
theorem OpsAt.later {w w' : World} {v : Value} {l : List OpL} (h : OpsAt w v l) (hb : Below w.heap.size w w') : OpsAt w' v l := by
  rcases h with h | ⟨b, off, cap, rfl, hlt, hc⟩
  · exact .inl h
  · exact .inr ⟨b, off, cap, rfl, Nat.lt_of_lt_of_le hlt hb.size, fun i hi => (hc i hi).later hb⟩
theorem OpsAt.form {w : World} {v : Value} {l : List OpL} (h : OpsAt w v l) : ∃ xa xc, v = .slice xa l.length xc := by
  rcases h with ⟨xa, cap, rfl, rfl⟩ | ⟨b, off, cap, rfl, _⟩
  · exact ⟨xa, cap, rfl⟩
  · exact ⟨_, cap, rfl⟩
theorem OpsAt.at {w : World} {xa : Option Addr} {xc : Nat} {l : List OpL} (h : OpsAt w (.slice xa l.length xc) l) (k : Nat) (hk : k < l.length) : ∃ b off, xa = some ⟨b, off, none⟩ ∧ OpCells w b (off + k * 5) l[k] := by
  rcases h with ⟨_, _, _, h2⟩ | ⟨b, off, cap, h1, _, hc⟩
  · subst h2; simp at hk
  · injection h1 with h1 _ _; exact ⟨b, off, h1, hc k hk⟩
def WfO (x : OpL) : Prop := Wf x.a ∧ Wf x.b ∧ Wf x.c
/-- What made gives: no store, or one in which each object is in just one pile. -/
structure Fine (S : StoreL) (n k : Nat) : Prop where
  wf : WfS S
  len : S.objs.length ≤ k
  seats : S.seats = n
def RetMadeO (w : World) (n : Nat) (e : Ending) (w' : World) : Prop :=
  (e = .returned (.pointer none) ∧ Below w.heap.size w w') ∨ ∃ b lo G S, e = .returned (.pointer (some ⟨b, 0, none⟩)) ∧ StoreAt w' lo b G S ∧ Fine S n 80 ∧ w.heap.size ≤ lo ∧ lo ≤ w'.heap.size ∧ Below w.heap.size w w'
end Go.Proofs.YtkhgdfalbmkgcaaGreat

/- The document's example of teams; the iterator of Foes, whatever its rounds make; what is answered of no teams (layer 9). What is answered of no teams (layer 9); the marks that ranges over functions leave. -/
import Derived.Test.YtgjojjhppgjkkaaGreatTi
import Derived.Test.YtgjojjhppgjkkaaGreatFs
import Derived.RangeFuncRecord
import Derived.RangeFuncLeaves
import Derived.RangeFuncFrom
namespace Go.Proofs.YtgjojjhppgjkkaaGreat
open Go.RowKit
attribute [local go_sem] Oper.semAt_some

theorem own_to {A w w' : World} {lo b s r : Nat} {T : TeamL} (hA : Below A.heap.size A w) (hlo : A.heap.size ≤ lo) (h : TeamAt w lo b s r T) (hg : w.grownBy w' (some r)) : Below A.heap.size A w' := grown_to hA hg (Nat.le_trans hlo h.lr)
theorem upTo_pre (p : Nat → Bool) (j : Nat) : ∀ m, j ≤ m → upTo p j <+: upTo p m
  | 0, h => by
    obtain rfl : j = 0 := by omega
    exact List.prefix_refl _
  | m + 1, h => by
    by_cases hj : j = m + 1
    · subst hj; exact List.prefix_refl _
    · refine (upTo_pre p j m (by omega)).trans ?_
      cases hp : p m with
      | true => rw [upTo_yes hp]; exact List.prefix_append _ _
      | false => rw [upTo_no hp]; exact List.prefix_refl _
theorem TeamAt.kept {E H : Nat → Prop} {w w' : World} {lo b s r : Nat} {T : TeamL} (h : TeamAt w lo b s r T) (hk : KpP E H w w') (ho : ∀ q, q = b ∨ q = s ∨ q = r → ¬E q ∧ Off H w q) : TeamAt w' lo b s r T := by
  obtain ⟨c1, c2, h0⟩ := h.hd
  obtain ⟨cur, hr, ht⟩ := h.rw
  have hb := ho b (.inl rfl)
  have hs := ho s (.inr (.inl rfl))
  have hrr := ho r (.inr (.inr rfl))
  refine ⟨⟨c1, c2, hk.rest b _ h0 hb.1 fun _ => hb.2⟩, ⟨Nat.lt_of_lt_of_le h.sd.1 hk.size, fun k hkk => ?_⟩, ⟨cur, hk.rest r _ hr hrr.1 fun _ => hrr.2, ht⟩, h.lb, h.ls, h.lr, h.br, h.sr, h.n1, h.n2, h.nd⟩
  obtain ⟨o, hso⟩ : ∃ o, w.heap[s]? = some o := ⟨_, Array.getElem?_eq_getElem h.sd.1⟩
  rw [World.cell?_of_block (w := w) (a := ⟨s, k, none⟩) ((hk.rest s o hso hs.1 (fun _ => hs.2)).trans hso.symm)]
  exact h.sd.2 k hkk
theorem HdAt.kept {E H : Nat → Prop} {w w' : World} {q : Nat} {v : Value} (h : HdAt w q v) (hk : KpP E H w w') (ho : ¬E q ∧ Off H w q) : HdAt w' q v := by
  obtain ⟨t, h⟩ := h
  exact ⟨t, hk.rest q _ h ho.1 fun _ => ho.2⟩
def foeB (T : TeamL) (k : Int) (n : Nat) : Bool := ((n : Int) != k) && !lostT T n
def foesT (T : TeamL) (k : Int) : List Int := upTo (foeB T k) T.sh.length
def encF (x : Int) : Array Value := #[.int .i64 x]
set_option maxRecDepth 100000 in
set_option maxHeartbeats 4000000 in
theorem foes1_in (n l c1 c2 lo b s r : Nat) (T : TeamL) (y : Int) (E H : Nat → Prop) (W : World) (h1 : HdAt W c1 (.pointer (some ⟨b, 0, none⟩))) (h2 : HdAt W c2 (.int .i64 y)) (h : TeamAt W lo b s r T) (hoff : ∀ q, q = b ∨ q = s ∨ q = r ∨ q = c1 ∨ q = c2 → ¬E q ∧ Off H W q)
    (J Jx : List Int → World → Prop)
    (hY : ∀ pre (x : Int) W1, J pre W1 → pre ++ [x] <+: foesT T y → YieldAt Fence.wide (n - 1) Tryz.prog l (encF x) W1 fun e W' =>
      (e = .returned (.bool true) ∧ J (pre ++ [x]) W' ∧ KpP E H W1 W') ∨ (e = .returned (.bool false) ∧ Jx (pre ++ [x]) W' ∧ KpP E H W1 W'))
    (h0 : J [] W) (hn : 1 ≤ n) :
    CallsIn Fence.wide n Tryz.prog 133 #[.func (.yield l) #[] #[], .pointer (some ⟨c1, 0, none⟩), .pointer (some ⟨c2, 0, none⟩)] W fun e W' => (∃ v, e = .returned v) ∧ (J (foesT T y) W' ∨ ∃ pre, pre <+: foesT T y ∧ Jx pre W') := by
  have HL := Lib.hid (tlen_any h)
  have hN4 := h.n2
  unfold foesT at hY ⊢
  obtain ⟨N, hN⟩ : ∃ N, T.sh.length = N := ⟨_, rfl⟩
  rw [hN] at HL hY hN4 ⊢
  have HY := Lib.hid hY
  have H0 := Lib.hid h0
  have HT := Lib.hid h
  have HO := Lib.hid hoff
  have HC1 := Lib.hid h1
  have HC2 := Lib.hid h2
  have k1 := h1.cell
  clear hY h0 h hoff h1 h2
  refine callsIn_of_wp Tryz.func133 rfl trivial ?_ rfl
  simp only [Tryz.ntmps133, List.size_toArray, List.length_cons, List.length_nil, Nat.reduceAdd, Nat.reduceSub, Array.replicate_succ, Array.replicate_zero, List.push_toArray, List.append_toArray, List.nil_append, List.cons_append]
  gi_wp2_with fail
  refine ⟨trivial, (callsIn_wide.2 HL.out).mono ?_⟩
  rintro e w1 ⟨rfl, rfl⟩
  clear k1
  gi_wp2
  gi_loopw [7] (fun i wr => ∃ k : Nat, k ≤ N ∧ i = .int .i64 (k : Int) ∧ Hid (J (upTo (foeB T y) k) wr) ∧ Hid (TeamAt wr lo b s r T ∧ HdAt wr c1 (.pointer (some ⟨b, 0, none⟩)) ∧ HdAt wr c2 (.int .i64 y) ∧ ∀ q, q = b ∨ q = s ∨ q = r ∨ q = c1 ∨ q = c2 → ¬E q ∧ Off H wr q)) (fun i _ => N - (intOf i).toNat)
  case atStart => exact ⟨0, Nat.zero_le _, rfl, H0, Lib.hid ⟨HT.out, HC1.out, HC2.out, HO.out⟩⟩
  case round =>
    obtain ⟨k, hk, rfl, HJR, HS⟩ := hrel
    by_cases hlt : k < N
    · have d0 : decide ((k : Int) < N) = true := decide_eq_true (by omega)
      have k1 := HS.out.2.1.cell
      have k2 := HS.out.2.2.1.cell
      have HLO := Lib.hid (tlost_any HS.out.1 k)
      by_cases hky : (k : Int) = y
      · have HNO := Lib.hid (upTo_no (p := foeB T y) (k := k) (by simp [foeB, hky]))
        have e0 : ((k : Int) != y) = false := by rw [hky]; exact bne_self_eq_false _
        clear hky HLO
        gi_wp2
        refine ⟨trivial, ?_⟩
        gi_wp2
        refine ⟨(fun _ h => by cases h), ?_⟩
        gi_wp2
        go_roundw
        case rel => exact ⟨k + 1, by omega, by go_num, by rw [HNO.out]; exact HJR, HS⟩
        case measure => simp [intOf]; omega
      · have e0 : ((k : Int) != y) = true := bne_iff_ne.2 hky
        cases hlo : lostT T k with
        | true =>
          have HNO := Lib.hid (upTo_no (p := foeB T y) (k := k) (by simp [foeB, hlo]))
          rw [hlo] at HLO
          clear hky hlo
          gi_wp2_with fail
          refine ⟨trivial, (callsIn_wide.2 HLO.out).mono ?_⟩
          rintro e w2 ⟨rfl, rfl⟩
          gi_wp2
          refine ⟨(fun _ h => by cases h), ?_⟩
          gi_wp2
          go_roundw
          case rel => exact ⟨k + 1, by omega, by go_num, by rw [HNO.out]; exact HJR, HS⟩
          case measure => simp [intOf]; omega
        | false =>
          have HYES := Lib.hid (upTo_yes (p := foeB T y) (k := k) (by simp [foeB, hlo, hky]))
          rw [hlo] at HLO
          clear hky hlo
          obtain ⟨fn, tmps, assign, body, hy, hR⟩ := HY.out (upTo (foeB T y) k) k wr HJR.out (by rw [← HYES.out]; exact upTo_pre _ _ _ (by omega))
          unfold encF at hy
          gi_wp2_with fail
          refine ⟨trivial, (callsIn_wide.2 HLO.out).mono ?_⟩
          rintro e w2 ⟨rfl, rfl⟩
          gi_wp2
          refine hR.mono ?_
          rintro e w3 (⟨rfl, hJ3, hk3⟩ | ⟨rfl, hJ3, hk3⟩)
          · have HJ3 := Lib.hid hJ3
            have HS3 : Hid (TeamAt w3 lo b s r T ∧ HdAt w3 c1 (.pointer (some ⟨b, 0, none⟩)) ∧ HdAt w3 c2 (.int .i64 y) ∧ ∀ q, q = b ∨ q = s ∨ q = r ∨ q = c1 ∨ q = c2 → ¬E q ∧ Off H w3 q) := Lib.hid (by
              obtain ⟨s1, s2, s3, s4⟩ := HS.out
              have hb := s1.lt
              have hr := s1.ltr
              have hs := s1.sd.1
              have hc1 := s2.lt
              have hc2 := s3.lt
              exact ⟨s1.kept hk3 (fun q hq => s4 q (by rcases hq with h | h | h <;> simp [h])), s2.kept hk3 (s4 c1 (by simp)), s3.kept hk3 (s4 c2 (by simp)), fun q hq => ⟨(s4 q hq).1, hk3.off (s4 q hq).2 (by rcases hq with h | h | h | h | h <;> subst h <;> assumption)⟩⟩)
            clear hJ3 hk3 hy hR k1 k2
            gi_wp2
            go_roundw
            case rel => exact ⟨k + 1, by omega, by go_num, Lib.hid (by rw [HYES.out]; exact HJ3.out), HS3⟩
            case measure => simp [intOf]; omega
          · have HJ3 := Lib.hid hJ3
            clear hJ3 hk3 hy hR k1 k2
            gi_wp2
            refine bodyPost_ret (results_none rfl _ _ _) rfl ?_
            exact ⟨⟨_, rfl⟩, .inr ⟨_, by rw [← HYES.out]; exact upTo_pre _ _ _ (by omega), HJ3.out⟩⟩
    · obtain rfl : k = N := by omega
      gi_wp2
      go_end0
      exact ⟨⟨_, rfl⟩, .inl HJR.out⟩
theorem foes_seq (n : Nat) (hn : 1 ≤ n) {w : World} {c1 c2 lo b s r : Nat} {T : TeamL} {y : Int} (E H : Nat → Prop) (h1 : HdAt w c1 (.pointer (some ⟨b, 0, none⟩))) (h2 : HdAt w c2 (.int .i64 y)) (h : TeamAt w lo b s r T) (hoff : ∀ q, q = b ∨ q = s ∨ q = r ∨ q = c1 ∨ q = c2 → ¬E q ∧ Off H w q) :
    SeqW Fence.wide n Tryz.prog 133 #[.pointer (some ⟨c1, 0, none⟩), .pointer (some ⟨c2, 0, none⟩)] encF (fun l => KpP (fun k => E k ∨ k = l) H) (fun pre x => pre ++ [x] <+: foesT T y) (fun xs _ => xs = foesT T y) (fun pre _ => pre <+: foesT T y) w := by
  intro l J Jx W hW hl1 hl2 hJ _ hY h0
  have hb := h.lt
  have hr := h.ltr
  have hs := h.sd.1
  have hc1 := h1.lt
  have hc2 := h2.lt
  refine (foes1_in n l c1 c2 lo b s r T y (fun k => E k ∨ k = l) H W (h1.later hW) (h2.later hW) (h.later hW) (fun q hq => ⟨fun e => ?_, (hoff q hq).2.later hW⟩) J Jx ?_ h0 hn).mono ?_
  · rcases e with e | e
    · exact (hoff q hq).1 e
    · subst e
      rcases hq with h | h | h | h | h <;> omega
  · intro pre x W1 hj ht
    obtain ⟨fn, tmps, assign, body, hy, hR⟩ := hY pre x W1 hj ht
    exact ⟨fn, tmps, assign, body, hy, roundIn_wide hR⟩
  · rintro e W' ⟨h1, h2 | h2⟩
    · exact ⟨h1, .inl ⟨_, rfl, h2⟩⟩
    · exact ⟨h1, .inr h2⟩
def RetFoes (w : World) (u v : Value) (e : Ending) (w' : World) : Prop := e = .returned (.func (.func 133) #[] #[.pointer (some ⟨w.heap.size, 0, none⟩), .pointer (some ⟨w.heap.size + 1, 0, none⟩)]) ∧ HdAt w' w.heap.size u ∧ HdAt w' (w.heap.size + 1) v ∧ Below w.heap.size w w' ∧ w'.heap.size = w.heap.size + 2
theorem foes_any (p : Option Addr) (y : Int) (w : World) : Calls Tryz.prog 117 #[.pointer p, .int .i64 y] w (RetFoes w (.pointer p) (.int .i64 y)) := by
  have hmf := @mk_func
  go_enter Tryz.func117, Tryz.ntmps117
  go_wp2
  go_ret
  refine ⟨rfl, (HdAt.new w _ _).later (below_new _ _), ?_, below_alloc2 (below_new w _) _, by simp⟩
  have h := HdAt.new (w.alloc (.cells #[.pointer p] 39)) (.int .i64 y) 3
  rwa [World.size_alloc] at h
end Go.Proofs.YtgjojjhppgjkkaaGreat
namespace Go.Proofs.YtgjojjhppgjkkaaGreat
open Go.RowKit
attribute [local go_sem] Oper.semAt_some

set_option maxRecDepth 100000 in
theorem len_nil (w : World) : Calls Tryz.prog 17 #[.pointer none] w (Same w (.int .i64 0)) := by
  go_enter Tryz.func17, Tryz.ntmps17
  go_wp2
  go_ret
  exact ⟨rfl, rfl⟩
set_option maxRecDepth 100000 in
theorem seats_nil (w : World) : Calls Tryz.prog 48 #[.pointer none] w (Same w (.int .i64 0)) := by
  go_enter Tryz.func48, Tryz.ntmps48
  go_wp2
  go_ret
  exact ⟨rfl, rfl⟩
set_option maxRecDepth 100000 in
theorem has_nil (x : Int) (w : World) : Calls Tryz.prog 120 #[.pointer none, .int .i64 x] w (Same w (.bool false)) := by
  by_cases h0 : 0 ≤ x
  · have d0 : decide (0 ≤ x) = true := decide_eq_true h0
    have d1 : decide (x < 0) = false := decide_eq_false (by omega)
    go_enter Tryz.func120, Tryz.ntmps120
    go_wp2_with fail
    refine (len_nil w).mono ?_
    rintro e w1 ⟨rfl, rfl⟩
    go_wp2
    go_ret
    exact ⟨rfl, rfl⟩
  · have d0 : decide (0 ≤ x) = false := decide_eq_false h0
    go_enter Tryz.func120, Tryz.ntmps120
    go_wp2
    go_ret
    exact ⟨rfl, rfl⟩
set_option maxRecDepth 100000 in
theorem of_nil (x : Int) (w : World) : Calls Tryz.prog 16 #[.pointer none, .int .i64 x] w (Same w (.int .i64 (-1))) := by
  by_cases h0 : 0 ≤ x
  · have d0 : decide (x < 0) = false := decide_eq_false (by omega)
    have d1 : decide (0 ≤ x) = true := decide_eq_true h0
    go_enter Tryz.func16, Tryz.ntmps16
    go_wp2_with fail
    refine (seats_nil w).mono ?_
    rintro e w1 ⟨rfl, rfl⟩
    go_wp2
    go_ret
    exact ⟨rfl, rfl⟩
  · have d0 : decide (x < 0) = true := decide_eq_true (by omega)
    go_enter Tryz.func16, Tryz.ntmps16
    go_wp2
    go_ret
    exact ⟨rfl, rfl⟩
set_option maxRecDepth 100000 in
theorem mates_nil (x : Int) (y : Int) (w : World) : Calls Tryz.prog 130 #[.pointer none, .int .i64 x, .int .i64 y] w (Same w (.bool false)) := by
  go_enter Tryz.func130, Tryz.ntmps130
  go_wp2_with fail
  refine (of_nil x w).mono ?_
  rintro e w1 ⟨rfl, rfl⟩
  go_wp2
  go_ret
  exact ⟨rfl, rfl⟩
set_option maxRecDepth 100000 in
theorem lost_nil (x : Int) (w : World) : Calls Tryz.prog 112 #[.pointer none, .int .i64 x] w (Same w (.bool true)) := by
  go_enter Tryz.func112, Tryz.ntmps112
  go_wp2_with fail
  refine (has_nil x w).mono ?_
  rintro e w1 ⟨rfl, rfl⟩
  go_wp2
  go_ret
  exact ⟨rfl, rfl⟩
set_option maxRecDepth 100000 in
theorem copy_nil (w : World) : Calls Tryz.prog 43 #[.pointer none] w (Same w (.pointer none)) := by
  go_enter Tryz.func43, Tryz.ntmps43
  go_wp2
  go_ret
  exact ⟨rfl, rfl⟩
set_option maxRecDepth 100000 in
theorem same_nil (w : World) : Calls Tryz.prog 50 #[.pointer none, .pointer none] w (Same w (.bool true)) := by
  go_enter Tryz.func50, Tryz.ntmps50
  go_wp2
  go_ret
  exact ⟨rfl, rfl⟩
set_option maxRecDepth 100000 in
theorem same_none (b : Nat) (w : World) : Calls Tryz.prog 50 #[.pointer none, .pointer (some ⟨b, 0, none⟩)] w (Same w (.bool false)) := by
  have hq : ∀ W, (binOp .eql 39 (.pointer none) (.pointer (some ⟨b, 0, none⟩))).run Tryz.prog W = .ok (.bool false) W := fun W => by kernel_rfl
  go_enter Tryz.func50, Tryz.ntmps50
  go_wp2
  go_ret
  exact ⟨rfl, rfl⟩
set_option maxRecDepth 100000 in
theorem change_nil (x : Int) (f : Value) (w : World) : Calls Tryz.prog 91 #[.pointer none, .int .i64 x, f] w (Same w (.int .i64 1)) := by
  go_enter Tryz.func91, Tryz.ntmps91
  go_wp2
  go_ret
  exact ⟨rfl, rfl⟩
set_option maxRecDepth 100000 in
theorem gain_nil (x y : Int) (w : World) : Calls Tryz.prog 51 #[.pointer none, .int .i64 x, .int .i64 y] w (RetV w (.int .i64 1)) := by
  have hmf := @mk_func
  have HC := Lib.hid (fun f w' => change_nil x f w')
  go_enter Tryz.func51, Tryz.ntmps51
  go_wp2_with fail
  refine (HC.out _ _).mono ?_
  rintro e w1 ⟨rfl, rfl⟩
  go_wp2
  go_ret
  exact ⟨rfl, below_new w _⟩
set_option maxRecDepth 100000 in
theorem foes_nil_seq (n : Nat) (hn : 1 ≤ n) {w : World} {c1 c2 : Nat} (Kp : Nat → World → World → Prop) (hc : HdAt w c1 (.pointer none)) :
    SeqW Fence.wide n Tryz.prog 133 #[.pointer (some ⟨c1, 0, none⟩), .pointer (some ⟨c2, 0, none⟩)] encF Kp (fun _ _ => False) (fun xs _ => xs = []) (fun _ _ => False) w := by
  intro l J Jx W hW hl1 hl2 hJ hJx _ h0
  have c1c := (hc.later hW).cell
  have H0 := Lib.hid h0
  clear hJ hJx h0 hW hc
  refine callsIn_of_wp Tryz.func133 rfl trivial ?_ rfl
  simp only [Tryz.ntmps133, List.size_toArray, List.length_cons, List.length_nil, Nat.reduceAdd, Nat.reduceSub, Array.replicate_succ, Array.replicate_zero, List.push_toArray, List.append_toArray, List.nil_append, List.cons_append]
  gi_wp2_with fail
  refine ⟨trivial, (callsIn_wide.2 (len_nil W)).mono ?_⟩
  rintro e w1 ⟨rfl, rfl⟩
  gi_wp2
  gi_loopw [7] (fun i wr => i = .int .i64 0 ∧ wr = w1) (fun _ _ => 0)
  case atStart => exact ⟨rfl, rfl⟩
  case round =>
    obtain ⟨rfl, rfl⟩ := hrel
    gi_wp2
    go_end0
    exact ⟨⟨_, rfl⟩, .inl ⟨_, rfl, H0.out⟩⟩
theorem results_c6 {fn : Func} {tmps : Array Value} {W : World} {b : Nat} {v : Bool} (h : fn.results = #[.cell 6 4]) (ht : tmps.getD 6 undef = .pointer (some ⟨b, 0, none⟩)) (hc : HdAt W b (.bool v)) : (results fn tmps).run Tryz.prog W = .ok (.bool v) W := by
  have hc := hc.cell
  simp only [Array.getD_eq_getD_getElem?] at ht
  simp [results, h, go_sem, ht, hc]
theorem kpP_setE {W : World} {l : Nat} (u : Value) : KpP (fun k => k = l) (fun _ => False) W (W.setCell ⟨l, 0, none⟩ u) :=
  ⟨by simp, fun k o ho hE _ => (heap_setCell_other W ⟨l, 0, none⟩ k u hE).trans ho, fun b v hb _ => hb.elim⟩
def MarksO (W : World) (Ds : List Nat) : Prop := ∀ D ∈ Ds, W.heap[D]? = some (.deferred (some []))
theorem MarksO.lt {W : World} {Ds : List Nat} (h : MarksO W Ds) {D : Nat} (hD : D ∈ Ds) : D < W.heap.size := (Array.getElem?_eq_some_iff.1 (h D hD)).1
theorem MarksO.others {W W' : World} {Ds : List Nat} (h : MarksO W Ds) (hk : KeepsOthers W W') : MarksO W' Ds := fun D hD => hk.same D _ (h D hD) rfl
theorem others_belowO {W W' : World} (h : Below W.heap.size W W') : KeepsOthers W W' := ⟨h.size, fun k _ hk _ => (h.block k (Array.getElem?_eq_some_iff.1 hk).1).trans hk⟩
theorem marks_ownO {β : Type} {B : Nat} {Ds : List Nat} (hB : ∀ D ∈ Ds, D < B) : OwnFrom B (fun (_ : β) W => MarksO W Ds) := fun _ W W' row hs hg hr D hD =>
  (hg.block D (hs.lt hD) (fun e => by have := (hr D e.symm).1; have := hB D hD; omega)).trans (hs D hD)
theorem leaves_marksO {F : Fence} {n : Nat} {P : Program} {fn : Func} {tmps : Array Value} {R : Ending → World → Prop} {B : Nat} : ∀ (Ds : List Nat) (W : World), Ds.Nodup → (∀ D ∈ Ds, B ≤ D) → MarksO W Ds →
    (∀ W', Below B W W' → (∀ (j : Nat) (o : Obj), W.heap[j]? = some o → o.isCells = true → W'.heap[j]? = some o) → LeavesIn F n P fn tmps R [] .returning W') →
    LeavesInM F n P fn tmps R (Ds.map fun D => { target := .collected D, args := #[] }) .returning W
  | [], W, _, _, _, h => h W (Below.refl _ _) (fun _ _ h _ => h)
  | D :: Ds, W, hn, hB, hm, h => by
    have hD := hm D (by simp)
    have hlt := hm.lt (D := D) (by simp)
    have hBD := hB D (by simp)
    rw [List.nodup_cons] at hn
    refine ⟨by simp, .inl ⟨D, W.putObj D (.deferred none), rfl, run_takeDeferred hD, ?_⟩⟩
    refine leaves_marksO Ds _ hn.2 (fun D' h' => hB D' (by simp [h'])) (fun D' h' => (World.putObj_heap_other (fun e => hn.1 (by rw [← e]; exact h'))).trans (hm D' (by simp [h']))) (fun W' hb hc => ?_)
    refine h W' ?_ ?_
    · have h1 : Below B W (W.putObj D (.deferred none)) := (Below.refl B W).grown (grownBy_putObj' W D (.deferred none)) (by omega) (fun k e => by cases e; exact hBD)
      exact h1.trans hb
    · intro j o hj ho
      refine hc j o ?_ ho
      refine (World.putObj_heap_other ?_).trans hj
      rintro rfl
      rw [hD] at hj
      cases hj
      cases ho

theorem list_newO (W : World) (lo : Nat) : ListIn (W.alloc (.cells #[.slice none 0 0] 83)) lo W.heap.size (.slice none 0 0) [] := ⟨World.alloc_heap_new W _, World.ownsRow_nil _ _ _ _⟩
theorem off_lO {W : World} {lf s k : Nat} {v : Value} {M : List Int} (hl : ListIn W lf s v M) (h2 : k ≠ s) (h4 : v.ownBlock ≠ some k) : Off (fun k => k = s) W k :=
  ⟨fun e => h2 e, fun c hc => by subst hc; exact ⟨v, hl.head, h4⟩⟩
theorem own_not_box {W : World} {lo s n : Nat} {v u : Value} {xs : List Value} (h : W.ownsRow lo 3 1 v n xs) (hb : W.heap[s]? = some (.cells #[u] 83 (0, 0))) : v.ownBlock ≠ some s := fun e => by
  rcases h.2 with ⟨rfl, _⟩ | ⟨g, cap, cur, rfl, _, hg, _⟩
  · cases e
  · have e : g = s := by injection e
    subst e
    rw [hg] at hb
    injection hb with hb
    injection hb with _ hb _
    exact absurd hb (by decide)
end Go.Proofs.YtgjojjhppgjkkaaGreat

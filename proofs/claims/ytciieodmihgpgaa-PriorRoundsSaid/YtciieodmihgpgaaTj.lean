/- The document's example of teams; the iterator of Foes, whatever its rounds make; what is answered of no teams (layer 9). -/
import Derived.Test.YtciieodmihgpgaaTi
import Derived.Test.YtciieodmihgpgaaFs
namespace Go.Proofs.Ytciieodmihgpgaa
open Go.RowKit
attribute [local go_sem] Oper.semAt_some

theorem own_to {A w w' : World} {lo b s r : Nat} {T : TeamL} (hA : Below A.heap.size A w) (hlo : A.heap.size ≤ lo) (h : TeamAt w lo b s r T) (hg : w.grownBy w' (some r)) : Below A.heap.size A w' := grown_to hA hg (Nat.le_trans hlo h.lr)
theorem upTo_pre (p : Nat → Bool) (j : Nat) : ∀ m, j ≤ m → upTo p j <+: upTo p m
  | 0, h => by
    obtain rfl : j = 0 := by omega
    exact List.prefix_refl _
  | m + 1, h => by
    by_cases hj : j = m + 1
    · subst hj; exact List.prefix_refl _
    · refine (upTo_pre p j m (by omega)).trans ?_
      cases hp : p m with
      | true => rw [upTo_yes hp]; exact List.prefix_append _ _
      | false => rw [upTo_no hp]; exact List.prefix_refl _
theorem TeamAt.kept {E H : Nat → Prop} {w w' : World} {lo b s r : Nat} {T : TeamL} (h : TeamAt w lo b s r T) (hk : KpP E H w w') (ho : ∀ q, q = b ∨ q = s ∨ q = r → ¬E q ∧ Off H w q) : TeamAt w' lo b s r T := by
  obtain ⟨c1, c2, h0⟩ := h.hd
  obtain ⟨cur, hr, ht⟩ := h.rw
  have hb := ho b (.inl rfl)
  have hs := ho s (.inr (.inl rfl))
  have hrr := ho r (.inr (.inr rfl))
  refine ⟨⟨c1, c2, hk.rest b _ h0 hb.1 fun _ => hb.2⟩, ⟨Nat.lt_of_lt_of_le h.sd.1 hk.size, fun k hkk => ?_⟩, ⟨cur, hk.rest r _ hr hrr.1 fun _ => hrr.2, ht⟩, h.lb, h.ls, h.lr, h.br, h.sr, h.n1, h.n2, h.nd⟩
  obtain ⟨o, hso⟩ : ∃ o, w.heap[s]? = some o := ⟨_, Array.getElem?_eq_getElem h.sd.1⟩
  rw [World.cell?_of_block (w := w) (a := ⟨s, k, none⟩) ((hk.rest s o hso hs.1 (fun _ => hs.2)).trans hso.symm)]
  exact h.sd.2 k hkk
theorem HdAt.kept {E H : Nat → Prop} {w w' : World} {q : Nat} {v : Value} (h : HdAt w q v) (hk : KpP E H w w') (ho : ¬E q ∧ Off H w q) : HdAt w' q v := by
  obtain ⟨t, h⟩ := h
  exact ⟨t, hk.rest q _ h ho.1 fun _ => ho.2⟩
def foeB (T : TeamL) (k : Int) (n : Nat) : Bool := ((n : Int) != k) && !lostT T n
def foesT (T : TeamL) (k : Int) : List Int := upTo (foeB T k) T.sh.length
def encF (x : Int) : Array Value := #[.int .i64 x]
set_option maxRecDepth 100000 in
set_option maxHeartbeats 4000000 in
theorem foes1_in (n l c1 c2 lo b s r : Nat) (T : TeamL) (y : Int) (E H : Nat → Prop) (W : World) (h1 : HdAt W c1 (.pointer (some ⟨b, 0, none⟩))) (h2 : HdAt W c2 (.int .i64 y)) (h : TeamAt W lo b s r T) (hoff : ∀ q, q = b ∨ q = s ∨ q = r ∨ q = c1 ∨ q = c2 → ¬E q ∧ Off H W q)
    (J Jx : List Int → World → Prop)
    (hY : ∀ pre (x : Int) W1, J pre W1 → pre ++ [x] <+: foesT T y → YieldAt Fence.wide (n - 1) Try.prog l (encF x) W1 fun e W' =>
      (e = .returned (.bool true) ∧ J (pre ++ [x]) W' ∧ KpP E H W1 W') ∨ (e = .returned (.bool false) ∧ Jx (pre ++ [x]) W' ∧ KpP E H W1 W'))
    (h0 : J [] W) (hn : 1 ≤ n) :
    CallsIn Fence.wide n Try.prog 36 #[.func (.yield l) #[] #[], .pointer (some ⟨c1, 0, none⟩), .pointer (some ⟨c2, 0, none⟩)] W fun e W' => (∃ v, e = .returned v) ∧ (J (foesT T y) W' ∨ ∃ pre, pre <+: foesT T y ∧ Jx pre W') := by
  have HL := Lib.hid (tlen_any h)
  have hN4 := h.n2
  unfold foesT at hY ⊢
  obtain ⟨N, hN⟩ : ∃ N, T.sh.length = N := ⟨_, rfl⟩
  rw [hN] at HL hY hN4 ⊢
  have HY := Lib.hid hY
  have H0 := Lib.hid h0
  have HT := Lib.hid h
  have HO := Lib.hid hoff
  have HC1 := Lib.hid h1
  have HC2 := Lib.hid h2
  have k1 := h1.cell
  clear hY h0 h hoff h1 h2
  refine callsIn_of_wp Try.func36 rfl trivial ?_ rfl
  simp only [Try.ntmps36, List.size_toArray, List.length_cons, List.length_nil, Nat.reduceAdd, Nat.reduceSub, Array.replicate_succ, Array.replicate_zero, List.push_toArray, List.append_toArray, List.nil_append, List.cons_append]
  gi_wp2_with fail
  refine ⟨trivial, (callsIn_wide.2 HL.out).mono ?_⟩
  rintro e w1 ⟨rfl, rfl⟩
  clear k1
  gi_wp2
  gi_loopw [7] (fun i wr => ∃ k : Nat, k ≤ N ∧ i = .int .i64 (k : Int) ∧ Hid (J (upTo (foeB T y) k) wr) ∧ Hid (TeamAt wr lo b s r T ∧ HdAt wr c1 (.pointer (some ⟨b, 0, none⟩)) ∧ HdAt wr c2 (.int .i64 y) ∧ ∀ q, q = b ∨ q = s ∨ q = r ∨ q = c1 ∨ q = c2 → ¬E q ∧ Off H wr q)) (fun i _ => N - (intOf i).toNat)
  case atStart => exact ⟨0, Nat.zero_le _, rfl, H0, Lib.hid ⟨HT.out, HC1.out, HC2.out, HO.out⟩⟩
  case round =>
    obtain ⟨k, hk, rfl, HJR, HS⟩ := hrel
    by_cases hlt : k < N
    · have d0 : decide ((k : Int) < N) = true := decide_eq_true (by omega)
      have k1 := HS.out.2.1.cell
      have k2 := HS.out.2.2.1.cell
      have HLO := Lib.hid (tlost_any HS.out.1 k)
      by_cases hky : (k : Int) = y
      · have HNO := Lib.hid (upTo_no (p := foeB T y) (k := k) (by simp [foeB, hky]))
        have e0 : ((k : Int) != y) = false := by rw [hky]; exact bne_self_eq_false _
        clear hky HLO
        gi_wp2
        refine ⟨trivial, ?_⟩
        gi_wp2
        refine ⟨(fun _ h => by cases h), ?_⟩
        gi_wp2
        go_roundw
        case rel => exact ⟨k + 1, by omega, by go_num, by rw [HNO.out]; exact HJR, HS⟩
        case measure => simp [intOf]; omega
      · have e0 : ((k : Int) != y) = true := bne_iff_ne.2 hky
        cases hlo : lostT T k with
        | true =>
          have HNO := Lib.hid (upTo_no (p := foeB T y) (k := k) (by simp [foeB, hlo]))
          rw [hlo] at HLO
          clear hky hlo
          gi_wp2_with fail
          refine ⟨trivial, (callsIn_wide.2 HLO.out).mono ?_⟩
          rintro e w2 ⟨rfl, rfl⟩
          gi_wp2
          refine ⟨(fun _ h => by cases h), ?_⟩
          gi_wp2
          go_roundw
          case rel => exact ⟨k + 1, by omega, by go_num, by rw [HNO.out]; exact HJR, HS⟩
          case measure => simp [intOf]; omega
        | false =>
          have HYES := Lib.hid (upTo_yes (p := foeB T y) (k := k) (by simp [foeB, hlo, hky]))
          rw [hlo] at HLO
          clear hky hlo
          obtain ⟨fn, tmps, assign, body, hy, hR⟩ := HY.out (upTo (foeB T y) k) k wr HJR.out (by rw [← HYES.out]; exact upTo_pre _ _ _ (by omega))
          unfold encF at hy
          gi_wp2_with fail
          refine ⟨trivial, (callsIn_wide.2 HLO.out).mono ?_⟩
          rintro e w2 ⟨rfl, rfl⟩
          gi_wp2
          refine hR.mono ?_
          rintro e w3 (⟨rfl, hJ3, hk3⟩ | ⟨rfl, hJ3, hk3⟩)
          · have HJ3 := Lib.hid hJ3
            have HS3 : Hid (TeamAt w3 lo b s r T ∧ HdAt w3 c1 (.pointer (some ⟨b, 0, none⟩)) ∧ HdAt w3 c2 (.int .i64 y) ∧ ∀ q, q = b ∨ q = s ∨ q = r ∨ q = c1 ∨ q = c2 → ¬E q ∧ Off H w3 q) := Lib.hid (by
              obtain ⟨s1, s2, s3, s4⟩ := HS.out
              have hb := s1.lt
              have hr := s1.ltr
              have hs := s1.sd.1
              have hc1 := s2.lt
              have hc2 := s3.lt
              exact ⟨s1.kept hk3 (fun q hq => s4 q (by rcases hq with h | h | h <;> simp [h])), s2.kept hk3 (s4 c1 (by simp)), s3.kept hk3 (s4 c2 (by simp)), fun q hq => ⟨(s4 q hq).1, hk3.off (s4 q hq).2 (by rcases hq with h | h | h | h | h <;> subst h <;> assumption)⟩⟩)
            clear hJ3 hk3 hy hR k1 k2
            gi_wp2
            go_roundw
            case rel => exact ⟨k + 1, by omega, by go_num, Lib.hid (by rw [HYES.out]; exact HJ3.out), HS3⟩
            case measure => simp [intOf]; omega
          · have HJ3 := Lib.hid hJ3
            clear hJ3 hk3 hy hR k1 k2
            gi_wp2
            refine bodyPost_ret (results_none rfl _ _ _) rfl ?_
            exact ⟨⟨_, rfl⟩, .inr ⟨_, by rw [← HYES.out]; exact upTo_pre _ _ _ (by omega), HJ3.out⟩⟩
    · obtain rfl : k = N := by omega
      gi_wp2
      go_end0
      exact ⟨⟨_, rfl⟩, .inl HJR.out⟩
theorem foes_seq (n : Nat) (hn : 1 ≤ n) {w : World} {c1 c2 lo b s r : Nat} {T : TeamL} {y : Int} (E H : Nat → Prop) (h1 : HdAt w c1 (.pointer (some ⟨b, 0, none⟩))) (h2 : HdAt w c2 (.int .i64 y)) (h : TeamAt w lo b s r T) (hoff : ∀ q, q = b ∨ q = s ∨ q = r ∨ q = c1 ∨ q = c2 → ¬E q ∧ Off H w q) :
    SeqW Fence.wide n Try.prog 36 #[.pointer (some ⟨c1, 0, none⟩), .pointer (some ⟨c2, 0, none⟩)] encF (fun l => KpP (fun k => E k ∨ k = l) H) (fun pre x => pre ++ [x] <+: foesT T y) (fun xs _ => xs = foesT T y) (fun pre _ => pre <+: foesT T y) w := by
  intro l J Jx W hW hl1 hl2 hJ _ hY h0
  have hb := h.lt
  have hr := h.ltr
  have hs := h.sd.1
  have hc1 := h1.lt
  have hc2 := h2.lt
  refine (foes1_in n l c1 c2 lo b s r T y (fun k => E k ∨ k = l) H W (h1.later hW) (h2.later hW) (h.later hW) (fun q hq => ⟨fun e => ?_, (hoff q hq).2.later hW⟩) J Jx ?_ h0 hn).mono ?_
  · rcases e with e | e
    · exact (hoff q hq).1 e
    · subst e
      rcases hq with h | h | h | h | h <;> omega
  · intro pre x W1 hj ht
    obtain ⟨fn, tmps, assign, body, hy, hR⟩ := hY pre x W1 hj ht
    exact ⟨fn, tmps, assign, body, hy, roundIn_wide hR⟩
  · rintro e W' ⟨h1, h2 | h2⟩
    · exact ⟨h1, .inl ⟨_, rfl, h2⟩⟩
    · exact ⟨h1, .inr h2⟩
def RetFoes (w : World) (u v : Value) (e : Ending) (w' : World) : Prop := e = .returned (.func (.func 36) #[] #[.pointer (some ⟨w.heap.size, 0, none⟩), .pointer (some ⟨w.heap.size + 1, 0, none⟩)]) ∧ HdAt w' w.heap.size u ∧ HdAt w' (w.heap.size + 1) v ∧ Below w.heap.size w w' ∧ w'.heap.size = w.heap.size + 2
theorem foes_any (p : Option Addr) (y : Int) (w : World) : Calls Try.prog 34 #[.pointer p, .int .i64 y] w (RetFoes w (.pointer p) (.int .i64 y)) := by
  have hmf := @mk_func
  go_enter Try.func34, Try.ntmps34
  go_wp2
  go_ret
  refine ⟨rfl, (HdAt.new w _ _).later (below_new _ _), ?_, below_alloc2 (below_new w _) _, by simp⟩
  have h := HdAt.new (w.alloc (.cells #[.pointer p] 24)) (.int .i64 y) 3
  rwa [World.size_alloc] at h
end Go.Proofs.Ytciieodmihgpgaa

/- Gain, Sicken of any number; who is left, who has won, who is next; a team's seats (layer 9). -/
import Derived.Test.YtbiomffjmajlgaaTc
namespace Go.Proofs.Ytbiomffjmajlgaa
open Go.RowKit

set_option maxRecDepth 100000 in
theorem wpList_push {A wr : World} {ops : Array Oper} {rest : List Oper} {o : Oper} {a : Act} {Q : Exit → Act → World → Prop} (hgd : o.guard = none) (s x : Operand)
    (ho : o.op = .call { callee := .builtin .append, args := #[s, x], argTypes := #[22, 22] }) (hty : o.type = 22) (v : Value) (L : List Int) (k : Int) (hs : a.eval s = v)
    (hown : wr.ownsRow A.heap.size 3 1 v L.length (intsV L)) (hb : Below A.heap.size A wr) (hx : a.eval x = .slice (some ⟨wr.heap.size, 0, none⟩) 1 1) (hl : L.length ≤ 900)
    (h : ∀ v' w', w'.ownsRow A.heap.size 3 1 v' (L ++ [k]).length (intsV (L ++ [k])) → Below A.heap.size A w' → wpList Try.prog ops Q rest (a.put o.dst v') w') :
    wpList Try.prog ops Q (o :: rest) a (wr.alloc (.cells #[.int .i64 k] 3)) := by
  have hsz := hb.size
  refine wpList_append_ints hgd s x ho hty A.heap.size v L.length (intsV L) hs (hown.alloc _) _ 1 1 [k] hx rfl ((RowAt.new wr 3 (intsV [k])).vals 1) (by simp; omega) (by simp; omega) ?_
  intro v' w' h1 h2 _
  refine h v' w' ?_ ?_
  · have e : intsV (L ++ [k]) = intsV L ++ intsV [k] := by simp [intsV]
    rw [e, List.length_append]
    exact h1
  · exact grown_of (below_alloc2 hb _) h2 (fun q hq => (hown.lt q hq).1)
def upTo (p : Nat → Bool) (k : Nat) : List Int := ((List.range k).filter p).map fun n => ((n : Nat) : Int)
theorem upTo_yes {p : Nat → Bool} {k : Nat} (h : p k = true) : upTo p (k + 1) = upTo p k ++ [(k : Int)] := by simp [upTo, List.range_succ, List.filter_append, h]
theorem upTo_no {p : Nat → Bool} {k : Nat} (h : p k = false) : upTo p (k + 1) = upTo p k := by simp [upTo, List.range_succ, List.filter_append, h]
theorem upTo_len (p : Nat → Bool) (k : Nat) : (upTo p k).length ≤ k := by
  have := List.length_filter_le p (List.range k)
  simpa [upTo] using this
def leftT (T : TeamL) : List Int := upTo (fun n => !lostT T n) T.sh.length
def seatsT (T : TeamL) (k : Int) : List Int := upTo (fun n => ofT T n == k) T.sides.length
set_option maxRecDepth 100000 in
set_option maxHeartbeats 4000000 in
theorem tchange_out {w : World} {lo b s r : Nat} {T : TeamL} (h : TeamAt w lo b s r T) (k : Int) (hk : inL T k = false) (f : Value) : Calls Try.prog 33 #[.pointer (some ⟨b, 0, none⟩), .int .i64 k, f] w (Same w (.int .i64 2)) := by
  have HI := Lib.hid (thas_any h k)
  rw [hk] at HI
  clear h hk
  go_enter Try.func33, Try.ntmps33
  go_wp2_with fail
  refine HI.out.mono ?_
  rintro e w1 ⟨rfl, rfl⟩
  go_wp2
  go_ret
  exact ⟨rfl, rfl⟩
set_option maxRecDepth 100000 in
set_option maxHeartbeats 4000000 in
theorem tgain_any {w : World} {lo b s r : Nat} {T : TeamL} (h : TeamAt w lo b s r T) (k m : Int) : Calls Try.prog 21 #[.pointer (some ⟨b, 0, none⟩), .int .i64 k, .int .i64 m] w (RetT w lo b s r (.int .i64 (if inL T k then 0 else 2)) (gainT T k m)) := by
  have hmf := @mk_func
  have hb := below_new w (.cells #[.int .i64 m] 3)
  have h' := h.later hb
  have HG := Lib.hid (grown_below (b := r) hb)
  have hg : (w.alloc (.cells #[.int .i64 m] 3)).cell? ⟨w.heap.size, 0, none⟩ = some (.int .i64 m) := by simp [go_sem]
  cases hi : inL T k with
  | false =>
    have e : gainT T k m = T := by simp [gainT, hi]
    rw [e]
    have HC := Lib.hid (fun f => tchange_out h' k hi f)
    have HH := Lib.hid h'
    clear h h' hb hi e hg
    go_enter Try.func21, Try.ntmps21
    go_wp2_with fail
    refine (HC.out _).mono ?_
    rintro e w1 ⟨rfl, rfl⟩
    go_wp2
    go_ret
    exact ⟨rfl, HH.out, HG.out⟩
  | true =>
    obtain ⟨n, rfl, hn⟩ := in_nat hi
    have e : gainT T n m = putT T n ⟨addZ T.sh[n].life m, T.sh[n].poison, T.sh[n].lost⟩ := by rw [gainT, if_pos hi, Int.toNat_natCast, shAt_in hn]
    rw [e]
    obtain ⟨hp1, hp2, hp3⟩ := h'.put n 0 hn (by decide) (.int .i64 (addZ T.sh[n].life m)) ⟨addZ T.sh[n].life m, T.sh[n].poison, T.sh[n].lost⟩ rfl
    obtain ⟨c1, c2, k0, k1⟩ := h'.heads
    obtain ⟨c0, _, _⟩ := h'.cells n hn
    have HI := Lib.hid (thas_any h' n)
    rw [hi] at HI
    have HP := Lib.hid (And.intro hp1 hp2)
    have h2 := h.n2
    obtain ⟨x, hx⟩ : ∃ x, T.sh[n].life = x := ⟨_, rfl⟩
    have HF := Lib.hid (gainFn (w := w.alloc (.cells #[.int .i64 m] 3)) c0 hp3 hg)
    have HC : Hid (Calls Try.prog 33 #[.pointer (some ⟨b, 0, none⟩), .int .i64 n, .func (.func 34) #[] #[.pointer (some ⟨w.heap.size, 0, none⟩)]] (w.alloc (.cells #[.int .i64 m] 3))
        (RetT (w.alloc (.cells #[.int .i64 m] 3)) lo b s r (.int .i64 0) (putT T n ⟨addZ T.sh[n].life m, T.sh[n].poison, T.sh[n].lost⟩))) := Lib.hid (by
      obtain ⟨W, hW⟩ : ∃ W, w.alloc (.cells #[.int .i64 m] 3) = W := ⟨_, rfl⟩
      obtain ⟨g, hgn⟩ : ∃ g, w.heap.size = g := ⟨_, rfl⟩
      rw [hW] at HI HF HP k0 k1 ⊢
      rw [hgn] at HF ⊢
      clear h h' hb hi e hg hW hgn HG hp1 hp2 hp3 c0 hx hmf
      go_enter Try.func33, Try.ntmps33
      go_wp2_with fail
      refine HI.out.mono ?_
      rintro e w1 ⟨rfl, rfl⟩
      go_wp2_with fail
      refine HF.out.mono ?_
      rintro e w2 ⟨rfl, rfl⟩
      go_wp2
      go_ret
      exact ⟨rfl, HP.out.1.later (Below.drew (Below.refl _ _)), grown_trans HP.out.2 (grown_below (Below.drew (Below.refl _ _)))⟩)
    clear h h' hb hi e hg hp1 hp2 hp3 c0 hx HI HP HF k0 k1
    go_enter Try.func21, Try.ntmps21
    go_wp2_with fail
    refine HC.out.mono ?_
    rintro e w1 ⟨rfl, h3, h4⟩
    go_wp2
    go_ret
    exact ⟨rfl, h3, grown_trans HG.out h4⟩
set_option maxRecDepth 100000 in
set_option maxHeartbeats 4000000 in
theorem tsick_any {w : World} {lo b s r : Nat} {T : TeamL} (h : TeamAt w lo b s r T) (k m : Int) : Calls Try.prog 22 #[.pointer (some ⟨b, 0, none⟩), .int .i64 k, .int .i64 m] w (RetT w lo b s r (.int .i64 (if inL T k then 0 else 2)) (sickT T k m)) := by
  have hmf := @mk_func
  have hb := below_new w (.cells #[.int .i64 m] 3)
  have h' := h.later hb
  have HG := Lib.hid (grown_below (b := r) hb)
  have hg : (w.alloc (.cells #[.int .i64 m] 3)).cell? ⟨w.heap.size, 0, none⟩ = some (.int .i64 m) := by simp [go_sem]
  cases hi : inL T k with
  | false =>
    have e : sickT T k m = T := by simp [sickT, hi]
    rw [e]
    have HC := Lib.hid (fun f => tchange_out h' k hi f)
    have HH := Lib.hid h'
    clear h h' hb hi e hg
    go_enter Try.func22, Try.ntmps22
    go_wp2_with fail
    refine (HC.out _).mono ?_
    rintro e w1 ⟨rfl, rfl⟩
    go_wp2
    go_ret
    exact ⟨rfl, HH.out, HG.out⟩
  | true =>
    obtain ⟨n, rfl, hn⟩ := in_nat hi
    have e : sickT T n m = putT T n ⟨T.sh[n].life, max (addZ T.sh[n].poison m) 0, T.sh[n].lost⟩ := by rw [sickT, if_pos hi, Int.toNat_natCast, shAt_in hn]
    rw [e]
    obtain ⟨hp1, hp2, hp3⟩ := h'.put n 1 hn (by decide) (.int .i64 (max (addZ T.sh[n].poison m) 0)) ⟨T.sh[n].life, max (addZ T.sh[n].poison m) 0, T.sh[n].lost⟩ rfl
    obtain ⟨c1, c2, k0, k1⟩ := h'.heads
    obtain ⟨_, c0, _⟩ := h'.cells n hn
    have HI := Lib.hid (thas_any h' n)
    rw [hi] at HI
    have HP := Lib.hid (And.intro hp1 hp2)
    have h2 := h.n2
    have HF := Lib.hid (sickFn (w := w.alloc (.cells #[.int .i64 m] 3)) c0 hp3 hg)
    have HC : Hid (Calls Try.prog 33 #[.pointer (some ⟨b, 0, none⟩), .int .i64 n, .func (.func 36) #[] #[.pointer (some ⟨w.heap.size, 0, none⟩)]] (w.alloc (.cells #[.int .i64 m] 3))
        (RetT (w.alloc (.cells #[.int .i64 m] 3)) lo b s r (.int .i64 0) (putT T n ⟨T.sh[n].life, max (addZ T.sh[n].poison m) 0, T.sh[n].lost⟩))) := Lib.hid (by
      obtain ⟨W, hW⟩ : ∃ W, w.alloc (.cells #[.int .i64 m] 3) = W := ⟨_, rfl⟩
      obtain ⟨g, hgn⟩ : ∃ g, w.heap.size = g := ⟨_, rfl⟩
      rw [hW] at HI HF HP k0 k1 ⊢
      rw [hgn] at HF ⊢
      clear h h' hb hi e hg hW hgn HG hp1 hp2 hp3 c0 hmf
      go_enter Try.func33, Try.ntmps33
      go_wp2_with fail
      refine HI.out.mono ?_
      rintro e w1 ⟨rfl, rfl⟩
      go_wp2_with fail
      refine HF.out.mono ?_
      rintro e w2 ⟨rfl, rfl⟩
      go_wp2
      go_ret
      exact ⟨rfl, HP.out.1.later (Below.drew (Below.refl _ _)), grown_trans HP.out.2 (grown_below (Below.drew (Below.refl _ _)))⟩)
    clear h h' hb hi e hg hp1 hp2 hp3 c0 HI HP HF k0 k1
    go_enter Try.func22, Try.ntmps22
    go_wp2_with fail
    refine HC.out.mono ?_
    rintro e w1 ⟨rfl, h3, h4⟩
    go_wp2
    go_ret
    exact ⟨rfl, h3, grown_trans HG.out h4⟩
set_option maxRecDepth 100000 in
set_option maxHeartbeats 4000000 in
theorem tleft_any {w : World} {lo b s r : Nat} {T : TeamL} (h : TeamAt w lo b s r T) : Calls Try.prog 39 #[.pointer (some ⟨b, 0, none⟩)] w (RetList w (leftT T)) := by
  unfold leftT
  obtain ⟨N, hN⟩ : ∃ N, T.sh.length = N := ⟨_, rfl⟩
  have h2 : N ≤ 4 := by rw [← hN]; exact h.n2
  have HL := Lib.hid (tlen_any h)
  rw [hN] at HL
  have HO := Lib.hid (fun (w' : World) (hb : Below w.heap.size w w') (k : Nat) => tlost_any (h.later hb) k)
  rw [hN]
  clear h hN
  go_enter Try.func39, Try.ntmps39
  go_wp2_with fail
  refine HL.out.mono ?_
  rintro e w1 ⟨rfl, rfl⟩
  go_wp2
  go_loopw [3, 7] (fun v i wr => ∃ k : Nat, k ≤ N ∧ i = .int .i64 k ∧ Hid (wr.ownsRow w1.heap.size 3 1 v (upTo (fun n => !lostT T n) k).length (intsV (upTo (fun n => !lostT T n) k))) ∧ Hid (Below w1.heap.size w1 wr)) (fun _ i _ => N - (intOf i).toNat)
  case atStart => exact ⟨0, Nat.zero_le _, rfl, Lib.hid (World.ownsRow_nil _ _ _ _), Lib.hid (Below.refl _ _)⟩
  case round =>
    obtain ⟨k, hk, rfl, HW, HB⟩ := hrel
    by_cases hlt : k < N
    · have d0 : decide ((k : Int) < N) = true := decide_eq_true (by omega)
      have HC := Lib.hid (HO.out wr HB.out k)
      have hlen := upTo_len (fun n => !lostT T n) k
      obtain ⟨L, hL⟩ : ∃ L, upTo (fun n => !lostT T n) k = L := ⟨_, rfl⟩
      rw [hL] at HW hlen
      cases hb : lostT T k with
      | true =>
        have HN := Lib.hid ((upTo_no (p := fun n => !lostT T n) (k := k) (by simp [hb])).trans hL)
        rw [hb] at HC
        clear hb hL
        go_wp2_with fail
        refine HC.out.mono ?_
        rintro e w2 ⟨rfl, rfl⟩
        go_wp2
        go_roundw
        case rel => exact ⟨k + 1, by omega, by go_num, by rw [HN.out]; exact HW, HB⟩
        case measure => simp [intOf]; omega
      | false =>
        have HN := Lib.hid ((upTo_yes (p := fun n => !lostT T n) (k := k) (by simp [hb])).trans (by rw [hL]))
        rw [hb] at HC
        clear hb hL
        go_wp2_with fail
        refine HC.out.mono ?_
        rintro e w2 ⟨rfl, rfl⟩
        go_wp2_with (at_builtin; refine wpList_push rfl _ _ rfl rfl _ L (k : Int) rfl HW.out HB.out rfl (by omega) ?f)
        case f =>
          intro v' w' h3 h4
          have H3 := Lib.hid (show w'.ownsRow w1.heap.size 3 1 v' (upTo (fun n => !lostT T n) (k + 1)).length (intsV (upTo (fun n => !lostT T n) (k + 1))) from by rw [HN.out, List.length_append]; exact h3)
          have H4 := Lib.hid h4
          clear h3 h4
          go_wp2
          go_roundw
          case rel => exact ⟨k + 1, by omega, by go_num, H3, H4⟩
          case measure => simp [intOf]; omega
    · obtain rfl : k = N := by omega
      go_wp2
      go_ret
      exact ⟨_, rfl, HW.out, HB.out⟩
end Go.Proofs.Ytbiomffjmajlgaa

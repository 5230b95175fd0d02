/- What All looks among, and what it tells (layer 10), as a range over a function; of what isn't there nothing; First. -/
import Derived.Test.YtdlkdilgjmmlaaaGreatAc
namespace Go.Proofs.YtdlkdilgjmmlaaaGreat
open Go.RowKit Go.Maps
attribute [local go_sem] Oper.semAt_some

def amongL (T : TeamL) (S : StoreL) (seat on : Int) : List Int := if on = 0 then [0] else if on = 4 then foesT T (ofT T seat) else crs S
def aimL (T : TeamL) (S : StoreL) (seat on : Int) : List Int := (amongL T S seat on).filter (fun x => chkT T S seat on x == 0)
set_option maxRecDepth 100000 in
theorem zero_seq (n : Nat) (hn : 1 ≤ n) (E H : Nat → Prop) (w : World) : TellsF n E H [0] w 164 #[] := by
  intro l J Jx W hW hl1 hl2 hJ hJx hY h0
  obtain ⟨fn, tmps, assign, body', hyy, hR⟩ := hY [] 0 W h0 (by simp)
  unfold encF at hyy
  clear hY h0
  refine callsIn_of_wp Tryz.func164 rfl trivial ?_ rfl
  simp only [Tryz.ntmps164, List.size_toArray, List.length_cons, List.length_nil, Nat.reduceAdd, Nat.reduceSub, Array.replicate_succ, Array.replicate_zero, List.push_toArray, List.append_toArray, List.nil_append, List.cons_append]
  gi_wp2
  refine hR.mono ?_
  rintro e w3 (⟨rfl, hj3, hk3⟩ | ⟨rfl, hj3, hk3⟩)
  · have HJ3 := Lib.hid hj3
    clear hj3 hk3 hyy hR
    gi_wp2
    go_end0
    exact ⟨⟨_, rfl⟩, .inl ⟨_, rfl, HJ3.out⟩⟩
  · have HJ3 := Lib.hid hj3
    clear hj3 hk3 hyy hR
    gi_wp2
    go_end0
    exact ⟨⟨_, rfl⟩, .inr ⟨_, List.prefix_refl _, HJ3.out⟩⟩
set_option maxRecDepth 100000 in
theorem among_self (n : Nat) (hn : 1 ≤ n) (E H : Nat → Prop) (p q : Option Addr) (seat : Int) (w : World) : Calls Tryz.prog 153 #[.pointer p, .pointer q, .int .i64 seat, .int .i64 0] w (RetAmong n E H [0] w) := by
  go_enter Tryz.func153, Tryz.ntmps153
  go_wp2
  go_ret
  exact ⟨_, _, rfl, fun _ _ => by kernel_rfl, Below.refl _ _, zero_seq n hn E H w⟩
set_option maxRecDepth 100000 in
theorem among_side (n : Nat) (hn : 1 ≤ n) (E H : Nat → Prop) (p : Option Addr) (seat : Int) {w : World} {lo tb s r : Nat} {T : TeamL} (ht : TeamAt w lo tb s r T) (hE : ∀ k, E k → k < w.heap.size) (hH : Heads H w) (hET : ∀ q, q = tb ∨ q = s ∨ q = r → ¬E q ∧ Off H w q) :
    Calls Tryz.prog 153 #[.pointer p, .pointer (some ⟨tb, 0, none⟩), .int .i64 seat, .int .i64 4] w (RetAmong n E H (foesT T (ofT T seat)) w) := by
  have HOF := Lib.hid (tof_any ht seat)
  have HT := Lib.hid ht
  have HE := Lib.hid hE
  have HET := Lib.hid hET
  have HH := Lib.hid hH
  obtain ⟨y, hy⟩ : ∃ y, ofT T seat = y := ⟨_, rfl⟩
  rw [hy] at HOF ⊢
  clear ht hE hH hET hy
  go_enter Tryz.func153, Tryz.ntmps153
  go_wp2_with fail
  refine HOF.out.mono ?_
  rintro e w1 ⟨rfl, rfl⟩
  go_wp2_with fail
  refine (foes_any (some ⟨tb, 0, none⟩) y w1).mono ?_
  rintro e w2 ⟨rfl, hd1, hd2, hb2, _⟩
  have HB2 := Lib.hid hb2
  have HS2 := Lib.hid (foes_seq n hn E H hd1 hd2 (HT.out.later hb2) (fun k hk => by
    rcases hk with hk | hk | hk | hk | hk
    · exact ⟨(HET.out k (.inl hk)).1, (HET.out k (.inl hk)).2.later hb2⟩
    · exact ⟨(HET.out k (.inr (.inl hk))).1, (HET.out k (.inr (.inl hk))).2.later hb2⟩
    · exact ⟨(HET.out k (.inr (.inr hk))).1, (HET.out k (.inr (.inr hk))).2.later hb2⟩
    · exact ⟨fun e => by have := HE.out k e; omega, HH.out.off (by omega) hb2⟩
    · exact ⟨fun e => by have := HE.out k e; omega, HH.out.off (by omega) hb2⟩))
  clear hd1 hd2 hb2
  go_wp2
  go_ret
  exact ⟨_, _, rfl, fun _ _ => by kernel_rfl, HB2.out, HS2.out⟩
set_option maxRecDepth 100000 in
theorem among_live (n : Nat) (hn : 4 ≤ n) (E H : Nat → Prop) (q : Option Addr) (seat on : Int) (h0 : on ≠ 0) (h4 : on ≠ 4) {w : World} {lo b : Nat} {G : Ghost} {S : StoreL} (h : StoreAt w lo b G S) (hS : WfS S) (hl : S.objs.length ≤ 1000) (hE : ∀ k, E k → k < w.heap.size) (hEG : ∀ k, E k → G.tag k = .no) (hH : Heads H w) (hoff : ∀ k, G.tag k ≠ .no → Off H w k) :
    Calls Tryz.prog 153 #[.pointer (some ⟨b, 0, none⟩), .pointer q, .int .i64 seat, .int .i64 on] w (RetAmong n E H (crs S) w) := by
  have d0 : (on == 0) = false := beq_eq_false_iff_ne.2 h0
  have d4 : (on == 4) = false := beq_eq_false_iff_ne.2 h4
  have HT := Lib.hid h
  have HW := Lib.hid hS
  have HL := Lib.hid hl
  have HE := Lib.hid hE
  have HET := Lib.hid hEG
  have HH := Lib.hid hH
  have HO := Lib.hid hoff
  clear h hS hl hE hEG hH hoff h0 h4
  go_enter Tryz.func153, Tryz.ntmps153
  go_wp2_with fail
  refine (creatures_any (some ⟨b, 0, none⟩) w).mono ?_
  rintro e w2 ⟨rfl, hd1, hb2⟩
  have HB2 := Lib.hid hb2
  have HS2 := Lib.hid (crs_seq n hn E H (fun k hk => Nat.lt_of_lt_of_le (HE.out k hk) hb2.size) HET.out (HH.out.later hb2) (fun k hk => (HO.out k hk).later hb2) hd1 (HT.out.later hb2) HW.out HL.out)
  clear hd1 hb2
  go_wp2
  go_ret
  exact ⟨_, _, rfl, fun _ _ => by kernel_rfl, HB2.out, HS2.out⟩
theorem StoreAt.own10 {lo b B : Nat} {G : Ghost} {S : StoreL} (hG : ∀ k, B ≤ k → G.tag k = .no) : OwnFrom B (fun (_ : List Int) W => StoreAt W lo b G S) := fun _ A W row hs hg hr =>
  hs.kept hg.size (fun k hk => hg.block k (hs.tagLt hk) (fun e => hk (hG k (by have := (hr k e.symm).1; omega))))
theorem TeamAt.own10 {lo tb s r B : Nat} {T : TeamL} (hB : tb < B ∧ s < B ∧ r < B) : OwnFrom B (fun (_ : List Int) W => TeamAt W lo tb s r T) := fun _ A W row hs hg hr => by
  cases row with
  | none => exact hs.later (by
      have : Below A.heap.size A W := ⟨hg.os, hg.tape, hg.output, hg.size, fun k hk => hg.block k hk (fun e => by cases e)⟩
      exact this)
  | some g =>
    have := (hr g rfl).1
    exact hs.grown hg (by omega) (by omega) (by omega)
theorem StoreAt.kept10 {W W' : World} {lo b : Nat} {G : Ghost} {S : StoreL} {E H : Nat → Prop} (h : StoreAt W lo b G S) (hE : ∀ k, E k → G.tag k = .no) (ho : ∀ k, G.tag k ≠ .no → Off H W k) (hk : KpP E H W W') : StoreAt W' lo b G S :=
  h.kept hk.size (fun k hkk => by
    have hlt := h.tagLt hkk
    have hq : W.heap[k]? = some W.heap[k] := Array.getElem?_eq_getElem hlt
    exact (hk.rest k _ hq (fun e => hkk (hE k e)) (fun _ => ho k hkk)).trans hq.symm)
/-- What All returns tells just what may be aimed at. -/
theorem aim_seq (n : Nat) (hn : 5 ≤ n) {w : World} {c1 c2 c3 c4 lo b tlo tb s r : Nat} {G : Ghost} {S : StoreL} {T : TeamL} {seat on : Int} (E H : Nat → Prop) (hE : ∀ k, E k → k < w.heap.size) (hEG : ∀ k, E k → G.tag k = .no) (hH : Heads H w) (hoS : ∀ k, G.tag k ≠ .no → Off H w k) (hET : ∀ q, q = tb ∨ q = s ∨ q = r → ¬E q ∧ Off H w q) (hoff : ∀ c, c = c1 ∨ c = c2 ∨ c = c3 ∨ c = c4 → ¬E c ∧ Off H w c)
    (h1 : HdAt w c1 (.pointer (some ⟨b, 0, none⟩))) (h2 : HdAt w c2 (.pointer (some ⟨tb, 0, none⟩))) (h3 : HdAt w c3 (.int .i64 seat)) (h4 : HdAt w c4 (.int .i64 on)) (h : StoreAt w lo b G S) (hS : WfS S) (hl : S.objs.length ≤ 1000) (ht : TeamAt w tlo tb s r T) :
    TellsF n E H (aimL T S seat on) w 152 #[.pointer (some ⟨c1, 0, none⟩), .pointer (some ⟨c2, 0, none⟩), .pointer (some ⟨c3, 0, none⟩), .pointer (some ⟨c4, 0, none⟩)] := by
  intro l J Jx W hW hl1 hl2 hJ hJx hY h0
  have e1 := h1.lt
  have e2 := h2.lt
  have e3 := h3.lt
  have e4 := h4.lt
  have f1 := ht.lt
  have f2 := ht.sd.1
  have f3 := ht.ltr
  have hsz := hW.size
  have hEG' : ∀ k, E k ∨ k = l → G.tag k = .no := fun k hk => by
    rcases hk with hk | rfl
    · exact hEG k hk
    · exact h.high _ hl1
  have hET' : ∀ q, q = tb ∨ q = s ∨ q = r → ¬(E q ∨ q = l) := fun q hq e => by
    rcases e with e | e
    · exact (hET q hq).1 e
    · rcases hq with hq | hq | hq <;> omega
  have hEW : ∀ k, E k ∨ k = l → k < W.heap.size := fun k hk => by
    rcases hk with hk | rfl
    · have := hE k hk; omega
    · exact hl2
  refine (all10_in n (by omega) l c1 c2 c3 c4 (some ⟨b, 0, none⟩) (some ⟨tb, 0, none⟩) seat on (fun V => StoreAt V lo b G S ∧ TeamAt V tlo tb s r T ∧ (∀ k, G.tag k ≠ .no → Off H V k) ∧ ∀ q, q = tb ∨ q = s ∨ q = r → Off H V q) (amongL T S seat on) (chkT T S seat on) (fun k => E k ∨ k = l) H W hEW
    (fun c hc => ⟨fun e => by
      rcases e with e | e
      · exact (hoff c hc).1 e
      · rcases hc with hc | hc | hc | hc <;> omega, (hoff c hc).2.later hW⟩) (hH.later hW)
    (h1.later hW) (h2.later hW) (h3.later hW) (h4.later hW) ⟨h.later hW, ht.later hW, fun k hk => (hoS k hk).later hW, fun q hq => (hET q hq).2.later hW⟩ (fun A B hp hb => ⟨hp.1.later hb, hp.2.1.later hb, fun k hk => (hp.2.2.1 k hk).later hb, fun q hq => (hp.2.2.2 q hq).later hb⟩)
    (fun A B hp hk => ⟨hp.1.kept10 hEG' hp.2.2.1 hk, hp.2.1.kept hk (fun q hq => ⟨hET' q hq, hp.2.2.2 q hq⟩), fun k hkk => hk.off (hp.2.2.1 k hkk) (hp.1.tagLt hkk), fun q hq => hk.off (hp.2.2.2 q hq) (by
      rcases hq with rfl | rfl | rfl
      · exact hp.2.1.lt
      · exact hp.2.1.sd.1
      · exact hp.2.1.ltr)⟩)
    (fun s A B row hp hg hr => ⟨StoreAt.own10 (fun k hk => h.high k (by omega)) s A B row hp.1 hg hr, TeamAt.own10 (by omega) s A B row hp.2.1 hg hr, fun k hk => (hp.2.2.1 k hk).grown hg (fun r e => (hr r e).2), fun q hq => (hp.2.2.2 q hq).grown hg (fun r e => (hr r e).2)⟩)
    (fun V x hp => aimCheck_any hp.1 hS hl hp.2.1 seat on x) (fun V hp hb => ?_) J Jx hJ hJx hY h0).mono ?_
  · have hEV : ∀ k, E k ∨ k = l → k < V.heap.size := fun k hk => by have := hEW k hk; have := hb.size; omega
    unfold amongL
    by_cases ho0 : on = 0
    · subst ho0
      rw [if_pos rfl]
      exact among_self (n - 1) (by omega) _ _ _ _ seat V
    · rw [if_neg ho0]
      by_cases ho4 : on = 4
      · subst ho4
        rw [if_pos rfl]
        exact among_side (n - 1) (by omega) _ _ _ seat hp.2.1 hEV ((hH.later hW).later hb) (fun q hq => ⟨hET' q hq, hp.2.2.2 q hq⟩)
      · rw [if_neg ho4]
        exact among_live (n - 1) (by omega) _ _ _ seat on ho0 ho4 hp.1 hS hl hEV hEG' ((hH.later hW).later hb) hp.2.2.1
  · rintro e W' ⟨h1, h2 | ⟨pre, h2, h3⟩⟩
    · exact ⟨h1, .inl ⟨_, rfl, h2⟩⟩
    · exact ⟨h1, .inr ⟨_, h2, h3⟩⟩
end Go.Proofs.YtdlkdilgjmmlaaaGreat

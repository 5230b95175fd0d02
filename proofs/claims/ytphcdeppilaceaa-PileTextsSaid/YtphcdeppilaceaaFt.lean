/- Plain facts, and what the law PileGoes (layer 5) holds in its loops. -/
import Derived.Test.YtphcdeppilaceaaFs
namespace Go.Proofs.Ytphcdeppilaceaa
open Go.RowKit

/-- Marks that nobody deferred anything at. -/
def MarksAt (W : World) (Ds : List Nat) : Prop := ∀ D ∈ Ds, W.heap[D]? = some (.deferred (some []))
theorem MarksAt.lt {W : World} {Ds : List Nat} (h : MarksAt W Ds) {D : Nat} (hD : D ∈ Ds) : D < W.heap.size := (Array.getElem?_eq_some_iff.1 (h D hD)).1
theorem MarksAt.others {W W' : World} {Ds : List Nat} (h : MarksAt W Ds) (hk : KeepsOthers W W') : MarksAt W' Ds := fun D hD => hk.same D _ (h D hD) rfl
theorem others_below {W W' : World} (h : Below W.heap.size W W') : KeepsOthers W W' := ⟨h.size, fun k _ hk _ => (h.block k (Array.getElem?_eq_some_iff.1 hk).1).trans hk⟩
theorem marks_own {β : Type} {B : Nat} {Ds : List Nat} (hB : ∀ D ∈ Ds, D < B) : OwnFrom B (fun (_ : β) W => MarksAt W Ds) := fun _ W W' row hs hg hr D hD =>
  (hg.block D (hs.lt hD) (fun e => by have := (hr D e.symm).1; have := hB D hD; omega)).trans (hs D hD)
theorem leaves_marks {F : Fence} {n : Nat} {P : Program} {fn : Func} {tmps : Array Value} {R : Ending → World → Prop} {B : Nat} : ∀ (Ds : List Nat) (W : World), Ds.Nodup → (∀ D ∈ Ds, B ≤ D) → MarksAt W Ds →
    (∀ W', Below B W W' → (∀ (j : Nat) (o : Obj), W.heap[j]? = some o → o.isCells = true → W'.heap[j]? = some o) → LeavesIn F n P fn tmps R [] .returning W') →
    LeavesInM F n P fn tmps R (Ds.map fun D => { target := .collected D, args := #[] }) .returning W
  | [], W, _, _, _, h => h W (Below.refl _ _) (fun _ _ h _ => h)
  | D :: Ds, W, hn, hB, hm, h => by
    have hD := hm D (by simp)
    have hlt := hm.lt (D := D) (by simp)
    have hBD := hB D (by simp)
    rw [List.nodup_cons] at hn
    refine ⟨by simp, .inl ⟨D, W.putObj D (.deferred none), rfl, run_takeDeferred hD, ?_⟩⟩
    refine leaves_marks Ds _ hn.2 (fun D' h' => hB D' (by simp [h'])) (fun D' h' => (World.putObj_heap_other (fun e => hn.1 (by rw [← e]; exact h'))).trans (hm D' (by simp [h']))) (fun W' hb hc => ?_)
    refine h W' ?_ ?_
    · have h1 : Below B W (W.putObj D (.deferred none)) := (Below.refl B W).grown (grownBy_putObj' W D (.deferred none)) (by omega) (fun k e => by cases e; exact hBD)
      exact h1.trans hb
    · intro j o hj ho
      refine hc j o ?_ ho
      refine (World.putObj_heap_other ?_).trans hj
      rintro rfl
      rw [hD] at hj
      cases hj
      cases ho

theorem take_snoc_pre {L pre : List Int} {x : Int} (h : pre ++ [x] <+: L) : ∃ r, L = pre ++ x :: r ∧ L.take pre.length = pre ∧ L.drop pre.length = x :: r ∧ L.drop (pre ++ [x]).length = r := by
  obtain ⟨r, hr⟩ := h
  refine ⟨r, by rw [← hr]; simp, by rw [← hr]; simp, by rw [← hr]; simp, by rw [← hr]; simp⟩
theorem zip_pre {L : List Int} {pre : List AItem} {x : AItem} (h : pre ++ [x] <+: L.zipIdx) : x.2 = pre.length ∧ L.take (pre.length + 1) = L.take pre.length ++ [x.1] ∧ L.drop pre.length = x.1 :: L.drop (pre.length + 1) ∧ pre.length < L.length := by
  obtain ⟨r, hr⟩ := h
  have hl : pre.length < L.length := by
    have := congrArg List.length hr
    simp at this; omega
  have hx : L.zipIdx[pre.length]? = some x := by rw [← hr]; simp
  rw [List.getElem?_zipIdx, List.getElem?_eq_getElem hl] at hx
  simp at hx
  subst hx
  exact ⟨rfl, take_last L _ hl, (List.getElem_cons_drop hl).symm, hl⟩
theorem once_same {L : List Int} (h : L.Nodup) : onceL L = L := by
  have hk : ∀ k, k ≤ L.length → onceL (L.take k) = L.take k := by
    intro k
    induction k with
    | zero => intro _; simp [onceL]
    | succ k ih =>
      intro hk
      rw [take_last L k (by omega), onceL_snoc, ih (by omega), ← ins_end]
      unfold layL
      rw [if_neg]
      intro hm
      obtain ⟨i, hi, he⟩ := List.getElem_of_mem hm
      rw [List.getElem_take] at he
      simp at hi
      have e1 := h.idxOf_getElem i (by omega)
      have e2 := h.idxOf_getElem k (by omega)
      rw [he, e2] at e1
      omega
  have := hk L.length (Nat.le_refl _)
  rwa [List.take_length] at this
def rotL (L : List Int) (k : Nat) : List Int := L.drop k ++ L.take k
theorem rot_step {L : List Int} {k : Nat} {x : Int} (hn : L.Nodup) (h1 : L.take (k + 1) = L.take k ++ [x]) (h2 : L.drop k = x :: L.drop (k + 1)) :
    (x ∈ rotL L k) ∧ (rotL L k).erase x = L.drop (k + 1) ++ L.take k ∧ layL (L.drop (k + 1) ++ L.take k) (L.drop (k + 1) ++ L.take k).length x = rotL L (k + 1) ∧ x ∉ L.drop (k + 1) ++ L.take k := by
  have hx : x ∉ L.drop (k + 1) ++ L.take k := by
    have h3 := hn
    rw [← List.take_append_drop (k + 1) L, h1] at h3
    rw [List.nodup_append] at h3
    obtain ⟨h4, _, h5⟩ := h3
    rw [List.mem_append]
    rintro (h6 | h6)
    · exact h5 x (by simp) x h6 rfl
    · rw [List.nodup_append] at h4
      exact h4.2.2 x h6 x (by simp) rfl
  refine ⟨by simp [rotL, h2], by simp [rotL, h2], ?_, hx⟩
  unfold layL
  rw [if_neg hx, ins_end]
  simp [rotL, h1]
theorem rot_len (L : List Int) (k : Nat) (h : k ≤ L.length) : (rotL L k).length = L.length := by simp [rotL]; omega
/-- What the first loop holds. -/
def GoesI (bp fb lo lf : Nat) (L : List Int) (N : Nat) (A w5 : World) (pre : List AItem) (W : World) : Prop :=
  ∃ gp v, PileAt W lo bp gp (rotL L pre.length) ∧ ListIn W lf fb v (L.take pre.length) ∧ (∀ r, gp = some r → v.ownBlock ≠ some r ∧ r ≠ fb) ∧ v.ownBlock ≠ some bp ∧ KpP (fun _ => False) (fun k => k = bp ∨ k = fb) w5 W ∧ Below A.heap.size A W ∧ pre.length ≤ N ∧ pre.length ≤ L.length
theorem goesI_own {bp fb lo lf : Nat} {L : List Int} {N : Nat} {A w5 : World} {B : Nat} (hB : A.heap.size ≤ B) (hB5 : w5.heap.size ≤ B) : OwnFrom B (GoesI bp fb lo lf L N A w5) := by
  rintro s X Y row ⟨gp, v, h1, h2, h3, h4, h5, h6, h7⟩ hg hr
  have hr' : ∀ r, row = some r → ∃ o : Obj, X.heap[r]? = some o ∧ o.isCells = false := fun r e => (hr r e).2
  exact ⟨gp, v, h1.grown hg hr', h2.grown hg hr', h3, h4, kpP_own (β := Unit) hB5 () X Y row h5 hg hr, ownFrom_below (β := Unit) (Nat.le_refl _) hB () X Y row h6 hg hr, h7⟩
/-- What the second one holds. -/
def BacksI (cb bb lo lf : Nat) (gc : Option Nat) (L : List Int) (A w5 : World) (pre : List Int) (W : World) : Prop :=
  ∃ v, PileAt W lo cb gc (L.drop pre.length) ∧ ListIn W lf bb v pre ∧ (∀ r, gc = some r → v.ownBlock ≠ some r ∧ r ≠ bb) ∧ v.ownBlock ≠ some cb ∧ KpP (fun _ => False) (fun k => k = cb ∨ k = bb) w5 W ∧ Below A.heap.size A W ∧ pre.length ≤ L.length
theorem backsI_own {cb bb lo lf : Nat} {gc : Option Nat} {L : List Int} {A w5 : World} {B : Nat} (hB : A.heap.size ≤ B) (hB5 : w5.heap.size ≤ B) : OwnFrom B (BacksI cb bb lo lf gc L A w5) := by
  rintro s X Y row ⟨v, h1, h2, h3, h4, h5, h6, h7⟩ hg hr
  have hr' : ∀ r, row = some r → ∃ o : Obj, X.heap[r]? = some o ∧ o.isCells = false := fun r e => (hr r e).2
  exact ⟨v, h1.grown hg hr', h2.grown hg hr', h3, h4, kpP_own (β := Unit) hB5 () X Y row h5 hg hr, ownFrom_below (β := Unit) (Nat.le_refl _) hB () X Y row h6 hg hr, h7⟩
/-- What the third one holds. -/
def SomeI (sb lf : Nat) (L : List Int) (A w5 : World) (pre : List Int) (W : World) : Prop :=
  ∃ v, ListIn W lf sb v pre ∧ KpP (fun _ => False) (fun k => k = sb) w5 W ∧ Below A.heap.size A W ∧ pre.length ≤ L.length
theorem someI_own {sb lf : Nat} {L : List Int} {A w5 : World} {B : Nat} (hB : A.heap.size ≤ B) (hB5 : w5.heap.size ≤ B) : OwnFrom B (SomeI sb lf L A w5) := by
  rintro s X Y row ⟨v, h2, h5, h6, h7⟩ hg hr
  have hr' : ∀ r, row = some r → ∃ o : Obj, X.heap[r]? = some o ∧ o.isCells = false := fun r e => (hr r e).2
  exact ⟨v, h2.grown hg hr', kpP_own (β := Unit) hB5 () X Y row h5 hg hr, ownFrom_below (β := Unit) (Nat.le_refl _) hB () X Y row h6 hg hr, h7⟩
theorem box_kept {E H : Nat → Prop} {W W' : World} {b : Nat} {v : Value} (h : HdAt W b v) (hk : KpP E H W W') (h1 : ¬E b) (h2 : Off H W b) : HdAt W' b v := by
  obtain ⟨t, h⟩ := h
  exact ⟨t, hk.rest b _ h h1 (fun _ => h2)⟩
/-- Off the heads: a pile's, and a box's. -/
theorem off_pl {W : World} {lo lf b s k : Nat} {g : Option Nat} {v : Value} {L M : List Int} (hp : PileAt W lo b g L) (hl : ListIn W lf s v M) (h1 : k ≠ b) (h2 : k ≠ s) (h3 : g ≠ some k) (h4 : v.ownBlock ≠ some k) : Off (fun k => k = b ∨ k = s) W k :=
  ⟨fun e => by rcases e with e | e; exact h1 e; exact h2 e, fun c hc => by
    rcases hc with rfl | rfl
    · obtain ⟨u, hu, hg⟩ := hp.head; exact ⟨u, hu, by rw [hg]; exact h3⟩
    · exact ⟨v, hl.head, h4⟩⟩
theorem heads_pl {W : World} {lo lf b s : Nat} {g : Option Nat} {v : Value} {L M : List Int} (hp : PileAt W lo b g L) (hl : ListIn W lf s v M) : Heads (fun k => k = b ∨ k = s) W := fun c hc => by
  rcases hc with rfl | rfl
  · obtain ⟨u, hu, hg⟩ := hp.head; exact ⟨u, hu, fun k hk => (hp.row k (by rw [← hg]; exact hk)).2.1⟩
  · exact ⟨v, hl.head, fun k hk => (hl.row k hk).2.1⟩
theorem off_l {W : World} {lf s k : Nat} {v : Value} {M : List Int} (hl : ListIn W lf s v M) (h2 : k ≠ s) (h4 : v.ownBlock ≠ some k) : Off (fun k => k = s) W k :=
  ⟨fun e => h2 e, fun c hc => by subst hc; exact ⟨v, hl.head, h4⟩⟩
theorem heads_l {W : World} {lf s : Nat} {v : Value} {M : List Int} (hl : ListIn W lf s v M) : Heads (fun k => k = s) W := fun c hc => by
  subst hc
  exact ⟨v, hl.head, fun k hk => (hl.row k hk).2.1⟩
/-- A round of the first loop, behind its append. -/
theorem GoesI.step {bp fb lo lf : Nat} {L : List Int} {N : Nat} {A w5 W w7 w8 w9 : World} {pre : List AItem} {x : AItem} {gp g' : Option Nat} {v' : Value} (hA : A.heap.size ≤ lo)
    (k0 : KpP (fun _ => False) (fun k => k = bp ∨ k = fb) w5 W) (b7 : Below A.heap.size A w7)
    (l7 : ListIn w7 lf fb v' (L.take (pre.length + 1))) (k7 : KpP (fun _ => False) (fun k => k = bp ∨ k = fb) W w7) (s7 : (∀ r, gp = some r → v'.ownBlock ≠ some r ∧ r ≠ fb) ∧ v'.ownBlock ≠ some bp) (p7 : PileAt w7 lo bp gp (rotL L pre.length))
    (p8 : PileAt w8 lo bp gp (L.drop (pre.length + 1) ++ L.take pre.length)) (c8 : Chg w7 w8 bp gp) (p9 : PileAt w9 lo bp g' (rotL L (pre.length + 1))) (c9 : Chg w8 w9 bp gp) (n9 : Newer w8 gp g') (hN : pre.length < N) (hl : pre.length < L.length) (hfb : fb ≠ bp) :
    KpP (fun _ => False) (fun k => k = bp ∨ k = fb) W w9 ∧ GoesI bp fb lo lf L N A w5 (pre ++ [x]) w9 := by
  have hs : ∀ c, (c = bp ∨ c = fb) → c ≠ bp → gp ≠ some c := fun c hc hne e => by
    rcases hc with hc | hc
    · exact hne hc
    · exact (s7.1 c e).2 hc
  have k8 : KpP (fun _ => False) (fun k => k = bp ∨ k = fb) w7 w8 := KpP.of_chg c8 p7 p8 (.inl rfl) (.inl rfl) hs
  have k9 : KpP (fun _ => False) (fun k => k = bp ∨ k = fb) w8 w9 := KpP.of_chg c9 p8 p9 n9 (.inl rfl) hs
  have kk := (k7.trans k8).trans k9
  have c79 : Chg w7 w9 bp gp := ⟨c9.os.trans c8.os, c9.tape.trans c8.tape, c9.output.trans c8.output, Nat.le_trans c8.size c9.size, fun i hi h1 h2 => (c9.block i (Nat.lt_of_lt_of_le hi c8.size) h1 h2).trans (c8.block i hi h1 h2)⟩
  have l9 : ListIn w9 lf fb v' (L.take (pre.length + 1)) := by
    refine ⟨(c79.block fb (Array.getElem?_eq_some_iff.1 l7.box).1 hfb (fun e => (s7.1 fb e).2 rfl)).trans l7.box, ⟨l7.own.1, ?_⟩⟩
    rcases l7.own.2 with h5 | ⟨g2, cap, cur, e, hb2, hg2, r⟩
    · exact .inl h5
    · have e2 : v'.ownBlock = some g2 := by rw [e]; rfl
      exact .inr ⟨g2, cap, cur, e, hb2, (c79.block g2 (Array.getElem?_eq_some_iff.1 hg2).1 (fun e3 => s7.2 (by rw [e2, e3])) (fun e3 => (s7.1 g2 e3).1 e2)).trans hg2, r⟩
  have hrow := p7.row
  refine ⟨kk, g', v', by rw [List.length_append]; exact p9, by rw [List.length_append]; exact l9, fun r hr => ?_, s7.2, k0.trans kk, ?_, by rw [List.length_append]; exact hN, by rw [List.length_append]; exact hl⟩
  · rcases n9 with e | ⟨r', e, hr'⟩
    · exact s7.1 r (by rw [← e]; exact hr)
    · rw [e] at hr
      injection hr with hr
      have h1 := c8.size
      exact ⟨fun e3 => by have := (l7.row r e3).2.1; omega, fun e3 => by have := (Array.getElem?_eq_some_iff.1 l7.box).1; omega⟩
  · exact c79.below b7 (Nat.le_trans hA p7.lo) (fun k hk => Nat.le_trans hA (hrow k hk).1)
theorem ListIn.chg {W W' : World} {lo s b : Nat} {g : Option Nat} {v : Value} {L : List Int} (h : ListIn W lo s v L) (hc : Chg W W' b g) (h1 : s ≠ b) (h2 : g ≠ some s) (h3 : v.ownBlock ≠ some b) (h4 : ∀ r, g = some r → v.ownBlock ≠ some r) : ListIn W' lo s v L := by
  refine ⟨(hc.block s (Array.getElem?_eq_some_iff.1 h.box).1 h1 h2).trans h.box, ⟨h.own.1, ?_⟩⟩
  rcases h.own.2 with h5 | ⟨g2, cap, cur, e, hb2, hg2, r⟩
  · exact .inl h5
  · have e2 : v.ownBlock = some g2 := by rw [e]; rfl
    exact .inr ⟨g2, cap, cur, e, hb2, (hc.block g2 (Array.getElem?_eq_some_iff.1 hg2).1 (fun e3 => h3 (by rw [e2, e3])) (fun e3 => h4 g2 e3 e2)).trans hg2, r⟩
/-- A round of the second loop, behind its append. -/
theorem BacksI.step {cb bb lo lf : Nat} {gc : Option Nat} {L : List Int} {A w5 W w7 w8 : World} {pre : List Int} {x : Int} {v' : Value} (hA : A.heap.size ≤ lo)
    (k0 : KpP (fun _ => False) (fun k => k = cb ∨ k = bb) w5 W) (b7 : Below A.heap.size A w7) (l7 : ListIn w7 lf bb v' (pre ++ [x])) (k7 : KpP (fun _ => False) (fun k => k = cb ∨ k = bb) W w7)
    (s7 : (∀ r, gc = some r → v'.ownBlock ≠ some r ∧ r ≠ bb) ∧ v'.ownBlock ≠ some cb) (p7 : PileAt w7 lo cb gc (L.drop pre.length)) (p8 : PileAt w8 lo cb gc (L.drop (pre.length + 1))) (c8 : Chg w7 w8 cb gc) (hl : pre.length < L.length) (hbb : bb ≠ cb) :
    KpP (fun _ => False) (fun k => k = cb ∨ k = bb) W w8 ∧ BacksI cb bb lo lf gc L A w5 (pre ++ [x]) w8 := by
  have hs : ∀ c, (c = cb ∨ c = bb) → c ≠ cb → gc ≠ some c := fun c hc hne e => by
    rcases hc with hc | hc
    · exact hne hc
    · exact (s7.1 c e).2 hc
  have k8 : KpP (fun _ => False) (fun k => k = cb ∨ k = bb) w7 w8 := KpP.of_chg c8 p7 p8 (.inl rfl) (.inl rfl) hs
  have kk := k7.trans k8
  have hrow := p7.row
  refine ⟨kk, v', by rw [List.length_append]; exact p8, l7.chg c8 hbb (fun e => (s7.1 bb e).2 rfl) s7.2 (fun r hr => (s7.1 r hr).1), s7.1, s7.2, k0.trans kk, c8.below b7 (Nat.le_trans hA p7.lo) (fun k hk => Nat.le_trans hA (hrow k hk).1), by rw [List.length_append]; exact hl⟩
theorem ints_take {w : World} {xa : Option Addr} {xc m : Nat} {L : List Int} (h : IntsAt w (.slice xa L.length xc) L) (hm : m ≤ L.length) : IntsAt w (.slice xa m xc) (L.take m) := by
  by_cases h0 : m = 0
  · subst h0
    exact .inl ⟨_, _, rfl, by simp [intsV]⟩
  · rcases h with ⟨_, _, h1, h2⟩ | ⟨b', off', cap', h1, h2, hc⟩
    · have : L = [] := by simpa [intsV] using h2
      subst this; simp at hm; omega
    · injection h1 with h1 _ h3
      subst h1 h3
      have hlen : (L.take m).length = m := by rw [List.length_take]; omega
      refine .inr ⟨b', off', xc, by rw [intsV_len, hlen], h2, fun i hi => ?_⟩
      rw [intsV_len, hlen] at hi
      rw [hc i (by rw [intsV_len]; omega)]
      simp [intsV]
theorem len_zero {w : World} {lo b : Nat} {g : Option Nat} (h : PileAt w lo b g []) : Calls Try.prog 19 #[.pointer (some ⟨b, 0, none⟩)] w (Same w (.int .i64 0)) := len_any h
theorem quiet_drew {w : World} {k : Nat} {v : Value} (e : Ending) (w' : World) (h : Drew (w.drewN k) v e w') : e = .returned v ∧ ∃ m, w' = w.drewN m := by
  obtain ⟨h1, n, h2⟩ := h
  exact ⟨h1, k + n, by rw [h2]; simp⟩
theorem filter_at (f : Int → Bool) (L : List Int) (k : Nat) (hk : k < L.length) (h : f L[k] = true) : ∃ hn : ((L.take k).filter f).length < (L.filter f).length, (L.filter f)[((L.take k).filter f).length] = L[k] := by
  have e : L.filter f = (L.take k).filter f ++ L[k] :: (L.drop (k + 1)).filter f := by
    conv => lhs; rw [← List.take_append_drop k L, List.filter_append, ← List.getElem_cons_drop hk, List.filter_cons, if_pos h]
  refine ⟨by rw [e]; simp, ?_⟩
  simp [e]
theorem filter_next (f : Int → Bool) (L : List Int) (k : Nat) (hk : k < L.length) : ((L.take (k + 1)).filter f).length = ((L.take k).filter f).length + if f L[k] then 1 else 0 := by
  rw [take_last L k hk, List.filter_append, List.length_append]
  cases h : f L[k] <;> simp [h]
theorem list_new (W : World) (lo : Nat) : ListIn (W.alloc (.cells #[.slice none 0 0] 22)) lo W.heap.size (.slice none 0 0) [] := ⟨World.alloc_heap_new W _, World.ownsRow_nil _ _ _ _⟩
theorem results_box6 {fn : Func} {tmps : Array Value} {W : World} {b : Nat} {v : Bool} (h : fn.results = #[.cell 6 4]) (ht : tmps.getD 6 undef = .pointer (some ⟨b, 0, none⟩)) (hc : HdAt W b (.bool v)) : (results fn tmps).run Try.prog W = .ok (.bool v) W := by
  have hc := hc.cell
  simp only [Array.getD_eq_getD_getElem?] at ht
  simp [results, h, go_sem, ht, hc]
end Go.Proofs.Ytphcdeppilaceaa

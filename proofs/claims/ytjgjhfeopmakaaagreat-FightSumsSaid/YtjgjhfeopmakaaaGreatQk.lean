/- Men in memory, and the cards that the law's Board makes of them (layer 17). -/
import Derived.Test.YtjgjhfeopmakaaaGreatEa
import Derived.Test.YtjgjhfeopmakaaaGreatOt
namespace Go.Proofs.YtjgjhfeopmakaaaGreat
open Go.RowKit Go.Maps
attribute [local go_sem] Oper.semAt_some

structure ManL where
  power : Int
  tough : Int
  keys : Int
  owner : Int
  hurt : Int
  block : Int
  tapped : Bool
  sick : Bool
  attacks : Bool
def ManCells (w : World) (b o : Nat) (m : ManL) : Prop := w.cell? ⟨b, o, none⟩ = some (.int .i64 m.power) ∧ w.cell? ⟨b, o + 1, none⟩ = some (.int .i64 m.tough) ∧ w.cell? ⟨b, o + 2, none⟩ = some (.int .i64 m.keys) ∧ w.cell? ⟨b, o + 3, none⟩ = some (.int .i64 m.owner) ∧ w.cell? ⟨b, o + 4, none⟩ = some (.int .i64 m.hurt) ∧ w.cell? ⟨b, o + 5, none⟩ = some (.int .i64 m.block) ∧ w.cell? ⟨b, o + 6, none⟩ = some (.bool m.tapped) ∧ w.cell? ⟨b, o + 7, none⟩ = some (.bool m.sick) ∧ w.cell? ⟨b, o + 8, none⟩ = some (.bool m.attacks)
def MansAt (w : World) (v : Value) (l : List ManL) : Prop :=
  (∃ xa cap, v = .slice xa 0 cap ∧ l = []) ∨ ∃ b off cap, v = .slice (some ⟨b, off, none⟩) l.length cap ∧ b < w.heap.size ∧ ∀ i (h : i < l.length), ManCells w b (off + i * 9) l[i]
theorem ManCells.later {w w' : World} {b o : Nat} {x : ManL} (h : ManCells w b o x) (hb : Below w.heap.size w w') : ManCells w' b o x := by
  obtain ⟨c0, c1, c2, c3, c4, c5, c6, c7, c8⟩ := h
  exact ⟨cell_stays hb c0, cell_stays hb c1, cell_stays hb c2, cell_stays hb c3, cell_stays hb c4, cell_stays hb c5, cell_stays hb c6, cell_stays hb c7, cell_stays hb c8⟩
theorem MansAt.later {w w' : World} {v : Value} {l : List ManL} (h : MansAt w v l) (hb : Below w.heap.size w w') : MansAt w' v l := by
  rcases h with h | ⟨b, off, cap, rfl, hlt, hc⟩
  · exact .inl h
  · exact .inr ⟨b, off, cap, rfl, Nat.lt_of_lt_of_le hlt hb.size, fun i hi => (hc i hi).later hb⟩
theorem MansAt.form {w : World} {v : Value} {l : List ManL} (h : MansAt w v l) : ∃ xa xc, v = .slice xa l.length xc := by
  rcases h with ⟨xa, cap, rfl, rfl⟩ | ⟨b, off, cap, rfl, _⟩
  · exact ⟨xa, cap, rfl⟩
  · exact ⟨_, cap, rfl⟩
theorem MansAt.at {w : World} {xa : Option Addr} {xc : Nat} {l : List ManL} (h : MansAt w (.slice xa l.length xc) l) (k : Nat) (hk : k < l.length) : ∃ b off, xa = some ⟨b, off, none⟩ ∧ ManCells w b (off + k * 9) l[k] := by
  rcases h with ⟨_, _, _, h2⟩ | ⟨b, off, cap, h1, _, hc⟩
  · subst h2; simp at hk
  · injection h1 with h1 _ _; exact ⟨b, off, h1, hc k hk⟩

def cardM (m : ManL) : Crd.CardL := ⟨2, 0, m.power, m.tough, m.keys, 0, []⟩
def crdC (m : ManL) : List Value := [.int .i64 2, .int .i64 0, .int .i64 m.power, .int .i64 m.tough, .int .i64 m.keys, .int .i64 0, .slice none 0 0]
def crdV (l : List ManL) : List Value := l.flatMap crdC
theorem crdV_len (l : List ManL) : (crdV l).length = l.length * 7 := by
  induction l with
  | nil => rfl
  | cons o l ih => simp only [crdV, List.flatMap_cons, List.length_append, List.length_cons] at ih ⊢; rw [ih]; simp [crdC]; omega
theorem crdV_append (l r : List ManL) : crdV (l ++ r) = crdV l ++ crdV r := by simp [crdV]
theorem crdV_at : ∀ (l : List ManL) (k j : Nat) (h : k < l.length) (_ : j < 7), (crdV l)[k * 7 + j]? = (crdC l[k])[j]?
  | [], k, j, h, _ => by simp at h
  | o :: l, 0, j, _, hj => by
    simp only [crdV, List.flatMap_cons, Nat.zero_mul, Nat.zero_add, List.getElem_cons_zero]
    exact List.getElem?_append_left (by simpa [crdC] using hj)
  | o :: l, k + 1, j, h, hj => by
    have e : (crdV (o :: l))[(k + 1) * 7 + j]? = (crdV l)[k * 7 + j]? := by
      rw [show (k + 1) * 7 + j = k * 7 + j + 7 by omega]
      simp [crdV, crdC]
    rw [e, crdV_at l k j (by simpa using h) hj]
    rfl
theorem crd_cards {w : World} {lo : Nat} {v : Value} {l : List ManL} (h : w.ownsRow lo 65 7 v l.length (crdV l)) : Crd.CardsAt w v (l.map cardM) := by
  rcases h.2 with ⟨e, h0⟩ | ⟨g, cap, cur, e, hb, hg, hn, hm, hs, ht⟩
  · exact .inl ⟨none, 0, e, by rw [List.eq_nil_of_length_eq_zero h0]; rfl⟩
  · refine .inr ⟨g, 0, cap, by rw [List.length_map]; exact e, (Array.getElem?_eq_some_iff.1 hg).1, fun k hk => ?_⟩
    rw [List.length_map] at hk
    have hc : ∀ j (hj : j < 7), w.cell? ⟨g, k * 7 + j, none⟩ = (crdC l[k])[j]? := fun j hj => by
      rw [← crdV_at l k j hk hj, cell_of_row w g (k * 7 + j) _ _ (0, 0) hg, ← ht, List.getElem?_take_of_lt (by omega)]
      simp
    rw [List.getElem_map, Nat.zero_add]
    exact ⟨none, 0, hc 0 (by decide), hc 1 (by decide), hc 2 (by decide), hc 3 (by decide), hc 4 (by decide), hc 5 (by decide), hc 6 (by decide), .inl ⟨none, 0, rfl, rfl⟩⟩
theorem crdC_one (x : ManL) : ∀ u ∈ crdC x, u.oneCell' = true := by
  intro u hu
  simp only [crdC, List.mem_cons, List.not_mem_nil, or_false] at hu
  rcases hu with rfl | rfl | rfl | rfl | rfl | rfl | rfl <;> rfl
theorem crd_later {w w' : World} {lo n : Nat} {v : Value} {xs : List Value} (h : w.ownsRow lo 65 7 v n xs) (hb : Below w.heap.size w w') : w'.ownsRow lo 65 7 v n xs :=
  own11_later h fun k hk => hb.block k (World.ownsRow.lt h k hk).2
theorem wpList_push_card {ops : Array Oper} {rest : List Oper} {o : Oper} {a : Act} {w : World} {Q : Exit → Act → World → Prop} (hgd : o.guard = none) (s x : Operand)
    (hop : o.op = .call { callee := .builtin .append, args := #[s, x], argTypes := #[62, 62] }) (base : Nat) (v : Value) (l : List ManL) (y : ManL) (hs : a.eval s = v) (r : Nat)
    (hown : w.ownsRow base 65 7 v l.length (crdV l)) (hx : a.eval x = .slice (some ⟨r, 0, none⟩) 1 1) (hr : w.heap[r]? = some (.cells (crdC y).toArray 65 (0, 0))) (h1 : l.length ≤ 1000) (hbase : base ≤ w.heap.size)
    (hK : ∀ g cap w', w'.ownsRow base 65 7 (.slice (some ⟨g, 0, none⟩) (l.length + 1) cap) (l.length + 1) (crdV (l ++ [y])) → w.grownBy w' v.ownBlock → (v.ownBlock = some g ∨ g = w.heap.size) → g < w'.heap.size → wpList Tryz.prog ops Q rest (a.put o.dst (.slice (some ⟨g, 0, none⟩) (l.length + 1) cap)) w') :
    wpList Tryz.prog ops Q (o :: rest) a w := by
  obtain ⟨i0, hi0, hz0, hz1, hz2⟩ := info_parts info_card
  refine wpList_append_lies w hgd s x 62 hop base 65 i0 _ 7 72 Tryz.underlying62 hi0 hz0 hz1 hz2 rfl (by decide) v l.length (crdV l) hs hown ⟨r, 0, none⟩ 1 1 (crdC y) hx rfl (World.news_of_block hr) (crdC_one y) (by decide) (by unfold maxLen; omega) (by omega) hbase w.heap.size rfl ?_
  intro g cap w' h2 h3 h4 h5
  refine hK g cap w' ?_ h3 h4 h5
  rw [crdV_append, show crdV [y] = crdC y by simp [crdV]]
  exact h2
theorem crd_form {w : World} {lo n : Nat} {v : Value} {xs : List Value} (h : w.ownsRow lo 65 7 v n xs) : ∃ xa xc, v = .slice xa n xc := by
  rcases h.2 with ⟨rfl, h0⟩ | ⟨g, cap, cur, rfl, _⟩
  · exact ⟨none, 0, by rw [h0]⟩
  · exact ⟨_, cap, rfl⟩
set_option maxRecDepth 100000 in
set_option maxHeartbeats 4000000 in
theorem newS_bad {w : World} {v : Value} {T : List Crd.CardL} (h : Crd.CardsAt w v T) (hl : T.length ≤ 60) (hs : Crd.SmallC T) (ht : Crd.tableE T ≠ 0) : Calls Tryz.prog 23 #[v, .int .i64 4] w (RetV w (.tuple #[.pointer none, .int .i64 (Crd.tableE T)])) := by
  have HT := Lib.hid (Crd.table_any h (by omega) hs)
  obtain ⟨n, hn⟩ : ∃ n, Crd.tableE T = n := ⟨_, rfl⟩
  rw [hn] at HT ht ⊢
  have d0 : decide (n = 0) = false := decide_eq_false ht
  have d1 : (n == 0) = false := beq_eq_false_iff_ne.2 ht
  obtain ⟨va, vc, rfl⟩ := h.form
  clear h hs hn
  go_enter Tryz.func23, Tryz.ntmps23
  go_wp2_with fail
  refine HT.out.mono ?_
  rintro e w1 ⟨rfl, hb1⟩
  have HB1 := Lib.hid hb1
  clear hb1
  dsimp only
  go_wp2
  go_ret2
  exact ⟨rfl, HB1.out⟩
/-! The board that is made. -/
def manO (k : Nat) (m : ManL) : ObjL := ⟨(k : Int) + 1, k, m.owner, 3, m.tapped, m.sick, m.hurt, 0, 0, m.block, m.attacks⟩
def okM (m : ManL) : Bool := decide (0 ≤ m.owner ∧ m.owner < 4)
def step17 (S : StoreL) (m : ManL) : StoreL := setL (addL S S.objs.length m.owner.toNat 3) S.objs.length (manO S.objs.length m)
def made17 (T : List Crd.CardL) (l : List ManL) : StoreL := l.foldl step17 ⟨T, 4, [], fun _ _ => []⟩
theorem made17_snoc (T : List Crd.CardL) (l : List ManL) (x : ManL) : made17 T (l ++ [x]) = step17 (made17 T l) x := by simp [made17]
structure Made17 (T : List Crd.CardL) (S : StoreL) (l : List ManL) : Prop where
  tab : S.T = T
  seats : S.seats = 4
  len : S.objs.length = l.length
  at' : ∀ k (h : k < S.objs.length) (h' : k < l.length), S.objs[k] = manO k l[k]
  wf : WfS S
  pl : S.pl 0 3 = (List.range l.length).map fun k : Nat => (k : Int) + 1
  fn : S = made17 T l
theorem made17_none (T : List Crd.CardL) : Made17 T ⟨T, 4, [], fun _ _ => []⟩ [] := ⟨rfl, rfl, rfl, fun k h _ => absurd h (Nat.not_lt_zero k), WfS.none _ _, rfl, rfl⟩
theorem Made17.step {T : List Crd.CardL} {S : StoreL} {l : List ManL} (h : Made17 T S l) (x : ManL) (hok : okM x = true) (hT : l.length < T.length) : Made17 T (step17 S x) (l ++ [x]) := by
  simp only [okM, decide_eq_true_eq] at hok
  obtain ⟨h0, h1⟩ := hok
  have hn : S.objs.length < S.T.length := by rw [h.tab, h.len]; exact hT
  have hs := h.seats
  have hwa := h.wf.add (n := S.objs.length) (owner := x.owner.toNat) (zone := 3) hn (by omega) (by omega) (by omega)
  have hpl := addL_pl (n := S.objs.length) (owner := x.owner.toNat) (zone := 3) h.wf (by omega) (by omega) (by omega)
  have hlen : (addL S S.objs.length x.owner.toNat 3).objs.length = S.objs.length + 1 := by show (S.objs ++ [_]).length = _; simp
  have hk : S.objs.length < (addL S S.objs.length x.owner.toNat 3).objs.length := by omega
  have hat : (addL S S.objs.length x.owner.toNat 3).objs[S.objs.length]'hk = freshO S.T (S.objs.length + 1) S.objs.length x.owner.toNat (3 : Nat) := by
    show (S.objs ++ [_])[S.objs.length]'(by simp) = _
    rw [List.getElem_append_right (Nat.le_refl _)]
    simp
  refine ⟨h.tab, h.seats, ?_, ?_, ?_, ?_, ?_⟩
  · show ((addL S S.objs.length x.owner.toNat 3).objs.set _ _).length = _
    rw [List.length_set, hlen, List.length_append, h.len]; rfl
  · intro k hk1 hk2
    have e1 : (step17 S x).objs[k]'hk1 = ((S.objs ++ [freshO S.T (S.objs.length + 1) S.objs.length x.owner.toNat (3 : Nat)]).set S.objs.length (manO S.objs.length x))[k]'(by rw [List.length_set, List.length_append]; have := h.len; rw [List.length_append] at hk2; simp at hk2 ⊢; omega) := rfl
    rw [e1, List.getElem_set]
    by_cases hkl : S.objs.length = k
    · rw [if_pos hkl]
      have e2 : (l ++ [x])[k] = x := by rw [List.getElem_append_right (by have := h.len; omega)]; simp
      rw [e2, hkl]
    · rw [if_neg hkl]
      rw [List.length_append] at hk2
      simp at hk2
      have hks : k < S.objs.length := by have := h.len; omega
      rw [List.getElem_append_left hks, List.getElem_append_left (by have := h.len; omega)]
      exact h.at' k hks (by have := h.len; omega)
  · refine hwa.set hk rfl ?_ ?_ ?_ <;> rw [hat] <;> simp [manO, freshO]
    omega
  · show (addL S S.objs.length x.owner.toNat 3).pl 0 3 = _
    rw [hpl, show canN x.owner.toNat 3 = 0 from rfl, upd_same, h.pl, List.length_append, h.len]
    simp [List.range_succ]
  · rw [made17_snoc, ← h.fn]
def board17 (l : List ManL) (n : Nat) : BoardL := ⟨made17 (l.map cardM) l, sidesT n, dry0⟩
def play17 (l : List ManL) : Prop := l.length ≤ 20 ∧ (l.map cardM).all Crd.mayB = true ∧ l.all okM = true
theorem made17_fold (l : List ManL) (hl : l.all okM = true) : Made17 (l.map cardM) (made17 (l.map cardM) l) l := by
  have h : ∀ k, k ≤ l.length → Made17 (l.map cardM) (made17 (l.map cardM) (l.take k)) (l.take k) := fun k => by
    induction k with
    | zero => intro _; rw [List.take_zero]; exact made17_none _
    | succ k ih =>
      intro hk
      have hok : okM l[k] = true := (List.all_eq_true.1 hl) _ (List.getElem_mem (by omega))
      rw [List.take_succ_eq_append_getElem (by omega), made17_snoc]
      exact (ih (by omega)).step _ hok (by rw [List.length_take, List.length_map]; omega)
  have := h l.length (Nat.le_refl _)
  rwa [List.take_length] at this
/-- What Board answers. -/
def RetB17 (w : World) (l : List ManL) (n : Nat) (e : Ending) (w' : World) : Prop :=
  (play17 l ∧ ∃ lo g, e = .returned (.pointer (some ⟨g.q, 0, none⟩)) ∧ BoardAt w' lo g (board17 l n) ∧ w.heap.size ≤ lo ∧ Below w.heap.size w w') ∨ (¬play17 l ∧ e = .returned (.pointer none) ∧ Below w.heap.size w w')
end Go.Proofs.YtjgjhfeopmakaaaGreat

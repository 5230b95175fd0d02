/- A board's Copy and Same, and New (layer 11). A board's Copy, and New (layer 11). Plain facts for the laws of layer 9: who is left and who is next, by who has lost; the list that a range over Foes gathers. Plain facts of what may be aimed at (layer 10): what All tells, by the piles and the teams. The statements' Board, and the document's example (layer 11). -/
import Derived.Test.YtdlkdilgjmmlaaaGreatBd
import Derived.Test.YtdlkdilgjmmlaaaGreatJx
import Derived.Deep.QuietTactic
import Derived.BigQuiet
import Derived.Test.YtdlkdilgjmmlaaaGreatTk
namespace Go.Proofs.YtdlkdilgjmmlaaaGreat
open Go.RowKit Go.Maps
attribute [local go_sem] Oper.semAt_some

theorem keepB6 {A w w' : World} {a0 a1 a2 a3 a4 a5 : Addr} {v0 v1 v2 v3 v4 v5 : Value} (hb : Below w.heap.size w w') (h : Below A.heap.size A w ∧ w.cell? a0 = some v0 ∧ w.cell? a1 = some v1 ∧ w.cell? a2 = some v2 ∧ w.cell? a3 = some v3 ∧ w.cell? a4 = some v4 ∧ w.cell? a5 = some v5) : Below A.heap.size A w' ∧ w'.cell? a0 = some v0 ∧ w'.cell? a1 = some v1 ∧ w'.cell? a2 = some v2 ∧ w'.cell? a3 = some v3 ∧ w'.cell? a4 = some v4 ∧ w'.cell? a5 = some v5 :=
  ⟨stepB h.1 hb, cell_stays hb h.2.1, cell_stays hb h.2.2.1, cell_stays hb h.2.2.2.1, cell_stays hb h.2.2.2.2.1, cell_stays hb h.2.2.2.2.2.1, cell_stays hb h.2.2.2.2.2.2⟩
end Go.Proofs.YtdlkdilgjmmlaaaGreat
namespace Go.Proofs.YtdlkdilgjmmlaaaGreat
open Go.RowKit Go.Maps
attribute [local go_sem] Oper.semAt_some

/-- A board that a call makes. -/
def RetBN (w : World) (B : BoardL) (e : Ending) (w' : World) : Prop := ∃ g, e = .returned (.pointer (some ⟨g.q, 0, none⟩)) ∧ BoardAt w' w.heap.size g B ∧ Below w.heap.size w w'
theorem TeamAt.mono {w : World} {lo lo' b s r : Nat} {T : TeamL} (h : TeamAt w lo b s r T) (hl : lo' ≤ lo) : TeamAt w lo' b s r T :=
  ⟨h.hd, h.sd, h.rw, Nat.le_trans hl h.lb, Nat.le_trans hl h.ls, Nat.le_trans hl h.lr, h.br, h.sr, h.n1, h.n2, h.nd⟩
theorem StoreAt.mono {w : World} {lo lo' b : Nat} {G : Ghost} {S : StoreL} (h : StoreAt w lo b G S) (hl : lo' ≤ lo) : StoreAt w lo' b G S :=
  ⟨h.hd, h.tab, own_mono h.ob hl, h.mp, fun s z ok => (h.pi s z ok).mono hl, h.tb, h.tm, h.tr, h.tp, h.tg, fun k hk => Nat.le_trans hl (h.low k hk), h.high, h.n1, h.n4, h.ok⟩
/-- A board out of a copy of a store and a copy of teams. -/
theorem board_parts {w1 w2 w3 w4 : World} {lo b tb s r : Nat} {G : Ghost} {S : StoreL} {T : TeamL} {D : DryL} (hs : StoreAt w2 w1.heap.size b G S) (ht : TeamAt w4 w3.heap.size tb s r T) (h12 : w1.heap.size ≤ w2.heap.size) (h23 : w2.heap.size ≤ w3.heap.size) (h24 : Below w2.heap.size w2 w4) (h34 : w3.heap.size ≤ w4.heap.size)
    (hl : lo ≤ w1.heap.size) (hw : WfS S) (hlen : S.objs.length ≤ 999) (hse : T.sides.length = S.seats) :
    BoardAt (w4.alloc (.cells #[.pointer (some ⟨b, 0, none⟩), .pointer (some ⟨tb, 0, none⟩), .bool D.a, .bool D.b, .bool D.c, .bool D.d] 36)) lo ⟨w4.heap.size, b, tb, s, r, G⟩ ⟨S, T, D⟩ := by
  have hno : ∀ k, w2.heap.size ≤ k → G.tag k = .no := hs.high
  refine ⟨heap_alloc_new _ _, ((hs.later h24).later (below_new _ _)).mono hl, hw, hlen, (ht.later (below_new _ _)).mono (by omega), hse, ?_, hno _ (by show _ ≤ w4.heap.size; omega), hno _ (by have := ht.lb; show _ ≤ tb; omega), hno _ (by have := ht.ls; show _ ≤ s; omega), hno _ (by have := ht.lr; show _ ≤ r; omega), ?_, ?_, ?_⟩
  · show lo ≤ w4.heap.size; omega
  · have := ht.lt; show w4.heap.size ≠ tb; omega
  · have := ht.sd.1; show w4.heap.size ≠ s; omega
  · have := ht.ltr; show w4.heap.size ≠ r; omega
set_option maxRecDepth 100000 in
set_option maxHeartbeats 4000000 in
theorem bcopy_any {w : World} {lo : Nat} {g : GhostB} {B : BoardL} (h : BoardAt w lo g B) : Calls Tryz.prog 29 #[.pointer (some ⟨g.q, 0, none⟩)] w (RetBN w B) := by
  obtain ⟨c0, c1, c2, c3, c4, c5⟩ := h.cells
  have HS := Lib.hid (fun (w' : World) (hb : Below w.heap.size w w') => copyS_any (h.st.later hb) (h.wf.short (by have := h.len; omega)))
  have HT := Lib.hid (fun (w' : World) (hb : Below w.heap.size w w') => tcopy_any (h.tm.later hb))
  have HP := Lib.hid (And.intro h.wf (And.intro h.len h.se))
  have HI := Lib.hid (show Below w.heap.size w w ∧ _ ∧ _ ∧ _ ∧ _ ∧ _ ∧ _ from ⟨Below.refl _ _, c0, c1, c2, c3, c4, c5⟩)
  obtain ⟨S, T, Da, Db, Dc, Dd⟩ := B
  obtain ⟨q, b, tb, s, r, G⟩ := g
  dsimp only at HI HS HT HP ⊢
  clear h c0 c1 c2 c3 c4 c5
  go_enter Tryz.func29, Tryz.ntmps29
  go_wp2
  go_region_held3 (fun w' => Below w.heap.size w w' ∧ w'.cell? ⟨q, 0, none⟩ = some (.pointer (some ⟨b, 0, none⟩)) ∧ w'.cell? ⟨q, 1, none⟩ = some (.pointer (some ⟨tb, 0, none⟩)) ∧ w'.cell? ⟨q, 2, none⟩ = some (.bool Da) ∧ w'.cell? ⟨q, 3, none⟩ = some (.bool Db) ∧ w'.cell? ⟨q, 4, none⟩ = some (.bool Dc) ∧ w'.cell? ⟨q, 5, none⟩ = some (.bool Dd))
    (first | assumption | (with_reducible exact HI.out) | exact keepB6 ((Below.refl _ _).drew) HI.out | exact keepB6 (by assumption) (by assumption) | exact keepB6 (below_new _ _) (by assumption))
    (first
      | (go_at_call 62; refine (HS.out _ (And.left (by assumption))).mono ?_; rintro e w2 ⟨b2, G2, rfl, hs2, hb2⟩)
      | (go_at_call 63; refine (HT.out _ (And.left (by assumption))).mono ?_; rintro e w3 ⟨tb3, s3, r3, rfl, ht3, hb3⟩))
  have hB := And.left (by assumption : _ ∧ _)
  have HBB := Lib.hid (show Below w.heap.size w _ from hB)
  have HS2 := Lib.hid hs2
  have HT3 := Lib.hid ht3
  have HB2 := Lib.hid hb2
  have HB3 := Lib.hid hb3
  rename_i hHeld
  clear hHeld hB hs2 ht3 hb2 hb3
  go_wp2
  go_ret
  exact ⟨⟨w3.heap.size, b2, tb3, s3, r3, G2⟩, rfl, board_parts (D := ⟨Da, Db, Dc, Dd⟩) HS2.out HT3.out HB2.out.size (Nat.le_refl _) HB3.out HB3.out.size (Nat.le_refl _) HP.out.1 HP.out.2.1 HP.out.2.2, HBB.out⟩
/-- What New answers. -/
def RetBNew (w : World) (z : Bool) (B : BoardL) (e : Ending) (w' : World) : Prop :=
  (z = true → ∃ g, e = .returned (.tuple #[.pointer (some ⟨g.q, 0, none⟩), .int .i64 0]) ∧ BoardAt w' w.heap.size g B) ∧ (z = false → e = .returned (.tuple #[.pointer none, .int .i64 20])) ∧ Below w.heap.size w w'
set_option maxRecDepth 100000 in
set_option maxHeartbeats 4000000 in
theorem bnew_any {w : World} {lo lo' b tb s r : Nat} {G : Ghost} {S : StoreL} {T : TeamL} (h : StoreAt w lo b G S) (hw : WfS S) (hl : S.objs.length ≤ 999) (ht : TeamAt w lo' tb s r T) :
    Calls Tryz.prog 72 #[.pointer (some ⟨b, 0, none⟩), .pointer (some ⟨tb, 0, none⟩)] w (RetBNew w (decide (S.seats = T.sides.length)) ⟨S, T, dry0⟩) := by
  have HS := Lib.hid (fun (w' : World) (hb : Below w.heap.size w w') => copyS_any (h.later hb) (hw.short (by omega)))
  have HT := Lib.hid (fun (w' : World) (hb : Below w.heap.size w w') => tcopy_any (ht.later hb))
  have HN := Lib.hid (sseats_any h)
  have HM := Lib.hid (tseats_any ht)
  have HP := Lib.hid (And.intro hw hl)
  obtain ⟨n, hn⟩ : ∃ n, S.seats = n := ⟨_, rfl⟩
  obtain ⟨m, hm⟩ : ∃ m, T.sides.length = m := ⟨_, rfl⟩
  rw [hn] at HN ⊢
  rw [hm] at HM ⊢
  have HNM := Lib.hid (And.intro hn hm)
  clear h ht hw hl hn hm
  by_cases he : n = m
  · have d0 : ((n : Int) != (m : Int)) = false := by rw [he]; exact bne_self_eq_false _
    have HE := Lib.hid he
    rw [decide_eq_true he]
    clear he
    go_enter Tryz.func72, Tryz.ntmps72
    go_wp2_with fail
    refine HN.out.mono ?_
    rintro e w1 ⟨rfl, rfl⟩
    go_wp2_with fail
    refine HM.out.mono ?_
    rintro e w1 ⟨rfl, rfl⟩
    go_wp2_with fail
    refine (HS.out _ (Below.refl _ _)).mono ?_
    rintro e w2 ⟨b2, G2, rfl, hs2, hb2⟩
    have HS2 := Lib.hid hs2
    have HB2 := Lib.hid hb2
    clear hs2 hb2
    dsimp only
    go_wp2_with fail
    refine (HT.out _ HB2.out).mono ?_
    rintro e w3 ⟨tb3, s3, r3, rfl, ht3, hb3⟩
    have HT3 := Lib.hid ht3
    have HB3 := Lib.hid hb3
    clear ht3 hb3
    dsimp only
    go_wp2
    refine bodyPost_ret (by simp [results, Tryz.results72, go_sem]; first | rfl | exact ⟨rfl, rfl⟩) rfl ?_
    refine ⟨fun _ => ⟨⟨w3.heap.size, b2, tb3, s3, r3, G2⟩, rfl, board_parts (D := dry0) HS2.out HT3.out HB2.out.size (Nat.le_refl _) HB3.out HB3.out.size (Nat.le_refl _) HP.out.1 HP.out.2 (HNM.out.2.trans (HE.out.symm.trans HNM.out.1.symm))⟩, fun e => (by cases e), below_alloc2 (stepB HB2.out HB3.out) _⟩
  · have d0 : ((n : Int) != (m : Int)) = true := bne_iff_ne.2 (by omega)
    rw [decide_eq_false he]
    clear he
    go_enter Tryz.func72, Tryz.ntmps72
    go_wp2_with fail
    refine HN.out.mono ?_
    rintro e w1 ⟨rfl, rfl⟩
    go_wp2_with fail
    refine HM.out.mono ?_
    rintro e w1 ⟨rfl, rfl⟩
    go_wp2
    refine bodyPost_ret (by simp [results, Tryz.results72, go_sem]; first | rfl | exact ⟨rfl, rfl⟩) rfl ?_
    exact ⟨fun e => (by cases e), fun _ => rfl, Below.refl _ _⟩
end Go.Proofs.YtdlkdilgjmmlaaaGreat
namespace Go.Proofs.YtdlkdilgjmmlaaaGreat
open Go.RowKit

/-- What a range over Foes holds: a list of numbers, in a box. -/
def IntsI (q : Nat) (A Wr : World) (pre : List Int) (W : World) : Prop :=
  ∃ v, ListIn W A.heap.size q v pre ∧ KpP (fun _ => False) (fun k => k = q) Wr W ∧ Below A.heap.size A W ∧ pre.length ≤ 1000
theorem intsI_own {q B : Nat} {A Wr : World} (hA : A.heap.size ≤ B) (hB : Wr.heap.size ≤ B) : OwnFrom B (IntsI q A Wr) := by
  rintro s X Y row ⟨v, h1, h2, h3, h4⟩ hg hr
  exact ⟨v, h1.grown hg fun r e => (hr r e).2, kpP_own (β := Unit) hB () X Y row h2 hg hr, ownFrom_below (β := Unit) (Nat.le_refl _) hA () X Y row h3 hg hr, h4⟩
end Go.Proofs.YtdlkdilgjmmlaaaGreat
namespace Go.Proofs.YtdlkdilgjmmlaaaGreat
open Go.RowKit Go.Maps

theorem sides_len (n : Nat) : (sidesT n).sides.length = 4 ∧ 2 ≤ (sidesT n).sh.length ∧ (sidesT n).sh.length ≤ 4 := by
  unfold sidesT
  split
  · decide
  · split <;> decide
theorem sides_lost (n : Nat) (k : Int) : lostT (sidesT n) k = !inT (sidesT n) k := by
  unfold lostT
  cases hi : inT (sidesT n) k with
  | false => rfl
  | true =>
    simp only [inT, Bool.and_eq_true, decide_eq_true_eq] at hi
    have hk : k.toNat < (sidesT n).sh.length := by omega
    have hall : ∀ x ∈ (sidesT n).sh, x.lost = false := by
      unfold sidesT newT shOf
      split
      · simp
      · split <;> simp
    have hm := hall _ (List.getElem_mem hk)
    simp [List.getD, hk, hm]
end Go.Proofs.YtdlkdilgjmmlaaaGreat
namespace Go.Proofs.YtdlkdilgjmmlaaaGreat
open Go.RowKit Go.Maps
attribute [local go_sem] Oper.semAt_some

def boardL (l : List ThingL) (n : Nat) : BoardL := ⟨madeF l, sidesT n, dry0⟩
/-- What Board answers. -/
def RetBoard (w : World) (l : List ThingL) (n : Nat) (e : Ending) (w' : World) : Prop :=
  (playT l ∧ MadeS (madeF l) l ∧ ∃ lo g, e = .returned (.pointer (some ⟨g.q, 0, none⟩)) ∧ BoardAt w' lo g (boardL l n) ∧ w.heap.size ≤ lo ∧ Below w.heap.size w w') ∨ (¬playT l ∧ e = .returned (.pointer none) ∧ Below w.heap.size w w')
theorem RetBoard.no {w : World} {l : List ThingL} {n : Nat} (hp : ¬playT l) {e : Ending} {w' : World} (h : RetBoard w l n e w') : RetV w (.pointer none) e w' := by
  rcases h with ⟨h, _⟩ | ⟨_, h⟩
  · exact absurd h hp
  · exact h
end Go.Proofs.YtdlkdilgjmmlaaaGreat

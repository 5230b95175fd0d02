/- A board's Copy and Same, and New (layer 11). A board's Copy, and New (layer 11). Plain facts for the laws of layer 9: who is left and who is next, by who has lost; the list that a range over Foes gathers. Plain facts of what may be aimed at (layer 10): what All tells, by the piles and the teams. The statements' Board, and the document's example (layer 11). -/
import Derived.Test.YtdlkdilgjmmlaaaDoorBd
import Derived.Test.YtdlkdilgjmmlaaaDoorJx
import Derived.Deep.QuietTactic
import Derived.BigQuiet
import Derived.Test.YtdlkdilgjmmlaaaDoorTk
namespace Go.Proofs.YtdlkdilgjmmlaaaDoor
open Go.RowKit Go.Maps
attribute [local go_sem] Oper.semAt_some

end Go.Proofs.YtdlkdilgjmmlaaaDoor
namespace Go.Proofs.YtdlkdilgjmmlaaaDoor
open Go.RowKit Go.Maps
attribute [local go_sem] Oper.semAt_some

theorem TeamAt.mono {w : World} {lo lo' b s r : Nat} {T : TeamL} (h : TeamAt w lo b s r T) (hl : lo' ≤ lo) : TeamAt w lo' b s r T :=
  ⟨h.hd, h.sd, h.rw, Nat.le_trans hl h.lb, Nat.le_trans hl h.ls, Nat.le_trans hl h.lr, h.br, h.sr, h.n1, h.n2, h.nd⟩
theorem StoreAt.mono {w : World} {lo lo' b : Nat} {G : Ghost} {S : StoreL} (h : StoreAt w lo b G S) (hl : lo' ≤ lo) : StoreAt w lo' b G S :=
  ⟨h.hd, h.tab, own_mono h.ob hl, h.mp, fun s z ok => (h.pi s z ok).mono hl, h.tb, h.tm, h.tr, h.tp, h.tg, fun k hk => Nat.le_trans hl (h.low k hk), h.high, h.n1, h.n4, h.ok⟩
/-- A board out of a copy of a store and a copy of teams. -/
theorem board_parts {w1 w2 w3 w4 : World} {lo b tb s r : Nat} {G : Ghost} {S : StoreL} {T : TeamL} {D : DryL} (hs : StoreAt w2 w1.heap.size b G S) (ht : TeamAt w4 w3.heap.size tb s r T) (h12 : w1.heap.size ≤ w2.heap.size) (h23 : w2.heap.size ≤ w3.heap.size) (h24 : Below w2.heap.size w2 w4) (h34 : w3.heap.size ≤ w4.heap.size)
    (hl : lo ≤ w1.heap.size) (hw : WfS S) (hlen : S.objs.length ≤ 999) (hse : T.sides.length = S.seats) :
    BoardAt (w4.alloc (.cells #[.pointer (some ⟨b, 0, none⟩), .pointer (some ⟨tb, 0, none⟩), .bool D.a, .bool D.b, .bool D.c, .bool D.d] 57)) lo ⟨w4.heap.size, b, tb, s, r, G⟩ ⟨S, T, D⟩ := by
  have hno : ∀ k, w2.heap.size ≤ k → G.tag k = .no := hs.high
  refine ⟨heap_alloc_new _ _, ((hs.later h24).later (below_new _ _)).mono hl, hw, hlen, (ht.later (below_new _ _)).mono (by omega), hse, ?_, hno _ (by show _ ≤ w4.heap.size; omega), hno _ (by have := ht.lb; show _ ≤ tb; omega), hno _ (by have := ht.ls; show _ ≤ s; omega), hno _ (by have := ht.lr; show _ ≤ r; omega), ?_, ?_, ?_⟩
  · show lo ≤ w4.heap.size; omega
  · have := ht.lt; show w4.heap.size ≠ tb; omega
  · have := ht.sd.1; show w4.heap.size ≠ s; omega
  · have := ht.ltr; show w4.heap.size ≠ r; omega
/-- What New answers. -/
def RetBNew (w : World) (z : Bool) (B : BoardL) (e : Ending) (w' : World) : Prop :=
  (z = true → ∃ g, e = .returned (.tuple #[.pointer (some ⟨g.q, 0, none⟩), .int .i64 0]) ∧ BoardAt w' w.heap.size g B) ∧ (z = false → e = .returned (.tuple #[.pointer none, .int .i64 20])) ∧ Below w.heap.size w w'
set_option maxRecDepth 100000 in
set_option maxHeartbeats 4000000 in
theorem bnew_any {w : World} {lo lo' b tb s r : Nat} {G : Ghost} {S : StoreL} {T : TeamL} (h : StoreAt w lo b G S) (hw : WfS S) (hl : S.objs.length ≤ 999) (ht : TeamAt w lo' tb s r T) :
    Calls Tryd.prog 20 #[.pointer (some ⟨b, 0, none⟩), .pointer (some ⟨tb, 0, none⟩)] w (RetBNew w (decide (S.seats = T.sides.length)) ⟨S, T, dry0⟩) := by
  have HS := Lib.hid (fun (w' : World) (hb : Below w.heap.size w w') => copyS_any (h.later hb) (hw.short (by omega)))
  have HT := Lib.hid (fun (w' : World) (hb : Below w.heap.size w w') => tcopy_any (ht.later hb))
  have HN := Lib.hid (sseats_any h)
  have HM := Lib.hid (tseats_any ht)
  have HP := Lib.hid (And.intro hw hl)
  obtain ⟨n, hn⟩ : ∃ n, S.seats = n := ⟨_, rfl⟩
  obtain ⟨m, hm⟩ : ∃ m, T.sides.length = m := ⟨_, rfl⟩
  rw [hn] at HN ⊢
  rw [hm] at HM ⊢
  have HNM := Lib.hid (And.intro hn hm)
  clear h ht hw hl hn hm
  by_cases he : n = m
  · have d0 : ((n : Int) != (m : Int)) = false := by rw [he]; exact bne_self_eq_false _
    have HE := Lib.hid he
    rw [decide_eq_true he]
    clear he
    go_enter Tryd.func20, Tryd.ntmps20
    go_wp2_with fail
    refine HN.out.mono ?_
    rintro e w1 ⟨rfl, rfl⟩
    go_wp2_with fail
    refine HM.out.mono ?_
    rintro e w1 ⟨rfl, rfl⟩
    go_wp2_with fail
    refine (HS.out _ (Below.refl _ _)).mono ?_
    rintro e w2 ⟨b2, G2, rfl, hs2, hb2⟩
    have HS2 := Lib.hid hs2
    have HB2 := Lib.hid hb2
    clear hs2 hb2
    dsimp only
    go_wp2_with fail
    refine (HT.out _ HB2.out).mono ?_
    rintro e w3 ⟨tb3, s3, r3, rfl, ht3, hb3⟩
    have HT3 := Lib.hid ht3
    have HB3 := Lib.hid hb3
    clear ht3 hb3
    dsimp only
    go_wp2
    refine bodyPost_ret (by simp [results, Tryd.results20, go_sem]; first | rfl | exact ⟨rfl, rfl⟩) rfl ?_
    refine ⟨fun _ => ⟨⟨w3.heap.size, b2, tb3, s3, r3, G2⟩, rfl, board_parts (D := dry0) HS2.out HT3.out HB2.out.size (Nat.le_refl _) HB3.out HB3.out.size (Nat.le_refl _) HP.out.1 HP.out.2 (HNM.out.2.trans (HE.out.symm.trans HNM.out.1.symm))⟩, fun e => (by cases e), below_alloc2 (stepB HB2.out HB3.out) _⟩
  · have d0 : ((n : Int) != (m : Int)) = true := bne_iff_ne.2 (by omega)
    rw [decide_eq_false he]
    clear he
    go_enter Tryd.func20, Tryd.ntmps20
    go_wp2_with fail
    refine HN.out.mono ?_
    rintro e w1 ⟨rfl, rfl⟩
    go_wp2_with fail
    refine HM.out.mono ?_
    rintro e w1 ⟨rfl, rfl⟩
    go_wp2
    refine bodyPost_ret (by simp [results, Tryd.results20, go_sem]; first | rfl | exact ⟨rfl, rfl⟩) rfl ?_
    exact ⟨fun e => (by cases e), fun _ => rfl, Below.refl _ _⟩
end Go.Proofs.YtdlkdilgjmmlaaaDoor
namespace Go.Proofs.YtdlkdilgjmmlaaaDoor
open Go.RowKit

end Go.Proofs.YtdlkdilgjmmlaaaDoor
namespace Go.Proofs.YtdlkdilgjmmlaaaDoor
open Go.RowKit Go.Maps

theorem sides_len (n : Nat) : (sidesT n).sides.length = 4 ∧ 2 ≤ (sidesT n).sh.length ∧ (sidesT n).sh.length ≤ 4 := by
  unfold sidesT
  split
  · decide
  · split <;> decide
end Go.Proofs.YtdlkdilgjmmlaaaDoor
namespace Go.Proofs.YtdlkdilgjmmlaaaDoor
open Go.RowKit Go.Maps
attribute [local go_sem] Oper.semAt_some

def boardL (l : List ThingL) (n : Nat) : BoardL := ⟨madeF l, sidesT n, dry0⟩
/-- What Board answers. -/
def RetBoard (w : World) (l : List ThingL) (n : Nat) (e : Ending) (w' : World) : Prop :=
  (playT l ∧ MadeS (madeF l) l ∧ ∃ lo g, e = .returned (.pointer (some ⟨g.q, 0, none⟩)) ∧ BoardAt w' lo g (boardL l n) ∧ w.heap.size ≤ lo ∧ Below w.heap.size w w') ∨ (¬playT l ∧ e = .returned (.pointer none) ∧ Below w.heap.size w w')
theorem RetBoard.no {w : World} {l : List ThingL} {n : Nat} (hp : ¬playT l) {e : Ending} {w' : World} (h : RetBoard w l n e w') : RetV w (.pointer none) e w' := by
  rcases h with ⟨h, _⟩ | ⟨_, h⟩
  · exact absurd h hp
  · exact h
end Go.Proofs.YtdlkdilgjmmlaaaDoor

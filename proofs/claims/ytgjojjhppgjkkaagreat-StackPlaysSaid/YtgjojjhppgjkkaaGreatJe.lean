/- Taps, and what no store has (layer 7). A seat's lands, in plain words (layer 7): which they are, and what is left when some are tapped. -/
import Derived.Test.YtgjojjhppgjkkaaGreatJa
import Derived.Test.YtgjojjhppgjkkaaGreatHl
namespace Go.Proofs.YtgjojjhppgjkkaaGreat
open Go.RowKit Go.Maps
attribute [local go_sem] Oper.semAt_some

def tapO (o : ObjL) : ObjL := ⟨o.id, o.card, o.owner, o.zone, true, o.sick, o.hurt, o.count, o.boost, o.block, o.attacks⟩
def setL (S : StoreL) (k : Nat) (x : ObjL) : StoreL := { S with objs := S.objs.set k x }
theorem RetS.of {w w0 : World} {lo b : Nat} {G G0 : Ghost} {S : StoreL} {v : Value} {e : Ending} {w' : World} (h : RetS w lo b G S v e w') (ht : Turned w0 w G0 G) : RetS w0 lo b G0 S v e w' := by
  obtain ⟨rfl, G', h1, h2⟩ := h
  exact ⟨rfl, G', h1, ht.trans h2⟩
set_option maxRecDepth 100000 in
set_option maxHeartbeats 4000000 in
theorem taps_ok {w : World} {lo b : Nat} {G : Ghost} {S : StoreL} (h : StoreAt w lo b G S) (hS : WfS S) (hl : S.objs.length ≤ 1000) (k : Nat) (hk : k < S.objs.length) (hz : S.objs[k].zone = 3) (ht : S.objs[k].tapped = false) :
    Calls Tryz.prog 83 #[.pointer (some ⟨b, 0, none⟩), .int .i64 ((k : Int) + 1)] w (RetS w lo b G (setL S k (tapO S.objs[k])) (.int .i64 0)) := by
  have HG := Lib.hid (get_in h hl k hk)
  have hid := (hS.ids k hk).1
  obtain ⟨x, hx⟩ : ∃ x, S.objs[k] = x := ⟨_, rfl⟩
  have HST := Lib.hid (fun (w' : World) (hb : Below w.heap.size w w') (y : ObjL) (h0 : y.id = (k : Int) + 1) (h1 : y.card = x.card) (h2 : y.owner = x.owner) (h3 : y.zone = x.zone) =>
    set_any (h.later hb) hl k hk y h0 (h1.trans (by rw [hx])) (h2.trans (by rw [hx])) (h3.trans (by rw [hx])))
  rw [hx] at HG hz ht hid ⊢
  obtain ⟨x0, x1, x2, x3, x4, x5, x6, x7, x8, x9, x10⟩ := x
  dsimp only at hz ht hid
  subst hz ht hid
  unfold RetGet oagg at HG
  unfold tapO setL
  dsimp only at HG ⊢
  clear h hx hS
  go_enter Tryz.func83, Tryz.ntmps83
  go_wp2_with fail
  refine HG.out.mono ?_
  rintro e w1 ⟨rfl, hb1⟩
  have HB := Lib.hid hb1
  clear hb1
  dsimp only
  go_wp2_with fail
  refine ((HST.out _ (below_alloc2 HB.out _) ⟨(k : Int) + 1, x1, x2, 3, true, x5, x6, x7, x8, x9, x10⟩ rfl rfl rfl rfl).mono ?_)
  rintro e w2 ⟨rfl, G', h1, h2⟩
  dsimp only
  go_wp2
  go_ret
  exact ⟨rfl, G', h1, (Turned.of_below (below_alloc2 HB.out _)).trans h2⟩
set_option maxRecDepth 100000 in
set_option maxHeartbeats 4000000 in
/-- What isn't on the Field, or is tapped, is refused. -/
theorem taps_not {w : World} {lo b : Nat} {G : Ghost} {S : StoreL} (h : StoreAt w lo b G S) (hl : S.objs.length ≤ 1000) (k : Nat) (hk : k < S.objs.length) :
    (S.objs[k].zone ≠ 3 → Calls Tryz.prog 83 #[.pointer (some ⟨b, 0, none⟩), .int .i64 ((k : Int) + 1)] w (RetV w (.int .i64 10))) ∧
    (S.objs[k].zone = 3 → S.objs[k].tapped = true → Calls Tryz.prog 83 #[.pointer (some ⟨b, 0, none⟩), .int .i64 ((k : Int) + 1)] w (RetV w (.int .i64 15))) := by
  have HG := Lib.hid (get_in h hl k hk)
  obtain ⟨x, hx⟩ : ∃ x, S.objs[k] = x := ⟨_, rfl⟩
  rw [hx] at HG ⊢
  obtain ⟨x0, x1, x2, x3, x4, x5, x6, x7, x8, x9, x10⟩ := x
  unfold RetGet oagg at HG
  dsimp only at HG ⊢
  clear h hx
  refine ⟨fun hz => ?_, fun hz ht => ?_⟩
  · have e3 : (x3 != 3) = true := bne_iff_ne.2 hz
    clear hz
    go_enter Tryz.func83, Tryz.ntmps83
    go_wp2_with fail
    refine HG.out.mono ?_
    rintro e w1 ⟨rfl, hb1⟩
    dsimp only
    go_wp2
    go_ret
    exact ⟨rfl, below_alloc2 hb1 _⟩
  · subst hz ht
    go_enter Tryz.func83, Tryz.ntmps83
    go_wp2_with fail
    refine HG.out.mono ?_
    rintro e w1 ⟨rfl, hb1⟩
    dsimp only
    go_wp2
    go_ret
    exact ⟨rfl, below_alloc2 hb1 _⟩
theorem taps_out {w : World} {p : Option Addr} {i n : Int} (hn : n ≠ 0) (h : Calls Tryz.prog 13 #[.pointer p, .int .i64 i] w (RetGet w zeroO n)) :
    Calls Tryz.prog 83 #[.pointer p, .int .i64 i] w (RetV w (.int .i64 n)) := by
  have HG := Lib.hid h
  have e0 : (n != 0) = true := bne_iff_ne.2 hn
  unfold RetGet oagg zeroO at HG
  dsimp only at HG
  clear h hn
  go_enter Tryz.func83, Tryz.ntmps83
  go_wp2_with fail
  refine HG.out.mono ?_
  rintro e w1 ⟨rfl, hb1⟩
  dsimp only
  go_wp2
  go_ret
  exact ⟨rfl, below_alloc2 hb1 _⟩
end Go.Proofs.YtgjojjhppgjkkaaGreat
namespace Go.Proofs.YtgjojjhppgjkkaaGreat
open Go.RowKit Go.Maps

theorem WfS.like {S : StoreL} (h : WfS S) {l' : List ObjL} (hlen : l'.length = S.objs.length) (hget : ∀ k (hk : k < S.objs.length) (hk' : k < l'.length), l'[k].id = S.objs[k].id ∧ l'[k].card = S.objs[k].card ∧ l'[k].owner = S.objs[k].owner ∧ l'[k].zone = S.objs[k].zone) : WfS { S with objs := l' } := by
  refine ⟨fun j hj => ?_, h.nodup, fun s z ok id => ?_⟩
  · have hj' : j < S.objs.length := hlen ▸ hj
    have := hget j hj' hj
    show l'[j].id = _ ∧ _
    rw [this.1, this.2.1, this.2.2.1, this.2.2.2]
    exact h.ids j hj'
  · rw [h.mem s z ok id]
    show _ ↔ ∃ j, ∃ hj : j < l'.length, _
    constructor
    · rintro ⟨j, hj, e1, e2, e3⟩
      have := hget j hj (hlen.symm ▸ hj)
      refine ⟨j, hlen.symm ▸ hj, e1, ?_, ?_⟩
      · rw [← e2]; unfold keyS; rw [this.2.2.1, this.2.2.2]
      · rw [← e3, this.2.2.2]
    · rintro ⟨j, hj, e1, e2, e3⟩
      have hj' : j < S.objs.length := hlen ▸ hj
      have := hget j hj' hj
      refine ⟨j, hj', e1, ?_, ?_⟩
      · rw [← e2]; unfold keyS; rw [this.2.2.1, this.2.2.2]
      · rw [← e3, this.2.2.2]
end Go.Proofs.YtgjojjhppgjkkaaGreat

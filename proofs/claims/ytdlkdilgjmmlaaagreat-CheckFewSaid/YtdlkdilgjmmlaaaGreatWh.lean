/- The board of layer 14's laws, its argument State opened. -/
import Derived.Test.YtdlkdilgjmmlaaaGreatWg
import Derived.Test.YtdlkdilgjmmlaaaGreatRb
import Derived.Test.YtdlkdilgjmmlaaaGreatRm
namespace Go.Proofs.YtdlkdilgjmmlaaaGreat
open Go.RowKit Go.Maps
attribute [local go_sem] Oper.semAt_some

/-- A State: hurts, counters, gains, poisons, who draws too much. -/
structure StL where
  hu : List Int
  co : List Int
  ga : List Int
  po : List Int
  dry : Int
def StAt (w : World) (v : Value) (x : StL) : Prop := ∃ u0 u1 u2 u3, v = .agg #[u0, u1, u2, u3, .int .i64 x.dry] ∧ IntsAt w u0 x.hu ∧ IntsAt w u1 x.co ∧ IntsAt w u2 x.ga ∧ IntsAt w u3 x.po
theorem StAt.later {w w' : World} {v : Value} {x : StL} (h : StAt w v x) (hb : Below w.heap.size w w') : StAt w' v x := by
  obtain ⟨u0, u1, u2, u3, rfl, h0, h1, h2, h3⟩ := h
  exact ⟨u0, u1, u2, u3, rfl, h0.later hb, h1.later hb, h2.later hb, h3.later hb⟩
def foldK {α : Type} (f : α → Nat → Int → α) (a : α) (l : List Int) : Nat → α
  | 0 => a
  | k + 1 => f (foldK f a l k) k (l.getD k 0)
def hurtF (S : StoreL) (k : Nat) (y : Int) : StoreL := hurtS S ((k : Int) + 1) y
def countF (S : StoreL) (k : Nat) (y : Int) : StoreL := countS S ((k : Int) + 1) y
def gainF (T : TeamL) (k : Nat) (y : Int) : TeamL := gainT T (k : Int) y
def sickF (T : TeamL) (k : Nat) (y : Int) : TeamL := sickT T (k : Int) y
def S1x (l : List TriL) (x : StL) : StoreL := foldK hurtF (made13 l) x.hu x.hu.length
def S2x (l : List TriL) (x : StL) : StoreL := foldK countF (S1x l x) x.co x.co.length
def T1x (n : Nat) (x : StL) : TeamL := foldK gainF (sidesT n) x.ga x.ga.length
def T2x (n : Nat) (x : StL) : TeamL := foldK sickF (T1x n x) x.po x.po.length
def board14 (l : List TriL) (n : Nat) (x : StL) : BoardL := if hasT ⟨S2x l x, T2x n x, dry0⟩ x.dry then drawB ⟨S2x l x, T2x n x, dry0⟩ x.dry.toNat 99 else ⟨S2x l x, T2x n x, dry0⟩
def len14 (x : StL) : Prop := x.hu.length ≤ 60 ∧ x.co.length ≤ 60 ∧ x.ga.length ≤ 10 ∧ x.po.length ≤ 10
def play14 (l : List TriL) (x : StL) : Prop := play13 l ∧ len14 x
def RetB14 (w : World) (l : List TriL) (n : Nat) (x : StL) (e : Ending) (w' : World) : Prop :=
  (play14 l x ∧ ∃ lo g, e = .returned (.pointer (some ⟨g.q, 0, none⟩)) ∧ BoardAt w' lo g (board14 l n x) ∧ w.heap.size ≤ lo ∧ Below w.heap.size w w') ∨ (¬play14 l x ∧ e = .returned (.pointer none) ∧ Below w.heap.size w w')
theorem sickT_sides (T : TeamL) (k m : Int) : (sickT T k m).sides = T.sides := by unfold sickT; split <;> rfl
theorem sick_bd {w : World} {lo : Nat} {g : GhostB} {B : BoardL} (h : BoardAt w lo g B) (k m : Int) : ∃ v, Calls Tryz.prog 38 #[.pointer (some ⟨g.tb, 0, none⟩), .int .i64 k, .int .i64 m] w (RetBd w lo g ⟨B.S, sickT B.T k m, B.D⟩ (.int .i64 v)) :=
  ⟨_, (tsick_any h.tm k m).mono fun _ _ hr => h.retT (sickT_sides _ _ _) hr⟩
theorem wrap_small {n : Int} (h0 : 0 ≤ n) (h1 : n ≤ 1000) : IntKind.i64.wrap n = n := by
  simp [IntKind.wrap, IntKind.signed, IntKind.bits]
  omega
set_option maxRecDepth 100000 in
set_option maxHeartbeats 8000000 in
theorem board14_any {w : World} {v u : Value} {l : List TriL} {x : StL} (hv : TrisAt w v l) (hw : ∀ x ∈ l, Wf x.y ∧ Wf x.z) (hlen : l.length ≤ 9223372036854775807) (n : Nat) (hn : n < 256) (hu : StAt w u x) :
    Calls Tryz.prog 7 #[v, .int .u8 n, u] w (RetB14 w l n x) := by
  obtain ⟨u0, u1, u2, u3, rfl, i0, i1, i2, i3⟩ := hu
  obtain ⟨y0, z0, rfl⟩ := i0.form
  obtain ⟨y1, z1, rfl⟩ := i1.form
  obtain ⟨y2, z2, rfl⟩ := i2.form
  obtain ⟨y3, z3, rfl⟩ := i3.form
  have hb1 := below_new w (.cells #[.slice y0 x.hu.length z0, .slice y1 x.co.length z1, .slice y2 x.ga.length z2, .slice y3 x.po.length z3, .int .i64 x.dry] 26)
  have HBO := Lib.hid (board13_any (hv.later hb1) hw hlen n hn)
  have HRW : Hid (∀ w', Below (w.alloc (.cells #[.slice y0 x.hu.length z0, .slice y1 x.co.length z1, .slice y2 x.ga.length z2, .slice y3 x.po.length z3, .int .i64 x.dry] 26)).heap.size (w.alloc (.cells #[.slice y0 x.hu.length z0, .slice y1 x.co.length z1, .slice y2 x.ga.length z2, .slice y3 x.po.length z3, .int .i64 x.dry] 26)) w' → w'.heap[w.heap.size]? = some (.cells #[.slice y0 x.hu.length z0, .slice y1 x.co.length z1, .slice y2 x.ga.length z2, .slice y3 x.po.length z3, .int .i64 x.dry] 26 (0, 0))) := Lib.hid (fun w' hb => (hb.block _ (by simp)).trans (heap_alloc_new w (.cells #[.slice y0 x.hu.length z0, .slice y1 x.co.length z1, .slice y2 x.ga.length z2, .slice y3 x.po.length z3, .int .i64 x.dry] 26)))
  have HIN : Hid (∀ w', Below (w.alloc (.cells #[.slice y0 x.hu.length z0, .slice y1 x.co.length z1, .slice y2 x.ga.length z2, .slice y3 x.po.length z3, .int .i64 x.dry] 26)).heap.size (w.alloc (.cells #[.slice y0 x.hu.length z0, .slice y1 x.co.length z1, .slice y2 x.ga.length z2, .slice y3 x.po.length z3, .int .i64 x.dry] 26)) w' → IntsAt w' (.slice y0 x.hu.length z0) x.hu ∧ IntsAt w' (.slice y1 x.co.length z1) x.co ∧ IntsAt w' (.slice y2 x.ga.length z2) x.ga ∧ IntsAt w' (.slice y3 x.po.length z3) x.po) := Lib.hid (fun w' hb => ⟨i0.later (stepB hb1 hb), i1.later (stepB hb1 hb), i2.later (stepB hb1 hb), i3.later (stepB hb1 hb)⟩)
  have HB1 := Lib.hid hb1
  have HSZ := Lib.hid (show (w.alloc (.cells #[.slice y0 x.hu.length z0, .slice y1 x.co.length z1, .slice y2 x.ga.length z2, .slice y3 x.po.length z3, .int .i64 x.dry] 26)).heap.size = w.heap.size + 1 from World.size_alloc _ _)
  clear hv hw hlen i0 i1 i2 i3 hb1 hn
  go_enter Tryz.func7, Tryz.ntmps7
  go_wp2_with fail
  obtain ⟨W1, hW1⟩ : ∃ W1, w.alloc (.cells #[.slice y0 x.hu.length z0, .slice y1 x.co.length z1, .slice y2 x.ga.length z2, .slice y3 x.po.length z3, .int .i64 x.dry] 26) = W1 := ⟨_, rfl⟩
  obtain ⟨q5, hq5⟩ : ∃ q5, w.heap.size = q5 := ⟨_, rfl⟩
  rw [hW1] at HBO HRW HIN HB1 HSZ ⊢
  rw [hq5] at HRW ⊢
  have HQ5 := Lib.hid hq5
  clear hW1 hq5
  refine HBO.out.mono ?_
  rintro e w2 (⟨hp, lo, g, rfl, hb, hlo, hb2⟩ | ⟨hp, rfl, hb2⟩)
  case inr =>
    have HB2 := Lib.hid (stepB HB1.out hb2)
    have HNP := Lib.hid hp
    clear hb2 hp
    dsimp only
    go_wp2
    go_ret
    exact .inr ⟨fun h => HNP.out h.1, rfl, HB2.out⟩
  have HB2 := Lib.hid (stepB HB1.out hb2)
  have HBD := Lib.hid hb
  have HPL := Lib.hid hp
  have HLL := Lib.hid (show w.heap.size ≤ lo from Nat.le_trans HB1.out.size hlo)
  have HLO := Lib.hid (show ∀ k, g.own k → W1.heap.size ≤ k from fun k hk => Nat.le_trans hlo (hb.ownLo hk))
  have HBL := Lib.hid (show ∀ (g1 : GhostB) (w' : World), TurnedO w2 w' g.own g1.own → Below W1.heap.size W1 w' from fun g1 w' ht => ht.below hb2 HLO.out)
  have HX := Lib.hid (show ∀ (g1 : GhostB) (w' : World), TurnedO w2 w' g.own g1.own → w'.cell? ⟨q5, 0, none⟩ = some (.slice y0 x.hu.length z0) ∧ w'.cell? ⟨q5, 1, none⟩ = some (.slice y1 x.co.length z1) ∧ w'.cell? ⟨q5, 2, none⟩ = some (.slice y2 x.ga.length z2) ∧ w'.cell? ⟨q5, 3, none⟩ = some (.slice y3 x.po.length z3) ∧ w'.cell? ⟨q5, 4, none⟩ = some (.int .i64 x.dry) from fun g1 w' ht => by
    have h := HRW.out w' (HBL.out g1 w' ht)
    exact ⟨cell_of_row w' q5 0 _ _ (0, 0) h, cell_of_row w' q5 1 _ _ (0, 0) h, cell_of_row w' q5 2 _ _ (0, 0) h, cell_of_row w' q5 3 _ _ (0, 0) h, cell_of_row w' q5 4 _ _ (0, 0) h⟩)
  have HIA := Lib.hid (fun (w' : World) (hb : Below W1.heap.size W1 w') => And.intro True.intro (HIN.out w' hb))
  obtain ⟨h0, h1, h2, h3, h4⟩ := HX.out g w2 (TurnedO.of_below (Below.refl _ _))
  obtain ⟨q, hq⟩ : ∃ q, g.q = q := ⟨_, rfl⟩
  have H0Q := Lib.hid hq
  rw [hq]
  clear hb hlo hb2 hp hq HBO
  by_cases hm0 : 60 < x.hu.length
  · have dm : decide ((60 : Int) < x.hu.length) = true := decide_eq_true (by omega)
    clear HBD HIA
    dsimp only
    go_wp2
    go_ret
    exact .inr ⟨fun h => by have := h.2; unfold len14 at this; omega, rfl, HB2.out⟩
  have dm0 : decide ((60 : Int) < x.hu.length) = false := decide_eq_false (by omega)
  by_cases hm1 : 60 < x.co.length
  · have dm : decide ((60 : Int) < x.co.length) = true := decide_eq_true (by omega)
    clear HBD HIA
    dsimp only
    go_wp2
    go_ret
    exact .inr ⟨fun h => by have := h.2; unfold len14 at this; omega, rfl, HB2.out⟩
  have dm1 : decide ((60 : Int) < x.co.length) = false := decide_eq_false (by omega)
  by_cases hm2 : 10 < x.ga.length
  · have dm : decide ((10 : Int) < x.ga.length) = true := decide_eq_true (by omega)
    clear HBD HIA
    dsimp only
    go_wp2
    go_ret
    exact .inr ⟨fun h => by have := h.2; unfold len14 at this; omega, rfl, HB2.out⟩
  have dm2 : decide ((10 : Int) < x.ga.length) = false := decide_eq_false (by omega)
  by_cases hm3 : 10 < x.po.length
  · have dm : decide ((10 : Int) < x.po.length) = true := decide_eq_true (by omega)
    clear HBD HIA
    dsimp only
    go_wp2
    go_ret
    exact .inr ⟨fun h => by have := h.2; unfold len14 at this; omega, rfl, HB2.out⟩
  have dm3 : decide ((10 : Int) < x.po.length) = false := decide_eq_false (by omega)
  have HLE := Lib.hid (show len14 x from ⟨by omega, by omega, by omega, by omega⟩)
  have H0B := HBD
  have H0T := Lib.hid (show TurnedO w2 w2 g.own g.own from TurnedO.of_below (Below.refl _ _))
  clear hm0 hm1 hm2 hm3
  dsimp only
  go_wp2
  go_loopw [48] (fun i wr => ∃ (k : Nat) (g1 : GhostB), k ≤ x.hu.length ∧ i = .int .i64 k ∧ Hid (BoardAt wr lo g1 ⟨foldK hurtF (made13 l) x.hu k, (sidesT n), dry0⟩) ∧ Hid (TurnedO w2 wr g.own g1.own) ∧ Hid (g1.q = q)) (fun i _ => x.hu.length - (intOf i).toNat)
  case atStart => exact ⟨0, _, Nat.zero_le _, rfl, H0B, H0T, H0Q⟩
  case round =>
    obtain ⟨k, g1, hk, rfl, HBD, HT, HQ1⟩ := hrel
    have hx := HX.out g1 wr HT.out
    obtain ⟨h0, h1, h2, h3, h4⟩ := hx
    obtain ⟨-, e0⟩ := HIA.out wr (HBL.out g1 wr HT.out)
    by_cases hlt : k < x.hu.length
    · have d0 : decide ((k : Int) < x.hu.length) = true := decide_eq_true (by omega)
      obtain ⟨r, off, hr, _, c0⟩ := (e0.1).at k hlt
      have hnx : x.hu.getD k 0 = x.hu[k] := by simp [List.getD, hlt]
      obtain ⟨y, hy⟩ : ∃ y, x.hu[k] = y := ⟨_, rfl⟩
      rw [hy] at c0 hnx
      have HFK := Lib.hid hnx
      have hw1 : IntKind.i64.wrap ((k : Int) + 1) = (k : Int) + 1 := by have := HLE.out.1; exact wrap_small (by omega) (by omega)
      obtain ⟨vv, hc⟩ := hurt_bd HBD.out ((k : Int) + 1) y
      have HC := Lib.hid hc
      have cq := HBD.out.cells.1
      rw [HQ1.out] at cq
      obtain ⟨pb, hpb⟩ : ∃ pb, g1.b = pb := ⟨_, rfl⟩
      rw [hpb] at cq HC
      clear hnx hy hc hpb
      subst hr
      go_wp2_with fail
      refine HC.out.mono ?_
      rintro e w3 ⟨rfl, g3, hbd3, ht3, hq3⟩
      have HBD3 := Lib.hid (show BoardAt w3 lo g3 ⟨foldK hurtF (made13 l) x.hu (k + 1), (sidesT n), dry0⟩ by
        show BoardAt w3 lo g3 ⟨hurtF (foldK hurtF (made13 l) x.hu k) k (x.hu.getD k 0), (sidesT n), dry0⟩
        rw [HFK.out]
        exact hbd3)
      have HT3 := Lib.hid (HT.out.trans ht3.o)
      have HQ3 := Lib.hid (show g3.q = q from hq3.trans HQ1.out)
      clear hbd3 ht3 hq3 cq c0 HC
      go_wp2
      go_roundw
      case rel => exact ⟨k + 1, g3, by omega, by go_num, HBD3, HT3, HQ3⟩
      case measure => simp [intOf]; omega
    · obtain rfl : k = x.hu.length := by omega
      clear e0
      have H1B := HBD
      have H1T := HT
      have H1Q := HQ1
      go_wp2
      go_loopw [65] (fun i wr => ∃ (k : Nat) (g1 : GhostB), k ≤ x.co.length ∧ i = .int .i64 k ∧ Hid (BoardAt wr lo g1 ⟨foldK countF (S1x l x) x.co k, (sidesT n), dry0⟩) ∧ Hid (TurnedO w2 wr g.own g1.own) ∧ Hid (g1.q = q)) (fun i _ => x.co.length - (intOf i).toNat)
      case atStart => exact ⟨0, _, Nat.zero_le _, rfl, H1B, H1T, H1Q⟩
      case round =>
        obtain ⟨k, g1, hk, rfl, HBD, HT, HQ1⟩ := hrel
        have hx := HX.out g1 wr HT.out
        obtain ⟨h0, h1, h2, h3, h4⟩ := hx
        obtain ⟨-, e1⟩ := HIA.out wr (HBL.out g1 wr HT.out)
        by_cases hlt : k < x.co.length
        · have d0 : decide ((k : Int) < x.co.length) = true := decide_eq_true (by omega)
          obtain ⟨r, off, hr, _, c0⟩ := (e1.2.1).at k hlt
          have hnx : x.co.getD k 0 = x.co[k] := by simp [List.getD, hlt]
          obtain ⟨y, hy⟩ : ∃ y, x.co[k] = y := ⟨_, rfl⟩
          rw [hy] at c0 hnx
          have HFK := Lib.hid hnx
          have hw1 : IntKind.i64.wrap ((k : Int) + 1) = (k : Int) + 1 := by have := HLE.out.2.1; exact wrap_small (by omega) (by omega)
          obtain ⟨vv, hc⟩ := count_bd HBD.out ((k : Int) + 1) y
          have HC := Lib.hid hc
          have cq := HBD.out.cells.1
          rw [HQ1.out] at cq
          obtain ⟨pb, hpb⟩ : ∃ pb, g1.b = pb := ⟨_, rfl⟩
          rw [hpb] at cq HC
          clear hnx hy hc hpb
          subst hr
          go_wp2_with fail
          refine HC.out.mono ?_
          rintro e w3 ⟨rfl, g3, hbd3, ht3, hq3⟩
          have HBD3 := Lib.hid (show BoardAt w3 lo g3 ⟨foldK countF (S1x l x) x.co (k + 1), (sidesT n), dry0⟩ by
            show BoardAt w3 lo g3 ⟨countF (foldK countF (S1x l x) x.co k) k (x.co.getD k 0), (sidesT n), dry0⟩
            rw [HFK.out]
            exact hbd3)
          have HT3 := Lib.hid (HT.out.trans ht3.o)
          have HQ3 := Lib.hid (show g3.q = q from hq3.trans HQ1.out)
          clear hbd3 ht3 hq3 cq c0 HC
          go_wp2
          go_roundw
          case rel => exact ⟨k + 1, g3, by omega, by go_num, HBD3, HT3, HQ3⟩
          case measure => simp [intOf]; omega
        · obtain rfl : k = x.co.length := by omega
          clear e1
          have H2B := HBD
          have H2T := HT
          have H2Q := HQ1
          go_wp2
          go_loopw [82] (fun i wr => ∃ (k : Nat) (g1 : GhostB), k ≤ x.ga.length ∧ i = .int .i64 k ∧ Hid (BoardAt wr lo g1 ⟨(S2x l x), foldK gainF (sidesT n) x.ga k, dry0⟩) ∧ Hid (TurnedO w2 wr g.own g1.own) ∧ Hid (g1.q = q)) (fun i _ => x.ga.length - (intOf i).toNat)
          case atStart => exact ⟨0, _, Nat.zero_le _, rfl, H2B, H2T, H2Q⟩
          case round =>
            obtain ⟨k, g1, hk, rfl, HBD, HT, HQ1⟩ := hrel
            have hx := HX.out g1 wr HT.out
            obtain ⟨h0, h1, h2, h3, h4⟩ := hx
            obtain ⟨-, e2⟩ := HIA.out wr (HBL.out g1 wr HT.out)
            by_cases hlt : k < x.ga.length
            · have d0 : decide ((k : Int) < x.ga.length) = true := decide_eq_true (by omega)
              obtain ⟨r, off, hr, _, c0⟩ := (e2.2.2.1).at k hlt
              have hnx : x.ga.getD k 0 = x.ga[k] := by simp [List.getD, hlt]
              obtain ⟨y, hy⟩ : ∃ y, x.ga[k] = y := ⟨_, rfl⟩
              rw [hy] at c0 hnx
              have HFK := Lib.hid hnx
              have hw1 : IntKind.i64.wrap ((k : Int) + 1) = (k : Int) + 1 := by have := HLE.out.2.2.1; exact wrap_small (by omega) (by omega)
              obtain ⟨vv, hc⟩ := gain_bd HBD.out (k : Int) y
              have HC := Lib.hid hc
              have cq := HBD.out.cells.2.1
              rw [HQ1.out] at cq
              obtain ⟨pb, hpb⟩ : ∃ pb, g1.tb = pb := ⟨_, rfl⟩
              rw [hpb] at cq HC
              clear hnx hy hc hpb
              subst hr
              go_wp2_with fail
              refine HC.out.mono ?_
              rintro e w3 ⟨rfl, g3, hbd3, ht3, hq3⟩
              have HBD3 := Lib.hid (show BoardAt w3 lo g3 ⟨(S2x l x), foldK gainF (sidesT n) x.ga (k + 1), dry0⟩ by
                show BoardAt w3 lo g3 ⟨(S2x l x), gainF (foldK gainF (sidesT n) x.ga k) k (x.ga.getD k 0), dry0⟩
                rw [HFK.out]
                exact hbd3)
              have HT3 := Lib.hid (HT.out.trans ht3.o)
              have HQ3 := Lib.hid (show g3.q = q from hq3.trans HQ1.out)
              clear hbd3 ht3 hq3 cq c0 HC
              go_wp2
              go_roundw
              case rel => exact ⟨k + 1, g3, by omega, by go_num, HBD3, HT3, HQ3⟩
              case measure => simp [intOf]; omega
            · obtain rfl : k = x.ga.length := by omega
              clear e2
              have H3B := HBD
              have H3T := HT
              have H3Q := HQ1
              go_wp2
              go_loopw [98] (fun i wr => ∃ (k : Nat) (g1 : GhostB), k ≤ x.po.length ∧ i = .int .i64 k ∧ Hid (BoardAt wr lo g1 ⟨(S2x l x), foldK sickF (T1x n x) x.po k, dry0⟩) ∧ Hid (TurnedO w2 wr g.own g1.own) ∧ Hid (g1.q = q)) (fun i _ => x.po.length - (intOf i).toNat)
              case atStart => exact ⟨0, _, Nat.zero_le _, rfl, H3B, H3T, H3Q⟩
              case round =>
                obtain ⟨k, g1, hk, rfl, HBD, HT, HQ1⟩ := hrel
                have hx := HX.out g1 wr HT.out
                obtain ⟨h0, h1, h2, h3, h4⟩ := hx
                obtain ⟨-, e3⟩ := HIA.out wr (HBL.out g1 wr HT.out)
                by_cases hlt : k < x.po.length
                · have d0 : decide ((k : Int) < x.po.length) = true := decide_eq_true (by omega)
                  obtain ⟨r, off, hr, _, c0⟩ := (e3.2.2.2).at k hlt
                  have hnx : x.po.getD k 0 = x.po[k] := by simp [List.getD, hlt]
                  obtain ⟨y, hy⟩ : ∃ y, x.po[k] = y := ⟨_, rfl⟩
                  rw [hy] at c0 hnx
                  have HFK := Lib.hid hnx
                  have hw1 : IntKind.i64.wrap ((k : Int) + 1) = (k : Int) + 1 := by have := HLE.out.2.2.2; exact wrap_small (by omega) (by omega)
                  obtain ⟨vv, hc⟩ := sick_bd HBD.out (k : Int) y
                  have HC := Lib.hid hc
                  have cq := HBD.out.cells.2.1
                  rw [HQ1.out] at cq
                  obtain ⟨pb, hpb⟩ : ∃ pb, g1.tb = pb := ⟨_, rfl⟩
                  rw [hpb] at cq HC
                  clear hnx hy hc hpb
                  subst hr
                  go_wp2_with fail
                  refine HC.out.mono ?_
                  rintro e w3 ⟨rfl, g3, hbd3, ht3, hq3⟩
                  have HBD3 := Lib.hid (show BoardAt w3 lo g3 ⟨(S2x l x), foldK sickF (T1x n x) x.po (k + 1), dry0⟩ by
                    show BoardAt w3 lo g3 ⟨(S2x l x), sickF (foldK sickF (T1x n x) x.po k) k (x.po.getD k 0), dry0⟩
                    rw [HFK.out]
                    exact hbd3)
                  have HT3 := Lib.hid (HT.out.trans ht3.o)
                  have HQ3 := Lib.hid (show g3.q = q from hq3.trans HQ1.out)
                  clear hbd3 ht3 hq3 cq c0 HC
                  go_wp2
                  go_roundw
                  case rel => exact ⟨k + 1, g3, by omega, by go_num, HBD3, HT3, HQ3⟩
                  case measure => simp [intOf]; omega
                · obtain rfl : k = x.po.length := by omega
                  clear e3
                  have H4B := HBD
                  have H4T := HT
                  have H4Q := HQ1
                  by_cases hd : hasT ⟨S2x l x, T2x n x, dry0⟩ x.dry = true
                  · obtain ⟨d, hd0, hd4⟩ : ∃ d : Nat, x.dry = (d : Int) ∧ d < (S2x l x).seats := by
                      have := of_decide_eq_true hd
                      exact ⟨x.dry.toNat, by omega, by have h2 := this.2; have : (⟨S2x l x, T2x n x, dry0⟩ : BoardL).S.seats = (S2x l x).seats := rfl; omega⟩
                    have HDR := Lib.hid (draw_any H4B.out d hd4 99)
                    have HBE := Lib.hid (show board14 l n x = drawB ⟨S2x l x, T2x n x, dry0⟩ d 99 by
                      unfold board14
                      rw [if_pos hd, hd0, Int.toNat_natCast])
                    rw [H4Q.out] at HDR
                    rw [hd0] at h4
                    clear hd hd0
                    go_wp2_with fail
                    refine HDR.out.mono ?_
                    rintro e w5 ⟨rfl, g5, hbd5, ht5, hq5⟩
                    have HEN := Lib.hid (show BoardAt w5 lo g5 (board14 l n x) ∧ g5.q = q ∧ Below w.heap.size w w5 from ⟨by rw [HBE.out]; exact hbd5, hq5.trans H4Q.out, (H4T.out.trans ht5.o).below HB2.out (fun k hk => Nat.le_trans HB1.out.size (HLO.out k hk))⟩)
                    clear hbd5 ht5 hq5 HDR
                    go_wp2
                    go_ret
                    exact .inl ⟨⟨HPL.out, HLE.out⟩, lo, g5, by rw [HEN.out.2.1]; rfl, HEN.out.1, HLL.out, HEN.out.2.2⟩
                  · have hd' : hasT ⟨S2x l x, T2x n x, dry0⟩ x.dry = false := by simpa using hd
                    have HDR := Lib.hid (draw_out H4B.out x.dry 99 hd')
                    have HBE := Lib.hid (show board14 l n x = ⟨S2x l x, T2x n x, dry0⟩ by
                      unfold board14
                      rw [if_neg hd])
                    rw [H4Q.out] at HDR
                    clear hd hd'
                    go_wp2_with fail
                    refine HDR.out.mono ?_
                    rintro e w5 ⟨rfl, rfl⟩
                    have HEN := Lib.hid (show BoardAt w5 lo g1 (board14 l n x) ∧ g1.q = q ∧ Below w.heap.size w w5 from ⟨by rw [HBE.out]; exact H4B.out, H4Q.out, H4T.out.below HB2.out (fun k hk => Nat.le_trans HB1.out.size (HLO.out k hk))⟩)
                    go_wp2
                    go_ret
                    exact .inl ⟨⟨HPL.out, HLE.out⟩, lo, g1, by rw [HEN.out.2.1]; rfl, HEN.out.1, HLL.out, HEN.out.2.2⟩
end Go.Proofs.YtdlkdilgjmmlaaaGreat

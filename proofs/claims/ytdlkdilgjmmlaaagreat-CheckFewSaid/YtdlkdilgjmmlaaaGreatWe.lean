/- Which teams lose; would a round do nothing (layer 14: defeat, Stable). -/
import Derived.Test.YtdlkdilgjmmlaaaGreatWd
namespace Go.Proofs.YtdlkdilgjmmlaaaGreat
open Go.RowKit Go.Maps
attribute [local go_sem] Oper.semAt_some

/-- A number more in a row of one's own: what others own stays. -/
theorem rep_push {w0 w w' : World} {a own : Nat → Prop} {va : Option Addr} {vc : Nat} {v' : Value} {L : List Int} {x : Int} {o : Obj} (h : RepAt w w0.heap.size own (.slice va L.length vc) L) (ht : TurnedO w0 w a own) (hown : ∀ k, own k → k < w.heap.size)
    (hr : w'.ownsRow w0.heap.size 3 1 v' (L.length + [x].length) (intsV L ++ intsV [x])) (hg : (w.alloc o).grownBy w' (Value.slice va L.length vc).ownBlock) (hn : v'.ownBlock = (Value.slice va L.length vc).ownBlock ∨ v'.ownBlock = some (w.heap.size + 1)) :
    RepAt w' w0.heap.size own v' (L ++ [x]) ∧ TurnedO w0 w' a own ∧ w.heap.size ≤ w'.heap.size ∧ (∀ k, own k → w'.heap[k]? = w.heap[k]?) := by
  have hsz := ht.size
  have hsa : (w.alloc o).heap.size = w.heap.size + 1 := World.size_alloc _ _
  have hb := below_new w o
  have hlt : ∀ k, (Value.slice va L.length vc).ownBlock = some k → w0.heap.size ≤ k ∧ k < w.heap.size := fun k e => World.ownsRow.lt h.row k e
  have hgs := hg.size
  have hk : ∀ k, k < w.heap.size → (Value.slice va L.length vc).ownBlock ≠ some k → w'.heap[k]? = w.heap[k]? := fun k h1 h2 => (hg.block k (by omega) (fun e => h2 e.symm)).trans (hb.block k h1)
  refine ⟨⟨?_, fun k e hk' => ?_⟩, ⟨hg.os.trans (hb.os.trans ht.os), hg.tape.trans (hb.tape.trans ht.tape), hg.output.trans (hb.output.trans ht.output), by omega, fun k h1 h2 => ?_, fun k h1 h2 => ht.own k h1 h2⟩, by omega, fun k hk' => hk k (hown k hk') (fun e => h.off k e hk')⟩
  · have e : intsV (L ++ [x]) = intsV L ++ intsV [x] := by simp [intsV]
    rw [e, List.length_append]
    exact hr
  · rcases hn with hn | hn
    · exact h.off k (hn.symm.trans e) hk'
    · have h1 := hown k hk'
      have h2 := hn.symm.trans e
      simp at h2
      omega
  · refine (hk k (by omega) (fun e => ?_)).trans (ht.block k h1 h2)
    have := (hlt k e).1
    omega
theorem lose_bd {w : World} {lo : Nat} {g : GhostB} {B : BoardL} (h : BoardAt w lo g B) (k : Int) : Calls Tryz.prog 23 #[.pointer (some ⟨g.tb, 0, none⟩), .int .i64 k] w (RetBd w lo g ⟨B.S, loseT B.T k, B.D⟩ (.bool (!lostT B.T k))) :=
  (tlose_any h.tm k).mono fun _ _ hr => h.retT (lose_e _ _).sides hr
def RetDef (w : World) (lo : Nat) (g : GhostB) (B : BoardL) (e : Ending) (w' : World) : Prop :=
  ∃ v g', e = .returned v ∧ BoardAt w' lo g' ⟨B.S, defT B.T (lostsL B), B.D⟩ ∧ g'.q = g.q ∧ TurnedO w w' g.own g'.own ∧ RepAt w' w.heap.size g'.own v (lostsL B)
set_option maxRecDepth 100000 in
set_option maxHeartbeats 4000000 in
theorem defeat_any {w : World} {lo : Nat} {g : GhostB} {B : BoardL} (h : BoardAt w lo g B) : Calls Tryz.prog 58 #[.pointer (some ⟨g.q, 0, none⟩)] w (RetDef w lo g B) := by
  have HH := Lib.hid h
  have ht4 := h.tm.n2
  obtain ⟨-, c1, -⟩ := h.cells
  have HLN := Lib.hid (tlen_any h.tm)
  obtain ⟨q, hq⟩ : ∃ q, g.q = q := ⟨_, rfl⟩
  have HQ := Lib.hid hq
  obtain ⟨n, hn⟩ : ∃ n, B.T.sh.length = n := ⟨_, rfl⟩
  have HN := Lib.hid hn
  obtain ⟨p, hp⟩ : ∃ p : Nat → Bool, (fun n : Nat => doomT B n) = p := ⟨_, rfl⟩
  have HP := Lib.hid (show ∀ k : Nat, doomT B k = p k from fun k => by rw [← hp])
  have HLO := Lib.hid (show lostsL B = upTo p n from by unfold lostsL; rw [hp, hn])
  rw [hn] at HLN ht4
  rw [hq] at c1 ⊢
  clear h hq hn hp
  unfold RetDef
  rw [HLO.out]
  go_enter Tryz.func58, Tryz.ntmps58
  go_wp2_with fail
  refine HLN.out.mono ?_
  rintro e w1 ⟨rfl, rfl⟩
  go_wp2
  go_loopw [3, 10] (fun v i wr => ∃ (k : Nat) (va : Option Addr) (vc : Nat) (g1 : GhostB), k ≤ n ∧ i = .int .i64 k ∧ v = .slice va (upTo p k).length vc ∧ Hid (BoardAt wr lo g1 ⟨B.S, defT B.T (upTo p k), B.D⟩) ∧ Hid (g1.q = q) ∧ Hid (TurnedO w1 wr g.own g1.own) ∧ Hid (RepAt wr w1.heap.size g1.own (.slice va (upTo p k).length vc) (upTo p k))) (fun _ i _ => n - (intOf i).toNat)
  case atStart => exact ⟨0, none, 0, g, Nat.zero_le _, rfl, rfl, Lib.hid HH.out, Lib.hid HQ.out, Lib.hid (TurnedO.of_below (Below.refl _ _)), Lib.hid (RepAt.none _ _ _)⟩
  case round =>
    obtain ⟨k, va, vc, g1, hk, rfl, rfl, HBD, HQ1, HT, HR⟩ := hrel
    by_cases hlt : k < n
    · have d0 : decide ((k : Int) < n) = true := decide_eq_true (by omega)
      have HDM := Lib.hid (show doomT ⟨B.S, defT B.T (upTo p k), B.D⟩ k = p k from by
        rw [← HP.out k]
        exact doomT_of (B := B) (B' := ⟨B.S, defT B.T (upTo p k), B.D⟩) rfl (def_e B.T (upTo p k)) rfl (decide_eq_false (fun e => by have := (upTo_at.1 e).1; omega)))
      have HDO := Lib.hid (doomed_any HBD.out k)
      rw [HDM.out, HQ1.out] at HDO
      have hlen := upTo_len p k
      cases hb : p k with
      | false =>
        have HNN := Lib.hid (upTo_no hb)
        rw [hb] at HDO
        clear hb hlen
        go_wp2_with fail
        refine HDO.out.mono ?_
        rintro e w2 ⟨rfl, hb2⟩
        have HB2 := Lib.hid hb2
        clear hb2
        go_wp2
        go_roundw
        case rel =>
          refine ⟨k + 1, va, vc, g1, by omega, by go_num, by rw [HNN.out], ?_, HQ1, Lib.hid (HT.out.trans (TurnedO.of_below HB2.out)), ?_⟩
          · rw [HNN.out]; exact Lib.hid (HBD.out.later HB2.out)
          · rw [HNN.out]; exact Lib.hid (HR.out.turn (TurnedO.of_below HB2.out))
        case measure => simp [intOf]; omega
      | true =>
        have HNN := Lib.hid (upTo_yes hb)
        rw [hb] at HDO
        have hln : (upTo p k).length ≤ 4 := by omega
        have hlm : (upTo p k).length ≤ 1000 := by omega
        clear hb hlen
        obtain ⟨U, hU⟩ : ∃ U, upTo p k = U := ⟨_, rfl⟩
        rw [hU] at HBD HR HNN hln hlm ⊢
        clear hU HDM
        go_wp2_with fail
        refine HDO.out.mono ?_
        rintro e w2 ⟨rfl, hb2⟩
        have HBD2 := Lib.hid (HBD.out.later hb2)
        have HT2 := Lib.hid (HT.out.trans (TurnedO.of_below hb2))
        have HR2 := Lib.hid (HR.out.turn (TurnedO.of_below hb2))
        obtain ⟨-, k1, -⟩ := HBD2.out.cells
        have HLB := Lib.hid (lose_bd HBD2.out k)
        rw [HQ1.out] at k1
        obtain ⟨tb, htb⟩ : ∃ tb, g1.tb = tb := ⟨_, rfl⟩
        rw [htb] at k1 HLB
        clear hb2 htb
        go_wp2_with fail
        refine HLB.out.mono ?_
        rintro e w3 ⟨rfl, g3, hbd3, ht3, hq3⟩
        have HBD3 := Lib.hid (show BoardAt w3 lo g3 ⟨B.S, defT B.T (U ++ [(k : Int)]), B.D⟩ by rw [defT_snoc]; exact hbd3)
        have HT3 := Lib.hid (HT2.out.trans ht3.o)
        have HR3 := Lib.hid (HR2.out.turn ht3.o)
        have HQ3 := Lib.hid (show g3.q = q from hq3.trans HQ1.out)
        have hsz3 := HT3.out.size
        have hlo3 : w1.heap.size ≤ (w3.alloc (.cells #[.int .i64 (k : Int)] 3)).heap.size := by simp; omega
        have hl1 : U.length + [(k : Int)].length ≤ 1000 := by simp; omega
        clear hbd3 ht3 hq3 k1
        go_wp2_with (at_builtin; refine wpList_append_ints rfl _ _ rfl rfl w1.heap.size _ U.length (intsV U) rfl (HR3.out.row.alloc _) _ 1 1 [(k : Int)] rfl rfl ((RowAt.new w3 3 (intsV [(k : Int)])).vals 1) hl1 hlo3 ?f)
        case f =>
          intro v' w4 hr4 hg4 hn4
          obtain ⟨hr5, ht5, hs5, hk5⟩ := rep_push HR3.out HT3.out (fun k hk => HBD3.out.ownLt hk) hr4 hg4 hn4
          obtain ⟨ya, yc, rfl⟩ := own_form1 hr5.row
          have HBD4 := Lib.hid (HBD3.out.kept hs5 hk5)
          have HT4 := Lib.hid ht5
          have HR4 := Lib.hid hr5
          clear hr4 hg4 hn4 hr5 ht5 hs5 hk5
          go_wp2
          go_roundw
          case rel =>
            refine ⟨k + 1, ya, yc, g3, by omega, by go_num, by rw [HNN.out], ?_, HQ3, HT4, ?_⟩
            · rw [HNN.out]; exact HBD4
            · rw [HNN.out]; exact HR4
          case measure => simp [intOf]; omega
    · obtain rfl : k = n := by omega
      go_wp2
      go_ret
      exact ⟨_, g1, rfl, HBD.out, HQ1.out.trans HQ.out.symm, HT.out, HR.out⟩
theorem results_c2 {fn : Func} {tmps : Array Value} {W : World} {b : Nat} {v : Bool} (h : fn.results = #[.cell 2 4]) (h2 : tmps.getD 2 undef = .pointer (some ⟨b, 0, none⟩)) (hb : HdAt W b (.bool v)) :
    (results fn tmps).run Tryz.prog W = .ok (.bool v) W := by
  have hb := hb.cell
  simp only [Array.getD_eq_getD_getElem?] at h2
  simp [results, h, go_sem, h2, hb]
end Go.Proofs.YtdlkdilgjmmlaaaGreat

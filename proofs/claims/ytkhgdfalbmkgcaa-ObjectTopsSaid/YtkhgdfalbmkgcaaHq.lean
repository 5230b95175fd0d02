/- The law ObjectTops (layer 6), walked: for every number and every list of turns it returns true, and only new memory is made. -/
import Derived.Test.YtkhgdfalbmkgcaaHp
import Derived.Deep.Cut
namespace Go.Proofs.Ytkhgdfalbmkgcaa
open Go.RowKit Go.Maps
def swapI (x : List Int) (i j : Nat) : List Int := (x.set i (x.getD j 0)).set j (x.getD i 0)
theorem swapI_perm (x : List Int) (i j : Nat) (hi : i < x.length) (hj : j < x.length) : (swapI x i j).Perm x := by
  unfold swapI
  have e1 : x.getD j 0 = x[j] := by simp [List.getD, hj]
  have e2 : x.getD i 0 = x[i] := by simp [List.getD, hi]
  rw [e1, e2]
  exact List.set_set_perm hi hj
/-- What a round of the turns keeps: the store, and a row of the call's own that holds the list in some order. -/
structure TurnV (w wr : World) (B lo b : Nat) (G : Ghost) (S : StoreL) (v : Value) (l X : List Int) : Prop where
  row : wr.ownsRow B 3 1 v l.length (intsV X)
  perm : l.Perm X
  low : w.heap.size ≤ B
  bel : Below w.heap.size w wr
  st : StoreAt wr lo b G S
  far : ∀ k, B ≤ k → G.tag k = .no
theorem StoreAt.loSize {w : World} {lo b : Nat} {G : Ghost} {S : StoreL} (h : StoreAt w lo b G S) : lo ≤ w.heap.size := Nat.le_trans (h.low b (by rw [h.tb]; simp)) (Nat.le_of_lt h.lt)
theorem store_set {w : World} {lo b g j : Nat} {G : Ghost} {S : StoreL} (h : StoreAt w lo b G S) (hg : G.tag g = .no) (u : Value) : StoreAt (w.setCell ⟨g, j, none⟩ u) lo b G S :=
  h.kept (by simp) fun k hk => heap_setCell_other w ⟨g, j, none⟩ k u (fun e => hk (by rw [e]; exact hg))
theorem turn_step {w wr : World} {B lo b' g cap a b nd : Nat} {G : Ghost} {S : StoreL} {l X : List Int} {u v : Int} (h : TurnV w wr B lo b' G S (.slice (some ⟨g, 0, none⟩) l.length cap) l X) (hg : B ≤ g) (ha : a < l.length) (hb : b < l.length) (hu : X.getD b 0 = u) (hv : X.getD a 0 = v) :
    TurnV w (((wr.drewN nd).setCell ⟨g, a, none⟩ (.int .i64 u)).setCell ⟨g, b, none⟩ (.int .i64 v)) B lo b' G S (.slice (some ⟨g, 0, none⟩) l.length cap) l (swapI X a b) := by
  obtain ⟨h1, h2, h3, h4, h5, h6⟩ := h
  have hl := h2.length_eq
  have h1' : (wr.drewN nd).ownsRow B 3 1 (.slice (some ⟨g, 0, none⟩) l.length cap) l.length (intsV X) := h1
  refine ⟨?_, h2.trans (swapI_perm X a b (by omega) (by omega)).symm, h3, ?_, ?_, h6⟩
  · have := ((h1'.stored a (.int .i64 u)).1.stored b (.int .i64 v)).1
    unfold swapI
    rw [hu, hv]
    unfold intsV at this ⊢
    rw [List.map_set, List.map_set]
    exact this
  · exact ((below_drewN h4 nd).setCell (p := ⟨g, a, none⟩) (Nat.le_trans h3 hg) _).setCell (p := ⟨g, b, none⟩) (Nat.le_trans h3 hg) _
  · exact store_set (store_set (h5.later (below_drewN (Below.refl _ _) nd)) (h6 g hg) _) (h6 g hg) _
theorem TopS.in11 {S : StoreL} {k j : Nat} {lib hand : List Int} (h : TopS S k j lib hand) : inL S 1 1 = lib := by
  unfold inL
  rw [h.seats, if_pos (by decide)]
  exact h.lib
theorem TopS.in12 {S : StoreL} {k j : Nat} {lib hand : List Int} (h : TopS S k j lib hand) : inL S 1 2 = hand := by
  unfold inL
  rw [h.seats, if_pos (by decide)]
  exact h.hand
theorem TopS.in02 {S : StoreL} {k j : Nat} {lib hand : List Int} (h : TopS S k j lib hand) : inL S 0 2 = [] := by
  unfold inL
  rw [h.seats, if_pos (by decide)]
  exact h.other
theorem inL_at {S : StoreL} {s z : Int} {n : Nat} (hs : S.seats = n) (h : okI n (canS s z) z) : inL S s z = S.pl (canS s z).toNat z.toNat := by
  unfold inL
  rw [hs]
  exact if_pos h
theorem ShortS.lay {S : StoreL} (h : ShortS S) {s z : Nat} {X : List Int} (hX : X.length ≤ 1000) : ShortS { S with pl := upd S.pl s z X } := by
  refine ⟨h.1, fun s' z' ok => ?_⟩
  show (upd S.pl s z X s' z').length ≤ 1000
  unfold upd
  split
  · exact hX
  · exact h.2 s' z' ok
theorem dnL_nodup (k : Nat) : (dnL k).Nodup := by
  have key : ∀ k, (dnL k).Nodup ∧ ∀ x ∈ dnL k, x ≤ (k : Int) := fun k => by
    induction k with
    | zero => exact ⟨List.nodup_nil, fun x hx => by simp [dnL] at hx⟩
    | succ k ih =>
      refine ⟨List.nodup_cons.2 ⟨fun hm => by have := ih.2 _ hm; omega, ih.1⟩, fun x hx => ?_⟩
      rcases List.mem_cons.1 hx with rfl | hx
      · omega
      · have := ih.2 x hx; omega
  exact (key k).1
/-- A list of small numbers (uint8) in memory, or no list. -/
def U8At (w : World) (v : Value) (l : List Int) : Prop :=
  (∃ xa cap, v = .slice xa 0 cap ∧ l = []) ∨ ∃ b off cap, v = .slice (some ⟨b, off, none⟩) l.length cap ∧ b < w.heap.size ∧ ∀ i (h : i < l.length), w.cell? ⟨b, off + i, none⟩ = some (.int .u8 l[i])
theorem U8At.later {w w' : World} {v : Value} {l : List Int} (h : U8At w v l) (hb : Below w.heap.size w w') : U8At w' v l := by
  rcases h with h | ⟨b, off, cap, rfl, hlt, hc⟩
  · exact .inl h
  · exact .inr ⟨b, off, cap, rfl, Nat.lt_of_lt_of_le hlt hb.size, fun i hi => cell_stays hb (hc i hi)⟩
theorem U8At.form {w : World} {v : Value} {l : List Int} (h : U8At w v l) : ∃ xa xc, v = .slice xa l.length xc := by
  rcases h with ⟨xa, cap, rfl, rfl⟩ | ⟨b, off, cap, rfl, _⟩
  · exact ⟨xa, cap, rfl⟩
  · exact ⟨_, cap, rfl⟩
theorem U8At.at {w : World} {xa : Option Addr} {xc : Nat} {l : List Int} (h : U8At w (.slice xa l.length xc) l) (k : Nat) (hk : k < l.length) : ∃ b off, xa = some ⟨b, off, none⟩ ∧ w.cell? ⟨b, off + k, none⟩ = some (.int .u8 l[k]) := by
  rcases h with ⟨_, _, _, h2⟩ | ⟨b, off, cap, h1, _, hc⟩
  · subst h2; simp at hk
  · injection h1 with h1 _ _; exact ⟨b, off, h1, hc k hk⟩
set_option maxRecDepth 100000 in
set_option maxHeartbeats 16000000 in
theorem objectTops_walk {u : Value} {m : Nat} {ts : List Int} {w : World} (hm : m < 256) (hu : U8At w u ts) (hts : ts.length ≤ 9223372036854775807) (h8 : ∀ x ∈ ts, 0 ≤ x ∧ x < 256) :
    Calls Try.prog 5 #[.int .u8 m, u] w (RetV w (.bool true)) := by
  obtain ⟨ya, yc, rfl⟩ := hu.form
  have HU := Lib.hid hu
  have H8 := Lib.hid h8
  clear hu h8
  go_enter Try.func5, Try.ntmps5
  go_wp2_with fail
  refine (awake6_any _).mono ?_
  rintro e w1 ⟨rfl, hb1⟩
  have HB1 := Lib.hid hb1
  have HNW := Lib.hid (newS_ok (cards_one (w := w1) landC rfl) (by decide) 2 (by decide) (by decide))
  unfold ccs landC at HNW
  dsimp only at HNW
  clear hb1
  dsimp only
  go_wp2_with fail
  refine HNW.out.mono ?_
  rintro e w2 ⟨b, G, rfl, hst, hb2⟩
  obtain ⟨lo, hlo'⟩ : ∃ lo, (w1.alloc (.cells #[.int .i64 1, .int .i64 0, .int .i64 0, .int .i64 0, .int .i64 0, .int .i64 0, .slice none 0 0] 52)).heap.size = lo := ⟨_, rfl⟩
  have HB2 := Lib.hid (stepB (below_alloc2 HB1.out _) hb2)
  have hsz := hb2.size
  rw [hlo'] at hst hsz
  have HLW := Lib.hid (show w.heap.size ≤ lo by rw [← hlo']; have := HB1.out.size; simp; omega)
  have HLO := Lib.hid hsz
  have H2 := Lib.hid (show StoreAt w2 lo b G ⟨[landC], 2, [], fun _ _ => []⟩ from hst)
  clear hst hb2 hlo' hsz HNW
  dsimp only
  by_cases h40 : 40 < ts.length
  · have d0 : decide ((40 : Int) < ts.length) = true := decide_eq_true (by omega)
    go_wp2
    go_ret
    exact ⟨rfl, HB2.out⟩
  have d0 : decide ((40 : Int) < ts.length) = false := decide_eq_false (by omega)
  have d0' : decide (40 < ts.length) = false := decide_eq_false (by omega)
  obtain ⟨k, hk⟩ : ∃ k, m % 20 = k := ⟨_, rfl⟩
  have hk20 : k < 20 := by omega
  have dm : ((m : Int)).tmod 20 = (k : Int) := by
    rw [Int.tmod_eq_emod_of_nonneg (by omega)]; omega
  go_wp2
  go_loopw [8] (fun v8 wr => ∃ (i : Nat) (G : Ghost) (S : StoreL), i ≤ k ∧ v8 = .int .i64 i ∧ Hid (StoreAt wr lo b G S) ∧ Hid (TopS S i 0 (upL 0 i) []) ∧ Hid (Below w.heap.size w wr) ∧ Hid (lo ≤ wr.heap.size)) (fun v8 _ => k - (intOf v8).toNat)
  case atStart => exact ⟨0, G, _, Nat.zero_le _, rfl, H2, Lib.hid top_start, HB2, HLO⟩
  case round =>
    obtain ⟨i, G3, S3, hi, rfl, H3, HT3, HB3, HL3⟩ := hrel
    by_cases hlt : i < k
    · have HAD := Lib.hid (show Calls Try.prog 21 #[.pointer (some ⟨b, 0, none⟩), .int .i64 0, .int .i64 1, .int .i64 1] wr (RetS wr lo b G3 (addL S3 0 1 1) (.tuple #[.int .i64 ((S3.objs.length : Int) + 1), .int .i64 0])) from
        add_ok H3.out HL3.out (HT3.out.wf.short (by rw [HT3.out.len]; omega)) 0 1 1 (by rw [HT3.out.T]; decide) (by rw [HT3.out.seats]; decide) (by decide) (by decide))
      go_wp2_with fail
      refine HAD.out.mono ?_
      rintro e w4 ⟨rfl, G4, hst4, ht4⟩
      have H4 := Lib.hid hst4
      have HT4 := Lib.hid HT3.out.add
      have HB4 := Lib.hid (ht4.below HB3.out (fun q hq => Nat.le_trans HLW.out (H3.out.low q hq)))
      have HL4 := Lib.hid (Nat.le_trans HL3.out ht4.chg.size)
      clear hst4 ht4
      dsimp only
      go_wp2
      go_roundw
      case rel => exact ⟨i + 1, G4, _, by omega, by go_num, H4, HT4, HB4, HL4⟩
      case measure => simp [intOf]; omega
    · obtain rfl : i = k := by omega
      obtain ⟨wA, rfl⟩ : ∃ wA, wA = wr := ⟨_, rfl⟩
      go_wp2
      go_loopw [9] (fun v9 wr => ∃ (j : Nat) (G : Ghost) (S : StoreL), j ≤ i ∧ v9 = .int .i64 ((j : Int) + 1) ∧ Hid (StoreAt wr lo b G S) ∧ Hid (TopS S i j (upL j i) (dnL j)) ∧ Hid (Below w.heap.size w wr) ∧ Hid (lo ≤ wr.heap.size)) (fun v9 _ => i + 1 - (intOf v9).toNat)
      case atStart => exact ⟨0, G3, S3, Nat.zero_le _, rfl, H3, HT3, HB3, HL3⟩
      case round =>
        obtain ⟨j, G5, S5, hj, rfl, H5, HT5, HB5, HL5⟩ := hrel
        by_cases hlt2 : j < i
        · obtain ⟨hk5, htm⟩ := HT5.out.move hlt2
          have HTP := top_any H5.out (s := 1) (z := 1) ⟨by decide, by decide⟩ ⟨by decide, by decide⟩
          unfold topL at HTP
          rw [HT5.out.in11, upL_cons hlt2] at HTP
          have HTOP := Lib.hid (show Calls Try.prog 22 #[.pointer (some ⟨b, 0, none⟩), .int .i64 1, .int .i64 1] wr (RetV wr (.tuple #[.int .i64 ((j : Int) + 1), .bool true])) by simpa using HTP)
          have HMV := Lib.hid (fun (w' : World) (hb : Below wr.heap.size wr w') => (show Calls Try.prog 19 #[.pointer (some ⟨b, 0, none⟩), .int .i64 ((j : Int) + 1), .int .i64 2, .bool false] w' (RetS w' lo b G5 (moveL S5 j S5.objs[j] 2 false) (.int .i64 0)) from
            move_ok (H5.out.later hb) HT5.out.wf (by rw [HT5.out.len]; omega) j 2 hk5 (by decide) (by decide) false))
          have HTM := Lib.hid htm
          have E1 : (((j : Int) + 1) != ((j : Int) + 1)) = false := bne_self_eq_false _
          have d1 : decide ((j : Int) + 1 ≤ (i : Int)) = true := decide_eq_true (by omega)
          have d1' : decide (j + 1 ≤ i) = true := decide_eq_true (by omega)
          clear HTP htm
          go_wp2_with fail
          refine HTOP.out.mono ?_
          rintro e w6 ⟨rfl, hb6⟩
          have HB6 := Lib.hid hb6
          clear hb6
          dsimp only
          go_wp2_with fail
          refine (HMV.out w6 HB6.out).mono ?_
          rintro e w7 ⟨rfl, G7, hst7, ht7⟩
          have H7 := Lib.hid hst7
          have HB7 := Lib.hid (ht7.below (stepB HB5.out HB6.out) (fun q hq => Nat.le_trans HLW.out (H5.out.low q hq)))
          have HL7 := Lib.hid (Nat.le_trans HL5.out (Nat.le_trans HB6.out.size ht7.chg.size))
          clear hst7 ht7
          dsimp only
          go_wp2
          go_roundw
          case rel => exact ⟨j + 1, G7, _, by omega, by go_num, H7, HTM, HB7, HL7⟩
          case measure => simp [intOf]; omega
        · obtain rfl : j = i := by omega
          obtain ⟨wB, rfl⟩ : ∃ wB, wB = wr := ⟨_, rfl⟩
          have hT := HT5.out
          rw [upL_none] at hT
          have HT := Lib.hid hT
          have HIN := in_any H5.out (hT.wf.short (by rw [hT.len]; omega)) (s := 1) (z := 2) ⟨by decide, by decide⟩ ⟨by decide, by decide⟩
          rw [hT.in12] at HIN
          have HI := Lib.hid (show Calls Try.prog 16 #[.pointer (some ⟨b, 0, none⟩), .int .i64 1, .int .i64 2] wB (RetList wB (dnL j)) from HIN)
          have d2 : decide ((j : Int) + 1 ≤ (j : Int)) = false := decide_eq_false (by omega)
          have d2' : decide (j + 1 ≤ j) = false := decide_eq_false (by omega)
          have HDL := Lib.hid (dnL_len j)
          clear hT HIN
          go_wp2_with fail
          refine HI.out.mono ?_
          rintro e w8 ⟨v, rfl, hrow8, hb8⟩
          have H8s := Lib.hid (H5.out.later hb8)
          have HB8 := Lib.hid (stepB HB5.out hb8)
          have HF8 := Lib.hid (fun q (hq : wB.heap.size ≤ q) => H5.out.high q hq)
          have HR8 := Lib.hid hrow8
          have HL8 := Lib.hid (Nat.le_trans HL5.out hb8.size)
          obtain ⟨xa, xc, rfl⟩ := own_form hrow8
          have HWB := Lib.hid (HB5.out.size)
          rw [HDL.out]
          clear hrow8 hb8
          dsimp only
          go_wp2
          go_loopw [75] (fun v75 wr => ∃ q : Nat, q ≤ j ∧ v75 = .int .i64 q ∧ wr = w8) (fun v75 _ => j - (intOf v75).toNat)
          case atStart => exact ⟨0, Nat.zero_le _, rfl, rfl⟩
          case round =>
            obtain ⟨q, hq, rfl, rfl⟩ := hrel
            by_cases hlt3 : q < j
            · obtain ⟨r, off, hxa, hr, cq⟩ := (own_ints HR8.out).at q (by rw [HDL.out]; exact hlt3)
              rw [dnL_at] at cq
              subst hxa
              have e1 : ((j - q : Nat) : Int) = (j : Int) - q := by omega
              rw [e1] at cq
              have E2 : (((j : Int) - q) != ((j : Int) - q)) = false := bne_self_eq_false _
              have q0 : (0 : Int) ≤ q := by omega
              have q1 : (q : Int) < j := by omega
              clear e1
              go_wp2
              go_roundw
              case rel => exact ⟨q + 1, by omega, by go_num, by trivial⟩
              case measure => simp [intOf]; omega
            · obtain rfl : q = j := by omega
              obtain ⟨w8, rfl⟩ : ∃ w8, w8 = wr := ⟨_, rfl⟩
              have HTV : Hid (TurnV w w8 wB.heap.size lo b G5 S5 (.slice xa (dnL q).length xc) (dnL q) (dnL q)) := Lib.hid ⟨HR8.out, List.Perm.refl _, HWB.out, HB8.out, H8s.out, HF8.out⟩
              rw [HDL.out] at HTV
              clear hlt3 hlt2 hlt
              go_wp2
              go_loopw [88] (fun v88 wr => ∃ (p : Nat) (X : List Int), p ≤ ts.length ∧ v88 = .int .i64 p ∧ Hid (TurnV w wr wB.heap.size lo b G5 S5 (.slice xa q xc) (dnL q) X)) (fun v88 _ => ts.length - (intOf v88).toNat)
              case atStart => exact ⟨0, dnL q, Nat.zero_le _, rfl, HTV⟩
              case round =>
                obtain ⟨p, X, hp, rfl, HX⟩ := hrel
                by_cases hlt : p < ts.length
                · obtain ⟨zb, zoff, hza, c0⟩ := (HU.out.later HX.out.bel).at p hlt
                  have hw8x := H8.out _ (List.getElem_mem hlt)
                  obtain ⟨x, hx⟩ : ∃ x, ts[p] = x := ⟨_, rfl⟩
                  rw [hx] at c0 hw8x
                  obtain ⟨y, rfl⟩ : ∃ y : Nat, x = (y : Int) := ⟨x.toNat, by omega⟩
                  have HLT := Lib.hid hlt
                  have d0 : (0 : Int) ≤ p := by omega
                  have d1 : (p : Int) < ts.length := by omega
                  have y0 : (0 : Int) ≤ y := by omega
                  have y1 : (y : Int) < 256 := by omega
                  clear hx hw8x
                  subst hza
                  by_cases hl0 : q = 0
                  · subst hl0
                    go_wp2
                    go_roundw
                    case rel => exact ⟨p + 1, X, by have := HLT.out; omega, by go_num, HX⟩
                    case measure => have := HLT.out; simp [intOf]; omega
                  · have hrowX := HX.out.row
                    obtain ⟨g, cap, hv4, hgB⟩ : ∃ g cap, (Value.slice xa q xc) = .slice (some ⟨g, 0, none⟩) q cap ∧ wB.heap.size ≤ g := by
                      rw [HDL.out] at hrowX
                      rcases hrowX.2 with ⟨_, h0⟩ | ⟨g, cap, cur, h1, hg, _⟩
                      · exact absurd h0 hl0
                      · exact ⟨g, cap, h1, hg⟩
                    injection hv4 with hxa _ hxc
                    subst hxa hxc
                    have HX' : Hid (TurnV w wr wB.heap.size lo b G5 S5 (.slice (some ⟨g, 0, none⟩) (dnL q).length xc) (dnL q) X) := by rw [HDL.out]; exact HX
                    have hXL := HX.out.perm.length_eq
                    rw [HDL.out] at hXL
                    have hlp : decide ((0 : Int) < q) = true := decide_eq_true (by omega)
                    have hlp2 : decide (0 < q) = true := decide_eq_true (by omega)
                    have hlp3 : 0 < q := by omega
                    have hnz : ¬ (q : Int) = 0 := by omega
                    obtain ⟨a, ha⟩ : ∃ a, p % q = a := ⟨_, rfl⟩
                    obtain ⟨bb, hb⟩ : ∃ bb, y % q = bb := ⟨_, rfl⟩
                    have hal : a < q := by rw [← ha]; exact Nat.mod_lt _ hlp3
                    have hbl : bb < q := by rw [← hb]; exact Nat.mod_lt _ hlp3
                    have hta : (p : Int).tmod (q : Int) = (a : Int) := by rw [← ha]; exact (Int.ofNat_tmod _ _).symm
                    have htb : (y : Int).tmod (q : Int) = (bb : Int) := by rw [← hb]; exact (Int.ofNat_tmod _ _).symm
                    have hwy : IntKind.i64.wrap (y : Int) = y := IntWalk.i64_in _ (by omega)
                    obtain ⟨pp, hp1⟩ : ∃ pp, X.getD bb 0 = pp := ⟨_, rfl⟩
                    obtain ⟨qq, hq1⟩ : ∃ qq, X.getD a 0 = qq := ⟨_, rfl⟩
                    have HST : Hid (∀ nd, TurnV w (((wr.drewN nd).setCell ⟨g, a, none⟩ (.int .i64 pp)).setCell ⟨g, bb, none⟩ (.int .i64 qq)) wB.heap.size lo b G5 S5 (.slice (some ⟨g, 0, none⟩) q xc) (dnL q) (swapI X a bb)) := Lib.hid (fun nd => by
                      have h := turn_step (nd := nd) HX'.out hgB (by rw [HDL.out]; exact hal) (by rw [HDL.out]; exact hbl) hp1 hq1
                      rw [HDL.out] at h
                      exact h)
                    have hrow' : wr.ownsRow wB.heap.size 3 1 (.slice (some ⟨g, 0, none⟩) q xc) q (intsV X) := by rw [HDL.out] at hrowX; exact hrowX
                    have ci := hrow'.cellAt a (by omega)
                    have cj := hrow'.cellAt bb (by omega)
                    rw [show (intsV X)[a]? = some (.int .i64 qq) by rw [← hq1]; simp [intsV, List.getD, show a < X.length by omega]] at ci
                    rw [show (intsV X)[bb]? = some (.int .i64 pp) by rw [← hp1]; simp [intsV, List.getD, show bb < X.length by omega]] at cj
                    have fi := hrow'.frozenAt a
                    have fj := hrow'.frozenAt bb
                    have huv : bb = a → pp = qq := fun e => by rw [← hp1, ← hq1, e]
                    have a0 : (0 : Int) ≤ a := by omega
                    have a1 : (a : Int) < q := by omega
                    have b0 : (0 : Int) ≤ bb := by omega
                    have b1 : (bb : Int) < q := by omega
                    clear ha hb hp1 hq1 hXL hrow' hrowX HX HX'
                    by_cases hab : bb = a
                    · have := huv hab
                      subst this
                      subst hab
                      clear huv cj fj
                      go_wp2
                      go_quiet (fail)
                      clear hta htb hwy
                      go_wp2
                      go_region
                      all_goals
                        go_wp2
                        go_roundw
                        case rel => exact ⟨p + 1, _, by have := HLT.out; omega, by go_num, HST.out _⟩
                        case measure => have := HLT.out; simp [intOf]; omega
                    · clear huv
                      have hab2 : ¬ a = bb := fun e => hab e.symm
                      go_wp2
                      go_quiet (fail)
                      clear hta htb hwy
                      go_wp2
                      go_region
                      all_goals
                        go_wp2
                        go_roundw
                        case rel => exact ⟨p + 1, _, by have := HLT.out; omega, by go_num, HST.out _⟩
                        case measure => have := HLT.out; simp [intOf]; omega
                · obtain rfl : p = ts.length := by omega
                  obtain ⟨w9, rfl⟩ : ∃ w9, w9 = wr := ⟨_, rfl⟩
                  have hXL := HX.out.perm.length_eq
                  rw [HDL.out] at hXL
                  subst hXL
                  have hrow9 := HX.out.row
                  rw [HDL.out] at hrow9
                  have HI9 := Lib.hid (own_ints hrow9)
                  have HLAY := Lib.hid (show Calls Try.prog 23 #[.pointer (some ⟨b, 0, none⟩), .int .i64 1, .int .i64 2, .slice xa X.length xc] w9 (RetS w9 lo b G5 { S5 with pl := upd S5.pl 1 2 X } (.int .i64 0)) from
                    lay_ok (s := 1) (z := 2) HX.out.st HX.out.st.loSize (HT.out.wf.short (by rw [HT.out.len]; omega)) (by rw [HT.out.seats]; decide) (by decide) (by decide) HI9.out (by omega) (HX.out.perm.nodup_iff.1 (dnL_nodup _)) (by
                      have h := HT.out.hand
                      have e : canN 1 2 = 1 := rfl
                      rw [e, h]
                      exact sort_perm HX.out.perm.symm))
                  have HS9 := Lib.hid HX.out.st
                  have HB9 := Lib.hid HX.out.bel
                  have HR9 := Lib.hid hrow9
                  have HF9 := Lib.hid HX.out.far
                  have hXl := hk20
                  clear hrow9 HX HTV
                  go_wp2_with fail
                  refine HLAY.out.mono ?_
                  rintro e w10 ⟨rfl, G10, hst10, ht10⟩
                  have H10 := Lib.hid hst10
                  have HB10 := Lib.hid (ht10.below HB9.out (fun r hr => Nat.le_trans HLW.out (HS9.out.low r hr)))
                  have hrow10 := own11_later (w' := w10) HR9.out (fun r hr => (ht10.keeps (World.ownsRow.lt HR9.out r hr).2 (HF9.out r (World.ownsRow.lt HR9.out r hr).1)).1)
                  have HI10 := Lib.hid (own_ints hrow10)
                  have HS5 := Lib.hid (HT.out.wf.short (by rw [HT.out.len]; omega))
                  have HSX := Lib.hid (ShortS.lay (s := 1) (z := 2) (X := X) HS5.out (by omega))
                  have HIN := in_any H10.out HSX.out (s := 1) (z := 2) ⟨by decide, by decide⟩ ⟨by decide, by decide⟩
                  rw [show inL { S5 with pl := upd S5.pl 1 2 X } 1 2 = X from (inL_at (S := { S5 with pl := upd S5.pl 1 2 X }) (s := 1) (z := 2) (n := 2) HT.out.seats (by decide)).trans (upd_same S5.pl 1 2 X)] at HIN
                  have HIN2 := Lib.hid HIN
                  clear hst10 ht10 hrow10 HIN
                  dsimp only
                  go_wp2_with fail
                  refine HIN2.out.mono ?_
                  rintro e w11 ⟨v11, rfl, hrow11, hb11⟩
                  have HB11 := Lib.hid (stepB HB10.out hb11)
                  have H11 := Lib.hid (H10.out.later hb11)
                  have HIS := Lib.hid (ints_same (own_ints hrow11) (HI10.out.later hb11) (by omega))
                  clear hrow11 hb11
                  dsimp only
                  go_wp2_with fail
                  refine HIS.out.mono ?_
                  rintro e w12 ⟨rfl, nd, rfl⟩
                  obtain ⟨w12, hw12⟩ : ∃ w12, w11.drewN nd = w12 := ⟨_, rfl⟩
                  have HB12 := Lib.hid (hw12 ▸ below_drewN HB11.out nd : Below w.heap.size w w12)
                  have H12 := Lib.hid (hw12 ▸ H11.out.later (below_drewN (Below.refl _ _) nd) : StoreAt w12 lo b G10 { S5 with pl := upd S5.pl 1 2 X })
                  rw [hw12]
                  have HTP := top_any H12.out (s := 1) (z := 1) ⟨by decide, by decide⟩ ⟨by decide, by decide⟩
                  unfold topL at HTP
                  rw [show inL { S5 with pl := upd S5.pl 1 2 X } 1 1 = [] from (inL_at (S := { S5 with pl := upd S5.pl 1 2 X }) (s := 1) (z := 1) (n := 2) HT.out.seats (by decide)).trans ((upd_other (s := 1) (z := 2) (s' := 1) (z' := 1) S5.pl X (by decide)).trans HT.out.lib)] at HTP
                  have HTOP := Lib.hid (show Calls Try.prog 22 #[.pointer (some ⟨b, 0, none⟩), .int .i64 1, .int .i64 1] w12 (RetV w12 (.tuple #[.int .i64 0, .bool false])) from HTP)
                  clear HTP hw12
                  dsimp only
                  go_wp2_with fail
                  refine HTOP.out.mono ?_
                  rintro e w13 ⟨rfl, hb13⟩
                  have H13 := Lib.hid (H12.out.later hb13)
                  have HB13 := Lib.hid (stepB HB12.out hb13)
                  have HLN := len_store H13.out HSX.out
                  rw [show ({ S5 with pl := upd S5.pl 1 2 X } : StoreL).objs.length = X.length from HT.out.len] at HLN
                  have HLEN := Lib.hid HLN
                  have HI0 := in_any H13.out HSX.out (s := 0) (z := 2) ⟨by decide, by decide⟩ ⟨by decide, by decide⟩
                  rw [show inL { S5 with pl := upd S5.pl 1 2 X } 0 2 = [] from (inL_at (S := { S5 with pl := upd S5.pl 1 2 X }) (s := 0) (z := 2) (n := 2) HT.out.seats (by decide)).trans ((upd_other (s := 1) (z := 2) (s' := 0) (z' := 2) S5.pl X (by decide)).trans HT.out.other)] at HI0
                  have HI02 := Lib.hid HI0
                  clear hb13 HLN HI0
                  dsimp only
                  go_wp2_with fail
                  refine HLEN.out.mono ?_
                  rintro e w14 ⟨rfl, rfl⟩
                  dsimp only
                  go_wp2_with fail
                  refine HI02.out.mono ?_
                  rintro e w15 ⟨v15, rfl, hrow15, hb15⟩
                  obtain ⟨x15, c15, rfl⟩ := own_form hrow15
                  have HB15 := Lib.hid (stepB HB13.out hb15)
                  clear hrow15 hb15
                  dsimp only
                  go_wp2
                  go_ret
                  exact ⟨rfl, HB15.out⟩
end Go.Proofs.Ytkhgdfalbmkgcaa

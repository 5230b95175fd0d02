/- Lists of cards in memory; the contracts of deck.Table and of the document's Table (layer 3). Lists of numbers in memory; the contracts of within, checkNumbers, and of the document's Table, Known, Many (layer 3). The contracts of the document's Known and of Great (layer 3). -/
import Derived.Test.YtcbjekdbkhibbaaCs
import Derived.Test.YtcbjekdbkhibbaaRn
namespace Go.Proofs.Ytcbjekdbkhibbaa
open Go.RowKit

/-- A card's cells at a place. -/
def CardCells (w : World) (b o : Nat) (c : CardL) : Prop :=
  ∃ ya yc, w.cell? ⟨b, o, none⟩ = some (.int .i64 c.kind) ∧ w.cell? ⟨b, o + 1, none⟩ = some (.int .i64 c.cost) ∧ w.cell? ⟨b, o + 2, none⟩ = some (.int .i64 c.power) ∧ w.cell? ⟨b, o + 3, none⟩ = some (.int .i64 c.tough) ∧
    w.cell? ⟨b, o + 4, none⟩ = some (.int .i64 c.keys) ∧ w.cell? ⟨b, o + 5, none⟩ = some (.int .i64 c.whn) ∧ w.cell? ⟨b, o + 6, none⟩ = some (.slice ya c.terms.length yc) ∧ TermsIs w (.slice ya c.terms.length yc) c.terms
theorem CardCells.later {w w' : World} {b o : Nat} {c : CardL} (h : CardCells w b o c) (hb : Below w.heap.size w w') : CardCells w' b o c := by
  obtain ⟨ya, yc, c0, c1, c2, c3, c4, c5, c6, ht⟩ := h
  exact ⟨ya, yc, cell_stays hb c0, cell_stays hb c1, cell_stays hb c2, cell_stays hb c3, cell_stays hb c4, cell_stays hb c5, cell_stays hb c6, ht.later hb⟩
/-- A list of cards in memory, or no list; what it holds. -/
def CardsAt (w : World) (v : Value) (l : List CardL) : Prop :=
  (∃ xa cap, v = .slice xa 0 cap ∧ l = []) ∨ ∃ b off cap, v = .slice (some ⟨b, off, none⟩) l.length cap ∧ b < w.heap.size ∧ ∀ i (h : i < l.length), CardCells w b (off + i * 7) l[i]
theorem CardsAt.later {w w' : World} {v : Value} {l : List CardL} (h : CardsAt w v l) (hb : Below w.heap.size w w') : CardsAt w' v l := by
  rcases h with h | ⟨b, off, cap, rfl, hlt, hc⟩
  · exact .inl h
  · exact .inr ⟨b, off, cap, rfl, Nat.lt_of_lt_of_le hlt hb.size, fun i hi => (hc i hi).later hb⟩
theorem CardsAt.form {w : World} {v : Value} {l : List CardL} (h : CardsAt w v l) : ∃ xa xc, v = .slice xa l.length xc := by
  rcases h with ⟨xa, cap, rfl, rfl⟩ | ⟨b, off, cap, rfl, _⟩
  · exact ⟨xa, cap, rfl⟩
  · exact ⟨_, cap, rfl⟩
theorem CardsAt.at {w : World} {xa : Option Addr} {xc : Nat} {l : List CardL} (h : CardsAt w (.slice xa l.length xc) l) (k : Nat) (hk : k < l.length) : ∃ b off, xa = some ⟨b, off, none⟩ ∧ CardCells w b (off + k * 7) l[k] := by
  rcases h with ⟨_, _, _, h2⟩ | ⟨b, off, cap, h1, _, hc⟩
  · subst h2; simp at hk
  · injection h1 with h1 _ _; exact ⟨b, off, h1, hc k hk⟩
def tableE (l : List CardL) : Int := if 60 < l.length then 5 else if l.all mayB then 0 else 8
/-- No list of terms is longer than an int tells. -/
def SmallC (l : List CardL) : Prop := ∀ c ∈ l, c.terms.length ≤ 9223372036854775807
theorem SmallC.at {l : List CardL} (h : SmallC l) (k : Nat) (hk : k < l.length) : l[k].terms.length ≤ 9223372036854775807 := h _ (List.getElem_mem hk)
theorem allB_next {α : Type} {p : α → Bool} {l : List α} {k : Nat} (hk : k < l.length) (h : (l.take k).all p = true) (hp : p l[k] = true) : (l.take (k + 1)).all p = true := by
  rw [take_last l k hk, List.all_append, h]; simp [hp]
theorem allB_not {α : Type} {p : α → Bool} {l : List α} {k : Nat} (hk : k < l.length) (hp : p l[k] = false) : l.all p = false := by
  cases h : l.all p
  · rfl
  · rw [List.all_eq_true] at h
    rw [h _ (List.getElem_mem hk)] at hp; exact absurd hp (by decide)
theorem allB_done {α : Type} {p : α → Bool} {l : List α} (h : (l.take l.length).all p = true) : l.all p = true := by rwa [List.take_length] at h

set_option maxRecDepth 100000 in
set_option maxHeartbeats 4000000 in
theorem table_any {v : Value} {l : List CardL} {w : World} (h : CardsAt w v l) (hn : l.length ≤ 9223372036854775807) (hs : SmallC l) :
    Calls Try.prog 57 #[v] w (fun e w' => e = .returned (.int .i64 (tableE l)) ∧ Below w.heap.size w w') := by
  obtain ⟨xa, xc, rfl⟩ := h.form
  have HL := Lib.hid h
  have HS := Lib.hid hs
  clear h hs
  by_cases h60 : 60 < l.length
  · have HE := Lib.hid (show tableE l = 5 by unfold tableE; rw [if_pos h60])
    have e1 : decide ((60 : Int) < l.length) = true := decide_eq_true (by omega)
    clear h60
    go_enter Try.func57, Try.ntmps57
    go_wp2
    go_ret
    exact ⟨ret_int HE.out.symm, Below.refl _ _⟩
  · have HE := Lib.hid (show tableE l = if l.all mayB then 0 else 8 by unfold tableE; rw [if_neg h60])
    have e1 : decide ((60 : Int) < l.length) = false := decide_eq_false (by omega)
    go_enter Try.func57, Try.ntmps57
    go_wp2
    go_loopw [10] (fun i wr => ∃ k : Nat, k ≤ l.length ∧ i = .int .i64 k ∧ Hid ((l.take k).all mayB = true) ∧ Hid (Below w.heap.size w wr)) (fun i _ => l.length - (intOf i).toNat)
    case atStart => exact ⟨0, Nat.zero_le _, rfl, Lib.hid (by simp), Lib.hid (Below.refl _ _)⟩
    case round =>
      obtain ⟨k, hk, rfl, HK, HB⟩ := hrel
      by_cases hlt : k < l.length
      · obtain ⟨b, off, rfl, hcell⟩ := (HL.out.later HB.out).at k hlt
        have hsl := HS.out.at k hlt
        obtain ⟨c, hcc⟩ : ∃ c, l[k] = c := ⟨_, rfl⟩
        rw [hcc] at hcell hsl
        have HCC := Lib.hid hcc
        obtain ⟨ya, yc, c0, c1, c2, c3, c4, c5, c6, ht⟩ := hcell
        have HT := Lib.hid ht
        have HLN := Lib.hid hsl
        have HLT := Lib.hid hlt
        have d0 : (0 : Int) ≤ k := by omega
        have d1 : (k : Int) < l.length := by omega
        clear ht hsl hcc
        obtain ⟨mm, hmm⟩ : ∃ mm, mayB c = mm := ⟨_, rfl⟩
        have HM := Lib.hid hmm
        clear hmm
        go_wp2_with fail
        refine (check_any ⟨ya, _, yc, rfl, HT.out.later (below_new _ _)⟩ HLN.out).mono ?_
        rw [HM.out]
        rintro e w2 ⟨rfl, hb2⟩
        have HB2 := Lib.hid (HB.out.trans ((below_new wr _).mono HB.out.size |>.trans (hb2.mono (by have := HB.out.size; simp; omega))))
        clear hb2 c0 c1 c2 c3 c4 c5 c6
        cases mm
        · go_wp2
          go_ret
          exact ⟨ret_int (by rw [HE.out, allB_not HLT.out (by rw [HCC.out]; exact HM.out)]; rfl), HB2.out⟩
        · go_wp2
          go_roundw
          case rel => exact ⟨k + 1, by omega, by go_num, Lib.hid (allB_next HLT.out HK.out (by rw [HCC.out]; exact HM.out)), HB2⟩
          case measure => simp [intOf]; omega
      · obtain rfl : k = l.length := by omega
        have HA := Lib.hid (allB_done HK.out)
        go_wp2
        go_ret
        exact ⟨ret_int (by rw [HE.out, HA.out]; rfl), HB.out⟩
end Go.Proofs.Ytcbjekdbkhibbaa
namespace Go.Proofs.Ytcbjekdbkhibbaa
open Go.RowKit

/-- A list of numbers in memory, or no list (at whatever address). -/
def IntsAt (w : World) (v : Value) (l : List Int) : Prop :=
  (∃ xa cap, v = .slice xa 0 cap ∧ l = []) ∨ ∃ b off cap, v = .slice (some ⟨b, off, none⟩) l.length cap ∧ b < w.heap.size ∧ ∀ i (h : i < l.length), w.cell? ⟨b, off + i, none⟩ = some (.int .i64 l[i])
theorem IntsAt.later {w w' : World} {v : Value} {l : List Int} (h : IntsAt w v l) (hb : Below w.heap.size w w') : IntsAt w' v l := by
  rcases h with h | ⟨b, off, cap, rfl, hlt, hc⟩
  · exact .inl h
  · exact .inr ⟨b, off, cap, rfl, Nat.lt_of_lt_of_le hlt hb.size, fun i hi => cell_stays hb (hc i hi)⟩
theorem IntsAt.form {w : World} {v : Value} {l : List Int} (h : IntsAt w v l) : ∃ xa xc, v = .slice xa l.length xc := by
  rcases h with ⟨xa, cap, rfl, rfl⟩ | ⟨b, off, cap, rfl, _⟩
  · exact ⟨xa, cap, rfl⟩
  · exact ⟨_, cap, rfl⟩
theorem IntsAt.at {w : World} {xa : Option Addr} {xc : Nat} {l : List Int} (h : IntsAt w (.slice xa l.length xc) l) (k : Nat) (hk : k < l.length) : ∃ b off, xa = some ⟨b, off, none⟩ ∧ w.cell? ⟨b, off + k, none⟩ = some (.int .i64 l[k]) := by
  rcases h with ⟨_, _, _, h2⟩ | ⟨b, off, cap, h1, _, hc⟩
  · subst h2; simp at hk
  · injection h1 with h1 _ _; exact ⟨b, off, h1, hc k hk⟩
theorem IntsAt.of {w : World} {v : Value} {l : List Int} (h : NumsAt w v l) : IntsAt w v l := by
  rcases h with ⟨h1, h2⟩ | ⟨b, off, cap, h1, h2, h3⟩
  · exact .inl ⟨_, _, h1, h2⟩
  · exact .inr ⟨b, off, cap, h1, h2, fun i hi => by rw [h3 i hi]; simp [hi]⟩
def inT (m : Nat) (n : Int) : Bool := decide (0 ≤ n) && decide (n < m)
def knownE (t : List CardL) (l : List Int) : Int := if tableE t = 0 then (if l.all (inT t.length) then 0 else 2) else tableE t

set_option maxRecDepth 100000 in
set_option maxHeartbeats 4000000 in
theorem refTable_any {v : Value} {l : List CardL} {w : World} (h : CardsAt w v l) (hn : l.length ≤ 9223372036854775807) (hs : SmallC l) :
    Calls Try.prog 58 #[v] w (fun e w' => e = .returned (.int .i64 (tableE l)) ∧ Below w.heap.size w w') := by
  obtain ⟨xa, xc, rfl⟩ := h.form
  have HL := Lib.hid h
  have HS := Lib.hid hs
  clear h hs
  by_cases h60 : 60 < l.length
  · have HE := Lib.hid (show tableE l = 5 by unfold tableE; rw [if_pos h60])
    have e1 : decide ((60 : Int) < l.length) = true := decide_eq_true (by omega)
    clear h60
    go_enter Try.func58, Try.ntmps58
    go_wp2
    go_ret
    exact ⟨ret_int HE.out.symm, Below.refl _ _⟩
  · have HE := Lib.hid (show tableE l = if l.all mayB then 0 else 8 by unfold tableE; rw [if_neg h60])
    have e1 : decide ((60 : Int) < l.length) = false := decide_eq_false (by omega)
    go_enter Try.func58, Try.ntmps58
    go_wp2
    go_loopw [3] (fun i wr => ∃ k : Nat, k ≤ l.length ∧ i = .int .i64 k ∧ Hid ((l.take k).all mayB = true) ∧ Hid (Below w.heap.size w wr)) (fun i _ => l.length - (intOf i).toNat)
    case atStart => exact ⟨0, Nat.zero_le _, rfl, Lib.hid (by simp), Lib.hid (Below.refl _ _)⟩
    case round =>
      obtain ⟨k, hk, rfl, HK, HB⟩ := hrel
      by_cases hlt : k < l.length
      · obtain ⟨b, off, rfl, hcell⟩ := (HL.out.later HB.out).at k hlt
        have hsl := HS.out.at k hlt
        obtain ⟨c, hcc⟩ : ∃ c, l[k] = c := ⟨_, rfl⟩
        rw [hcc] at hcell hsl
        have HCC := Lib.hid hcc
        obtain ⟨ya, yc, c0, c1, c2, c3, c4, c5, c6, ht⟩ := hcell
        have HT := Lib.hid ht
        have HLN := Lib.hid hsl
        have HLT := Lib.hid hlt
        have d0 : (0 : Int) ≤ k := by omega
        have d1 : (k : Int) < l.length := by omega
        clear ht hsl hcc
        obtain ⟨mm, hmm⟩ : ∃ mm, mayB c = mm := ⟨_, rfl⟩
        have HM := Lib.hid hmm
        clear hmm
        go_wp2_with fail
        refine (refMay_any ⟨ya, _, yc, rfl, HT.out⟩ HLN.out).mono ?_
        rw [HM.out]
        rintro e w2 ⟨rfl, hb2⟩
        have HB2 := Lib.hid (HB.out.trans (hb2.mono HB.out.size))
        clear hb2 c0 c1 c2 c3 c4 c5 c6
        cases mm
        · go_wp2
          go_ret
          exact ⟨ret_int (by rw [HE.out, allB_not HLT.out (by rw [HCC.out]; exact HM.out)]; rfl), HB2.out⟩
        · go_wp2
          go_roundw
          case rel => exact ⟨k + 1, by omega, by go_num, Lib.hid (allB_next HLT.out HK.out (by rw [HCC.out]; exact HM.out)), HB2⟩
          case measure => simp [intOf]; omega
      · obtain rfl : k = l.length := by omega
        have HA := Lib.hid (allB_done HK.out)
        go_wp2
        go_ret
        exact ⟨ret_int (by rw [HE.out, HA.out]; rfl), HB.out⟩

set_option maxRecDepth 100000 in
set_option maxHeartbeats 4000000 in
theorem within_any (xa : Option Addr) (xc m : Nat) (n : Int) (w : World) :
    Calls Try.prog 127 #[.slice xa m xc, .int .i64 n] w (fun e w' => e = .returned (.bool (inT m n)) ∧ w = w') := by
  by_cases h0 : 0 ≤ n
  · have HI := Lib.hid (show inT m n = decide (n < m) by simp [inT, h0])
    go_enter Try.func127, Try.ntmps127
    go_wp2
    go_ret
    exact ⟨ret_bool HI.out.symm, rfl⟩
  · have e0 : decide (0 ≤ n) = false := decide_eq_false h0
    have HI := Lib.hid (show inT m n = false by simp [inT, h0])
    go_enter Try.func127, Try.ntmps127
    go_wp2
    go_ret
    exact ⟨ret_bool HI.out.symm, rfl⟩

set_option maxRecDepth 100000 in
set_option maxHeartbeats 4000000 in
theorem checkNumbers_any {v u : Value} {t : List CardL} {l : List Int} {w : World} (h : CardsAt w v t) (hu : IntsAt w u l) (hn : t.length ≤ 9223372036854775807) (hs : SmallC t) (hl : l.length ≤ 9223372036854775807) :
    Calls Try.prog 121 #[v, u] w (fun e w' => e = .returned (.int .i64 (knownE t l)) ∧ Below w.heap.size w w') := by
  obtain ⟨xa, xc, rfl⟩ := h.form
  obtain ⟨ya, yc, rfl⟩ := hu.form
  have HL := Lib.hid h
  have HU := Lib.hid hu
  have HS := Lib.hid hs
  have HN := Lib.hid hn
  clear h hu hs hn
  obtain ⟨E, hE⟩ : ∃ E, tableE t = E := ⟨_, rfl⟩
  have HE := Lib.hid hE
  clear hE
  by_cases h0 : E = 0
  · have HKN := Lib.hid (show knownE t l = if l.all (inT t.length) then 0 else 2 by unfold knownE; rw [HE.out, if_pos h0])
    subst h0
    go_enter Try.func121, Try.ntmps121
    go_wp2_with fail
    refine (table_any HL.out HN.out HS.out).mono ?_
    rw [HE.out]
    rintro e w2 ⟨rfl, hb2⟩
    have HB2 := Lib.hid hb2
    clear hb2
    go_wp2
    go_loopw [15] (fun i wr => ∃ k : Nat, k ≤ l.length ∧ i = .int .i64 k ∧ Hid ((l.take k).all (inT t.length) = true) ∧ Hid (Below w.heap.size w wr)) (fun i _ => l.length - (intOf i).toNat)
    case atStart => exact ⟨0, Nat.zero_le _, rfl, Lib.hid (by simp), HB2⟩
    case round =>
      obtain ⟨k, hk, rfl, HK, HB⟩ := hrel
      by_cases hlt : k < l.length
      · obtain ⟨b, off, rfl, c0⟩ := (HU.out.later HB.out).at k hlt
        obtain ⟨x, hx⟩ : ∃ x, l[k] = x := ⟨_, rfl⟩
        rw [hx] at c0
        have HX := Lib.hid hx
        have HLT := Lib.hid hlt
        have d0 : (0 : Int) ≤ k := by omega
        have d1 : (k : Int) < l.length := by omega
        obtain ⟨mm, hmm⟩ : ∃ mm, inT t.length x = mm := ⟨_, rfl⟩
        have HM := Lib.hid hmm
        clear hmm hx
        go_wp2_with fail
        refine (within_any _ _ _ _ _).mono ?_
        rw [HM.out]
        rintro e w3 ⟨rfl, rfl⟩
        cases mm
        · go_wp2
          go_ret
          exact ⟨ret_int (by rw [HKN.out, allB_not HLT.out (by rw [HX.out]; exact HM.out)]; rfl), HB.out⟩
        · go_wp2
          go_roundw
          case rel => exact ⟨k + 1, by omega, by go_num, Lib.hid (allB_next HLT.out HK.out (by rw [HX.out]; exact HM.out)), HB⟩
          case measure => simp [intOf]; omega
      · obtain rfl : k = l.length := by omega
        have HA := Lib.hid (allB_done HK.out)
        go_wp2
        go_ret
        exact ⟨ret_int (by rw [HKN.out, HA.out]; rfl), HB.out⟩
  · have HKN := Lib.hid (show knownE t l = E by unfold knownE; rw [HE.out, if_neg h0])
    have e1 : (E != 0) = true := bne_iff_ne.2 h0
    clear h0
    go_enter Try.func121, Try.ntmps121
    go_wp2_with fail
    refine (table_any HL.out HN.out HS.out).mono ?_
    rw [HE.out]
    rintro e w2 ⟨rfl, hb2⟩
    go_wp2
    go_ret
    exact ⟨ret_int HKN.out.symm, hb2⟩

set_option maxRecDepth 100000 in
set_option maxHeartbeats 4000000 in
theorem many_any {u : Value} {l : List Int} (x : Int) {w : World} (hu : IntsAt w u l) (hl : l.length ≤ 9223372036854775807) :
    Calls Try.prog 66 #[u, .int .i64 x] w (fun e w' => e = .returned (.int .i64 (l.count x)) ∧ w = w') := by
  obtain ⟨ya, yc, rfl⟩ := hu.form
  have HU := Lib.hid hu
  clear hu
  go_enter Try.func66, Try.ntmps66
  go_wp2
  go_loop [5, 6] (fun n i => ∃ k : Nat, k ≤ l.length ∧ i = .int .i64 k ∧ n = .int .i64 ((l.take k).count x)) (fun _ i => l.length - (intOf i).toNat)
  case atStart => exact ⟨0, Nat.zero_le _, rfl, by simp⟩
  case round =>
    obtain ⟨k, hk, rfl, rfl⟩ := hrel
    by_cases hlt : k < l.length
    · obtain ⟨b, off, rfl, c0⟩ := HU.out.at k hlt
      have hcn : (l.take k).count x ≤ k := Nat.le_trans List.count_le_length (List.length_take_le _ _)
      have HNX := Lib.hid (show (l.take (k + 1)).count x = (l.take k).count x + if l[k] == x then 1 else 0 by rw [take_last l k hlt, List.count_append, List.count_singleton])
      obtain ⟨y, hy⟩ : ∃ y, l[k] = y := ⟨_, rfl⟩
      rw [hy] at c0 HNX
      clear hy
      have d0 : (0 : Int) ≤ k := by omega
      have d1 : (k : Int) < l.length := by omega
      obtain ⟨cn, hcn2⟩ : ∃ cn, (l.take k).count x = cn := ⟨_, rfl⟩
      rw [hcn2] at HNX hcn
      rw [hcn2]
      clear hcn2
      obtain ⟨mm, hmm⟩ : ∃ mm, (y == x) = mm := ⟨_, rfl⟩
      rw [hmm] at HNX
      cases mm
      all_goals
        go_wp2
        go_round
        case rel => exact ⟨k + 1, by omega, by go_num, by rw [HNX.out]; first | rfl | go_num⟩
        case measure => simp [intOf]; omega
    · obtain rfl : k = l.length := by omega
      go_wp2
      go_ret
      exact ⟨ret_int rfl, rfl⟩
end Go.Proofs.Ytcbjekdbkhibbaa
namespace Go.Proofs.Ytcbjekdbkhibbaa
open Go.RowKit

set_option maxRecDepth 100000 in
set_option maxHeartbeats 4000000 in
theorem known_any {v u : Value} {t : List CardL} {l : List Int} {w : World} (h : CardsAt w v t) (hu : IntsAt w u l) (hn : t.length ≤ 9223372036854775807) (hs : SmallC t) (hl : l.length ≤ 9223372036854775807) :
    Calls Try.prog 124 #[v, u] w (fun e w' => e = .returned (.int .i64 (knownE t l)) ∧ Below w.heap.size w w') := by
  obtain ⟨xa, xc, rfl⟩ := h.form
  obtain ⟨ya, yc, rfl⟩ := hu.form
  have HL := Lib.hid h
  have HU := Lib.hid hu
  have HS := Lib.hid hs
  have HN := Lib.hid hn
  clear h hu hs
  obtain ⟨E, hE⟩ : ∃ E, tableE t = E := ⟨_, rfl⟩
  have HE := Lib.hid hE
  clear hE
  by_cases h0 : E = 0
  · have HKN := Lib.hid (show knownE t l = if l.all (inT t.length) then 0 else 2 by unfold knownE; rw [HE.out, if_pos h0])
    subst h0
    go_enter Try.func124, Try.ntmps124
    go_wp2_with fail
    refine (refTable_any HL.out HN.out HS.out).mono ?_
    rw [HE.out]
    rintro e w2 ⟨rfl, hb2⟩
    have HB2 := Lib.hid hb2
    clear hb2
    go_wp2
    go_loopw [5] (fun i wr => ∃ k : Nat, k ≤ l.length ∧ i = .int .i64 k ∧ Hid ((l.take k).all (inT t.length) = true) ∧ Hid (Below w.heap.size w wr)) (fun i _ => l.length - (intOf i).toNat)
    case atStart => exact ⟨0, Nat.zero_le _, rfl, Lib.hid (by simp), HB2⟩
    case round =>
      obtain ⟨k, hk, rfl, HK, HB⟩ := hrel
      by_cases hlt : k < l.length
      · obtain ⟨b, off, rfl, c0⟩ := (HU.out.later HB.out).at k hlt
        obtain ⟨x, hx⟩ : ∃ x, l[k] = x := ⟨_, rfl⟩
        rw [hx] at c0
        have HX := Lib.hid hx
        have HLT := Lib.hid hlt
        have d0 : (0 : Int) ≤ k := by omega
        have d1 : (k : Int) < l.length := by omega
        clear hx
        by_cases hx0 : x < 0
        · have HM := Lib.hid (show inT t.length x = false by simp [inT]; omega)
          have b0 : decide (x < 0) = true := decide_eq_true hx0
          go_wp2
          go_ret
          exact ⟨ret_int (by rw [HKN.out, allB_not HLT.out (by rw [HX.out]; exact HM.out)]; rfl), HB.out⟩
        · have b0 : decide (x < 0) = false := decide_eq_false hx0
          by_cases hx1 : (t.length : Int) ≤ x
          · have HM := Lib.hid (show inT t.length x = false by simp [inT]; omega)
            have b1 : decide ((t.length : Int) ≤ x) = true := decide_eq_true hx1
            go_wp2
            go_ret
            exact ⟨ret_int (by rw [HKN.out, allB_not HLT.out (by rw [HX.out]; exact HM.out)]; rfl), HB.out⟩
          · have HM := Lib.hid (show inT t.length x = true by simp [inT]; omega)
            have b1 : decide ((t.length : Int) ≤ x) = false := decide_eq_false hx1
            go_wp2
            go_roundw
            case rel => exact ⟨k + 1, by omega, by go_num, Lib.hid (allB_next HLT.out HK.out (by rw [HX.out]; exact HM.out)), HB⟩
            case measure => simp [intOf]; omega
      · obtain rfl : k = l.length := by omega
        have HA := Lib.hid (allB_done HK.out)
        go_wp2
        go_ret
        exact ⟨ret_int (by rw [HKN.out, HA.out]; rfl), HB.out⟩
  · have HKN := Lib.hid (show knownE t l = E by unfold knownE; rw [HE.out, if_neg h0])
    have e1 : (E != 0) = true := bne_iff_ne.2 h0
    clear h0
    go_enter Try.func124, Try.ntmps124
    go_wp2_with fail
    refine (refTable_any HL.out HN.out HS.out).mono ?_
    rw [HE.out]
    rintro e w2 ⟨rfl, hb2⟩
    have HB2 := Lib.hid hb2
    clear hb2
    go_wp2_with fail
    refine (refTable_any (HL.out.later HB2.out) HN.out HS.out).mono ?_
    rw [HE.out]
    rintro e w3 ⟨rfl, hb3⟩
    go_wp2
    go_ret
    exact ⟨ret_int HKN.out.symm, stepB HB2.out hb3⟩

def greatB (t : List CardL) (l : List Int) : Bool := decide (70 < t.length) || (decide (60 < l.length) || !(t.all fun c => decide (c.terms.length ≤ 10)))
set_option maxRecDepth 100000 in
set_option maxHeartbeats 4000000 in
theorem great_any {v : Value} {t : List CardL} (ya : Option Addr) (n yc : Nat) {l : List Int} {w : World} (h : CardsAt w v t) (hnl : n = l.length) (hn : t.length ≤ 9223372036854775807) (hl : l.length ≤ 9223372036854775807) :
    Calls Try.prog 56 #[v, .slice ya n yc] w (fun e w' => e = .returned (.bool (greatB t l)) ∧ Below w.heap.size w w') := by
  subst hnl
  obtain ⟨xa, xc, rfl⟩ := h.form
  have HL := Lib.hid h
  clear h
  by_cases h70 : 70 < t.length
  · have HE := Lib.hid (show greatB t l = true by simp [greatB, h70])
    have e1 : decide ((70 : Int) < t.length) = true := decide_eq_true (by omega)
    clear h70
    go_enter Try.func56, Try.ntmps56
    go_wp2
    go_ret
    exact ⟨ret_bool HE.out.symm, Below.refl _ _⟩
  have e1 : decide ((70 : Int) < t.length) = false := decide_eq_false (by omega)
  by_cases h60 : 60 < l.length
  · have HE := Lib.hid (show greatB t l = true by simp [greatB, h60])
    have e2 : decide ((60 : Int) < l.length) = true := decide_eq_true (by omega)
    clear h60 h70
    go_enter Try.func56, Try.ntmps56
    go_wp2
    go_ret
    exact ⟨ret_bool HE.out.symm, Below.refl _ _⟩
  have e2 : decide ((60 : Int) < l.length) = false := decide_eq_false (by omega)
  have HE := Lib.hid (show greatB t l = !(t.all fun c => decide (c.terms.length ≤ 10)) by simp [greatB, h70, h60])
  go_enter Try.func56, Try.ntmps56
  go_wp2
  go_loopw [17] (fun i wr => ∃ k : Nat, k ≤ t.length ∧ i = .int .i64 k ∧ Hid ((t.take k).all (fun c => decide (c.terms.length ≤ 10)) = true) ∧ Hid (Below w.heap.size w wr)) (fun i _ => t.length - (intOf i).toNat)
  case atStart => exact ⟨0, Nat.zero_le _, rfl, Lib.hid (by simp), Lib.hid (Below.refl _ _)⟩
  case round =>
    obtain ⟨k, hk, rfl, HK, HB⟩ := hrel
    by_cases hlt : k < t.length
    · obtain ⟨b, off, rfl, hcell⟩ := (HL.out.later HB.out).at k hlt
      obtain ⟨c, hcc⟩ : ∃ c, t[k] = c := ⟨_, rfl⟩
      rw [hcc] at hcell
      have HCC := Lib.hid hcc
      obtain ⟨za, zc, c0, c1, c2, c3, c4, c5, c6, ht⟩ := hcell
      have HLT := Lib.hid hlt
      have d0 : (0 : Int) ≤ k := by omega
      have d1 : (k : Int) < t.length := by omega
      clear ht hcc
      by_cases h10 : c.terms.length ≤ 10
      · have HM := Lib.hid (show decide (c.terms.length ≤ 10) = true from decide_eq_true h10)
        have b1 : decide ((10 : Int) < c.terms.length) = false := decide_eq_false (by omega)
        have HB2 := Lib.hid (below_alloc2 HB.out (.cells #[.int .i64 c.kind, .int .i64 c.cost, .int .i64 c.power, .int .i64 c.tough, .int .i64 c.keys, .int .i64 c.whn, .slice za c.terms.length zc] 65))
        go_wp2
        go_roundw
        case rel => exact ⟨k + 1, by omega, by go_num, Lib.hid (allB_next HLT.out HK.out (by rw [HCC.out]; exact HM.out)), HB2⟩
        case measure => simp [intOf]; omega
      · have HM := Lib.hid (show decide (c.terms.length ≤ 10) = false from decide_eq_false h10)
        have b1 : decide ((10 : Int) < c.terms.length) = true := decide_eq_true (by omega)
        have HB2 := Lib.hid (below_alloc2 HB.out (.cells #[.int .i64 c.kind, .int .i64 c.cost, .int .i64 c.power, .int .i64 c.tough, .int .i64 c.keys, .int .i64 c.whn, .slice za c.terms.length zc] 65))
        go_wp2
        go_ret
        exact ⟨ret_bool (by rw [HE.out, allB_not HLT.out (by rw [HCC.out]; exact HM.out)]; rfl), HB2.out⟩
    · obtain rfl : k = t.length := by omega
      have HA := Lib.hid (allB_done HK.out)
      go_wp2
      go_ret
      exact ⟨ret_bool (by rw [HE.out, HA.out]; rfl), HB.out⟩
end Go.Proofs.Ytcbjekdbkhibbaa

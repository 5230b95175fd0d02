/- Lists of cards in memory; the contract of deck.Table (layer 3). -/
import Derived.Test.YtkhgdfalbmkgcaaCc
namespace Go.Proofs.Ytkhgdfalbmkgcaa.Crd
open Go.RowKit

/-- A card's cells at a place. -/
def CardCells (w : World) (b o : Nat) (c : CardL) : Prop :=
  ∃ ya yc, w.cell? ⟨b, o, none⟩ = some (.int .i64 c.kind) ∧ w.cell? ⟨b, o + 1, none⟩ = some (.int .i64 c.cost) ∧ w.cell? ⟨b, o + 2, none⟩ = some (.int .i64 c.power) ∧ w.cell? ⟨b, o + 3, none⟩ = some (.int .i64 c.tough) ∧
    w.cell? ⟨b, o + 4, none⟩ = some (.int .i64 c.keys) ∧ w.cell? ⟨b, o + 5, none⟩ = some (.int .i64 c.whn) ∧ w.cell? ⟨b, o + 6, none⟩ = some (.slice ya c.terms.length yc) ∧ TermsIs w (.slice ya c.terms.length yc) c.terms
theorem CardCells.later {w w' : World} {b o : Nat} {c : CardL} (h : CardCells w b o c) (hb : Below w.heap.size w w') : CardCells w' b o c := by
  obtain ⟨ya, yc, c0, c1, c2, c3, c4, c5, c6, ht⟩ := h
  exact ⟨ya, yc, cell_stays hb c0, cell_stays hb c1, cell_stays hb c2, cell_stays hb c3, cell_stays hb c4, cell_stays hb c5, cell_stays hb c6, ht.later hb⟩
/-- A list of cards in memory, or no list; what it holds. -/
def CardsAt (w : World) (v : Value) (l : List CardL) : Prop :=
  (∃ xa cap, v = .slice xa 0 cap ∧ l = []) ∨ ∃ b off cap, v = .slice (some ⟨b, off, none⟩) l.length cap ∧ b < w.heap.size ∧ ∀ i (h : i < l.length), CardCells w b (off + i * 7) l[i]
theorem CardsAt.later {w w' : World} {v : Value} {l : List CardL} (h : CardsAt w v l) (hb : Below w.heap.size w w') : CardsAt w' v l := by
  rcases h with h | ⟨b, off, cap, rfl, hlt, hc⟩
  · exact .inl h
  · exact .inr ⟨b, off, cap, rfl, Nat.lt_of_lt_of_le hlt hb.size, fun i hi => (hc i hi).later hb⟩
theorem CardsAt.form {w : World} {v : Value} {l : List CardL} (h : CardsAt w v l) : ∃ xa xc, v = .slice xa l.length xc := by
  rcases h with ⟨xa, cap, rfl, rfl⟩ | ⟨b, off, cap, rfl, _⟩
  · exact ⟨xa, cap, rfl⟩
  · exact ⟨_, cap, rfl⟩
theorem CardsAt.at {w : World} {xa : Option Addr} {xc : Nat} {l : List CardL} (h : CardsAt w (.slice xa l.length xc) l) (k : Nat) (hk : k < l.length) : ∃ b off, xa = some ⟨b, off, none⟩ ∧ CardCells w b (off + k * 7) l[k] := by
  rcases h with ⟨_, _, _, h2⟩ | ⟨b, off, cap, h1, _, hc⟩
  · subst h2; simp at hk
  · injection h1 with h1 _ _; exact ⟨b, off, h1, hc k hk⟩
def tableE (l : List CardL) : Int := if 60 < l.length then 5 else if l.all mayB then 0 else 8
/-- No list of terms is longer than an int tells. -/
def SmallC (l : List CardL) : Prop := ∀ c ∈ l, c.terms.length ≤ 9223372036854775807
theorem SmallC.at {l : List CardL} (h : SmallC l) (k : Nat) (hk : k < l.length) : l[k].terms.length ≤ 9223372036854775807 := h _ (List.getElem_mem hk)
theorem allB_next {α : Type} {p : α → Bool} {l : List α} {k : Nat} (hk : k < l.length) (h : (l.take k).all p = true) (hp : p l[k] = true) : (l.take (k + 1)).all p = true := by
  rw [take_last l k hk, List.all_append, h]; simp [hp]
theorem allB_not {α : Type} {p : α → Bool} {l : List α} {k : Nat} (hk : k < l.length) (hp : p l[k] = false) : l.all p = false := by
  cases h : l.all p
  · rfl
  · rw [List.all_eq_true] at h
    rw [h _ (List.getElem_mem hk)] at hp; exact absurd hp (by decide)
theorem allB_done {α : Type} {p : α → Bool} {l : List α} (h : (l.take l.length).all p = true) : l.all p = true := by rwa [List.take_length] at h

set_option maxRecDepth 100000 in
set_option maxHeartbeats 4000000 in
theorem table_any {v : Value} {l : List CardL} {w : World} (h : CardsAt w v l) (hn : l.length ≤ 9223372036854775807) (hs : SmallC l) :
    Calls Try.prog 50 #[v] w (fun e w' => e = .returned (.int .i64 (tableE l)) ∧ Below w.heap.size w w') := by
  obtain ⟨xa, xc, rfl⟩ := h.form
  have HL := Lib.hid h
  have HS := Lib.hid hs
  clear h hs
  by_cases h60 : 60 < l.length
  · have HE := Lib.hid (show tableE l = 5 by unfold tableE; rw [if_pos h60])
    have e1 : decide ((60 : Int) < l.length) = true := decide_eq_true (by omega)
    clear h60
    go_enter Try.func50, Try.ntmps50
    go_wp2
    go_ret
    exact ⟨ret_int HE.out.symm, Below.refl _ _⟩
  · have HE := Lib.hid (show tableE l = if l.all mayB then 0 else 8 by unfold tableE; rw [if_neg h60])
    have e1 : decide ((60 : Int) < l.length) = false := decide_eq_false (by omega)
    go_enter Try.func50, Try.ntmps50
    go_wp2
    go_loopw [10] (fun i wr => ∃ k : Nat, k ≤ l.length ∧ i = .int .i64 k ∧ Hid ((l.take k).all mayB = true) ∧ Hid (Below w.heap.size w wr)) (fun i _ => l.length - (intOf i).toNat)
    case atStart => exact ⟨0, Nat.zero_le _, rfl, Lib.hid (by simp), Lib.hid (Below.refl _ _)⟩
    case round =>
      obtain ⟨k, hk, rfl, HK, HB⟩ := hrel
      by_cases hlt : k < l.length
      · obtain ⟨b, off, rfl, hcell⟩ := (HL.out.later HB.out).at k hlt
        have hsl := HS.out.at k hlt
        obtain ⟨c, hcc⟩ : ∃ c, l[k] = c := ⟨_, rfl⟩
        rw [hcc] at hcell hsl
        have HCC := Lib.hid hcc
        obtain ⟨ya, yc, c0, c1, c2, c3, c4, c5, c6, ht⟩ := hcell
        have HT := Lib.hid ht
        have HLN := Lib.hid hsl
        have HLT := Lib.hid hlt
        have d0 : (0 : Int) ≤ k := by omega
        have d1 : (k : Int) < l.length := by omega
        clear ht hsl hcc
        obtain ⟨mm, hmm⟩ : ∃ mm, mayB c = mm := ⟨_, rfl⟩
        have HM := Lib.hid hmm
        clear hmm
        go_wp2_with fail
        refine (check_any ⟨ya, _, yc, rfl, HT.out.later (below_new _ _)⟩ HLN.out).mono ?_
        rw [HM.out]
        rintro e w2 ⟨rfl, hb2⟩
        have HB2 := Lib.hid (HB.out.trans ((below_new wr _).mono HB.out.size |>.trans (hb2.mono (by have := HB.out.size; simp; omega))))
        clear hb2 c0 c1 c2 c3 c4 c5 c6
        cases mm
        · go_wp2
          go_ret
          exact ⟨ret_int (by rw [HE.out, allB_not HLT.out (by rw [HCC.out]; exact HM.out)]; rfl), HB2.out⟩
        · go_wp2
          go_roundw
          case rel => exact ⟨k + 1, by omega, by go_num, Lib.hid (allB_next HLT.out HK.out (by rw [HCC.out]; exact HM.out)), HB2⟩
          case measure => simp [intOf]; omega
      · obtain rfl : k = l.length := by omega
        have HA := Lib.hid (allB_done HK.out)
        go_wp2
        go_ret
        exact ⟨ret_int (by rw [HE.out, HA.out]; rfl), HB.out⟩
end Go.Proofs.Ytkhgdfalbmkgcaa.Crd

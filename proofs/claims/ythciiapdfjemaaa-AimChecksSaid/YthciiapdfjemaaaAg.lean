/- Plain facts of what may be aimed at (layer 10): what All tells, by the piles and the teams. -/
import Derived.Test.YthciiapdfjemaaaAf
import Derived.Test.YthciiapdfjemaaaTn
namespace Go.Proofs.Ythciiapdfjemaaa
open Go.RowKit Go.Maps

theorem crs_eq {S : StoreL} (hS : WfS S) (hn : 1 ≤ S.seats) : crs S = (S.pl 0 3).filter (fun i => creE S i == 0) := by
  have hon : ∀ i ∈ S.pl 0 3, (objOf S i).id = i ∧ kindB S (objOf S i) = (creE S i == 0) := by
    intro i hi
    obtain ⟨k, hk, e, ho, hz⟩ := hS.onField hn hi
    have hid := (hS.ids k hk).1
    rw [ho]
    refine ⟨by rw [hid, e], ?_⟩
    have hh : hasS S i := by rw [e]; exact ⟨by omega, by omega⟩
    unfold creE
    rw [if_pos hh, ho]
    unfold kindB liveO
    rw [hz]
    cases hkk : (cardS S S.objs[k]).kind == 2 <;> rfl
  unfold crs strL fieldL selO
  have h1 : ((S.pl 0 3).map (objOf S)).filter (ownB []) = (S.pl 0 3).map (objOf S) := by
    rw [List.filter_eq_self]
    intro x _
    rfl
  rw [h1, List.filter_map, List.map_map, List.map_map]
  have h2 : (S.pl 0 3).filter (kindB S ∘ objOf S) = (S.pl 0 3).filter (fun i => creE S i == 0) := List.filter_congr fun i hi => (hon i hi).2
  rw [h2]
  have h3 : ((S.pl 0 3).filter (fun i => creE S i == 0)).map ((Prod.fst ∘ itemO S) ∘ objOf S) = ((S.pl 0 3).filter (fun i => creE S i == 0)).map id := List.map_congr_left fun i hi => (hon i (List.mem_filter.1 hi).1).1
  rw [h3, List.map_id]
theorem chk_bad {T : TeamL} {S : StoreL} {seat on : Int} (h : ofT T seat < 0 ∨ on < 0 ∨ 4 < on) (x : Int) : chkT T S seat on x = 1 := if_pos h
theorem chk_may {T : TeamL} {S : StoreL} {seat on : Int} (h : ¬(ofT T seat < 0 ∨ on < 0 ∨ 4 < on)) (x : Int) : (chkT T S seat on x == 0) = mayT T S seat on x := by
  unfold chkT
  rw [if_neg h]
  cases mayT T S seat on x <;> rfl
theorem aimL_bad {T : TeamL} {S : StoreL} {seat on : Int} (h : ofT T seat < 0 ∨ on < 0 ∨ 4 < on) : aimL T S seat on = [] := by
  unfold aimL
  rw [List.filter_eq_nil_iff]
  intro x _
  rw [chk_bad h]
  decide
theorem aimL_may {T : TeamL} {S : StoreL} {seat on : Int} (h : ¬(ofT T seat < 0 ∨ on < 0 ∨ 4 < on)) : aimL T S seat on = (amongL T S seat on).filter (mayT T S seat on) :=
  List.filter_congr fun x _ => chk_may h x
theorem aimL_0 {T : TeamL} {S : StoreL} {seat : Int} (hv : 0 ≤ ofT T seat) : aimL T S seat 0 = [0] := by
  rw [aimL_may (by omega)]
  unfold amongL
  rw [if_pos rfl]
  have : mayT T S seat 0 0 = true := by
    unfold mayT
    rw [if_neg (by decide), if_neg (by decide), if_neg (by decide), if_neg (by decide)]
    rfl
  simp [this]
theorem mem_upTo {p : Nat → Bool} {k : Nat} {x : Int} : x ∈ upTo p k ↔ ∃ n : Nat, n < k ∧ p n = true ∧ x = (n : Int) := by
  unfold upTo
  simp only [List.mem_map, List.mem_filter, List.mem_range]
  constructor
  · rintro ⟨n, ⟨h1, h2⟩, rfl⟩
    exact ⟨n, h1, h2, rfl⟩
  · rintro ⟨n, h1, h2, rfl⟩
    exact ⟨n, ⟨h1, h2⟩, rfl⟩
theorem upTo_nodup (p : Nat → Bool) (k : Nat) : (upTo p k).Nodup := by
  unfold upTo
  have h : List.Pairwise (· ≠ ·) ((List.range k).filter p) := List.Pairwise.filter p List.nodup_range
  show List.Pairwise (· ≠ ·) _
  rw [List.pairwise_map]
  exact h.imp fun hne e => hne (by omega)
theorem aimL_4 {T : TeamL} {S : StoreL} {seat : Int} (hv : 0 ≤ ofT T seat) : aimL T S seat 4 = foesT T (ofT T seat) := by
  rw [aimL_may (by omega)]
  unfold amongL
  rw [if_neg (by decide), if_pos rfl, List.filter_eq_self]
  intro x hx
  obtain ⟨n, _, h2, rfl⟩ := mem_upTo.1 hx
  unfold mayT
  rw [if_neg (by decide), if_neg (by decide), if_neg (by decide), if_pos rfl]
  exact h2
/-- Which of the Creatures, by the word. -/
def okW (T : TeamL) (S : StoreL) (seat on i : Int) : Bool := on == 1 || (on == 2 && !ownT T S seat i) || (on == 3 && ownT T S seat i)
theorem aimL_live {T : TeamL} {S : StoreL} {seat on : Int} (hv : 0 ≤ ofT T seat) (h1 : 1 ≤ on) (h3 : on ≤ 3) (hS : WfS S) (hn : 1 ≤ S.seats) :
    aimL T S seat on = (S.pl 0 3).filter (fun i => (creE S i == 0) && okW T S seat on i) := by
  rw [aimL_may (by omega)]
  unfold amongL
  rw [if_neg (by omega), if_neg (by omega), crs_eq hS hn, List.filter_filter]
  refine List.filter_congr fun x _ => ?_
  unfold mayT okW
  have hc : on = 1 ∨ on = 2 ∨ on = 3 := by omega
  rcases hc with rfl | rfl | rfl
  · rw [if_pos rfl]
    cases (creE S x == 0) <;> rfl
  · rw [if_neg (by decide), if_pos rfl]
    cases (creE S x == 0) <;> cases ownT T S seat x <;> rfl
  · rw [if_neg (by decide), if_neg (by decide), if_pos rfl]
    cases (creE S x == 0) <;> cases ownT T S seat x <;> rfl
theorem okK_field {S : StoreL} (hn : 1 ≤ S.seats) : okK S.seats 0 3 := ⟨by omega, by decide, by decide, fun _ => rfl⟩
theorem aimL_nodup {T : TeamL} {S : StoreL} (seat on : Int) (hS : WfS S) (hn : 1 ≤ S.seats) : (aimL T S seat on).Nodup := by
  unfold aimL
  refine List.Pairwise.filter _ ?_
  unfold amongL
  by_cases h0 : on = 0
  · rw [if_pos h0]; simp
  · rw [if_neg h0]
    by_cases h4 : on = 4
    · rw [if_pos h4]; exact upTo_nodup _ _
    · rw [if_neg h4, crs_eq hS hn]
      exact List.Pairwise.filter _ (hS.nodup 0 3 (okK_field hn))
theorem aimL_len {T : TeamL} {S : StoreL} (seat on : Int) (hS : WfS S) (hn : 1 ≤ S.seats) (hl : S.objs.length ≤ 1000) (hT : T.sh.length ≤ 4) : (aimL T S seat on).length ≤ 1000 := by
  unfold aimL
  refine Nat.le_trans (List.length_filter_le _ _) ?_
  unfold amongL
  by_cases h0 : on = 0
  · rw [if_pos h0]; simp
  · rw [if_neg h0]
    by_cases h4 : on = 4
    · rw [if_pos h4]
      have := upTo_len (foeB T (ofT T seat)) T.sh.length
      unfold foesT
      omega
    · rw [if_neg h4, crs_eq hS hn]
      exact Nat.le_trans (List.length_filter_le _ _) ((hS.short hl).2 0 3 (okK_field hn))
theorem aim_mates {T : TeamL} {S : StoreL} {a b : Int} (h : ofT T a = ofT T b) (on : Int) : aimL T S a on = aimL T S b on := by
  have hm : ∀ x, matesT T a x = matesT T b x := fun x => by unfold matesT; rw [h]
  have hc : ∀ x, chkT T S a on x = chkT T S b on x := fun x => by unfold chkT mayT ownT; rw [h, hm]
  unfold aimL amongL
  rw [h]
  exact List.filter_congr fun x _ => by rw [hc]
/-- Between two teams Foe and Own change places. -/
theorem aim_turned {T : TeamL} {S : StoreL} {a b : Int} (hS : WfS S) (h4 : S.seats = 4) (h2 : ∀ x : Int, 0 ≤ x → x < 4 → ofT T x = 0 ∨ ofT T x = 1) (ha : 0 ≤ a ∧ a < 4) (hb : 0 ≤ b ∧ b < 4) (hne : ofT T a ≠ ofT T b) :
    aimL T S a 0 = aimL T S b 0 ∧ aimL T S a 1 = aimL T S b 1 ∧ aimL T S a 2 = aimL T S b 3 ∧ aimL T S a 3 = aimL T S b 2 := by
  have va : 0 ≤ ofT T a := by have := h2 a ha.1 ha.2; omega
  have vb : 0 ≤ ofT T b := by have := h2 b hb.1 hb.2; omega
  have hn : 1 ≤ S.seats := by omega
  have hown : ∀ i, (creE S i == 0) = true → ownT T S a i = !ownT T S b i := by
    intro i hi
    obtain ⟨k, hk, _, ho, _⟩ := creE_live (of_decide_eq_true hi)
    have hid := hS.ids k hk
    have hx := h2 S.objs[k].owner hid.2.2.2.1 (by have := hid.2.2.2.2.1; omega)
    unfold ownT matesT
    rw [ho, decide_eq_true va, decide_eq_true vb]
    have h3 := h2 a ha.1 ha.2
    have h5 := h2 b hb.1 hb.2
    rcases h3 with h3 | h3 <;> rcases h5 with h5 | h5 <;> rcases hx with hx | hx <;> rw [h3, h5] at hne <;> first | (exact absurd rfl hne) | (rw [h3, h5, hx]; rfl)
  refine ⟨by rw [aimL_0 va, aimL_0 vb], ?_, ?_, ?_⟩
  · rw [aimL_live va (by decide) (by decide) hS hn, aimL_live vb (by decide) (by decide) hS hn]
    exact List.filter_congr fun i _ => by unfold okW; rfl
  · rw [aimL_live va (by decide) (by decide) hS hn, aimL_live vb (by decide) (by decide) hS hn]
    refine List.filter_congr fun i _ => ?_
    cases hc : (creE S i == 0) with
    | false => rfl
    | true =>
      unfold okW
      rw [hown i hc]
      cases ownT T S b i <;> rfl
  · rw [aimL_live va (by decide) (by decide) hS hn, aimL_live vb (by decide) (by decide) hS hn]
    refine List.filter_congr fun i _ => ?_
    cases hc : (creE S i == 0) with
    | false => rfl
    | true =>
      unfold okW
      rw [hown i hc]
      cases ownT T S b i <;> rfl
theorem sides_len (n : Nat) : (sidesT n).sides.length = 4 ∧ 2 ≤ (sidesT n).sh.length ∧ (sidesT n).sh.length ≤ 4 := by
  unfold sidesT
  split
  · decide
  · split <;> decide
theorem sides_of (n : Nat) {x : Int} (h : 0 ≤ x ∧ x < 4) : 0 ≤ ofT (sidesT n) x := by
  have hx : x = 0 ∨ x = 1 ∨ x = 2 ∨ x = 3 := by omega
  unfold sidesT
  split
  · rcases hx with rfl | rfl | rfl | rfl <;> decide
  · split <;> rcases hx with rfl | rfl | rfl | rfl <;> decide
theorem sides_out (n : Nat) {x : Int} (h : x < 0 ∨ 3 < x) : ofT (sidesT n) x = -1 := by
  unfold ofT
  split
  · rename_i h0
    have := (sides_len n).1
    have hk : ¬ x.toNat < (sidesT n).sides.length := by omega
    simp [List.getD, hk]
  · rfl
theorem sides_two {n : Nat} (hn : n % 3 ≠ 2) {x : Int} (h0 : 0 ≤ x) (h4 : x < 4) : ofT (sidesT n) x = 0 ∨ ofT (sidesT n) x = 1 := by
  have hx : x = 0 ∨ x = 1 ∨ x = 2 ∨ x = 3 := by omega
  unfold sidesT
  rw [if_neg hn]
  split
  · rcases hx with rfl | rfl | rfl | rfl <;> decide
  · rcases hx with rfl | rfl | rfl | rfl <;> decide
theorem sides_lost (n : Nat) (k : Int) : lostT (sidesT n) k = !inT (sidesT n) k := by
  unfold lostT
  cases hi : inT (sidesT n) k with
  | false => rfl
  | true =>
    simp only [inT, Bool.and_eq_true, decide_eq_true_eq] at hi
    have hk : k.toNat < (sidesT n).sh.length := by omega
    have hall : ∀ x ∈ (sidesT n).sh, x.lost = false := by
      unfold sidesT newT shOf
      split
      · simp
      · split <;> simp
    have hm := hall _ (List.getElem_mem hk)
    simp [List.getD, hk, hm]
end Go.Proofs.Ythciiapdfjemaaa

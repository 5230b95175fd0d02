/- Which teams are to lose (layer 14): by a seat that is dry, by poison, by life. -/
import Derived.Test.YtdlkdilgjmmlaaaGreatFx
namespace Go.Proofs.YtdlkdilgjmmlaaaGreat
open Go.RowKit Go.Maps
attribute [local go_sem] Oper.semAt_some

def dryFn (q : Nat) : Value := .func (.func 17) #[.pointer (some ⟨q, 0, none⟩)] #[]
def RetIdx (w : World) (z : Bool) (e : Ending) (w' : World) : Prop := ∃ k : Int, e = .returned (.int .i64 k) ∧ decide (0 ≤ k) = z ∧ w' = w
theorem any_take {p : Int → Bool} {L : List Int} {k : Nat} (hk : k < L.length) (h : (L.take k).any p = false) (hp : p L[k] = false) : (L.take (k + 1)).any p = false := by
  rw [List.take_succ_eq_append_getElem hk, List.any_append, h]
  simp [hp]
set_option maxHeartbeats 1000000 in
theorem indexDry_any {w : World} {lo : Nat} {g : GhostB} {B : BoardL} (h : BoardAt w lo g B) {v : Value} {L : List Int} (hv : IntsAt w v L) (hl : L.length ≤ 1000) :
    Calls Tryz.prog 122 #[v, dryFn g.q] w (RetIdx w (L.any (dryT B))) := by
  obtain ⟨ya, yc, rfl⟩ := hv.form
  have HU := Lib.hid hv
  have HD := Lib.hid (fun k => dry_any h k)
  obtain ⟨q, hq⟩ : ∃ q, g.q = q := ⟨_, rfl⟩
  obtain ⟨p, hp⟩ : ∃ p, dryT B = p := ⟨_, rfl⟩
  rw [hq] at HD ⊢
  rw [hp] at HD ⊢
  clear hv h hq hp
  unfold dryFn
  go_enter Tryz.func122, Tryz.ntmps122
  go_wp2
  go_loop [8] (fun i => ∃ k : Nat, k ≤ L.length ∧ i = .int .i64 k ∧ Hid ((L.take k).any p = false)) (fun i => L.length - (intOf i).toNat)
  case atStart => exact ⟨0, Nat.zero_le _, rfl, Lib.hid (by simp)⟩
  case round =>
    obtain ⟨k, hk, rfl, HX⟩ := hrel
    by_cases hlt : k < L.length
    · obtain ⟨r, off, rfl, _, c0⟩ := HU.out.at k hlt
      have HN := Lib.hid (fun e => any_take hlt HX.out e)
      have HM := Lib.hid (fun (e : p L[k] = true) => List.any_eq_true.2 ⟨L[k], List.getElem_mem hlt, e⟩)
      obtain ⟨y, hy⟩ : ∃ y, L[k] = y := ⟨_, rfl⟩
      rw [hy] at c0 HN HM
      have HC := Lib.hid (HD.out y)
      clear hy
      cases hd : p y with
      | true =>
        rw [hd] at HC HM
        have HZ := Lib.hid (show decide ((0 : Int) ≤ (k : Int)) = L.any p from by rw [HM.out rfl]; exact decide_eq_true (by omega))
        clear hd HN HM
        go_wp2_with fail
        refine HC.out.mono ?_
        rintro e w1 ⟨rfl, rfl⟩
        go_wp2
        go_ret
        exact ⟨k, rfl, HZ.out, rfl⟩
      | false =>
        rw [hd] at HC
        have HN2 := Lib.hid (HN.out hd)
        clear hd HN HM
        go_wp2_with fail
        refine HC.out.mono ?_
        rintro e w1 ⟨rfl, rfl⟩
        go_wp2
        go_round
        case rel => exact ⟨k + 1, by omega, by go_num, HN2⟩
        case measure => simp [intOf]; omega
    · obtain rfl : k = L.length := by omega
      have HZ := Lib.hid (show decide ((0 : Int) ≤ -1) = L.any p from by have := HX.out; rw [List.take_length] at this; rw [this]; rfl)
      go_wp2
      go_ret
      exact ⟨-1, rfl, HZ.out, rfl⟩
theorem containsDry_any {w : World} {lo : Nat} {g : GhostB} {B : BoardL} (h : BoardAt w lo g B) {v : Value} {L : List Int} (hv : IntsAt w v L) (hl : L.length ≤ 1000) :
    Calls Tryz.prog 87 #[v, dryFn g.q] w (Same w (.bool (L.any (dryT B)))) := by
  have HI := Lib.hid (indexDry_any h hv hl)
  clear h hv
  go_enter Tryz.func87, Tryz.ntmps87
  go_wp2_with fail
  refine HI.out.mono ?_
  rintro e w1 ⟨k, rfl, hz, rfl⟩
  have HZ := Lib.hid hz
  clear hz
  go_wp2
  go_ret
  exact ⟨by rw [← HZ.out]; rfl, rfl⟩
def parchT (B : BoardL) (t : Int) : Bool := (seatsT B.T t).any (dryT B)
theorem seatsT_len {w : World} {lo b s r : Nat} {T : TeamL} (h : TeamAt w lo b s r T) (t : Int) : (seatsT T t).length ≤ 4 := Nat.le_trans (upTo_len _ _) h.n1.2
theorem parched_any {w : World} {lo : Nat} {g : GhostB} {B : BoardL} (h : BoardAt w lo g B) (t : Int) :
    Calls Tryz.prog 48 #[.pointer (some ⟨g.q, 0, none⟩), .int .i64 t] w (RetV w (.bool (parchT B t))) := by
  have hmf := @mk_func
  obtain ⟨-, c1, -⟩ := h.cells
  have HI := Lib.hid (tin_any h.tm t)
  have HL := Lib.hid (seatsT_len h.tm t)
  have HC := Lib.hid (fun (w' : World) (hb : Below w.heap.size w w') (v : Value) (L : List Int) => @containsDry_any w' lo g B (h.later hb) v L)
  unfold parchT
  obtain ⟨L, hL⟩ : ∃ L, seatsT B.T t = L := ⟨_, rfl⟩
  rw [hL] at HI HL ⊢
  unfold dryFn at HC
  clear h hL
  go_enter Tryz.func48, Tryz.ntmps48
  go_wp2_with fail
  refine HI.out.mono ?_
  rintro e w1 ⟨v, rfl, ho, hb⟩
  have HO := Lib.hid ho
  have HB := Lib.hid hb
  clear ho hb
  dsimp only
  go_wp2_with fail
  refine (HC.out w1 HB.out v L (own_ints HO.out) (by have := HL.out; omega)).mono ?_
  rintro e w2 ⟨rfl, rfl⟩
  go_wp2
  go_ret
  exact ⟨rfl, HB.out⟩
def doomT (B : BoardL) (t : Int) : Bool := !lostT B.T t && (decide (lifeT B.T t ≤ 0) || (decide (10 ≤ poisonT B.T t) || parchT B t))
theorem doomed_nil (t : Int) (w : World) : Calls Tryz.prog 19 #[.pointer none, .int .i64 t] w (Same w (.bool false)) := by
  go_enter Tryz.func19, Tryz.ntmps19
  go_wp2
  go_ret
  exact ⟨rfl, rfl⟩
set_option maxHeartbeats 1000000 in
theorem doomed_any {w : World} {lo : Nat} {g : GhostB} {B : BoardL} (h : BoardAt w lo g B) (t : Int) :
    Calls Tryz.prog 19 #[.pointer (some ⟨g.q, 0, none⟩), .int .i64 t] w (RetV w (.bool (doomT B t))) := by
  obtain ⟨-, c1, -⟩ := h.cells
  have HLO := Lib.hid (tlost_any h.tm t)
  have HLI := Lib.hid (tlife_any h.tm t)
  have HPO := Lib.hid (tpoison_any h.tm t)
  have HPA := Lib.hid (parched_any h t)
  unfold doomT
  obtain ⟨li, hli⟩ : ∃ x, lifeT B.T t = x := ⟨_, rfl⟩
  obtain ⟨po, hpo⟩ : ∃ x, poisonT B.T t = x := ⟨_, rfl⟩
  obtain ⟨pa, hpa⟩ : ∃ x, parchT B t = x := ⟨_, rfl⟩
  rw [hli] at HLI ⊢
  rw [hpo] at HPO ⊢
  rw [hpa] at HPA ⊢
  clear h hli hpo hpa
  cases hlo : lostT B.T t with
  | true =>
    rw [hlo] at HLO
    clear hlo HLI HPO HPA
    go_enter Tryz.func19, Tryz.ntmps19
    go_wp2_with fail
    refine HLO.out.mono ?_
    rintro e w1 ⟨rfl, rfl⟩
    go_wp2
    go_ret
    exact ⟨rfl, Below.refl _ _⟩
  | false =>
    rw [hlo] at HLO
    clear hlo
    rw [Bool.not_false, Bool.true_and]
    by_cases h1 : li ≤ 0
    · have d1 : decide (li ≤ 0) = true := decide_eq_true h1
      rw [d1, Bool.true_or]
      clear HPO HPA
      go_enter Tryz.func19, Tryz.ntmps19
      go_wp2_with fail
      refine HLO.out.mono ?_
      rintro e w1 ⟨rfl, rfl⟩
      go_wp2_with fail
      refine HLI.out.mono ?_
      rintro e w1 ⟨rfl, rfl⟩
      go_wp2
      go_ret
      exact ⟨rfl, Below.refl _ _⟩
    · have d1 : decide (li ≤ 0) = false := decide_eq_false h1
      rw [d1, Bool.false_or]
      by_cases h2 : 10 ≤ po
      · have d2 : decide (10 ≤ po) = true := decide_eq_true h2
        rw [d2, Bool.true_or]
        clear HPA
        go_enter Tryz.func19, Tryz.ntmps19
        go_wp2_with fail
        refine HLO.out.mono ?_
        rintro e w1 ⟨rfl, rfl⟩
        go_wp2_with fail
        refine HLI.out.mono ?_
        rintro e w1 ⟨rfl, rfl⟩
        go_wp2_with fail
        refine HPO.out.mono ?_
        rintro e w1 ⟨rfl, rfl⟩
        go_wp2
        go_ret
        exact ⟨rfl, Below.refl _ _⟩
      · have d2 : decide (10 ≤ po) = false := decide_eq_false h2
        rw [d2, Bool.false_or]
        go_enter Tryz.func19, Tryz.ntmps19
        go_wp2_with fail
        refine HLO.out.mono ?_
        rintro e w1 ⟨rfl, rfl⟩
        go_wp2_with fail
        refine HLI.out.mono ?_
        rintro e w1 ⟨rfl, rfl⟩
        go_wp2_with fail
        refine HPO.out.mono ?_
        rintro e w1 ⟨rfl, rfl⟩
        go_wp2_with fail
        refine HPA.out.mono ?_
        rintro e w1 ⟨rfl, hb⟩
        have HB := Lib.hid hb
        clear hb
        go_wp2
        go_ret
        exact ⟨rfl, HB.out⟩
end Go.Proofs.YtdlkdilgjmmlaaaGreat

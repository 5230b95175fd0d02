/- Whether a seat of some hasn't passed: the library's IndexFunc and ContainsFunc at waits; how many teams are left (layer 16). -/
import Derived.Test.YtciieodmihgpgaaPb
namespace Go.Proofs.Ytciieodmihgpgaa
open Go.RowKit
attribute [local go_sem] Oper.semAt_some

def waitsF (t : Nat) : Value := .func (.func 23) #[.pointer (some ⟨t, 0, none⟩)] #[]
def anyW (p : Four) (L : List Int) : Bool := L.any fun x => !p.get x
set_option maxRecDepth 100000 in
set_option maxHeartbeats 4000000 in
theorem indexF_any {w : World} {t : Nat} {P : PriL} {v : Value} {L : List Int} (hp : PriAt w t P) (hv : IntsAt w v L) (hL : L.length ≤ 1000) (hr : ∀ x ∈ L, 0 ≤ x ∧ x < 4) :
    Calls Try.prog 29 #[v, waitsF t] w (fun e w' => ∃ i : Int, e = .returned (.int .i64 i) ∧ w' = w ∧ decide (0 ≤ i) = anyW P.p L) := by
  unfold waitsF
  have HV := Lib.hid hv
  have HW := Lib.hid (fun (k : Nat) (hk : k < L.length) => waits_any hp (hr L[k] (List.getElem_mem hk)).1 (hr L[k] (List.getElem_mem hk)).2)
  obtain ⟨va, vc, rfl⟩ := hv.form
  clear hp hv hr
  go_enter Try.func29, Try.ntmps29
  go_wp2
  go_loopw [8] (fun i wr => ∃ k : Nat, k ≤ L.length ∧ i = .int .i64 k ∧ wr = w ∧ Hid (∀ j (hj : j < L.length), j < k → P.p.get L[j] = true)) (fun i _ => L.length - (intOf i).toNat)
  case atStart => exact ⟨0, Nat.zero_le _, rfl, rfl, Lib.hid fun j _ hj => absurd hj (by omega)⟩
  case round =>
    obtain ⟨k, hk, rfl, rfl, HJ⟩ := hrel
    by_cases hlt : k < L.length
    · have d0 : decide ((k : Int) < L.length) = true := decide_eq_true (by omega)
      have d1 : (k : Int) < L.length := by omega
      have d2 : (0 : Int) ≤ k := by omega
      have HWK := Lib.hid (HW.out k hlt)
      obtain ⟨b0, off, rfl, _, x0⟩ := HV.out.at k hlt
      have HX := Lib.hid (show ∀ z : Bool, (!P.p.get L[k]) = z → z = true → anyW P.p L = true from fun z e1 e2 => by
        rw [anyW, List.any_eq_true]
        exact ⟨L[k], List.getElem_mem hlt, by rw [e1, e2]⟩)
      have HY := Lib.hid (show (!P.p.get L[k]) = false → ∀ j (hj : j < L.length), j < k + 1 → P.p.get L[j] = true from fun e1 j hj hjk => by
        rcases Nat.lt_succ_iff_lt_or_eq.1 hjk with h | h
        · exact HJ.out j hj h
        · subst h
          simpa using e1)
      obtain ⟨z, hz⟩ : ∃ z, (!P.p.get L[k]) = z := ⟨_, rfl⟩
      rw [hz] at HWK HY
      have HX := Lib.hid (HX.out z hz)
      obtain ⟨x, hx⟩ : ∃ x, L[k] = x := ⟨_, rfl⟩
      rw [hx] at x0 HWK
      clear hz hx HV
      cases z
      all_goals
        go_wp2_with fail
        refine HWK.out.mono ?_
        rintro e w2 ⟨rfl, rfl⟩
        dsimp only
        go_wp2
      · go_roundw
        case rel => exact ⟨k + 1, by omega, by go_num, trivial, Lib.hid (HY.out trivial)⟩
        case measure => simp [intOf]; omega
      · go_ret
        exact ⟨k, rfl, rfl, by rw [HX.out trivial]; exact decide_eq_true (by omega)⟩
    · obtain rfl : k = L.length := by omega
      go_wp2
      go_ret
      refine ⟨-1, rfl, rfl, ?_⟩
      rw [show anyW P.p L = false from by
        rw [anyW, List.any_eq_false]
        intro x hx
        obtain ⟨j, hj, rfl⟩ := List.getElem_of_mem hx
        simp [HJ.out j hj hj]]
      rfl
theorem containsF_any {w : World} {t : Nat} {P : PriL} {v : Value} {L : List Int} (hp : PriAt w t P) (hv : IntsAt w v L) (hL : L.length ≤ 1000) (hr : ∀ x ∈ L, 0 ≤ x ∧ x < 4) :
    Calls Try.prog 22 #[v, waitsF t] w (Same w (.bool (anyW P.p L))) := by
  have HI := Lib.hid (indexF_any hp hv hL hr)
  obtain ⟨z, hz⟩ : ∃ z, anyW P.p L = z := ⟨_, rfl⟩
  rw [hz] at HI ⊢
  clear hz hp hv hr
  obtain ⟨f, hf⟩ : ∃ f, waitsF t = f := ⟨_, rfl⟩
  rw [hf] at HI ⊢
  clear hf
  go_enter Try.func22, Try.ntmps22
  go_wp2_with fail
  refine HI.out.mono ?_
  rintro e w2 ⟨i, rfl, rfl, hi⟩
  dsimp only
  go_wp2
  go_ret
  exact ⟨rfl, rfl⟩
end Go.Proofs.Ytciieodmihgpgaa

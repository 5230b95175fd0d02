/- The contract of deck.Count at numbers (layer 3): a map of how often each is there. The contract of deck.Most at numbers (layer 3): what is there most often, the first one of several. -/
import Derived.Test.YtcbjekdbkhibbaaOc
import Derived.Maps.OwnOps
import Derived.Maps.OwnSet
import Derived.Maps.Views
import Derived.Carry
namespace Go.Proofs.Ytcbjekdbkhibbaa
open Go.RowKit

/-- A map of the call's own that tells how often each number is in a list. -/
def CntMap (w : World) (b n : Nat) (l : List Int) : Prop :=
  ∃ D : DataW Unit, w.ownsMap Try.prog 3 (plainElem Try.prog 3) b n D ∧ Maps.Tidy D ∧ (∀ x, (Lit.int .i64 x).wf = true → D.atKey (.int .i64 x) (.lit (.int .i64 0)) = .lit (.int .i64 (l.count x))) ∧ (Maps.size D = 0 ↔ l = [])
theorem key_lit (x : Int) : WideAt.IsKeyLit (.int .i64 x) := by first | trivial | simp [WideAt.IsKeyLit] | constructor
theorem has_size {D : DataW Unit} {k : Lit} (h : Maps.Tidy D) (hk : Maps.has D k = true) : Maps.size D ≠ 0 := by
  obtain ⟨es, rfl, _⟩ := h
  intro e
  have : es = [] := List.eq_nil_of_length_eq_zero e
  subst this
  simp [Maps.has] at hk

theorem CntMap.far {w : World} {b n : Nat} {l : List Int} (h : CntMap w b n l) {p : Addr} (hp : p.block ≠ b) (u : Value) : CntMap (w.setCell p u) b n l := by
  obtain ⟨D, ⟨es, clock, hb, rest⟩, r⟩ := h
  exact ⟨D, ⟨es, clock, (Below.heap_setCell w p u b (Ne.symm hp)).trans hb, rest⟩, r⟩
theorem CntMap.later {w w' : World} {b n : Nat} {l : List Int} (h : CntMap w b n l) (hbw : Below w.heap.size w w') : CntMap w' b n l := by
  obtain ⟨D, ⟨es, clock, hb, rest⟩, r⟩ := h
  exact ⟨D, ⟨es, clock, (hbw.block b (Array.getElem?_eq_some_iff.1 hb).1).trans hb, rest⟩, r⟩
theorem cd_int (p : Option Addr) (w : World) :
    CallsD Try.prog 125 #[.pointer p] .returning w fun e u' w' => e = .returned (.tuple #[]) ∧ u' = .returning ∧ w' = w := by
  refine callsD_of_wpS Try.func125 rfl fun c₀ cs hu => ?_
  apply wpS_seq
  apply wpS_region
  simp [wpOpsS, go_sem, recoverD, hu, Try.ntmps125, Exit.thenS]
  refine wpS_cond (t := false) (by simp [Act.eval, Array.replicate]) ?_
  simp only [Bool.false_eq_true, if_false]
  refine wpS_of_wp (wp_skip ?_)
  cases c₀
  simp_all [bodyPostS, results, Try.results125]

def RetMap (w : World) (l : List Int) (e : Ending) (w' : World) : Prop := ∃ b, e = .returned (.map (some b)) ∧ CntMap w' b l.length l ∧ Below w.heap.size w w'
set_option maxRecDepth 100000 in
set_option maxHeartbeats 2000000 in
theorem count_int {u : Value} {l : List Int} {w : World} (hu : IntsAt w u l) (hl : l.length ≤ 1000) (hwf : WfI l) :
    Calls Try.prog 64 #[u] w (RetMap w l) := by
  obtain ⟨ya, yc, rfl⟩ := hu.form
  have HU := Lib.hid hu
  have HWF := Lib.hid hwf
  have hmf := @mk_func
  have hmm := @run_makeMap Try.prog
  clear hu hwf
  go_enter_defers Try.func64, Try.ntmps64
  go_wp2
  go_loopw [9] (fun i wr => ∃ k : Nat, k ≤ l.length ∧ i = .int .i64 k ∧ Hid (wr.cell? ⟨w.heap.size, 0, none⟩ = some (.map (some (w.heap.size + 1))) ∧ wr.frozen? ⟨w.heap.size, 0, none⟩ = false ∧ CntMap wr (w.heap.size + 1) k (l.take k) ∧ Below w.heap.size w wr)) (fun i _ => l.length - (intOf i).toNat)
  case atStart =>
    refine ⟨0, Nat.zero_le _, rfl, Lib.hid ⟨by simp [go_sem], by simp [go_sem], ⟨.map [], ?_, Maps.tidy_empty, fun x _ => rfl, by simp [Maps.size]⟩, ((Below.refl _ _).alloc (Nat.le_refl _) _).alloc (by simp) _⟩⟩
    have := World.ownsMap_made (w.alloc (.cells #[.map (some (w.heap.size + 1))] 104)) Try.prog 3 (plainElem (H := Unit) Try.prog 3)
    simpa using this
  case round =>
    obtain ⟨k, hk, rfl, HK⟩ := hrel
    by_cases hlt : k < l.length
    · obtain ⟨b, off, rfl, c0⟩ := (HU.out.later HK.out.2.2.2).at k hlt
      have htk := take_last l k hlt
      have hwx := HWF.out l[k] (List.getElem_mem hlt)
      obtain ⟨x, hx⟩ : ∃ x, l[k] = x := ⟨_, rfl⟩
      rw [hx] at c0 htk hwx
      have HTK := Lib.hid htk
      have HLT := Lib.hid hlt
      clear hx htk
      obtain ⟨hc, hf, ⟨D, hown, htd, hat0, hsz⟩, hbw⟩ := HK.out
      have hcnt := hat0 x hwx
      have hcl : (l.take k).count x ≤ k := Nat.le_trans List.count_le_length (List.length_take_le _ _)
      obtain ⟨cn, hcn⟩ : ∃ cn, (l.take k).count x = cn := ⟨_, rfl⟩
      rw [hcn] at hcnt hcl
      have HCN := Lib.hid hcn
      have hkey := Maps.keyOf_int_mk Try.underlying3 hwx
      have HCT := Lib.hid hcnt
      have HTD := Lib.hid htd
      have HAT := Lib.hid hat0
      have HBW := Lib.hid hbw
      have d0 : (0 : Int) ≤ k := by omega
      have d1 : (k : Int) < l.length := by omega
      clear hcn hcnt htd hat0 hsz hbw
      go_wp2_with (at_lookup; refine wpList_lookup_own_int _ rfl _ _ 104 rfl 3 3 .i64 (Maps.int_keyed Try.underlying3) Try.underlying104 Try.underlying3 (Try.zeroValue3 _) (w.heap.size + 1) k D rfl hown _ _ rfl hkey ?_)
      intro c hat hwc
      obtain rfl : c = cn := by
        have h := hat.symm.trans HCT.out
        injection h with h
        injection h
      clear hat hwc
      go_wp2_with (at_mapUpdate; refine wpList_mapUpdate_own _ rfl _ _ _ 104 rfl 3 3 (Maps.int_keyed Try.underlying3) Try.underlying104 _ (w.heap.size + 1) k D rfl hown (by unfold maxLen; omega) _ _ _ rfl rfl hkey _ [] (plainElem_int Try.underlying3 ?wf) ?_)
      case wf => simp [Lit.wf, IntKind.min, IntKind.max, IntKind.signed, IntKind.bits]; omega
      intro w1 hown1 hgrow1
      have hb1 : Below (w.heap.size + 1) wr w1 := (Below.refl _ _).grown hgrow1 (by have := hown.lt; omega) (fun j e => by cases e; exact Nat.le_refl _)
      have HB1 := Lib.hid hb1
      have HO1 := Lib.hid hown1
      clear hown hown1 hgrow1 hb1 hkey
      go_wp2
      go_roundw
      case rel =>
        have hlt := HLT.out
        refine ⟨k + 1, by omega, by go_num, Lib.hid ⟨?_, ?_, ⟨_, HO1.out, HTD.out.put (key_lit x) _, fun y hy => ?_, ?_⟩, HBW.out.trans (HB1.out.mono (by omega))⟩⟩
        · rw [HB1.out.cell (p := ⟨w.heap.size, 0, none⟩) (by simp)]; exact HK.out.1
        · rw [HB1.out.frozen (p := ⟨w.heap.size, 0, none⟩) (by simp)]; exact HK.out.2.1
        · rw [HTK.out, List.count_append, List.count_singleton]
          by_cases hxy : y = x
          · subst hxy
            rw [Maps.atKey_put_same HTD.out.isMap (key_lit y), HCN.out]
            simp
          · rw [Maps.atKey_put_other (by intro e; injection e with _ e; exact hxy e), HAT.out y hy]
            simp [Ne.symm hxy]
        · rw [HTK.out, Maps.size_put HTD.out]
          cases hh : Maps.has D (.int .i64 x)
          · simp
          · have := has_size HTD.out hh
            simp [this]
      case measure => have := HLT.out; simp [intOf]; omega
    · obtain rfl : k = l.length := by omega
      obtain ⟨hc, hf, hcm, hbw⟩ := HK.out
      rw [List.take_length] at hcm
      have HCM := Lib.hid hcm
      have HBW := Lib.hid hbw
      clear hcm hbw
      go_wp2
      refine leaves_cons (f := 125) (args := #[.pointer (some ⟨w.heap.size, 0, none⟩)]) (by simp) (by simp [go_sem]) ?_
      refine (cd_int _ _).mono ?_
      rintro e u' w'' ⟨rfl, rfl, rfl⟩
      have HR : Hid (RetMap w l (.returned (.map (some (w.heap.size + 1)))) (wr.setCell ⟨w.heap.size, 0, none⟩ (.map (some (w.heap.size + 1))))) := Lib.hid ⟨_, rfl, HCM.out.far (by simp) _, HBW.out.setCell (by simp) _⟩
      simp [Leaves, settle, results, Try.results64, go_sem, hc]
      exact HR.out
end Go.Proofs.Ytcbjekdbkhibbaa
namespace Go.Proofs.Ytcbjekdbkhibbaa
open Go.RowKit

def mostStep (l : List Int) (a : Int × Nat) (x : Int) : Int × Nat := if a.2 < max (l.count x) 1 then (x, max (l.count x) 1) else a
def mostFrom (l r : List Int) : Int × Nat := r.foldl (mostStep l) (0, 0)
def mostL (l : List Int) : Int × Nat := mostFrom l l
theorem mostFrom_next {l : List Int} {k : Nat} (hk : k < l.length) : mostFrom l (l.take (k + 1)) = mostStep l (mostFrom l (l.take k)) l[k] := by
  unfold mostFrom; rw [take_last l k hk, List.foldl_append]; rfl
theorem mostFrom_le (l : List Int) : ∀ r : List Int, (mostFrom l r).2 ≤ l.length + 1 := by
  have h : ∀ (r : List Int) (a : Int × Nat), a.2 ≤ l.length + 1 → (r.foldl (mostStep l) a).2 ≤ l.length + 1 := by
    intro r
    induction r with
    | nil => intro a ha; exact ha
    | cons x r ih =>
      intro a ha
      refine ih _ ?_
      unfold mostStep
      split
      · have := List.count_le_length (a := x) (l := l); simp only; omega
      · exact ha
  intro r
  exact h r (0, 0) (by simp)

def RetMost (w : World) (l : List Int) (e : Ending) (w' : World) : Prop := e = .returned (.tuple #[.int .i64 (mostL l).1, .int .i64 ((mostL l).2 : Int)]) ∧ Below w.heap.size w w'
set_option maxRecDepth 100000 in
set_option maxHeartbeats 2000000 in
theorem most_int {u : Value} {l : List Int} {w : World} (hu : IntsAt w u l) (hl : l.length ≤ 1000) (hwf : WfI l) :
    Calls Try.prog 67 #[u] w (RetMost w l) := by
  obtain ⟨ya, yc, rfl⟩ := hu.form
  have HU := Lib.hid hu
  have HWF := Lib.hid hwf
  clear hu hwf
  go_enter Try.func67, Try.ntmps67
  go_wp2_with fail
  refine (count_int HU.out hl HWF.out).mono ?_
  rintro e w2 ⟨b, rfl, hcm, hb2⟩
  have HC := Lib.hid hcm
  have HB := Lib.hid hb2
  obtain ⟨D, hown, htd, hat, hsz⟩ := HC.out
  clear hcm hb2 htd hat
  by_cases h0 : l = []
  · have hs : ((Maps.size D : Int) == 0) = true := by rw [hsz.2 h0]; rfl
    have HE := Lib.hid (show mostL l = (0, 0) by rw [h0]; rfl)
    clear h0 hsz
    go_wp2_with (at_len; refine wpList_len_own _ rfl _ _ rfl 3 3 Try.underlying104 _ b l.length D rfl hown ?_)
    go_ret2
    exact ⟨by rw [HE.out]; rfl, HB.out⟩
  · have hs : ((Maps.size D : Int) == 0) = false := by
      have : Maps.size D ≠ 0 := fun e => h0 (hsz.1 e)
      exact beq_eq_false_iff_ne.2 (by omega)
    clear h0 hsz
    go_wp2_with (at_len; refine wpList_len_own _ rfl _ _ rfl 3 3 Try.underlying104 _ b l.length D rfl hown ?_)
    clear hown hs
    go_loopw [18, 4, 5] (fun i p q wr => ∃ k : Nat, k ≤ l.length ∧ i = .int .i64 k ∧ p = .int .i64 (mostFrom l (l.take k)).1 ∧ q = .int .i64 ((mostFrom l (l.take k)).2 : Int) ∧ Hid (Below w.heap.size w wr ∧ CntMap wr b l.length l)) (fun i _ _ _ => l.length - (intOf i).toNat)
    case atStart => exact ⟨0, Nat.zero_le _, rfl, rfl, rfl, Lib.hid ⟨HB.out, HC.out⟩⟩
    case round =>
      obtain ⟨k, hk, rfl, rfl, rfl, HW⟩ := hrel
      by_cases hlt : k < l.length
      · obtain ⟨b2, off, rfl, c0⟩ := (HU.out.later HW.out.1).at k hlt
        have hnx := mostFrom_next hlt
        have hwx := HWF.out l[k] (List.getElem_mem hlt)
        obtain ⟨x, hx⟩ : ∃ x, l[k] = x := ⟨_, rfl⟩
        rw [hx] at c0 hnx hwx
        have HNX := Lib.hid hnx
        have HLT := Lib.hid hlt
        clear hx hnx
        obtain ⟨D2, hown, htd, hat0, hsz⟩ := HW.out.2
        have HCT := Lib.hid (hat0 x hwx)
        have hkey := Maps.keyOf_int_mk Try.underlying3 hwx
        have hcl : l.count x ≤ l.length := List.count_le_length
        have hml := mostFrom_le l (l.take k)
        obtain ⟨mp, hmp⟩ : ∃ mp, mostFrom l (l.take k) = mp := ⟨_, rfl⟩
        rw [hmp] at HNX hml ⊢
        obtain ⟨m1, m2⟩ := mp
        simp only at hml ⊢
        obtain ⟨cn, hcn⟩ : ∃ cn, l.count x = cn := ⟨_, rfl⟩
        have HNX2 := Lib.hid (show mostFrom l (l.take (k + 1)) = if m2 < max cn 1 then (x, max cn 1) else (m1, m2) by rw [HNX.out, ← hcn]; rfl)
        rw [hcn] at HCT hcl
        have d0 : (0 : Int) ≤ k := by omega
        have d1 : (k : Int) < l.length := by omega
        clear hcn hmp htd hat0 hsz HNX
        go_wp2_with (at_lookup; refine wpList_lookup_own_int _ rfl _ _ 104 rfl 3 3 .i64 (Maps.int_keyed Try.underlying3) Try.underlying104 Try.underlying3 (Try.zeroValue3 _) b l.length D2 rfl hown _ _ rfl hkey ?_)
        intro c hat hwc
        obtain rfl : c = cn := by
          have h := hat.symm.trans HCT.out
          injection h with h
          injection h
        clear hat hwc hown hkey
        go_wp2
        · rename_i h
          have hlt := HLT.out
          refine ⟨⟨k + 1, by omega, by go_num, ?_, ?_, HW⟩, by simp [intOf]; omega⟩
          · rw [HNX2.out, if_pos (by omega)]
          · rw [HNX2.out, if_pos (by omega)]; simp only; congr 1; omega
        · rename_i h
          have hlt := HLT.out
          refine ⟨⟨k + 1, by omega, by go_num, ?_, ?_, HW⟩, by simp [intOf]; omega⟩
          · rw [HNX2.out, if_neg (by omega)]
          · rw [HNX2.out, if_neg (by omega)]
      · obtain rfl : k = l.length := by omega
        have HM := Lib.hid (show mostFrom l (l.take l.length) = mostL l by rw [List.take_length]; rfl)
        rw [HM.out]
        obtain ⟨mp, hmp⟩ : ∃ mp, mostL l = mp := ⟨_, rfl⟩
        have HMP := Lib.hid hmp
        rw [hmp]
        clear hmp
        go_wp2
        go_ret2
        exact ⟨by rw [HMP.out]; rfl, HW.out.1⟩
end Go.Proofs.Ytcbjekdbkhibbaa

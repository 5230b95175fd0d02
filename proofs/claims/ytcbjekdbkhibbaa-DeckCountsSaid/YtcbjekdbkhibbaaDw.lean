/- The contracts of deck.Count and deck.Most at texts (layer 3): as those at numbers. -/
import Derived.Test.YtcbjekdbkhibbaaDq
namespace Go.Proofs.Ytcbjekdbkhibbaa
open Go.RowKit

theorem ba_beq (a b : ByteArray) : (a == b) = (a.data == b.data) := by cases a; cases b; rfl
instance : LawfulBEq ByteArray where
  eq_of_beq {a b} h := by
    cases a; cases b
    have h' : (_ : Array UInt8) = _ := eq_of_beq (by rw [ba_beq] at h; exact h)
    exact congrArg ByteArray.mk h'
  rfl {a} := by rw [ba_beq]; exact beq_self_eq_true _
/-- A list of texts in memory, or no list. -/
def StrsAt (w : World) (v : Value) (l : List ByteArray) : Prop :=
  (∃ xa cap, v = .slice xa 0 cap ∧ l = []) ∨ ∃ b off cap, v = .slice (some ⟨b, off, none⟩) l.length cap ∧ b < w.heap.size ∧ ∀ i (h : i < l.length), w.cell? ⟨b, off + i, none⟩ = some (.string l[i])
theorem StrsAt.later {w w' : World} {v : Value} {l : List ByteArray} (h : StrsAt w v l) (hb : Below w.heap.size w w') : StrsAt w' v l := by
  rcases h with h | ⟨b, off, cap, rfl, hlt, hc⟩
  · exact .inl h
  · exact .inr ⟨b, off, cap, rfl, Nat.lt_of_lt_of_le hlt hb.size, fun i hi => cell_stays hb (hc i hi)⟩
theorem StrsAt.form {w : World} {v : Value} {l : List ByteArray} (h : StrsAt w v l) : ∃ xa xc, v = .slice xa l.length xc := by
  rcases h with ⟨xa, cap, rfl, rfl⟩ | ⟨b, off, cap, rfl, _⟩
  · exact ⟨xa, cap, rfl⟩
  · exact ⟨_, cap, rfl⟩
theorem StrsAt.at {w : World} {xa : Option Addr} {xc : Nat} {l : List ByteArray} (h : StrsAt w (.slice xa l.length xc) l) (k : Nat) (hk : k < l.length) : ∃ b off, xa = some ⟨b, off, none⟩ ∧ w.cell? ⟨b, off + k, none⟩ = some (.string l[k]) := by
  rcases h with ⟨_, _, _, h2⟩ | ⟨b, off, cap, h1, _, hc⟩
  · subst h2; simp at hk
  · injection h1 with h1 _ _; exact ⟨b, off, h1, hc k hk⟩
/-- Each text is no longer than the machine lets it be. -/
def WfS (l : List ByteArray) : Prop := ∀ x ∈ l, x.size ≤ maxLen
theorem ba_inj {x y : ByteArray} (h : x.data.toList = y.data.toList) : x = y := by
  cases x; cases y
  simp only [Array.toList_inj] at h
  rw [h]
theorem keyOf_str {P : Program} {k : TypeId} (hk : P.underlying k = some .string) {s : ByteArray} (hs : s.size ≤ maxLen) : keyOf P k (.string s) = some (.string s.data.toList) := by
  simp [keyOf, hk, mapKey, hs]
/-- A map of the call's own that tells how often each number is in a list. -/
def CntMapS (w : World) (b n : Nat) (l : List ByteArray) : Prop :=
  ∃ D : DataW Unit, w.ownsMap Try.prog 9 (plainElem Try.prog 3) b n D ∧ Maps.Tidy D ∧ (∀ x : ByteArray, x.size ≤ maxLen → D.atKey (.string x.data.toList) (.lit (.int .i64 0)) = .lit (.int .i64 (l.count x))) ∧ (Maps.size D = 0 ↔ l = [])
theorem key_litS (x : ByteArray) : WideAt.IsKeyLit (.string x.data.toList) := by first | trivial | simp [WideAt.IsKeyLit] | constructor
theorem has_size1 {D : DataW Unit} {k : Lit} (h : Maps.Tidy D) (hk : Maps.has D k = true) : Maps.size D ≠ 0 := by
  obtain ⟨es, rfl, _⟩ := h
  intro e
  have : es = [] := List.eq_nil_of_length_eq_zero e
  subst this
  simp [Maps.has] at hk

theorem CntMapS.far {w : World} {b n : Nat} {l : List ByteArray} (h : CntMapS w b n l) {p : Addr} (hp : p.block ≠ b) (u : Value) : CntMapS (w.setCell p u) b n l := by
  obtain ⟨D, ⟨es, clock, hb, rest⟩, r⟩ := h
  exact ⟨D, ⟨es, clock, (Below.heap_setCell w p u b (Ne.symm hp)).trans hb, rest⟩, r⟩
theorem CntMapS.later {w w' : World} {b n : Nat} {l : List ByteArray} (h : CntMapS w b n l) (hbw : Below w.heap.size w w') : CntMapS w' b n l := by
  obtain ⟨D, ⟨es, clock, hb, rest⟩, r⟩ := h
  exact ⟨D, ⟨es, clock, (hbw.block b (Array.getElem?_eq_some_iff.1 hb).1).trans hb, rest⟩, r⟩
theorem cd_str (p : Option Addr) (w : World) :
    CallsD Try.prog 126 #[.pointer p] .returning w fun e u' w' => e = .returned (.tuple #[]) ∧ u' = .returning ∧ w' = w := by
  refine callsD_of_wpS Try.func126 rfl fun c₀ cs hu => ?_
  apply wpS_seq
  apply wpS_region
  simp [wpOpsS, go_sem, recoverD, hu, Try.ntmps126, Exit.thenS]
  refine wpS_cond (t := false) (by simp [Act.eval, Array.replicate]) ?_
  simp only [Bool.false_eq_true, if_false]
  refine wpS_of_wp (wp_skip ?_)
  cases c₀
  simp_all [bodyPostS, results, Try.results126]

def RetMapS (w : World) (l : List ByteArray) (e : Ending) (w' : World) : Prop := ∃ b, e = .returned (.map (some b)) ∧ CntMapS w' b l.length l ∧ Below w.heap.size w w'
set_option maxRecDepth 100000 in
set_option maxHeartbeats 2000000 in
theorem count_str {u : Value} {l : List ByteArray} {w : World} (hu : StrsAt w u l) (hl : l.length ≤ 1000) (hwf : WfS l) :
    Calls Try.prog 65 #[u] w (RetMapS w l) := by
  obtain ⟨ya, yc, rfl⟩ := hu.form
  have HU := Lib.hid hu
  have HWF := Lib.hid hwf
  have hmf := @mk_func
  have hmm := @run_makeMap Try.prog
  clear hu hwf
  go_enter_defers Try.func65, Try.ntmps65
  go_wp2
  go_loopw [9] (fun i wr => ∃ k : Nat, k ≤ l.length ∧ i = .int .i64 k ∧ Hid (wr.cell? ⟨w.heap.size, 0, none⟩ = some (.map (some (w.heap.size + 1))) ∧ wr.frozen? ⟨w.heap.size, 0, none⟩ = false ∧ CntMapS wr (w.heap.size + 1) k (l.take k) ∧ Below w.heap.size w wr)) (fun i _ => l.length - (intOf i).toNat)
  case atStart =>
    refine ⟨0, Nat.zero_le _, rfl, Lib.hid ⟨by simp [go_sem], by simp [go_sem], ⟨.map [], ?_, Maps.tidy_empty, fun x _ => rfl, by simp [Maps.size]⟩, ((Below.refl _ _).alloc (Nat.le_refl _) _).alloc (by simp) _⟩⟩
    have := World.ownsMap_made (w.alloc (.cells #[.map (some (w.heap.size + 1))] 106)) Try.prog 9 (plainElem (H := Unit) Try.prog 3)
    simpa using this
  case round =>
    obtain ⟨k, hk, rfl, HK⟩ := hrel
    by_cases hlt : k < l.length
    · obtain ⟨b, off, rfl, c0⟩ := (HU.out.later HK.out.2.2.2).at k hlt
      have htk := take_last l k hlt
      have hwx := HWF.out l[k] (List.getElem_mem hlt)
      obtain ⟨x, hx⟩ : ∃ x, l[k] = x := ⟨_, rfl⟩
      rw [hx] at c0 htk hwx
      have HTK := Lib.hid htk
      have HLT := Lib.hid hlt
      clear hx htk
      obtain ⟨hc, hf, ⟨D, hown, htd, hat0, hsz⟩, hbw⟩ := HK.out
      have hcnt := hat0 x hwx
      have hcl : (l.take k).count x ≤ k := Nat.le_trans List.count_le_length (List.length_take_le _ _)
      obtain ⟨cn, hcn⟩ : ∃ cn, (l.take k).count x = cn := ⟨_, rfl⟩
      rw [hcn] at hcnt hcl
      have HCN := Lib.hid hcn
      have hkey := keyOf_str Try.underlying9 hwx
      have HCT := Lib.hid hcnt
      have HTD := Lib.hid htd
      have HAT := Lib.hid hat0
      have HBW := Lib.hid hbw
      have d0 : (0 : Int) ≤ k := by omega
      have d1 : (k : Int) < l.length := by omega
      clear hcn hcnt htd hat0 hsz hbw
      go_wp2_with (at_lookup; refine wpList_lookup_own_int _ rfl _ _ 106 rfl 9 3 .i64 (Maps.string_keyed Try.underlying9) Try.underlying106 Try.underlying3 (Try.zeroValue3 _) (w.heap.size + 1) k D rfl hown _ _ rfl hkey ?_)
      intro c hat hwc
      obtain rfl : c = cn := by
        have h := hat.symm.trans HCT.out
        injection h with h
        injection h
      clear hat hwc
      go_wp2_with (at_mapUpdate; refine wpList_mapUpdate_own _ rfl _ _ _ 106 rfl 9 3 (Maps.string_keyed Try.underlying9) Try.underlying106 _ (w.heap.size + 1) k D rfl hown (by unfold maxLen; omega) _ _ _ rfl rfl hkey _ [] (plainElem_int Try.underlying3 ?wf) ?_)
      case wf => simp [Lit.wf, IntKind.min, IntKind.max, IntKind.signed, IntKind.bits]; omega
      intro w1 hown1 hgrow1
      have hb1 : Below (w.heap.size + 1) wr w1 := (Below.refl _ _).grown hgrow1 (by have := hown.lt; omega) (fun j e => by cases e; exact Nat.le_refl _)
      have HB1 := Lib.hid hb1
      have HO1 := Lib.hid hown1
      clear hown hown1 hgrow1 hb1 hkey
      go_wp2
      go_roundw
      case rel =>
        have hlt := HLT.out
        refine ⟨k + 1, by omega, by go_num, Lib.hid ⟨?_, ?_, ⟨_, HO1.out, HTD.out.put (key_litS x) _, fun y hy => ?_, ?_⟩, HBW.out.trans (HB1.out.mono (by omega))⟩⟩
        · rw [HB1.out.cell (p := ⟨w.heap.size, 0, none⟩) (by simp)]; exact HK.out.1
        · rw [HB1.out.frozen (p := ⟨w.heap.size, 0, none⟩) (by simp)]; exact HK.out.2.1
        · rw [HTK.out, List.count_append, List.count_singleton]
          by_cases hxy : y = x
          · subst hxy
            rw [Maps.atKey_put_same HTD.out.isMap (key_litS y), HCN.out]
            simp
          · rw [Maps.atKey_put_other (by intro e; injection e with e; exact hxy (ba_inj e)), HAT.out y hy]
            simp [Ne.symm hxy]
        · rw [HTK.out, Maps.size_put HTD.out]
          cases hh : Maps.has D (.string x.data.toList)
          · simp
          · have := has_size1 HTD.out hh
            simp [this]
      case measure => have := HLT.out; simp [intOf]; omega
    · obtain rfl : k = l.length := by omega
      obtain ⟨hc, hf, hcm, hbw⟩ := HK.out
      rw [List.take_length] at hcm
      have HCM := Lib.hid hcm
      have HBW := Lib.hid hbw
      clear hcm hbw
      go_wp2
      refine leaves_cons (f := 126) (args := #[.pointer (some ⟨w.heap.size, 0, none⟩)]) (by simp) (by simp [go_sem]) ?_
      refine (cd_str _ _).mono ?_
      rintro e u' w'' ⟨rfl, rfl, rfl⟩
      have HR : Hid (RetMapS w l (.returned (.map (some (w.heap.size + 1)))) (wr.setCell ⟨w.heap.size, 0, none⟩ (.map (some (w.heap.size + 1))))) := Lib.hid ⟨_, rfl, HCM.out.far (by simp) _, HBW.out.setCell (by simp) _⟩
      simp [Leaves, settle, results, Try.results65, go_sem, hc]
      exact HR.out
end Go.Proofs.Ytcbjekdbkhibbaa
namespace Go.Proofs.Ytcbjekdbkhibbaa
open Go.RowKit

def mostStepS (l : List ByteArray) (a : ByteArray × Nat) (x : ByteArray) : ByteArray × Nat := if a.2 < max (l.count x) 1 then (x, max (l.count x) 1) else a
def mostFromS (l r : List ByteArray) : ByteArray × Nat := r.foldl (mostStepS l) (⟨#[]⟩, 0)
def mostLS (l : List ByteArray) : ByteArray × Nat := mostFromS l l
theorem mostFromS_next {l : List ByteArray} {k : Nat} (hk : k < l.length) : mostFromS l (l.take (k + 1)) = mostStepS l (mostFromS l (l.take k)) l[k] := by
  unfold mostFromS; rw [take_last l k hk, List.foldl_append]; rfl
theorem mostFromS_le (l : List ByteArray) : ∀ r : List ByteArray, (mostFromS l r).2 ≤ l.length + 1 := by
  have h : ∀ (r : List ByteArray) (a : ByteArray × Nat), a.2 ≤ l.length + 1 → (r.foldl (mostStepS l) a).2 ≤ l.length + 1 := by
    intro r
    induction r with
    | nil => intro a ha; exact ha
    | cons x r ih =>
      intro a ha
      refine ih _ ?_
      unfold mostStepS
      split
      · have := List.count_le_length (a := x) (l := l); simp only; omega
      · exact ha
  intro r
  exact h r (⟨#[]⟩, 0) (by simp)

def RetMostS (w : World) (l : List ByteArray) (e : Ending) (w' : World) : Prop := e = .returned (.tuple #[.string (mostLS l).1, .int .i64 ((mostLS l).2 : Int)]) ∧ Below w.heap.size w w'
set_option maxRecDepth 100000 in
set_option maxHeartbeats 2000000 in
theorem most_str {u : Value} {l : List ByteArray} {w : World} (hu : StrsAt w u l) (hl : l.length ≤ 1000) (hwf : WfS l) :
    Calls Try.prog 68 #[u] w (RetMostS w l) := by
  obtain ⟨ya, yc, rfl⟩ := hu.form
  have HU := Lib.hid hu
  have HWF := Lib.hid hwf
  clear hu hwf
  go_enter Try.func68, Try.ntmps68
  go_wp2_with fail
  refine (count_str HU.out hl HWF.out).mono ?_
  rintro e w2 ⟨b, rfl, hcm, hb2⟩
  have HC := Lib.hid hcm
  have HB := Lib.hid hb2
  obtain ⟨D, hown, htd, hat, hsz⟩ := HC.out
  clear hcm hb2 htd hat
  by_cases h0 : l = []
  · have hs : ((Maps.size D : Int) == 0) = true := by rw [hsz.2 h0]; rfl
    have HE := Lib.hid (show mostLS l = (⟨#[]⟩, 0) by rw [h0]; rfl)
    clear h0 hsz
    go_wp2_with (at_len; refine wpList_len_own _ rfl _ _ rfl 9 3 Try.underlying106 _ b l.length D rfl hown ?_)
    go_ret2
    exact ⟨by rw [HE.out]; rfl, HB.out⟩
  · have hs : ((Maps.size D : Int) == 0) = false := by
      have : Maps.size D ≠ 0 := fun e => h0 (hsz.1 e)
      exact beq_eq_false_iff_ne.2 (by omega)
    clear h0 hsz
    go_wp2_with (at_len; refine wpList_len_own _ rfl _ _ rfl 9 3 Try.underlying106 _ b l.length D rfl hown ?_)
    clear hown hs
    go_loopw [18, 4, 5] (fun i p q wr => ∃ k : Nat, k ≤ l.length ∧ i = .int .i64 k ∧ p = .string (mostFromS l (l.take k)).1 ∧ q = .int .i64 ((mostFromS l (l.take k)).2 : Int) ∧ Hid (Below w.heap.size w wr ∧ CntMapS wr b l.length l)) (fun i _ _ _ => l.length - (intOf i).toNat)
    case atStart => exact ⟨0, Nat.zero_le _, rfl, rfl, rfl, Lib.hid ⟨HB.out, HC.out⟩⟩
    case round =>
      obtain ⟨k, hk, rfl, rfl, rfl, HW⟩ := hrel
      by_cases hlt : k < l.length
      · obtain ⟨b2, off, rfl, c0⟩ := (HU.out.later HW.out.1).at k hlt
        have hnx := mostFromS_next hlt
        have hwx := HWF.out l[k] (List.getElem_mem hlt)
        obtain ⟨x, hx⟩ : ∃ x, l[k] = x := ⟨_, rfl⟩
        rw [hx] at c0 hnx hwx
        have HNX := Lib.hid hnx
        have HLT := Lib.hid hlt
        clear hx hnx
        obtain ⟨D2, hown, htd, hat0, hsz⟩ := HW.out.2
        have HCT := Lib.hid (hat0 x hwx)
        have hkey := keyOf_str Try.underlying9 hwx
        have hcl : l.count x ≤ l.length := List.count_le_length
        have hml := mostFromS_le l (l.take k)
        obtain ⟨mp, hmp⟩ : ∃ mp, mostFromS l (l.take k) = mp := ⟨_, rfl⟩
        rw [hmp] at HNX hml ⊢
        obtain ⟨m1, m2⟩ := mp
        simp only at hml ⊢
        obtain ⟨cn, hcn⟩ : ∃ cn, l.count x = cn := ⟨_, rfl⟩
        have HNX2 := Lib.hid (show mostFromS l (l.take (k + 1)) = if m2 < max cn 1 then (x, max cn 1) else (m1, m2) by rw [HNX.out, ← hcn]; rfl)
        rw [hcn] at HCT hcl
        have d0 : (0 : Int) ≤ k := by omega
        have d1 : (k : Int) < l.length := by omega
        clear hcn hmp htd hat0 hsz HNX
        go_wp2_with (at_lookup; refine wpList_lookup_own_int _ rfl _ _ 106 rfl 9 3 .i64 (Maps.string_keyed Try.underlying9) Try.underlying106 Try.underlying3 (Try.zeroValue3 _) b l.length D2 rfl hown _ _ rfl hkey ?_)
        intro c hat hwc
        obtain rfl : c = cn := by
          have h := hat.symm.trans HCT.out
          injection h with h
          injection h
        clear hat hwc hown hkey
        go_wp2
        · rename_i h
          have hlt := HLT.out
          refine ⟨⟨k + 1, by omega, by go_num, ?_, ?_, HW⟩, by simp [intOf]; omega⟩
          · rw [HNX2.out, if_pos (by omega)]
          · rw [HNX2.out, if_pos (by omega)]; simp only; congr 1; omega
        · rename_i h
          have hlt := HLT.out
          refine ⟨⟨k + 1, by omega, by go_num, ?_, ?_, HW⟩, by simp [intOf]; omega⟩
          · rw [HNX2.out, if_neg (by omega)]
          · rw [HNX2.out, if_neg (by omega)]
      · obtain rfl : k = l.length := by omega
        have HM := Lib.hid (show mostFromS l (l.take l.length) = mostLS l by rw [List.take_length]; rfl)
        rw [HM.out]
        obtain ⟨mp, hmp⟩ : ∃ mp, mostLS l = mp := ⟨_, rfl⟩
        have HMP := Lib.hid hmp
        rw [hmp]
        clear hmp
        go_wp2
        go_ret2
        exact ⟨by rw [HMP.out]; rfl, HW.out.1⟩
end Go.Proofs.Ytcbjekdbkhibbaa

/- The contract of object.New (layer 6). -/
import Derived.Test.YtkhgdfalbmkgcaaHj
import Derived.Test.YtkhgdfalbmkgcaaHg
namespace Go.Proofs.Ytkhgdfalbmkgcaa
open Go.RowKit Go.Maps

theorem MapP.mapD {D : DataW Unit} {n : Nat} {pb : Nat → Nat → Nat} (h : MapP D (okK n) pb) : MapD D n pb := by
  refine ⟨fun s z w1 w2 => ?_, h.val, h.only⟩
  have := h.has s z w1 w2
  by_cases e : okI n s z
  · rw [decide_eq_true e]; exact this.2 e
  · rw [decide_eq_false e]
    cases hh : Maps.has D (kl s z)
    · rfl
    · exact absurd (this.1 hh) e
theorem WfS.none (T : List Crd.CardL) (n : Nat) : WfS ⟨T, n, [], fun _ _ => []⟩ where
  ids := fun k h => by simp at h
  nodup := fun _ _ _ => List.nodup_nil
  mem := fun _ _ _ id => ⟨fun h => by simp at h, fun ⟨k, h, _⟩ => by simp at h⟩
/-- A store out of its parts. -/
theorem store_of {w w1 w2 w3 : World} {mb n : Nat} {v : Value} {T : List Crd.CardL} {D : DataW Unit} {pb : Nat → Nat → Nat} {pg : Nat → Nat → Option Nat} {L : Nat → Nat → List Int} {tag : Nat → Tag}
    (h1 : Below w.heap.size w w1) (h2 : Below w1.heap.size w1 w2) (h3 : Below w2.heap.size w2 w3) (ht : TabFrom w2 w1.heap.size v T) (hp : PInv w3 w2.heap.size mb 28 (okK n) D pb pg L tag) (n1 : 1 ≤ n) (n4 : n ≤ 4) (hT : Crd.tableE T = 0) :
    ∃ G, StoreAt (w3.alloc (.cells #[v, .int .i64 n, .slice none 0 0, .map (some mb)] 84)) w.heap.size w3.heap.size G ⟨T, n, [], L⟩ := by
  classical
  have s1 := h1.size
  have s2 := h2.size
  have s3 := h3.size
  have ha := below_new w3 (.cells #[v, .int .i64 n, .slice none 0 0, .map (some mb)] 84)
  have hq := hp.later ha
  have htg : ∀ k, tag k ≠ .no → (if k = w3.heap.size then Tag.head else if w1.heap.size ≤ k ∧ k < w2.heap.size then .tab else tag k) = tag k := fun k hk => by
    have h1 := hp.low k hk
    have h2 : k < w3.heap.size := Classical.byContradiction fun hn => hk (hp.high k (by omega))
    rw [if_neg (by omega), if_neg (by omega)]
  refine ⟨⟨v, .slice none 0 0, mb, pb, pg, fun k => if k = w3.heap.size then .head else if w1.heap.size ≤ k ∧ k < w2.heap.size then .tab else tag k⟩, heap_alloc_new w3 _, ?_, World.ownsRow_nil _ _ _ _, ?_, fun s z ok => (hq.pi s z ok).mono (by omega), if_pos rfl, ?_, fun k e => ?_, fun s z ok => ?_, fun s z k ok e => ?_, fun k hk => ?_, fun k hk => ?_, n1, n4, hT⟩
  · intro W' hW
    refine ht W' fun k hk1 hk2 => ?_
    have e := hW k (by show (if _ then _ else _) = _; rw [if_neg (by omega), if_pos ⟨hk1, hk2⟩])
    rw [e, ha.block k (by omega), h3.block k hk2]
  · exact ⟨D, hq.mp.mono (by omega), Nat.le_trans hq.mp.size_le (by omega), hq.md.mapD⟩
  · show (if _ then _ else _) = _; rw [htg mb (by rw [hp.tm]; simp)]; exact hp.tm
  · have e : (Value.slice none 0 0).ownBlock = some k := e
    simp [Value.ownBlock] at e
  · show (if _ then _ else _) = _; rw [htg _ (by rw [hp.tp s z ok]; simp)]; exact hp.tp s z ok
  · show (if _ then _ else _) = _; rw [htg _ (by rw [hp.tg s z k ok e]; simp)]; exact hp.tg s z k ok e
  · by_cases e : k = w3.heap.size
    · omega
    · have hk : (if k = w3.heap.size then Tag.head else if w1.heap.size ≤ k ∧ k < w2.heap.size then .tab else tag k) ≠ .no := hk
      rw [if_neg e] at hk
      by_cases e2 : w1.heap.size ≤ k ∧ k < w2.heap.size
      · omega
      · rw [if_neg e2] at hk
        have := hp.low k hk
        omega
  · have hk : (w3.alloc _).heap.size ≤ k := hk
    simp at hk
    show (if _ then _ else _) = _
    rw [if_neg (by omega), if_neg (by omega)]
    exact hp.high k (by omega)
def RetNewS (w : World) (T : List Crd.CardL) (n : Nat) (e : Ending) (w' : World) : Prop :=
  ∃ b G, e = .returned (.tuple #[.pointer (some ⟨b, 0, none⟩), .int .i64 0]) ∧ StoreAt w' w.heap.size b G ⟨T, n, [], fun _ _ => []⟩ ∧ Below w.heap.size w w'
set_option maxRecDepth 100000 in
set_option maxHeartbeats 4000000 in
theorem newS_ok {w : World} {v : Value} {T : List Crd.CardL} (h : Crd.CardsAt w v T) (ht : Crd.tableE T = 0) (n : Nat) (h1 : 1 ≤ n) (h4 : n ≤ 4) : Calls Try.prog 20 #[v, .int .i64 n] w (RetNewS w T n) := by
  have hT := table_short ht
  have HTB := Crd.table_any h (by omega) (fun c hc => by
    obtain ⟨k, hk, rfl⟩ := List.getElem_of_mem hc
    have := may_terms ht k hk
    omega)
  rw [ht] at HTB
  have HT := Lib.hid HTB
  have HOW := Lib.hid (fun (w' : World) (hb : Below w.heap.size w w') => own_any (h.later hb) ht)
  have HT0 := Lib.hid ht
  have d0 : decide ((n : Int) < 1) = false := decide_eq_false (by omega)
  have d1 : decide ((4 : Int) < (n : Int)) = false := decide_eq_false (by omega)
  have d2 : decide (4 < n) = false := decide_eq_false (by omega)
  have d3 : decide (n < 1) = false := decide_eq_false (by omega)
  clear h ht HTB
  go_enter Try.func20, Try.ntmps20
  go_wp2_with fail
  refine HT.out.mono ?_
  rintro e w1 ⟨rfl, hb1⟩
  have HB1 := Lib.hid hb1
  clear hb1
  dsimp only
  go_wp2_with fail
  refine (HOW.out w1 HB1.out).mono ?_
  rintro e w2 ⟨v', rfl, htf, hb2⟩
  obtain ⟨va, vc, rfl⟩ := (htf w2 fun _ _ _ => rfl).form
  have HB2 := Lib.hid hb2
  have HTF := Lib.hid htf
  clear hb2 htf
  dsimp only
  go_wp2_with fail
  refine (emptyPiles_any n w2 h1 h4).mono ?_
  rintro e w3 ⟨mb, D, pb, pg, tag, rfl, hp, hb3⟩
  have HB3 := Lib.hid hb3
  have HP := Lib.hid hp
  clear hb3 hp
  dsimp only
  go_wp2
  go_ret2
  obtain ⟨G, hst⟩ := store_of HB1.out HB2.out HB3.out HTF.out HP.out h1 h4 HT0.out
  exact ⟨w3.heap.size, G, rfl, hst, stepB (stepB (stepB HB1.out HB2.out) HB3.out) (below_new w3 _)⟩
end Go.Proofs.Ytkhgdfalbmkgcaa

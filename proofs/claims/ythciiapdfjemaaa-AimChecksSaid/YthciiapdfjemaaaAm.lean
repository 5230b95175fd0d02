/- The marks that ranges over functions leave in a loop; a frame of 80 values, written out; what a range over All that gathers a list wants (layer 10). -/
import Derived.Test.YthciiapdfjemaaaAg
namespace Go.Proofs.Ythciiapdfjemaaa
open Go.RowKit Go.Maps

/-- The marks that ranges have left. -/
def Marks (B : Nat) (w : World) (df : List Deferred) : Prop := ∃ Ds : List Nat, df = Ds.map (fun D => { target := .collected D, args := #[] }) ∧ Ds.Nodup ∧ (∀ D ∈ Ds, B ≤ D) ∧ MarksO w Ds
theorem Marks.none (B : Nat) (w : World) : Marks B w [] := ⟨[], rfl, List.nodup_nil, (fun _ h => by cases h), (fun _ h => by cases h)⟩
theorem Marks.later {B : Nat} {w w' : World} {df : List Deferred} (h : Marks B w df) (hb : Below w.heap.size w w') : Marks B w' df := by
  obtain ⟨Ds, h1, h2, h3, h4⟩ := h
  exact ⟨Ds, h1, h2, h3, fun D hD => (hb.block D (h4.lt hD)).trans (h4 D hD)⟩
theorem Marks.cons {B D : Nat} {w w' : World} {df : List Deferred} (h : Marks B w df) (hb : Below w.heap.size w w') (hD : w.heap.size ≤ D) (hB : B ≤ D) (hK : w'.heap[D]? = some (.deferred (some []))) : Marks B w' ({ target := .collected D, args := #[] } :: df) := by
  obtain ⟨Ds, rfl, h2, h3, h4⟩ := h
  refine ⟨D :: Ds, rfl, List.nodup_cons.2 ⟨fun hm => by have := h4.lt hm; omega, h2⟩, fun D' hD' => ?_, fun D' hD' => ?_⟩
  · rcases List.mem_cons.1 hD' with rfl | h
    · exact hB
    · exact h3 _ h
  · rcases List.mem_cons.1 hD' with rfl | h
    · exact hK
    · exact (hb.block _ (h4.lt h)).trans (h4 _ h)
theorem Marks.leave {n : Nat} {w w0 : World} {fn : Func} {tmps : Array Value} {df : List Deferred} (h : Marks w0.heap.size w df) (hb : Below w0.heap.size w0 w) (hr : ∀ W', (results fn tmps).run Try.prog W' = .ok (.bool true) W') : LeavesInM Fence.wide n Try.prog fn tmps (RetV w0 (.bool true)) df .returning w := by
  obtain ⟨Ds, rfl, h2, h3, h4⟩ := h
  exact leaves_marksO (B := w0.heap.size) Ds _ h2 h3 h4 (fun W' hb' hc => ⟨_, hr W', rfl, hb.trans hb'⟩)
set_option maxRecDepth 100000 in
set_option maxHeartbeats 4000000 in
theorem arr80 (t : Array Value) (h : t.size = 80) : t = #[t.getD 0 undef, t.getD 1 undef, t.getD 2 undef, t.getD 3 undef, t.getD 4 undef, t.getD 5 undef, t.getD 6 undef, t.getD 7 undef, t.getD 8 undef, t.getD 9 undef, t.getD 10 undef, t.getD 11 undef, t.getD 12 undef, t.getD 13 undef, t.getD 14 undef, t.getD 15 undef, t.getD 16 undef, t.getD 17 undef, t.getD 18 undef, t.getD 19 undef, t.getD 20 undef, t.getD 21 undef, t.getD 22 undef, t.getD 23 undef, t.getD 24 undef, t.getD 25 undef, t.getD 26 undef, t.getD 27 undef, t.getD 28 undef, t.getD 29 undef, t.getD 30 undef, t.getD 31 undef, t.getD 32 undef, t.getD 33 undef, t.getD 34 undef, t.getD 35 undef, t.getD 36 undef, t.getD 37 undef, t.getD 38 undef, t.getD 39 undef, t.getD 40 undef, t.getD 41 undef, t.getD 42 undef, t.getD 43 undef, t.getD 44 undef, t.getD 45 undef, t.getD 46 undef, t.getD 47 undef, t.getD 48 undef, t.getD 49 undef, t.getD 50 undef, t.getD 51 undef, t.getD 52 undef, t.getD 53 undef, t.getD 54 undef, t.getD 55 undef, t.getD 56 undef, t.getD 57 undef, t.getD 58 undef, t.getD 59 undef, t.getD 60 undef, t.getD 61 undef, t.getD 62 undef, t.getD 63 undef, t.getD 64 undef, t.getD 65 undef, t.getD 66 undef, t.getD 67 undef, t.getD 68 undef, t.getD 69 undef, t.getD 70 undef, t.getD 71 undef, t.getD 72 undef, t.getD 73 undef, t.getD 74 undef, t.getD 75 undef, t.getD 76 undef, t.getD 77 undef, t.getD 78 undef, t.getD 79 undef] := by
  have e : t.toList = (List.range 80).map (fun i => t.getD i undef) := by
    apply List.ext_getElem
    · simp [h]
    · intro i h1 h2
      simp at h1
      simp [h1]
  have e2 : t = t.toList.toArray := by simp
  rw [e] at e2
  exact e2
/-- What a list's box that is new is to a store and teams that were there. -/
theorem box_heads {W : World} {lo q : Nat} (h : ListIn W lo q (.slice none 0 0) []) : Heads (fun k => k = q) W := fun b hb => by subst hb; exact ⟨_, h.head, fun k e => by cases e⟩
theorem box_off {W : World} {lo q k : Nat} (h : ListIn W lo q (.slice none 0 0) []) (hk : k ≠ q) : Off (fun k => k = q) W k := off_lO h hk (by intro e; cases e)
theorem new_off {W w0 : World} {lo q b lo' : Nat} {G : Ghost} {S : StoreL} (h : ListIn W lo q (.slice none 0 0) []) (hs : StoreAt w0 lo' b G S) (hq : w0.heap.size ≤ q) : ∀ k, G.tag k ≠ .no → Off (fun k => k = q) W k := fun k hk => box_off h (fun e => hk (by rw [e]; exact hs.high q hq))
/-- All, with a list's box that is new beside. -/
theorem aim_gather {W w0 : World} {c1 lo b tlo tb s r q lq lo0 : Nat} {G : Ghost} {S : StoreL} {T : TeamL} {seat on : Int} (n : Nat) (hn : 5 ≤ n) (hq : ListIn W lq q (.slice none 0 0) []) (hs0 : StoreAt w0 lo0 b G S) (hq0 : w0.heap.size ≤ q) (ht0 : TeamAt w0 tlo tb s r T) (hqc : q < c1)
    (h1 : HdAt W c1 (.pointer (some ⟨b, 0, none⟩))) (h2 : HdAt W (c1 + 1) (.pointer (some ⟨tb, 0, none⟩))) (h3 : HdAt W (c1 + 2) (.int .i64 seat)) (h4 : HdAt W (c1 + 3) (.int .i64 on)) (h : StoreAt W lo b G S) (hS : WfS S) (hl : S.objs.length ≤ 1000) (ht : TeamAt W tlo tb s r T) :
    TellsF n (fun _ => False) (fun k => k = q) (aimL T S seat on) W 27 #[.pointer (some ⟨c1, 0, none⟩), .pointer (some ⟨c1 + 1, 0, none⟩), .pointer (some ⟨c1 + 2, 0, none⟩), .pointer (some ⟨c1 + 3, 0, none⟩)] :=
  aim_seq n hn (fun _ => False) (fun k => k = q) (fun k hk => hk.elim) (fun k hk => hk.elim) (box_heads hq) (new_off hq hs0 hq0)
    (fun x hx => ⟨fun e => e, box_off hq (by
      have a1 := ht0.lt
      have a2 := ht0.sd.1
      have a3 := ht0.ltr
      rcases hx with rfl | rfl | rfl <;> omega)⟩)
    (fun c hc => ⟨fun e => e, box_off hq (by rcases hc with rfl | rfl | rfl | rfl <;> omega)⟩) h1 h2 h3 h4 h hS hl ht
end Go.Proofs.Ythciiapdfjemaaa

/- What holds of a store at any time (layer 6): each object is in just one pile; Move, and Add of what may not be. -/
import Derived.Test.YthciiapdfjemaaaHf
namespace Go.Proofs.Ythciiapdfjemaaa
open Go.RowKit Go.Maps

/-- Where an object belongs. -/
def keyS (o : ObjL) : Nat := canN o.owner.toNat o.zone.toNat
structure WfS (S : StoreL) : Prop where
  ids : ∀ k (h : k < S.objs.length), S.objs[k].id = (k : Int) + 1 ∧ 0 ≤ S.objs[k].card ∧ S.objs[k].card < S.T.length ∧ 0 ≤ S.objs[k].owner ∧ S.objs[k].owner < S.seats ∧ 1 ≤ S.objs[k].zone ∧ S.objs[k].zone ≤ 7
  nodup : ∀ s z, okK S.seats s z → (S.pl s z).Nodup
  mem : ∀ s z, okK S.seats s z → ∀ id : Int, id ∈ S.pl s z ↔ ∃ k, ∃ h : k < S.objs.length, id = (k : Int) + 1 ∧ keyS S.objs[k] = s ∧ S.objs[k].zone.toNat = z
theorem nodup_len : ∀ (n : Nat) (L : List Int), L.Nodup → (∀ x ∈ L, 1 ≤ x ∧ x ≤ (n : Int)) → L.length ≤ n
  | 0, L, _, h => by
    cases L with
    | nil => simp
    | cons x L => have := h x (by simp); omega
  | n + 1, L, hn, h => by
    by_cases hm : ((n : Int) + 1) ∈ L
    · have h1 := nodup_len n (L.erase ((n : Int) + 1)) (hn.erase _) (fun x hx => by
        have := (hn.mem_erase_iff).1 hx
        have := h x this.2
        omega)
      have := List.length_erase_of_mem hm
      omega
    · exact Nat.le_succ_of_le (nodup_len n L hn (fun x hx => by
        have := h x hx
        have : x ≠ (n : Int) + 1 := fun e => hm (e ▸ hx)
        omega))
theorem WfS.short {S : StoreL} (h : WfS S) (hl : S.objs.length ≤ 1000) : ShortS S := by
  refine ⟨hl, fun s z ok => Nat.le_trans (nodup_len S.objs.length _ (h.nodup s z ok) fun x hx => ?_) hl⟩
  obtain ⟨k, hk, rfl, _⟩ := (h.mem s z ok x).1 hx
  omega
theorem Turned.keeps {w w' : World} {G G' : Ghost} (h : Turned w w' G G') {k : Nat} (hk : k < w.heap.size) (ht : G.tag k = .no) : w'.heap[k]? = w.heap[k]? ∧ G'.tag k = .no := ⟨h.chg.block k hk (.inl ht), (h.tag k hk).trans ht⟩
theorem obj_of_row {w : World} {k : Nat} {x : ObjL} {t : TypeId} (h : w.heap[k]? = some (.cells (ocs x) t (0, 0))) : ObjCells w k 0 x := by
  have hc : ∀ j, w.cell? ⟨k, j, none⟩ = (ocs x)[j]? := fun j => cell_of_row _ _ j _ _ (0, 0) h
  exact ⟨hc 0, hc 1, hc 2, hc 3, hc 4, hc 5, hc 6, hc 7, hc 8, hc 9, hc 10⟩
theorem StoreAt.rowAt {w : World} {lo b k g cap : Nat} {G : Ghost} {S : StoreL} (h : StoreAt w lo b G S) (hk : k < S.objs.length) (hv : G.ov = .slice (some ⟨g, 0, none⟩) S.objs.length cap) :
    ObjCells w g (k * 11) S.objs[k] ∧ ∀ j, w.frozen? ⟨g, j, none⟩ = false := by
  obtain ⟨g', cap', hgv, hc, hf⟩ := own_obj h.ob k hk
  rw [hv] at hgv
  injection hgv with h1 _ _
  injection h1 with h1
  injection h1 with h1 _ _
  subst h1
  exact ⟨hc, hf⟩
def moveL (S : StoreL) (k : Nat) (x : ObjL) (zone : Nat) (under : Bool) : StoreL :=
  let p1 := upd S.pl (keyS x) x.zone.toNat ((S.pl (keyS x) x.zone.toNat).erase ((k : Int) + 1))
  let L := p1 (canN x.owner.toNat zone) zone
  { S with objs := S.objs.set k (freshO S.T ((k : Int) + 1) x.card x.owner zone), pl := upd p1 (canN x.owner.toNat zone) zone (layL L (if under then L.length else 0) ((k : Int) + 1)) }
end Go.Proofs.Ythciiapdfjemaaa

/- Two stores of which the objects are not the same (layer 6). -/
import Derived.Test.YtkhgdfalbmkgcaaGreatMc
import Derived.Deep.QuietTactic
import Derived.BigQuiet
import Derived.Test.YtkhgdfalbmkgcaaGreatLa
import Derived.Test.YtkhgdfalbmkgcaaGreatLc
import Derived.Test.YtkhgdfalbmkgcaaGreatJb
namespace Go.Proofs.YtkhgdfalbmkgcaaGreat
open Go.RowKit Go.Maps
attribute [local go_sem] Oper.semAt_some

set_option maxRecDepth 100000 in
set_option maxHeartbeats 8000000 in
theorem same_false {w : World} {lo b lo' b' : Nat} {G G' : Ghost} {S S' : StoreL} (h : StoreAt w lo b G S) (h' : StoreAt w lo' b' G' S') (hn : S.seats = S'.seats) (hl : S.objs.length ≤ 1000) (hne : S.objs ≠ S'.objs) :
    Calls Tryz.prog 7 #[.pointer (some ⟨b, 0, none⟩), .pointer (some ⟨b', 0, none⟩)] w (RetV w (.bool false)) := by
  have hob := h.ob
  have hob' := h'.ob
  obtain ⟨xa, xc, hov⟩ := own_form hob
  obtain ⟨xa', xc', hov'⟩ := own_form hob'
  have hc := fun j => cell_of_row w b j _ _ _ h.hd
  have hc' := fun j => cell_of_row w b' j _ _ _ h'.hd
  rw [hov] at hc hob
  rw [hov'] at hc' hob'
  rw [← hn] at hc'
  have c1 : w.cell? ⟨b, 1, none⟩ = some (.int .i64 S.seats) := hc 1
  have c2 : w.cell? ⟨b, 2, none⟩ = some (.slice xa S.objs.length xc) := hc 2
  have d1 : w.cell? ⟨b', 1, none⟩ = some (.int .i64 S.seats) := hc' 1
  have d2 : w.cell? ⟨b', 2, none⟩ = some (.slice xa' S'.objs.length xc') := hc' 2
  have HEQ := Lib.hid (fun k => (Calls.quiet_of ((equal_objs (w := w.drewN k) (own11_later hob fun j e => (below_drewN (Below.refl w.heap.size w) k).block j (World.ownsRow.lt hob j e).2) (own11_later hob' fun j e => (below_drewN (Below.refl w.heap.size w) k).block j (World.ownsRow.lt hob' j e).2) hl).mono fun e w' h => ⟨by rw [h.1, decide_eq_false hne], h.2⟩) : Calls Tryz.prog 25 #[.slice xa S.objs.length xc, .slice xa' S'.objs.length xc'] (w.drewN k) fun e w'' => e = .returned (.bool false) ∧ ∃ m, w'' = w.drewN m))
  obtain ⟨O, hO⟩ : ∃ O, S.objs.length = O := ⟨_, rfl⟩
  obtain ⟨O', hO'⟩ : ∃ O', S'.objs.length = O' := ⟨_, rfl⟩
  obtain ⟨n, hn1⟩ : ∃ n, S.seats = n := ⟨_, rfl⟩
  rw [hO] at c2 HEQ
  rw [hO'] at d2 HEQ
  rw [hn1] at c1 d1
  have e0 : ((n : Int) == (n : Int)) = true := beq_self_eq_true _
  clear h h' hob hob' hov hov' hc hc' hO hO' hn hn1 hne hl
  go_enter Tryz.func7, Tryz.ntmps7
  go_wp2
  go_quiet ((with_reducible exact HEQ.out _))
  go_wp2
  go_ret
  exact ⟨rfl, below_drewN (Below.refl _ _) _⟩
end Go.Proofs.YtkhgdfalbmkgcaaGreat

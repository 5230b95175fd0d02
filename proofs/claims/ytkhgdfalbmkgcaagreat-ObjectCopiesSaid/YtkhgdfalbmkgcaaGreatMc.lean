/- What no store does (layer 6); two stores of which the objects are not the same. -/
import Derived.Test.YtkhgdfalbmkgcaaGreatJx
import Derived.Test.YtkhgdfalbmkgcaaGreatLa
import Derived.Test.YtkhgdfalbmkgcaaGreatLc
import Derived.Test.YtkhgdfalbmkgcaaGreatJb
namespace Go.Proofs.YtkhgdfalbmkgcaaGreat
open Go.RowKit Go.Maps
attribute [local go_sem] Oper.semAt_some

theorem add_nil (n o z : Int) (w : World) : Calls Tryz.prog 8 #[.pointer none, .int .i64 n, .int .i64 o, .int .i64 z] w (RetV w (.tuple #[.int .i64 0, .int .i64 1])) := by
  go_enter Tryz.func8, Tryz.ntmps8
  go_wp2
  go_ret2
  exact ⟨rfl, Below.refl _ _⟩
set_option maxRecDepth 100000 in
theorem card_nil (i : Int) (w : World) : Calls Tryz.prog 12 #[.pointer none, .int .i64 i] w (RetV w (.tuple #[.agg #[.int .i64 0, .int .i64 0, .int .i64 0, .int .i64 0, .int .i64 0, .int .i64 0, .slice none 0 0], .int .i64 1])) := by
  have HG := Lib.hid (fun (w' : World) => get_nil i w')
  unfold RetGet oagg zeroO at HG
  dsimp only at HG
  go_enter Tryz.func12, Tryz.ntmps12
  go_wp2_with fail
  refine (HG.out (w.alloc (.cells #[.int .i64 0, .int .i64 0, .int .i64 0, .int .i64 0, .int .i64 0, .int .i64 0, .slice none 0 0] 42))).mono ?_
  rintro e w1 ⟨rfl, hb1⟩
  have hbx := stepB hb1 (below_new w1 (.cells #[.int .i64 0, .int .i64 0, .int .i64 0, .int .i64 0, .bool false, .bool false, .int .i64 0, .int .i64 0, .int .i64 0, .int .i64 0, .bool false] 35))
  have hbw : Below w.heap.size w (w1.alloc (.cells #[.int .i64 0, .int .i64 0, .int .i64 0, .int .i64 0, .bool false, .bool false, .int .i64 0, .int .i64 0, .int .i64 0, .int .i64 0, .bool false] 35)) := stepB (below_new w _) hbx
  obtain ⟨hcW, hfW⟩ := Crd.bcell hbx
  have f0 : ∀ j, (w1.alloc (.cells #[.int .i64 0, .int .i64 0, .int .i64 0, .int .i64 0, .bool false, .bool false, .int .i64 0, .int .i64 0, .int .i64 0, .int .i64 0, .bool false] 35)).frozen? ⟨w.heap.size, j, none⟩ = false := fun j => by rw [hfW _ _ (by simp)]; simp [go_sem]
  have zz : ∀ j, (w1.alloc (.cells #[.int .i64 0, .int .i64 0, .int .i64 0, .int .i64 0, .bool false, .bool false, .int .i64 0, .int .i64 0, .int .i64 0, .int .i64 0, .bool false] 35)).cell? ⟨w.heap.size, j, none⟩ = (#[.int .i64 0, .int .i64 0, .int .i64 0, .int .i64 0, .int .i64 0, .int .i64 0, .slice none 0 0] : Array Value)[j]? := fun j => by rw [hcW _ _ (by simp), cell_of_row _ _ j _ _ (0, 0) (heap_alloc_new w _)]
  have z0 := zz 0
  have z1 := zz 1
  have z2 := zz 2
  have z3 := zz 3
  have z4 := zz 4
  have z5 := zz 5
  have z6 := zz 6
  simp only [List.size_toArray, List.length_cons, List.length_nil, Nat.reduceAdd, Nat.reduceLT, Array.getElem?_eq_getElem, List.getElem_toArray, List.getElem_cons_zero, List.getElem_cons_succ] at z0 z1 z2 z3 z4 z5 z6
  have HBW := Lib.hid hbw
  clear hb1 hbx hbw hcW hfW zz
  dsimp only
  go_wp2
  refine bodyPost_ret (by simp [results, Tryz.results12, go_sem, z0, z1, z2, z3, z4, z5, z6]) rfl ⟨rfl, ?_⟩
  exact (((((((HBW.out.setCell (Nat.le_refl _) _).setCell (Nat.le_refl _) _).setCell (Nat.le_refl _) _).setCell (Nat.le_refl _) _).setCell (Nat.le_refl _) _).setCell (Nat.le_refl _) _).setCell (Nat.le_refl _) _)
theorem top_nil (s z : Int) (w : World) : Calls Tryz.prog 13 #[.pointer none, .int .i64 s, .int .i64 z] w (RetV w (.tuple #[.int .i64 0, .bool false])) := by
  have H1 := Lib.hid (pileAt_none s z w)
  have H2 := Lib.hid (atNil_any w)
  go_enter Tryz.func13, Tryz.ntmps13
  go_wp2_with fail
  refine H1.out.mono ?_
  rintro e w1 ⟨rfl, rfl⟩
  dsimp only
  go_wp2_with fail
  refine H2.out.mono ?_
  rintro e w2 ⟨rfl, rfl⟩
  dsimp only
  go_wp2
  go_ret2
  exact ⟨rfl, Below.refl _ _⟩
set_option maxRecDepth 100000 in
theorem set_nil (x : ObjL) (w : World) : Calls Tryz.prog 11 #[.pointer none, oagg x] w (RetV w (.int .i64 1)) := by
  have HG := Lib.hid (fun i (w' : World) => get_nil i w')
  unfold RetGet oagg zeroO at HG
  unfold oagg
  dsimp only at HG
  go_enter Tryz.func11, Tryz.ntmps11
  go_wp2_with fail
  refine (HG.out _ _).mono ?_
  rintro e w1 ⟨rfl, hb1⟩
  have HB := Lib.hid (stepB (below_new w _) hb1)
  clear hb1
  dsimp only
  go_wp2
  go_ret
  exact ⟨rfl, below_alloc2 HB.out _⟩
theorem lay_nil (s z : Int) (v : Value) (w : World) : Calls Tryz.prog 16 #[.pointer none, .int .i64 s, .int .i64 z, v] w (RetV w (.int .i64 1)) := by
  go_enter Tryz.func16, Tryz.ntmps16
  go_wp2
  go_ret
  exact ⟨rfl, Below.refl _ _⟩
theorem len_none (w : World) : Calls Tryz.prog 17 #[.pointer none] w (RetV w (.int .i64 0)) := by
  go_enter Tryz.func17, Tryz.ntmps17
  go_wp2
  go_ret
  exact ⟨rfl, Below.refl _ _⟩
theorem seats_none (w : World) : Calls Tryz.prog 18 #[.pointer none] w (RetV w (.int .i64 0)) := by
  go_enter Tryz.func18, Tryz.ntmps18
  go_wp2
  go_ret
  exact ⟨rfl, Below.refl _ _⟩
theorem copy_none (w : World) : Calls Tryz.prog 6 #[.pointer none] w (RetV w (.pointer none)) := by
  go_enter Tryz.func6, Tryz.ntmps6
  go_wp2
  go_ret
  exact ⟨rfl, Below.refl _ _⟩
set_option maxRecDepth 100000 in
theorem same_none (w : World) : Calls Tryz.prog 7 #[.pointer none, .pointer none] w (RetV w (.bool true)) := by
  go_enter Tryz.func7, Tryz.ntmps7
  go_wp2
  go_ret
  exact ⟨rfl, Below.refl _ _⟩
theorem ptr_ne (b : Nat) (W : World) : (binOp .eql 27 (.pointer none) (.pointer (some ⟨b, 0, none⟩))).run Tryz.prog W = .ok (.bool false) W := by kernel_rfl
set_option maxRecDepth 100000 in
theorem same_noneOne (b : Nat) (w : World) : Calls Tryz.prog 7 #[.pointer none, .pointer (some ⟨b, 0, none⟩)] w (RetV w (.bool false)) := by
  have hpn := ptr_ne b
  go_enter Tryz.func7, Tryz.ntmps7
  go_wp2
  go_ret
  exact ⟨ret_bool (by first | rfl | simp), Below.refl _ _⟩
set_option maxRecDepth 100000 in
theorem objsNil_seq (n : Nat) (_hn : 1 ≤ n) {w : World} {c : Nat} (Kp : Nat → World → World → Prop) (hc : HdAt w c (.pointer none)) :
    SeqW Fence.wide n Tryz.prog 37 #[.pointer (some ⟨c, 0, none⟩)] encO Kp (fun _ _ => False) (fun xs _ => xs = []) (fun _ _ => False) w := by
  intro l J Jx W hW hl1 hl2 hJ hJx _ h0
  have c1c := (hc.later hW).cell
  have H0 := Lib.hid h0
  clear hJ hJx h0 hW hc
  refine callsIn_of_wp Tryz.func37 rfl trivial ?_ rfl
  simp only [Tryz.ntmps37, List.size_toArray, List.length_cons, List.length_nil, Nat.reduceAdd, Nat.reduceSub, Array.replicate_succ, Array.replicate_zero, List.push_toArray, List.append_toArray, List.nil_append, List.cons_append]
  gi_wp2
  refine bodyPost_ret (results_none rfl _ _ _) rfl ?_
  exact ⟨⟨_, rfl⟩, H0.out⟩
end Go.Proofs.YtkhgdfalbmkgcaaGreat

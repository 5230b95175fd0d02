/- The law ObjectCopies, proved: for every table, all calls and every one more it returns true; each argument reads behind the call as it read before. No condition. -/
import Derived.Test.YtkhgdfalbmkgcaaGreatMw
import Derived.Test.YtkhgdfalbmkgcaaGreatLo
namespace Go.Proofs.YtkhgdfalbmkgcaaGreat
open Go.ChangeShapes Go.WideShapes Go.ChangeAt Go.RowKit Go.Deep

set_option maxRecDepth 100000 in
theorem open_opW {H : Type} {enc : TypeId × Value → H} {w : World} {base : Nat} {v : Value} {d : DataW H} {p : List MemPlace} (hv : Value.okWide Tryz.prog w .any base 25 v) (h : DataW.Trod enc Tryz.prog w 0 (fun _ => true) true 25 v d p) :
    ∃ o : OpL, v = .agg #[.int .i64 o.k, .int .i64 o.a, .int .i64 o.b, .int .i64 o.c, .bool o.under] ∧ WfO o := by
  obtain ⟨v0, v1, v2, v3, v4, y0, y1, y2, y3, y4, n, rfl, g0, g1, g2, g3, g4⟩ := open_agg5 Tryz.underlying25 (by kernel_rfl) cellsOp hv h
  obtain ⟨x0, q0, _, _⟩ := DataW.trod_int Tryz.underlying3 g0
  obtain ⟨x1, q1, _, w1⟩ := DataW.trod_int Tryz.underlying3 g1
  obtain ⟨x2, q2, _, w2⟩ := DataW.trod_int Tryz.underlying3 g2
  obtain ⟨x3, q3, _, w3⟩ := DataW.trod_int Tryz.underlying3 g3
  obtain ⟨x4, q4, _⟩ := DataW.trod_bool Tryz.underlying4 g4
  rw [cell_int q0, cell_int q1, cell_int q2, cell_int q3, cell_bool q4]
  exact ⟨⟨x0, x1, x2, x3, x4⟩, rfl, wf_int w1, wf_int w2, wf_int w3⟩
set_option maxRecDepth 100000 in
theorem objectCopies_lifted (os : Os) (started : os.Started) (H : Type) (enc : TypeId × Value → H) :
    ReturnsInHanded {} Tryz.checked os 3 .any (Rows.objectCopiesSpec.pre6 enc Tryz.prog Tryz.f3 Rows.objectCopiesRow.domain false) (Rows.objectCopiesSpec.post enc Tryz.prog Tryz.f3 false true false false) := by
  refine returnsInHanded_of_change (C := Tryz.checked) own started (by kernel_rfl) Tryz.func3
    (ChangeSpec.witness6 (enc := enc) (C := Tryz.checked) false ⟨#[], #[.slice none 0 0, .slice none 0 0, .agg #[.int .i64 0, .int .i64 0, .int .i64 0, .int .i64 0, .bool false]], []⟩ 8 (by kernel_rfl) (by kernel_rfl) (by kernel_rfl) (by kernel_rfl)) ?_
  intro W base args ds gs before hval0 hW hcnd _
  have hval : ∀ (j : Nat) t v, Tryz.f3.params[j]? = some t → args[j]? = some v → Value.okWide Tryz.prog W .any base t v := hval0
  have hW' := hW
  obtain ⟨p, q, hA0, hV, rfl, hfz, hnd⟩ := hW
  have hA : DataW.TrodAll enc Tryz.prog W 0 (fun _ => true) true Tryz.f3.params.toList args.toList ds p := hA0
  rw [Tryz.params3] at hA hval
  have hA1 := hA
  obtain ⟨v0, vs0, d0, ds0, p0, q0, hargs0, rfl, rfl, h0, r0⟩ := trodAll_cons hA
  obtain ⟨v1, vs1, d1, ds1, p1, q1, rfl, rfl, rfl, h1, r1⟩ := trodAll_cons r0
  obtain ⟨v2, vs2, d2, ds2, p2, q2, rfl, rfl, rfl, h2, r2⟩ := trodAll_cons r1
  obtain ⟨rfl, rfl, rfl⟩ := trodAll_nil r2
  obtain rfl : args = #[v0, v1, v2] := by cases args; simp_all
  obtain ⟨rfl, rfl⟩ := trodVars_none hV
  obtain ⟨T, hT, hTl, hTs⟩ := Crd.open_cards (hval 0 22 v0 rfl rfl) h0
  obtain ⟨l, hl, hll, hlw⟩ := open_ops6 (hval 1 23 v1 rfl rfl) h1
  obtain ⟨o, rfl, ho⟩ := open_opW (hval 2 25 v2 rfl rfl) h2
  clear hval0
  simp only [List.append_nil] at hW'
  have hlt := fun x hx => hW'.lt x hx
  unfold maxLen at hll hTl
  refine (objectCopies_walk (o := o) hT (by omega) hl hlw (by omega) ho).mono fun e W' ⟨he, hb⟩ => ?_
  subst he
  exact ⟨_, rfl, post_below (pr := []) (pv := []) hW' (trodAll_cons_mk (shut_bool Tryz.underlying4 _) trodAll_mk0)
    (trodAll_stays laidOutT hb (by intro t ht; simp at ht; rcases ht with rfl | rfl | rfl <;> exact ⟨by kernel_rfl, of_decide_eq_true (by kernel_rfl)⟩) hA1 (by simpa using hlt)) rfl hb⟩

/-- The law ObjectCopies: for every table, all calls and every one more it returns true; each argument reads behind the call as it read before. -/
theorem objectCopies_holds : Rows.ObjectCopiesSaid :=
  OpenClaim.holds_of_wide 3 Tryz.f3 rfl rfl rfl rfl rfl rfl rfl ⟨rfl, rfl, rfl, rfl, rfl⟩ rfl rfl rfl rfl rfl (by kernel_rfl) Tryz.func3 (by kernel_rfl)
    (of_decide_eq_true (by kernel_rfl)) (by unfold Func.isWrapper; first | (rw [if_pos (by decide +kernel)]; kernel_rfl) | (rw [if_neg (by decide +kernel)]; exact ⟨rfl, rfl⟩))
    (fun os started H enc _ => objectCopies_lifted os started H enc)
end Go.Proofs.YtkhgdfalbmkgcaaGreat

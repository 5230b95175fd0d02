/- Two objects compared, cut out of an earlier text. -/
import Derived.Test.YtdlkdilgjmmlaaaGreatWm
import Derived.Test.YtdlkdilgjmmlaaaGreatWl
import Derived.Deep.AppendLies
import Derived.Maps.RangeWalk
import Derived.Deep.Cut
import Derived.RangeFuncFrom
import Derived.Maps.AppendAt
import Derived.Deep.RegionHeld3
namespace Go.Proofs.YtdlkdilgjmmlaaaGreat
open Go.RowKit Go.Maps
set_option maxHeartbeats 4000000 in
theorem eqObj (n : Nat) (a0 c0 a1 c1 a2 c2 a3 c3 a6 c6 a7 c7 a8 c8 a9 c9 : Int) (a4 c4 a5 c5 a10 c10 : Bool) (w : World) : (Op.equalIn (n + 2) 39 (.agg #[.int .i64 a0, .int .i64 a1, .int .i64 a2, .int .i64 a3, .bool a4, .bool a5, .int .i64 a6, .int .i64 a7, .int .i64 a8, .int .i64 a9, .bool a10]) (.agg #[.int .i64 c0, .int .i64 c1, .int .i64 c2, .int .i64 c3, .bool c4, .bool c5, .int .i64 c6, .int .i64 c7, .int .i64 c8, .int .i64 c9, .bool c10])).run Tryz.prog w = .ok (a0 == c0 && (a1 == c1 && (a2 == c2 && (a3 == c3 && (a4 == c4 && (a5 == c5 && (a6 == c6 && (a7 == c7 && (a8 == c8 && (a9 == c9 && (a10 == c10))))))))))) w := by
  have uI := Tryz.underlying3
  have gI := Tryz.isAgg3
  have zI := Tryz.sizeOf3
  have uB := Tryz.underlying4
  have gB := Tryz.isAgg4
  have zB := Tryz.sizeOf4
  have hS : Tryz.prog.underlying 39 = some (.struct (Tryz.prog.fieldsOf 39)) := by kernel_rfl
  rw [run_equalIn_agg w (n + 1) 39 _ _ hS (by kernel_rfl)]
  simp only [Program.fieldsOf, Tryz.underlying39]
  go_simp
  by_cases h0 : a0 = c0
  · subst h0
    by_cases h1 : a1 = c1
    · subst h1
      by_cases h2 : a2 = c2
      · subst h2
        by_cases h3 : a3 = c3
        · subst h3
          by_cases h4 : a4 = c4
          · subst h4
            by_cases h5 : a5 = c5
            · subst h5
              by_cases h6 : a6 = c6
              · subst h6
                by_cases h7 : a7 = c7
                · subst h7
                  by_cases h8 : a8 = c8
                  · subst h8
                    by_cases h9 : a9 = c9
                    · subst h9
                      by_cases h10 : a10 = c10
                      · subst h10
                        simp
                      · simp [h10]
                    · simp [h9]
                  · simp [h8]
                · simp [h7]
              · simp [h6]
            · simp [h5]
          · simp [h4]
        · simp [h3]
      · simp [h2]
    · simp [h1]
  · simp [h0]
theorem neqObj (a0 c0 a1 c1 a2 c2 a3 c3 a6 c6 a7 c7 a8 c8 a9 c9 : Int) (a4 c4 a5 c5 a10 c10 : Bool) (w : World) : (binOp .neq 39 (.agg #[.int .i64 a0, .int .i64 a1, .int .i64 a2, .int .i64 a3, .bool a4, .bool a5, .int .i64 a6, .int .i64 a7, .int .i64 a8, .int .i64 a9, .bool a10]) (.agg #[.int .i64 c0, .int .i64 c1, .int .i64 c2, .int .i64 c3, .bool c4, .bool c5, .int .i64 c6, .int .i64 c7, .int .i64 c8, .int .i64 c9, .bool c10])).run Tryz.prog w = .ok (.bool (!(a0 == c0 && (a1 == c1 && (a2 == c2 && (a3 == c3 && (a4 == c4 && (a5 == c5 && (a6 == c6 && (a7 == c7 && (a8 == c8 && (a9 == c9 && (a10 == c10))))))))))))) w := by
  rw [run_neq_struct, eqObj 9998]
  rfl
theorem neqgO (x y : Operand) (xs ys : Array Value) (W : World) : (eqGuard .neq 39 x y (.agg xs) (.agg ys)).run Tryz.prog W = .ok () W := run_eqGuard_agg W .neq 39 x y xs ys (by kernel_rfl)
end Go.Proofs.YtdlkdilgjmmlaaaGreat

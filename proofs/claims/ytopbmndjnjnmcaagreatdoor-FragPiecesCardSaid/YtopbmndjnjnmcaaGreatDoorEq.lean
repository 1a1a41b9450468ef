/- Comparing two pieces, as one law. -/
import Derived.Laws.StructEq
import Derived.KernelRfl
import Derived.Test.YtopbmndjnjnmcaaGreatDoorA1
namespace Go.Proofs.YtopbmndjnjnmcaaGreatDoor
open Go.RowKit

theorem guard33 : Tryz.prog.eqGuardType Tryz.prog.depth 127 = false := by kernel_rfl
theorem held33 : Tryz.prog.stoodInHeld 127 = false := by kernel_rfl
theorem fields33 : Tryz.prog.underlying 127 = some (.struct (Tryz.prog.fieldsOf 127)) := by kernel_rfl

theorem pn_guard (op : BinOp) (x y : Operand) (xs ys : Array Value) (w : World) : (eqGuard op 127 x y (.agg xs) (.agg ys)).run Tryz.prog w = .ok () w := run_eqGuard_agg w op 127 x y xs ys guard33

theorem pn_neq (a b c a' b' c' : Int) (w : World) : (Go.binOp .neq 127 (.agg #[.int .i64 a, .int .i64 b, .int .i64 c]) (.agg #[.int .i64 a', .int .i64 b', .int .i64 c'])).run Tryz.prog w = .ok (.bool (!(decide (a = a' ∧ b = b' ∧ c = c')))) w := by
  rw [run_neq_struct, run_equalIn_struct w 9999 127 _ _ fields33 held33]
  by_cases h1 : a = a' <;> by_cases h2 : b = b' <;> by_cases h3 : c = c' <;> simp [go_sem, h1, h2, h3]
theorem pn_eql (a b c a' b' c' : Int) (w : World) : (Go.binOp .eql 127 (.agg #[.int .i64 a, .int .i64 b, .int .i64 c]) (.agg #[.int .i64 a', .int .i64 b', .int .i64 c'])).run Tryz.prog w = .ok (.bool (decide (a = a' ∧ b = b' ∧ c = c'))) w := by
  rw [run_eql_struct, run_equalIn_struct w 9999 127 _ _ fields33 held33]
  by_cases h1 : a = a' <;> by_cases h2 : b = b' <;> by_cases h3 : c = c' <;> simp [go_sem, h1, h2, h3]
end Go.Proofs.YtopbmndjnjnmcaaGreatDoor

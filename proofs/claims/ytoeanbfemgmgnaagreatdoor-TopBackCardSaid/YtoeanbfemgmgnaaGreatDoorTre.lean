/- Layer 12: the walk of TopChunks over the program's reader. -/
import Derived.Test.YtoeanbfemgmgnaaGreatDoorTrc
import Derived.Laws.StructEq
namespace Go.Proofs.YtoeanbfemgmgnaaGreatDoor
open Go.ChangeShapes Go.WideShapes Go.ChangeAt Go.RowKit
set_option linter.unusedVariables false
set_option linter.unusedSimpArgs false

theorem flt_eq (a b c d : Int) (w : World) : (binOp .eql 45 (.agg #[.int .i64 a, .int .i64 b]) (.agg #[.int .i64 c, .int .i64 d])).run Tryz.prog w = .ok (.bool ((a == c) && (b == d))) w := by
  have hp : Tryz.prog.stoodInHeld 45 = false := by kernel_rfl
  simp [run_eql_struct, run_equalIn_agg, Program.fieldsOf, Tryz.underlying45, hp, Op.eqFields, go_sem]
  by_cases h1 : a = c <;> by_cases h2 : b = d <;> simp [h1, h2]
theorem deal2 {w : World} {g : Nat} {t : TypeId} {a b : Value} (h : StB w g t #[a, b]) : w.cell? ⟨g, 0, none⟩ = some a ∧ w.cell? ⟨g, 1, none⟩ = some b ∧ g < w.heap.size := ⟨h.cell 0, h.cell 1, h.lt⟩

end Go.Proofs.YtoeanbfemgmgnaaGreatDoor

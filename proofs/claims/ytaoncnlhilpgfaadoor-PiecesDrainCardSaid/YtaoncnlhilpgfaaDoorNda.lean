/- Layer 1, as far as layer 8 asks the document: Right, End, Ref. -/
import Derived.Test.YtaoncnlhilpgfaaDoorRows
import Derived.Test.YtaoncnlhilpgfaaDoorZk
namespace Go.Proofs.YtaoncnlhilpgfaaDoor
open Go.ChangeShapes Go.WideShapes Go.ChangeAt Go.RowKit
set_option linter.unusedVariables false
def okB (b : Int) : Bool := decide (b < 128) && (b != 13 && b != 10)
def endB (e : Int) : Bool := e == 1 || (e == 2 || e == 3)
def rightB (d q e : Int) : Bool := okB d && (okB q && (d != q && endB e))
def okR (b : Int) : Bool := !(decide (b < 0) || (decide (127 < b) || (b == 10 || b == 13)))
def rightR (d q e : Int) : Bool := okR d && (okR q && (d != q && endB e))
theorem right_eq (d q e : Int) (d0 : 0 ≤ d) (q0 : 0 ≤ q) : rightR d q e = rightB d q e := by
  have h : ∀ b : Int, 0 ≤ b → okR b = okB b := by
    intro b hb
    rw [Bool.eq_iff_iff]
    simp [okR, okB]
    omega
  simp [rightR, rightB, h d d0, h q q0]

set_option maxHeartbeats 400000 in
theorem ref_any (d q e : Int) (d0 : 0 ≤ d) (d1 : d ≤ 255) (q0 : 0 ≤ q) (q1 : q ≤ 255) (w : World) :
    Calls Tryd.prog 11 #[.agg #[.int .u8 d, .int .u8 q, .int .i64 e]] w fun x w' => x = .returned (.agg #[.int .i64 d, .int .i64 q, .int .i64 e]) ∧ Below w.heap.size w w' := by
  go_enter Tryd.func11, Tryd.ntmps11
  go_wp2
  refine bodyPost_ret (v := .agg #[.int .i64 d, .int .i64 q, .int .i64 e]) (by simp [results, Tryd.results11, go_sem]) rfl ⟨rfl, ((Below.refl _ _).alloc (Nat.le_refl _) _).alloc (by simp) _⟩

set_option maxHeartbeats 400000 in
theorem refRight_any (d q e : Int) (w : World) :
    Calls Tryd.prog 10 #[.agg #[.int .i64 d, .int .i64 q, .int .i64 e]] w fun x w' => x = .returned (.bool (rightR d q e)) ∧ Below w.heap.size w w' := by
  have i0 : ∀ w, (Instr.index 63 (.agg #[.int .i64 d, .int .i64 q]) (.int .i64 0)).run Tryd.prog w = .ok (.int .i64 d) w := fun _ => by kernel_rfl
  have i1 : ∀ w, (Instr.index 63 (.agg #[.int .i64 d, .int .i64 q]) (.int .i64 1)).run Tryd.prog w = .ok (.int .i64 q) w := fun _ => by kernel_rfl
  go_enter Tryd.func10, Tryd.ntmps10
  go_wp2
  go_rounds 3
  all_goals go_ret
  all_goals refine ⟨ret_bool ?_, (Below.refl _ _).alloc (Nat.le_refl _) _⟩
  all_goals go_light
  all_goals clear i0 i1
  all_goals (rw [Bool.eq_iff_iff]; simp [rightR, okR, endB] at *; try omega)
theorem refRight_is (d q e : Int) (v : Bool) (hv : Hid (rightR d q e = v)) (w : World) :
    Calls Tryd.prog 10 #[.agg #[.int .i64 d, .int .i64 q, .int .i64 e]] w fun x w' => x = .returned (.bool v) ∧ Below w.heap.size w w' := by
  rw [← hv.out]; exact refRight_any d q e w

end Go.Proofs.YtaoncnlhilpgfaaDoor

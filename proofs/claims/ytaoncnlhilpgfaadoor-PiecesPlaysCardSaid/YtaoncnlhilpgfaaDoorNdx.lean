/- Layer 1: the document's End. -/
import Derived.Test.YtaoncnlhilpgfaaDoorNda
import Derived.Test.YtaoncnlhilpgfaaDoorZk
import Derived.Test.YtaoncnlhilpgfaaDoorZp
namespace Go.Proofs.YtaoncnlhilpgfaaDoor
open Go.ChangeShapes Go.WideShapes Go.ChangeAt Go.RowKit
set_option linter.unusedVariables false
set_option linter.unusedSimpArgs false
def endO (e : Int) : ByteArray := if e = 2 then ⟨#[13, 10]⟩ else ⟨#[10]⟩
theorem refEnd_any (d q e : Int) (w : World) :
    Calls Tryd.prog 35 #[.agg #[.int .i64 d, .int .i64 q, .int .i64 e]] w fun x w' => x = .returned (.string (endO e)) ∧ Below w.heap.size w w' := by
  by_cases h : e = 2
  · have HE := Lib.hid (show endO e = ⟨#[13, 10]⟩ by unfold endO; rw [if_pos h])
    have hb : (e == 2) = true := by simpa using h
    clear h
    go_enter Tryd.func35, Tryd.ntmps35
    go_wp2
    all_goals go_ret
    all_goals exact ⟨by rw [HE.out]; rfl, (by (repeat (first | exact Below.refl _ _ | refine up_alloc ?_ _ | refine up_onto ?_ _)))⟩
  · have HE := Lib.hid (show endO e = ⟨#[10]⟩ by unfold endO; rw [if_neg h])
    have hb : (e == 2) = false := by simpa using h
    clear h
    go_enter Tryd.func35, Tryd.ntmps35
    go_wp2
    all_goals go_ret
    all_goals exact ⟨by rw [HE.out]; rfl, (by (repeat (first | exact Below.refl _ _ | refine up_alloc ?_ _ | refine up_onto ?_ _)))⟩
theorem refEnd_is (d q e : Int) (E : ByteArray) (hE : Hid (endO e = E)) (w : World) :
    Calls Tryd.prog 35 #[.agg #[.int .i64 d, .int .i64 q, .int .i64 e]] w fun x w' => x = .returned (.string E) ∧ Below w.heap.size w w' := by
  rw [← hE.out]; exact refEnd_any d q e w
theorem bl_endO (e : Int) : bl (endO e) = endL e := by
  unfold endO endL; split <;> rfl
end Go.Proofs.YtaoncnlhilpgfaaDoor

/- Layer 12: the statements' right; the walk of TopReads over the program's reader. -/
import Derived.Test.YtoeanbfemgmgnaaTrb
import Derived.Test.YtoeanbfemgmgnaaZn
import Derived.Test.YtoeanbfemgmgnaaQrf
import Derived.Test.YtoeanbfemgmgnaaZk
namespace Go.Proofs.Ytoeanbfemgmgnaa
open Go.ChangeShapes Go.WideShapes Go.ChangeAt Go.RowKit
set_option linter.unusedVariables false
set_option linter.unusedSimpArgs false

def AliveSays : Prop := ∀ w : World, Calls Try.prog 8 #[] w fun x w' => x = .returned (.bool true) ∧ Below w.heap.size w w'
theorem refFits_is (a b c u : Int) (v : Bool) (hv : Hid ((withinB a && (withinB b && withinB c)) = v)) (w : World) :
    Calls Try.prog 22 #[.agg #[.int .i64 a, .int .i64 b, .int .i64 c, .int .i64 u]] w fun x w' => x = .returned (.bool v) ∧ Below w.heap.size w w' := by
  rw [← hv.out]; exact refFits_any a b c u w
theorem refLimits_is (a b c : Int) (u : Bool) (n : Int) (hn : Hid (bit u = n)) (w : World) :
    Calls Try.prog 12 #[.agg #[.int .i64 a, .int .i64 b, .int .i64 c, .bool u]] w fun x w' => x = .returned (.agg #[.int .i64 a, .int .i64 b, .int .i64 c, .int .i64 n]) ∧ Below w.heap.size w w' := by
  rw [← hn.out]; exact refLimits_any a b c u w
set_option maxRecDepth 100000 in
set_option maxHeartbeats 1600000 in
theorem right12_is (d q e lf ls lr : Int) (un : Bool) (d0 : 0 ≤ d) (d1 : d ≤ 255) (q0 : 0 ≤ q) (q1 : q ≤ 255) (v : Bool) (hv : Hid ((rightB d q e && (withinB lf && (withinB ls && withinB lr))) = v)) (w : World) :
    Calls Try.prog 7 #[.agg #[.int .u8 d, .int .u8 q, .int .i64 e, .int .i64 lf, .int .i64 ls, .int .i64 lr, .bool un]] w fun x w' => x = .returned (.bool v) ∧ Below w.heap.size w w' := by
  obtain ⟨r, hr⟩ : ∃ r, rightB d q e = r := ⟨_, rfl⟩
  obtain ⟨f, hf⟩ : ∃ f, (withinB lf && (withinB ls && withinB lr)) = f := ⟨_, rfl⟩
  obtain ⟨n, hn⟩ : ∃ n, bit un = n := ⟨_, rfl⟩
  have HR := Lib.hid (show rightR d q e = r by rw [right_eq d q e d0 q0]; exact hr)
  have HF := Lib.hid hf
  have HN := Lib.hid hn
  have HV := Lib.hid (show (r && f) = v by rw [← hr, ← hf]; exact hv.out)
  clear hv hr hf hn
  cases r
  · cases HV.out
    go_enter Try.func7, Try.ntmps7
    go_wp2_with (first
      | (go_at_call 11; with_reducible refine (above (ref_any d q e d0 d1 q0 q1 _)).mono ?_; rintro x _ ⟨rfl, y, rfl⟩)
      | (go_at_call 20; with_reducible refine (above (refRight_is d q e _ HR _)).mono ?_; rintro x _ ⟨rfl, y, rfl⟩))
    go_ret
    exact ⟨rfl, (by (repeat (first | exact Below.refl _ _ | refine up_onto ?_ _ | refine up_alloc ?_ _)))⟩
  · cases HV.out
    go_enter Try.func7, Try.ntmps7
    go_wp2_with (first
      | (go_at_call 11; with_reducible refine (above (ref_any d q e d0 d1 q0 q1 _)).mono ?_; rintro x _ ⟨rfl, y, rfl⟩)
      | (go_at_call 20; with_reducible refine (above (refRight_is d q e _ HR _)).mono ?_; rintro x _ ⟨rfl, y, rfl⟩)
      | (go_at_call 12; with_reducible refine (above (refLimits_is lf ls lr un _ HN _)).mono ?_; rintro x _ ⟨rfl, y, rfl⟩)
      | (go_at_call 22; with_reducible refine (above (refFits_is lf ls lr _ _ HF _)).mono ?_; rintro x _ ⟨rfl, y, rfl⟩))
    go_ret
    exact ⟨rfl, (by (repeat (first | exact Below.refl _ _ | refine up_onto ?_ _ | refine up_alloc ?_ _)))⟩
end Go.Proofs.Ytoeanbfemgmgnaa

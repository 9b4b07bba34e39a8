/- The walks of the statements DialectChecks and DialectLimits: the Go text returns true and leaves all that was there as it was. -/
import Derived.Test.YtkpcebpbhacgpaaDic
namespace Go.Proofs.Ytkpcebpbhacgpaa
open Go.ChangeShapes Go.WideShapes Go.ChangeAt Go.RowKit
set_option linter.unusedVariables false

set_option maxHeartbeats 800000 in
theorem dialectLimits_walk (a b c : Int) (u : Bool) (w : World) (_ : (Lit.int .i64 a).wf = true) (_ : (Lit.int .i64 b).wf = true) (_ : (Lit.int .i64 c).wf = true) : Calls Try.prog 4 #[.agg #[.int .i64 a, .int .i64 b, .int .i64 c, .bool u]] w fun x w' => x = .returned (.bool true) ∧ Below w.heap.size w w' := by
  have hw : (withinB 2147483648 && (withinB 2147483648 && withinB 2147483648)) = true := by decide
  have heq : ∀ w, (binOp .eql 37 (.agg #[.int .i64 2147483648, .int .i64 2147483648, .int .i64 2147483648, .bool false]) (.agg #[.int .i64 2147483648, .int .i64 2147483648, .int .i64 2147483648, .bool false])).run Try.prog w = .ok (.bool true) w := fun _ => by kernel_rfl
  have HW := Lib.hid hw
  clear hw
  cases h : (withinB a && (withinB b && withinB c))
  all_goals
    have H := Lib.hid h
    clear h
    go_enter Try.func4, Try.ntmps4
    go_wp2_with (first
      | (go_at_call 16; ((with_reducible refine (above (refLimits_any _ _ _ _ _)).mono ?_); rintro x _ ⟨rfl, y1, rfl⟩))
      | (go_at_call 15; ((with_reducible refine (above (refFits_any _ _ _ _ _)).mono ?_); rw [H.out]; rintro x _ ⟨rfl, y2, rfl⟩))
      | (go_at_call 17; ((with_reducible refine (above (wide_any _)).mono ?_); rintro x _ ⟨rfl, y3, rfl⟩))
      | (go_at_call 18; ((with_reducible refine (above (checkLimits_yes _ _ _ _ H.out _)).mono ?_); rintro x _ ⟨rfl, y4, rfl⟩))
      | (go_at_call 18; ((with_reducible refine (above (checkLimits_no _ _ _ _ H.out _)).mono ?_); rintro x _ ⟨rfl, y4, rfl⟩))
      | (go_at_call 18; ((with_reducible refine (above (checkLimits_yes _ _ _ _ HW.out _)).mono ?_); rintro x _ ⟨rfl, y4, rfl⟩))
      | (go_at_call 12; ((with_reducible refine (above (awake_any _)).mono ?_); rintro x _ ⟨rfl, y5, rfl⟩)))
    go_ret
    refine ⟨rfl, ?_⟩
    (repeat (first | exact Below.refl _ _ | refine up_alloc ?_ _ | refine up_onto ?_ _ | refine up_drew ?_ | refine up_set ?_ (by first | (simp; done) | (simp; omega)) _))

theorem wf_u8 {x : Int} (h : (Lit.int .u8 x).wf = true) : 0 ≤ x ∧ x ≤ 255 := bounds_u8 h

set_option maxHeartbeats 1600000 in
theorem dialectChecks_walk (d q e : Int) (w : World) (hd : (Lit.int .u8 d).wf = true) (hq : (Lit.int .u8 q).wf = true) (_ : (Lit.int .i64 e).wf = true) :
    Calls Try.prog 3 #[.agg #[.int .u8 d, .int .u8 q, .int .i64 e]] w fun x w' => x = .returned (.bool true) ∧ Below w.heap.size w w' := by
  obtain ⟨d0, d1⟩ := wf_u8 hd
  obtain ⟨q0, q1⟩ := wf_u8 hq
  clear hd hq
  have he := right_eq d q e d0 q0
  have HE := Lib.hid he
  clear he
  cases h : rightB d q e
  · have H := Lib.hid h
    clear h
    go_enter Try.func3, Try.ntmps3
    go_wp2_with (first
      | (go_at_call 7; ((with_reducible refine (above (text_no _ _ _ d0 d1 q0 q1 H.out _)).mono ?_); rintro x _ ⟨rfl, y, rfl⟩))
      | (go_at_call 9; ((with_reducible refine (above (ref_any _ _ _ d0 d1 q0 q1 _)).mono ?_); rintro x _ ⟨rfl, y, rfl⟩))
      | (go_at_call 8; ((with_reducible refine (above (refRight_any _ _ _ _)).mono ?_); rw [HE.out, H.out]; rintro x _ ⟨rfl, y, rfl⟩))
      | (go_at_call 10; ((with_reducible refine (above (check_no _ _ _ d0 d1 q0 q1 H.out _)).mono ?_); rintro x _ ⟨rfl, y, rfl⟩))
      | (go_at_call 11; ((with_reducible refine (above (end_no _ _ _ d0 d1 q0 q1 H.out _)).mono ?_); rintro x _ ⟨rfl, y, rfl⟩))
      | (go_at_call 12; ((with_reducible refine (above (awake_any _)).mono ?_); rintro x _ ⟨rfl, y, rfl⟩)))
    go_ret
    refine ⟨rfl, ?_⟩
    (repeat (first | exact Below.refl _ _ | refine up_alloc ?_ _ | refine up_onto ?_ _ | refine up_drew ?_ | refine up_set ?_ (by first | (simp; done) | (simp; omega)) _))
  · have hends := right_ends h
    have H := Lib.hid h
    have HENDS := Lib.hid hends
    clear h hends
    go_enter Try.func3, Try.ntmps3
    go_wp2_with (first
      | (go_at_call 7; ((with_reducible refine (above (text_yes _ _ _ d0 d1 q0 q1 H.out _)).mono ?_); rintro x _ ⟨rfl, y, rfl⟩))
      | (go_at_call 9; ((with_reducible refine (above (ref_any _ _ _ d0 d1 q0 q1 _)).mono ?_); rintro x _ ⟨rfl, y, rfl⟩))
      | (go_at_call 8; ((with_reducible refine (above (refRight_any _ _ _ _)).mono ?_); rw [HE.out, H.out]; rintro x _ ⟨rfl, y, rfl⟩)))
    refine wp_region_onto (by kernel_rfl) (by kernel_rfl) ?_
    repeat (go_big_quiet_step (first
      | (go_at_call 9; exact calls_onto (ref_any _ _ _ d0 d1 q0 q1 _))
      | (go_at_call 14; exact calls_onto (refText_any _ _ _ d0 d1 q0 q1 HENDS.out _))
      | (go_at_call 13; exact calls_onto (refEnd_any _ _ _ _))
      | (go_at_call 10; exact calls_onto (check_yes _ _ _ d0 d1 q0 q1 H.out _))
      | (go_at_call 11; exact calls_onto (end_yes _ _ _ d0 d1 q0 q1 H.out _))
      | (go_at_call 12; exact calls_onto (awake_any _))))
    refine wpQuiet_nil ?_
    intro _ hw'
    obtain ⟨x1, hw''⟩ := hw'
    subst hw''
    go_wp2_with fail
    go_ret
    refine ⟨rfl, ?_⟩
    (repeat (first | exact Below.refl _ _ | refine up_alloc ?_ _ | refine up_onto ?_ _ | refine up_drew ?_ | refine up_set ?_ (by first | (simp; done) | (simp; omega)) _))
end Go.Proofs.Ytkpcebpbhacgpaa

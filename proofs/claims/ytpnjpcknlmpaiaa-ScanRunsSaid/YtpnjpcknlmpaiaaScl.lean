/- Layer 4: the walk of the statement ScanSteps. -/
import Derived.Test.YtpnjpcknlmpaiaaSci
import Derived.Test.YtpnjpcknlmpaiaaScr
namespace Go.Proofs.Ytpnjpcknlmpaiaa
open Go.ChangeShapes Go.WideShapes Go.ChangeAt Go.RowKit
set_option linter.unusedVariables false
set_option linter.unusedSimpArgs false

set_option maxHeartbeats 800000 in
theorem scanSteps_walk0 (HR : Hid RefStepIs) (d q e st b : Int) (w : World) (hd : (Lit.int .u8 d).wf = true) (hq : (Lit.int .u8 q).wf = true) (he : (Lit.int .i64 e).wf = true) (hst : (Lit.int .u8 st).wf = true) (hb : (Lit.int .u8 b).wf = true) :
    Calls Try.prog 3 #[.agg #[.int .u8 d, .int .u8 q, .int .i64 e], .int .u8 st, .int .u8 b] w fun x w' => x = .returned (.bool true) ∧ Below w.heap.size w w' := by
  obtain ⟨d0, d1⟩ := bounds_u8 hd
  obtain ⟨q0, q1⟩ := bounds_u8 hq
  obtain ⟨s0, s1⟩ := bounds_u8 hst
  obtain ⟨b0, b1⟩ := bounds_u8 hb
  have n0 : 0 ≤ st % 7 := by omega
  have n6 : st % 7 ≤ 6 := by omega
  clear hd hq he hst hb
  cases hr : right4 d q e
  · have R := Lib.hid hr
    clear hr
    go_enter Try.func3, Try.ntmps3
    go_wp2_with (first
      | (go_at_call 8; ((with_reducible refine (above (ref_any _ _ _ d0 d1 q0 q1 _)).mono ?_); rintro x _ ⟨rfl, y, rfl⟩))
      | (go_at_call 7; ((with_reducible refine (above (refRight_is _ _ _ _ R _)).mono ?_); rintro x _ ⟨rfl, y2, rfl⟩))
      | (go_at_call 9; ((with_reducible refine (above (scAwake_any _)).mono ?_); rintro x _ ⟨rfl, y3, rfl⟩)))
    go_ret
    exact ⟨rfl, (by (repeat (first | exact Below.refl _ _ | refine up_alloc ?_ _ | refine up_onto ?_ _)))⟩
  · have R := Lib.hid hr
    have hz := stepR_b (d := d) (q := q) (e := e) (s := st % 7) b0 b1
    obtain ⟨⟨⟨bg, ad, fi, li, re, pb⟩, n, k⟩, hv⟩ : ∃ v, stepR d q e (st % 7) b = v := ⟨_, rfl⟩
    rw [hv] at hz
    obtain ⟨p0, p1⟩ := hz
    have V := Lib.hid hv
    have hre := scRef_eql
    clear hv hr
    go_enter Try.func3, Try.ntmps3
    go_wp2_with (first
      | (go_at_call 8; ((with_reducible refine (above (ref_any _ _ _ d0 d1 q0 q1 _)).mono ?_); rintro x _ ⟨rfl, y, rfl⟩))
      | (go_at_call 7; ((with_reducible refine (above (refRight_is _ _ _ _ R _)).mono ?_); rintro x _ ⟨rfl, y2, rfl⟩))
      | (go_at_call 10; ((with_reducible refine (above (step_is d q e _ b n0 n6 _ _ _ _ _ _ _ _ V _)).mono ?_); rintro x _ ⟨rfl, y3, rfl⟩))
      | (go_at_call 11; ((with_reducible refine (above (HR.out d q e _ b n0 n6 R _ _ _ _ _ _ _ _ V _)).mono ?_); rintro x _ ⟨rfl, y4, rfl⟩)))
    refine wp_region_onto (by kernel_rfl) (by kernel_rfl) ?_
    repeat (go_big_quiet_step (first
      | (go_at_call 12; exact calls_onto (refEv_any _ _ _ _ _ _ p0 p1 _))
      | (go_at_call 9; exact calls_onto (scAwake_any _))))
    refine wpQuiet_nil ?_
    intro _ hw'
    obtain ⟨zz, hw''⟩ := hw'
    subst hw''
    go_wp2_with fail
    go_ret
    exact ⟨rfl, (by (repeat (first | exact Below.refl _ _ | refine up_alloc ?_ _ | refine up_onto ?_ _)))⟩
end Go.Proofs.Ytpnjpcknlmpaiaa

/- Layer 4: the walk of the statement ScanCloses. -/
import Derived.Test.YtpnjpcknlmpaiaaSci
namespace Go.Proofs.Ytpnjpcknlmpaiaa
open Go.ChangeShapes Go.WideShapes Go.ChangeAt Go.RowKit
set_option linter.unusedVariables false
set_option linter.unusedSimpArgs false

theorem closeE_zero (s : Int) : 0 ≤ (closeE s).b ∧ (closeE s).b ≤ 255 := by rw [closeE_b]; omega
set_option maxHeartbeats 800000 in
theorem scanCloses_walk (st : Int) (w : World) (hst : (Lit.int .u8 st).wf = true) : Calls Try.prog 4 #[.int .u8 st] w fun x w' => x = .returned (.bool true) ∧ Below w.heap.size w w' := by
  obtain ⟨s0, s1⟩ := bounds_u8 hst
  have n0 : 0 ≤ st % 7 := by omega
  have n6 : st % 7 ≤ 6 := by omega
  have hz := closeE_zero (st % 7)
  obtain ⟨⟨bg, ad, fi, li, re, pb⟩, hv⟩ : ∃ v, closeE (st % 7) = v := ⟨_, rfl⟩
  obtain ⟨k, hk⟩ : ∃ v, closeK (st % 7) = v := ⟨_, rfl⟩
  rw [hv] at hz
  obtain ⟨p0, p1⟩ := hz
  have V := Lib.hid hv
  have KV := Lib.hid hk
  have hre := scRef_eql
  clear hv hk hst
  go_enter Try.func4, Try.ntmps4
  go_wp2_with (first
    | (go_at_call 13; ((with_reducible refine (above (close_is _ n0 n6 _ _ _ _ _ _ _ V KV _)).mono ?_); rintro x _ ⟨rfl, y, rfl⟩))
    | (go_at_call 14; ((with_reducible refine (above (refClose_is _ n0 n6 _ _ _ _ _ _ _ V KV _)).mono ?_); rintro x _ ⟨rfl, y2, rfl⟩)))
  refine wp_region_onto (by kernel_rfl) (by kernel_rfl) ?_
  repeat (go_big_quiet_step (first
    | (go_at_call 12; exact calls_onto (refEv_any _ _ _ _ _ _ p0 p1 _))
    | (go_at_call 9; exact calls_onto (scAwake_any _))))
  refine wpQuiet_nil ?_
  intro _ hw'
  obtain ⟨zz, hw''⟩ := hw'
  subst hw''
  go_wp2_with fail
  go_ret
  exact ⟨rfl, (by (repeat (first | exact Below.refl _ _ | refine up_alloc ?_ _ | refine up_onto ?_ _)))⟩
end Go.Proofs.Ytpnjpcknlmpaiaa

/- Layer 4: the walk of the statement ScanRuns: all its inputs. -/
import Derived.Test.YtpnjpcknlmpaiaaScm
namespace Go.Proofs.Ytpnjpcknlmpaiaa
open Go.ChangeShapes Go.WideShapes Go.ChangeAt Go.RowKit
set_option linter.unusedVariables false
set_option linter.unusedSimpArgs false

set_option maxHeartbeats 1600000 in
set_option maxRecDepth 100000 in
theorem scanRuns_walk0 (HR : Hid RefStepIs) (d q e : Int) (s : ByteArray) (w : World) (hd : (Lit.int .u8 d).wf = true) (hq : (Lit.int .u8 q).wf = true) (he : (Lit.int .i64 e).wf = true) (hs : s.size ≤ maxLen) :
    Calls Try.prog 5 #[.agg #[.int .u8 d, .int .u8 q, .int .i64 e], .string s] w fun x w' => x = .returned (.bool true) ∧ Below w.heap.size w w' := by
  obtain ⟨d0, d1⟩ := bounds_u8 hd
  obtain ⟨q0, q1⟩ := bounds_u8 hq
  have hs1 : s.size ≤ 9223372036854775807 := hs
  clear hd hq he hs
  by_cases hl : s.size ≤ 300
  · cases hr : right4 d q e
    · have R := Lib.hid hr
      clear hr HR
      go_enter Try.func5, Try.ntmps5
      go_wp2_with (first
        | (go_at_call 8; ((with_reducible refine (above (ref_any _ _ _ d0 d1 q0 q1 _)).mono ?_); rintro x _ ⟨rfl, y, rfl⟩))
        | (go_at_call 7; ((with_reducible refine (above (refRight_is _ _ _ _ R _)).mono ?_); rintro x _ ⟨rfl, y2, rfl⟩))
        | (go_at_call 9; ((with_reducible refine (above (scAwake_any _)).mono ?_); rintro x _ ⟨rfl, y3, rfl⟩)))
      go_ret
      exact ⟨rfl, (by (repeat (first | exact Below.refl _ _ | refine up_alloc ?_ _ | refine up_onto ?_ _)))⟩
    · exact scanRuns_yes HR d q e s w d0 d1 q0 q1 hl (Lib.hid hr)
  · have hl' : 300 < s.size := by omega
    clear HR
    go_enter Try.func5, Try.ntmps5
    go_wp2_with (first
      | (go_at_call 9; ((with_reducible refine (above (scAwake_any _)).mono ?_); rintro x _ ⟨rfl, y3, rfl⟩)))
    go_ret
    exact ⟨rfl, (by (repeat (first | exact Below.refl _ _ | refine up_alloc ?_ _ | refine up_onto ?_ _)))⟩
end Go.Proofs.Ytpnjpcknlmpaiaa

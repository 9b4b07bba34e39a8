/- The walk of the statement DialectBack. -/
import Derived.Test.YtkpcebpbhacgpaaDir
namespace Go.Proofs.Ytkpcebpbhacgpaa
open Go.ChangeShapes Go.WideShapes Go.ChangeAt Go.RowKit
set_option linter.unusedVariables false

set_option maxHeartbeats 1600000 in
theorem dialectBack_walk (d q e d' q' e' : Int) (w : World) (hd : (Lit.int .u8 d).wf = true) (hq : (Lit.int .u8 q).wf = true) (_ : (Lit.int .i64 e).wf = true) (hd' : (Lit.int .u8 d').wf = true) (hq' : (Lit.int .u8 q').wf = true) (_ : (Lit.int .i64 e').wf = true) :
    Calls Try.prog 6 #[.agg #[.int .u8 d, .int .u8 q, .int .i64 e], .agg #[.int .u8 d', .int .u8 q', .int .i64 e']] w fun x w' => x = .returned (.bool true) ∧ Below w.heap.size w w' := by
  obtain ⟨d0, d1⟩ := bounds_u8 hd
  obtain ⟨q0, q1⟩ := bounds_u8 hq
  obtain ⟨d0', d1'⟩ := bounds_u8 hd'
  obtain ⟨q0', q1'⟩ := bounds_u8 hq'
  clear hd hq hd' hq'
  have heq := dialect_eql
  cases h : rightB d q e
  · have H := Lib.hid h
    clear h
    cases h' : rightB d' q' e'
    all_goals
      have H' := Lib.hid h'
      clear h'
      go_enter Try.func6, Try.ntmps6
      go_wp2_with fail
      refine (above (text_no _ _ _ d0 d1 q0 q1 H.out _)).mono ?_
      rintro x _ ⟨rfl, y, rfl⟩
      go_wp2_with fail
      first | refine (above (text_no _ _ _ d0' d1' q0' q1' H'.out _)).mono ?_ | refine (above (text_yes _ _ _ d0' d1' q0' q1' H'.out _)).mono ?_
      rintro x _ ⟨rfl, y, rfl⟩
      go_wp2_with fail
      refine (above (awake_any _)).mono ?_
      rintro x _ ⟨rfl, y, rfl⟩
      go_wp2_with fail
      go_ret
      refine ⟨rfl, ?_⟩
      (repeat (first | exact Below.refl _ _ | refine up_alloc ?_ _ | refine up_onto ?_ _ | refine up_drew ?_ | refine up_set ?_ (by first | (simp; done) | (simp; omega)) _))
  · have H := Lib.hid h
    clear h
    cases h' : rightB d' q' e'
    · have H' := Lib.hid h'
      clear h'
      go_enter Try.func6, Try.ntmps6
      go_wp2_with fail
      refine (above (text_yes _ _ _ d0 d1 q0 q1 H.out _)).mono ?_
      rintro x _ ⟨rfl, y, rfl⟩
      go_wp2_with fail
      refine (above (text_no _ _ _ d0' d1' q0' q1' H'.out _)).mono ?_
      rintro x _ ⟨rfl, y, rfl⟩
      go_wp2_with fail
      refine (above (awake_any _)).mono ?_
      rintro x _ ⟨rfl, y, rfl⟩
      go_wp2_with fail
      go_ret
      refine ⟨rfl, ?_⟩
      (repeat (first | exact Below.refl _ _ | refine up_alloc ?_ _ | refine up_onto ?_ _ | refine up_drew ?_ | refine up_set ?_ (by first | (simp; done) | (simp; omega)) _))
    · have hs := eqB_self d q e
      have hx : ((textS d q e).toList == (textS d' q' e').toList) = eqB d q e d' q' e' := by
        rw [Bool.eq_iff_iff]
        simp only [beq_iff_eq, eqB, Bool.and_eq_true]
        constructor
        · intro hl
          rw [ByteArray.toList_eq, ByteArray.toList_eq] at hl
          exact text_inj d0 d1 q0 q1 (right_ends H.out) d0' d1' q0' q1' (right_ends h') (ByteArray.ext (Array.toList_inj.1 hl))
        · rintro ⟨rfl, rfl, rfl⟩; rfl
      have H' := Lib.hid h'
      clear h'
      go_enter Try.func6, Try.ntmps6
      go_wp2_with fail
      refine (above (text_yes _ _ _ d0 d1 q0 q1 H.out _)).mono ?_
      rintro x _ ⟨rfl, y, rfl⟩
      go_wp2_with fail
      refine (above (text_yes _ _ _ d0' d1' q0' q1' H'.out _)).mono ?_
      rintro x _ ⟨rfl, y, rfl⟩
      go_wp2_with fail
      refine (above (parse_text _ _ _ d0 d1 q0 q1 H.out _)).mono ?_
      rintro x _ ⟨rfl, y, rfl⟩
      go_wp2_with ((go_at_call 12; ((with_reducible refine (above (awake_any _)).mono ?_); rintro x _ ⟨rfl, y, rfl⟩)))
      go_ret
      refine ⟨rfl, ?_⟩
      (repeat (first | exact Below.refl _ _ | refine up_alloc ?_ _ | refine up_onto ?_ _ | refine up_drew ?_ | refine up_set ?_ (by first | (simp; done) | (simp; omega)) _))
end Go.Proofs.Ytkpcebpbhacgpaa

/- Layer 5: the document's example. -/
import Derived.Test.YtghlacpjnehdfaaFii
namespace Go.Proofs.Ytghlacpjnehdfaa
open Go.ChangeShapes Go.WideShapes Go.ChangeAt Go.RowKit
set_option linter.unusedVariables false
set_option linter.unusedSimpArgs false

theorem aw1 : mTake ⟨true, true, false, false, false, 97⟩ (mk0 2 1 1 false) = ⟨2, 1, 1, false, [97], [], 1, 0, 0, 0⟩ ∧ mRec ⟨true, true, false, false, false, 97⟩ (mk0 2 1 1 false) = [] ∧ mTold ⟨true, true, false, false, false, 97⟩ (mk0 2 1 1 false) = false := by
  simp [mTake, mThen, mGather, mB, mA, mF, mL, mk0, mRec, mTold]
theorem aw2 : mTake ⟨false, true, false, false, false, 98⟩ ⟨2, 1, 1, false, [97], [], 1, 0, 0, 0⟩ = ⟨2, 1, 1, false, [97, 98], [], 1, 0, 0, 0⟩ ∧ mRec ⟨false, true, false, false, false, 98⟩ ⟨2, 1, 1, false, [97], [], 1, 0, 0, 0⟩ = [] ∧ mTold ⟨false, true, false, false, false, 98⟩ ⟨2, 1, 1, false, [97], [], 1, 0, 0, 0⟩ = false := by
  simp [mTake, mThen, mGather, mB, mA, mF, mL, mk0, mRec, mTold]
theorem aw3 : mTake ⟨false, true, false, false, false, 99⟩ ⟨2, 1, 1, false, [97, 98], [], 1, 0, 0, 0⟩ = ⟨2, 1, 1, false, [97, 98], [], 1, 0, 0, 7⟩ ∧ mRec ⟨false, true, false, false, false, 99⟩ ⟨2, 1, 1, false, [97, 98], [], 1, 0, 0, 0⟩ = [] ∧ mTold ⟨false, true, false, false, false, 99⟩ ⟨2, 1, 1, false, [97, 98], [], 1, 0, 0, 0⟩ = false := by
  simp [mTake, mThen, mGather, mB, mA, mF, mL, mk0, mRec, mTold]

set_option maxHeartbeats 3200000 in
theorem awake_any (w : World) : Calls Try.prog 7 #[] w fun x w' => x = .returned (.bool true) ∧ Below w.heap.size w w' := by
  have HY := Lib.hid (show (withinB 2 && (withinB 1 && withinB 1)) = true by decide)
  obtain ⟨a1, a2, a3⟩ := aw1
  obtain ⟨b1, b2, b3⟩ := aw2
  obtain ⟨d1, d2, d3⟩ := aw3
  have A1 := Lib.hid a1
  have A2 := Lib.hid a2
  have A3 := Lib.hid a3
  have B1 := Lib.hid b1
  have B2 := Lib.hid b2
  have B3 := Lib.hid b3
  have D1 := Lib.hid d1
  have D2 := Lib.hid d2
  have D3 := Lib.hid d3
  have ok0 := mk0_ok 2 1 1 false HY.out
  have ok1 := ok_take ⟨true, true, false, false, false, 97⟩ ok0
  rw [a1] at ok1
  have ok2 := ok_take ⟨false, true, false, false, false, 98⟩ ok1
  rw [b1] at ok2
  have OK0 := Lib.hid ok0
  have OK1 := Lib.hid ok1
  have OK2 := Lib.hid ok2
  clear a1 a2 a3 b1 b2 b3 d1 d2 d3 ok0 ok1 ok2
  go_enter Try.func7, Try.ntmps7
  go_wp2_with fail
  refine (new_yes 2 1 1 false HY w).mono ?_
  rintro x w1 ⟨g, S0, rfl, m0, hS0, hb0⟩
  go_wp2_with fail
  refine (take_is g ⟨true, true, false, false, false, 97⟩ _ S0 0 (by omega) OK0 (by decide) (by decide) _ _ 0 _ 0 A1 A2 (Lib.hid rfl) A3 (Lib.hid rfl) w1 m0).mono ?_
  rintro x w2 ⟨q1, c1, rfl, h1⟩
  obtain ⟨_, S1, m1, t1, u1, _⟩ := h1.out
  have M1 := Lib.hid m1
  have T1 := Lib.hid t1
  have U1 := Lib.hid u1
  clear h1 m1 t1 u1
  go_wp2_with fail
  refine (take_is g ⟨false, true, false, false, false, 98⟩ _ S1 1 (by omega) OK1 (by decide) (by decide) _ _ 0 _ 0 B1 B2 (Lib.hid rfl) B3 (Lib.hid rfl) w2 M1).mono ?_
  rintro x w3 ⟨q2, c2, rfl, h2⟩
  obtain ⟨_, S2, m2, t2, u2, _⟩ := h2.out
  have M2 := Lib.hid m2
  have T2 := Lib.hid (T1.out.trans U1.out t2)
  have U2 := Lib.hid (U1.out.trans T1.out.size u2)
  clear h2 m2 t2 u2 T1 U1
  go_wp2_with fail
  refine (take_is g ⟨false, true, false, false, false, 99⟩ _ S2 2 (by omega) OK2 (by decide) (by decide) _ _ 0 _ 7 D1 D2 (Lib.hid rfl) D3 (Lib.hid rfl) w3 M2).mono ?_
  rintro x w4 ⟨q3, c3, rfl, h3⟩
  obtain ⟨_, S3, m3, t3, u3, _⟩ := h3.out
  have M3 := Lib.hid m3
  have T3 := Lib.hid (T2.out.trans U2.out t3)
  clear h3 m3 t3 u3 T2 U2
  go_wp2_with fail
  refine (open_is g _ S3 (by decide) 0 ⟨#[97, 98]⟩ (Lib.hid rfl) (Lib.hid (by decide)) w4 M3).mono ?_
  rintro x w5 ⟨q4, c4, rfl, ho, hb⟩
  have M5 := Lib.hid (M3.out.below hb.out)
  go_wp2_with fail
  refine (begun_is g _ S3 1 (Lib.hid rfl) w5 M5).mono ?_
  rintro x _ ⟨rfl, rfl⟩
  go_wp2_with fail
  go_ret
  exact ⟨rfl, hb0.out.trans (((T3.out.then_below hb.out).below hb0.out.size hS0.out))⟩
end Go.Proofs.Ytghlacpjnehdfaa

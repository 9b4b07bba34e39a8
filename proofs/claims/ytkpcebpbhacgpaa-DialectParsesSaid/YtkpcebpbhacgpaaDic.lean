/- Layer 1, the rest: the document's Text and Fits, the checks of limits, the document's example. -/
import Derived.Test.YtkpcebpbhacgpaaDib
namespace Go.Proofs.Ytkpcebpbhacgpaa
open Go.ChangeShapes Go.WideShapes Go.ChangeAt Go.RowKit
set_option linter.unusedVariables false

theorem hexS_parts (b : Int) : (⟨#[hexd (b / 16)]⟩ : ByteArray) ++ ⟨#[hexd (b % 16)]⟩ = hexS b := by
  apply ByteArray.ext; simp [hexS, ByteArray.data_append]
theorem hexS_parts' (x : ByteArray) (b : Int) : x ++ (⟨#[hexd (b / 16)]⟩ : ByteArray) ++ ⟨#[hexd (b % 16)]⟩ = x ++ hexS b := by
  rw [← hexS_parts, ByteArray.append_assoc]
theorem text_parts (d q e : Int) : (⟨#[hexd (d / 16)]⟩ : ByteArray) ++ ⟨#[hexd (d % 16)]⟩ ++ ⟨#[32]⟩ ++ ⟨#[hexd (q / 16)]⟩ ++ ⟨#[hexd (q % 16)]⟩ ++ ⟨#[32]⟩ ++ wordS e = textS d q e := by
  rw [hexS_parts, hexS_parts']; rfl

set_option maxHeartbeats 800000 in
theorem refText_any (d q e : Int) (d0 : 0 ≤ d) (d1 : d ≤ 255) (q0 : 0 ≤ q) (q1 : q ≤ 255) (he : e = 1 ∨ e = 2 ∨ e = 3) (w : World) :
    Calls Try.prog 14 #[.agg #[.int .i64 d, .int .i64 q, .int .i64 e]] w fun x w' => x = .returned (.string (textS d q e)) ∧ Below w.heap.size w w' := by
  have hix : ∀ w, (Instr.index 55 (.agg #[.string ⟨#[]⟩, .string ⟨#[108, 102]⟩, .string ⟨#[99, 114, 108, 102]⟩, .string ⟨#[101, 105, 116, 104, 101, 114]⟩]) (.int .i64 e)).run Try.prog w = .ok (.string (wordS e)) w := by
    intro w; rcases he with rfl | rfl | rfl <;> kernel_rfl
  have hws := wordS_size e
  have k0 : 0 ≤ d / 16 := by omega
  have k1 : d / 16 < 16 := by omega
  have k2 : 0 ≤ d % 16 := by omega
  have k3 : d % 16 < 16 := by omega
  have l0 : 0 ≤ q / 16 := by omega
  have l1 : q / 16 < 16 := by omega
  have l2 : 0 ≤ q % 16 := by omega
  have l3 : q % 16 < 16 := by omega
  clear he
  go_enter Try.func14, Try.ntmps14
  go_wp2_with fail
  refine wp_region_onto (by kernel_rfl) (by kernel_rfl) ?_
  repeat (go_big_quiet_step ((go_at_call 24; exact calls_onto (refDigit_any _ (by assumption) (by assumption) _))))
  refine wpQuiet_nil ?_
  intro _ hw'
  obtain ⟨x1, hw''⟩ := hw'
  subst hw''
  go_wp2_with fail
  go_ret
  exact ⟨ret_string (text_parts d q e), below_onto ((Below.refl _ _).alloc (Nat.le_refl _) _) (by simp) _⟩

theorem awake_any (w : World) : Calls Try.prog 12 #[] w fun x w' => x = .returned (.bool true) ∧ Below w.heap.size w w' := by
  have ht : textS 44 34 2 = ⟨#[50, 99, 32, 50, 50, 32, 99, 114, 108, 102]⟩ := by decide
  have HT := Lib.hid ht
  clear ht
  go_enter Try.func12, Try.ntmps12
  go_wp2_with fail
  refine (text_yes 44 34 2 (by decide) (by decide) (by decide) (by decide) (by decide) _).mono ?_
  rintro x w1 ⟨rfl, hb⟩
  rw [HT.out]
  go_wp2_with fail
  go_ret
  exact ⟨rfl, hb.mono (by simp)⟩

set_option maxHeartbeats 400000 in
theorem refFits_any (a b c u : Int) (w : World) :
    Calls Try.prog 15 #[.agg #[.int .i64 a, .int .i64 b, .int .i64 c, .int .i64 u]] w fun x w' => x = .returned (.bool (withinB a && (withinB b && withinB c))) ∧ Below w.heap.size w w' := by
  have i0 : ∀ w, (Instr.index 56 (.agg #[.int .i64 a, .int .i64 b, .int .i64 c]) (.int .i64 0)).run Try.prog w = .ok (.int .i64 a) w := fun _ => by kernel_rfl
  have i1 : ∀ w, (Instr.index 56 (.agg #[.int .i64 a, .int .i64 b, .int .i64 c]) (.int .i64 1)).run Try.prog w = .ok (.int .i64 b) w := fun _ => by kernel_rfl
  have i2 : ∀ w, (Instr.index 56 (.agg #[.int .i64 a, .int .i64 b, .int .i64 c]) (.int .i64 2)).run Try.prog w = .ok (.int .i64 c) w := fun _ => by kernel_rfl
  go_enter Try.func15, Try.ntmps15
  go_wp2
  go_rounds 4
  all_goals go_ret
  all_goals refine ⟨ret_bool ?_, (Below.refl _ _).alloc (Nat.le_refl _) _⟩
  all_goals go_light
  all_goals clear i0 i1 i2
  all_goals (rw [Bool.eq_iff_iff]; simp [withinB] at *; try omega)

def bit (u : Bool) : Int := if u then 1 else 0
set_option maxHeartbeats 400000 in
theorem refLimits_any (a b c : Int) (u : Bool) (w : World) :
    Calls Try.prog 16 #[.agg #[.int .i64 a, .int .i64 b, .int .i64 c, .bool u]] w fun x w' => x = .returned (.agg #[.int .i64 a, .int .i64 b, .int .i64 c, .int .i64 (bit u)]) ∧ Below w.heap.size w w' := by
  cases u
  all_goals
    go_enter Try.func16, Try.ntmps16
    go_wp2
    refine bodyPost_ret (v := .agg #[.int .i64 a, .int .i64 b, .int .i64 c, .int .i64 (bit _)]) (by simp [results, Try.results16, go_sem, bit]) rfl ⟨rfl, ?_⟩
    (repeat (first | exact Below.refl _ _ | refine up_alloc ?_ _ | refine up_onto ?_ _ | refine up_drew ?_ | refine up_set ?_ (by first | (simp; done) | (simp; omega)) _))

theorem checkLimits_yes (a b c : Int) (u : Bool) (h : (withinB a && (withinB b && withinB c)) = true) (w : World) :
    Calls Try.prog 18 #[.agg #[.int .i64 a, .int .i64 b, .int .i64 c, .bool u]] w fun x w' => x = .returned (.int .i64 0) ∧ Below w.heap.size w w' := by
  simp only [Bool.and_eq_true] at h
  obtain ⟨ha, hb, hc⟩ := h
  go_enter Try.func18, Try.ntmps18
  go_wp2_with (go_at_call 25; refine (within_any _ _).mono ?_; rintro e w' ⟨rfl, rfl⟩)
  go_ret
  exact ⟨rfl, (Below.refl _ _).alloc (Nat.le_refl _) _⟩
theorem checkLimits_no (a b c : Int) (u : Bool) (h : (withinB a && (withinB b && withinB c)) = false) (w : World) :
    Calls Try.prog 18 #[.agg #[.int .i64 a, .int .i64 b, .int .i64 c, .bool u]] w fun x w' => x = .returned (.int .i64 2) ∧ Below w.heap.size w w' := by
  have hh : withinB a = false ∨ (withinB a = true ∧ withinB b = false) ∨ (withinB a = true ∧ withinB b = true ∧ withinB c = false) := by
    cases ha : withinB a <;> cases hb : withinB b <;> cases hc : withinB c <;> simp_all
  clear h
  rcases hh with ha | ⟨ha, hb⟩ | ⟨ha, hb, hc⟩
  all_goals
    go_enter Try.func18, Try.ntmps18
    go_wp2_with (go_at_call 25; refine (within_any _ _).mono ?_; rintro e w' ⟨rfl, rfl⟩)
    go_ret
    exact ⟨rfl, (Below.refl _ _).alloc (Nat.le_refl _) _⟩
theorem wide_any (w : World) :
    Calls Try.prog 17 #[] w fun x w' => x = .returned (.agg #[.int .i64 2147483648, .int .i64 2147483648, .int .i64 2147483648, .bool false]) ∧ Below w.heap.size w w' := by
  go_enter Try.func17, Try.ntmps17
  go_wp2
  refine bodyPost_ret (v := .agg #[.int .i64 2147483648, .int .i64 2147483648, .int .i64 2147483648, .bool false]) (by simp [results, Try.results17, go_sem]) rfl ⟨rfl, ?_⟩
  (repeat (first | exact Below.refl _ _ | refine up_alloc ?_ _ | refine up_onto ?_ _ | refine up_drew ?_ | refine up_set ?_ (by first | (simp; done) | (simp; omega)) _))
end Go.Proofs.Ytkpcebpbhacgpaa

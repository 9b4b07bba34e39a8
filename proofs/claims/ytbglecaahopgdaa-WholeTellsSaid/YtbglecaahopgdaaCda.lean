/- Layer 1, as far as layer 6 calls it: Check, CheckLimits, Wide; the document's own Right, Fits and how they are asked. -/
import Derived.Test.YtbglecaahopgdaaRows
import Derived.Test.YtbglecaahopgdaaKit
import Derived.Test.YtbglecaahopgdaaPmk
namespace Go.Proofs.Ytbglecaahopgdaa
open Go.ChangeShapes Go.WideShapes Go.ChangeAt Go.RowKit
set_option linter.unusedVariables false
def okB (b : Int) : Bool := decide (b < 128) && (b != 13 && b != 10)
def endB (e : Int) : Bool := e == 1 || (e == 2 || e == 3)
def wordS (e : Int) : ByteArray := if e = 1 then ⟨#[108, 102]⟩ else if e = 2 then ⟨#[99, 114, 108, 102]⟩ else if e = 3 then ⟨#[101, 105, 116, 104, 101, 114]⟩ else ⟨#[]⟩
def rightB (d q e : Int) : Bool := okB d && (okB q && (d != q && endB e))
set_option maxHeartbeats 400000 in
theorem usable_any (b : Int) (h0 : 0 ≤ b) (h1 : b ≤ 255) (w : World) : Calls Try.prog 47 #[.int .u8 b] w fun e w' => e = .returned (.bool (okB b)) ∧ w = w' := by
  go_enter Try.func47, Try.ntmps47
  go_wp2
  all_goals go_ret
  all_goals exact ⟨ret_bool (by simp [okB]; try omega), rfl⟩

set_option maxHeartbeats 400000 in
theorem within_any (n : Int) (w : World) : Calls Try.prog 55 #[.int .i64 n] w fun e w' => e = .returned (.bool (withinB n)) ∧ w = w' := by
  go_enter Try.func55, Try.ntmps55
  go_wp2
  all_goals go_ret
  all_goals exact ⟨ret_bool (by simp [withinB]; try omega), rfl⟩

set_option maxHeartbeats 400000 in
theorem word_any (b : Int) (w : World) : Calls Try.prog 48 #[.int .i64 b] w fun e w' => e = .returned (.string (wordS b)) ∧ w = w' := by
  go_enter Try.func48, Try.ntmps48
  go_wp2
  all_goals go_ret
  all_goals exact ⟨ret_string (by simp_all [wordS]), rfl⟩

set_option maxHeartbeats 400000 in
theorem check_yes (d q e : Int) (d0 : 0 ≤ d) (d1 : d ≤ 255) (q0 : 0 ≤ q) (q1 : q ≤ 255) (h : rightB d q e = true) (w : World) :
    Calls Try.prog 36 #[.agg #[.int .u8 d, .int .u8 q, .int .i64 e]] w fun x w' => x = .returned (.int .i64 0) ∧ Below w.heap.size w w' := by
  simp only [rightB, Bool.and_eq_true] at h
  obtain ⟨a, b, c, f⟩ := h
  have c' : (d == q) = false := by simpa using c
  have f' : e = 1 ∨ e = 2 ∨ e = 3 := by simpa [endB] using f
  rcases f' with rfl | rfl | rfl
  all_goals
    clear c f
    go_enter Try.func36, Try.ntmps36
    go_wp2_with (first | (go_at_call 47; refine (usable_any _ (by assumption) (by assumption) _).mono ?_; rintro e w' ⟨rfl, rfl⟩) | (go_at_call 48; refine (word_any _ _).mono ?_; rintro e w' ⟨rfl, rfl⟩; simp only [wordS]))
    go_ret
    exact ⟨rfl, (Below.refl _ _).alloc (Nat.le_refl _) _⟩
set_option maxHeartbeats 400000 in
theorem check_no (d q e : Int) (d0 : 0 ≤ d) (d1 : d ≤ 255) (q0 : 0 ≤ q) (q1 : q ≤ 255) (h : rightB d q e = false) (w : World) :
    Calls Try.prog 36 #[.agg #[.int .u8 d, .int .u8 q, .int .i64 e]] w fun x w' => x = .returned (.int .i64 1) ∧ Below w.heap.size w w' := by
  have H := Lib.hid h
  clear h
  by_cases a : okB d = true
  · by_cases b : okB q = true
    · by_cases c : (d == q) = true
      · clear H
        go_enter Try.func36, Try.ntmps36
        go_wp2_with (first | (go_at_call 47; refine (usable_any _ (by assumption) (by assumption) _).mono ?_; rintro e w' ⟨rfl, rfl⟩) | (go_at_call 48; refine (word_any _ _).mono ?_; rintro e w' ⟨rfl, rfl⟩; simp only [wordS]))
        go_ret
        exact ⟨rfl, (Below.refl _ _).alloc (Nat.le_refl _) _⟩
      · have c' : (d == q) = false := by simpa using c
        have f : endB e = false := by
          have := H.out
          simp only [rightB, a, b, bne, c', Bool.true_and, Bool.not_false] at this
          exact this
        have n : wordS e = ⟨#[]⟩ := by simp [endB] at f; simp [wordS, f]
        have N := Lib.hid n
        clear n f c H
        go_enter Try.func36, Try.ntmps36
        go_wp2_with (first | (go_at_call 47; refine (usable_any _ (by assumption) (by assumption) _).mono ?_; rintro e w' ⟨rfl, rfl⟩) | (go_at_call 48; refine (word_any _ _).mono ?_; rintro e w' ⟨rfl, rfl⟩; rw [N.out]))
        go_ret
        exact ⟨rfl, (Below.refl _ _).alloc (Nat.le_refl _) _⟩
    · have b' : okB q = false := by simpa using b
      clear b H
      go_enter Try.func36, Try.ntmps36
      go_wp2_with (first | (go_at_call 47; refine (usable_any _ (by assumption) (by assumption) _).mono ?_; rintro e w' ⟨rfl, rfl⟩))
      go_ret
      exact ⟨rfl, (Below.refl _ _).alloc (Nat.le_refl _) _⟩
  · have a' : okB d = false := by simpa using a
    clear a H
    go_enter Try.func36, Try.ntmps36
    go_wp2_with (first | (go_at_call 47; refine (usable_any _ (by assumption) (by assumption) _).mono ?_; rintro e w' ⟨rfl, rfl⟩))
    go_ret
    exact ⟨rfl, (Below.refl _ _).alloc (Nat.le_refl _) _⟩
def okR (b : Int) : Bool := !(decide (b < 0) || (decide (127 < b) || (b == 10 || b == 13)))
def rightR (d q e : Int) : Bool := okR d && (okR q && (d != q && endB e))
theorem right_eq (d q e : Int) (d0 : 0 ≤ d) (q0 : 0 ≤ q) : rightR d q e = rightB d q e := by
  have h : ∀ b : Int, 0 ≤ b → okR b = okB b := by
    intro b hb
    rw [Bool.eq_iff_iff]
    simp [okR, okB]
    omega
  simp [rightR, rightB, h d d0, h q q0]

set_option maxHeartbeats 400000 in
theorem ref_any (d q e : Int) (d0 : 0 ≤ d) (d1 : d ≤ 255) (q0 : 0 ≤ q) (q1 : q ≤ 255) (w : World) :
    Calls Try.prog 10 #[.agg #[.int .u8 d, .int .u8 q, .int .i64 e]] w fun x w' => x = .returned (.agg #[.int .i64 d, .int .i64 q, .int .i64 e]) ∧ Below w.heap.size w w' := by
  go_enter Try.func10, Try.ntmps10
  go_wp2
  refine bodyPost_ret (v := .agg #[.int .i64 d, .int .i64 q, .int .i64 e]) (by simp [results, Try.results10, go_sem]) rfl ⟨rfl, ((Below.refl _ _).alloc (Nat.le_refl _) _).alloc (by simp) _⟩

set_option maxHeartbeats 400000 in
theorem refRight_any (d q e : Int) (w : World) :
    Calls Try.prog 9 #[.agg #[.int .i64 d, .int .i64 q, .int .i64 e]] w fun x w' => x = .returned (.bool (rightR d q e)) ∧ Below w.heap.size w w' := by
  have i0 : ∀ w, (Instr.index 58 (.agg #[.int .i64 d, .int .i64 q]) (.int .i64 0)).run Try.prog w = .ok (.int .i64 d) w := fun _ => by kernel_rfl
  have i1 : ∀ w, (Instr.index 58 (.agg #[.int .i64 d, .int .i64 q]) (.int .i64 1)).run Try.prog w = .ok (.int .i64 q) w := fun _ => by kernel_rfl
  go_enter Try.func9, Try.ntmps9
  go_wp2
  go_rounds 3
  all_goals go_ret
  all_goals refine ⟨ret_bool ?_, (Below.refl _ _).alloc (Nat.le_refl _) _⟩
  all_goals go_light
  all_goals clear i0 i1
  all_goals (rw [Bool.eq_iff_iff]; simp [rightR, okR, endB] at *; try omega)
theorem right_ends {d q e : Int} (h : rightB d q e = true) : e = 1 ∨ e = 2 ∨ e = 3 := by
  simp only [rightB, Bool.and_eq_true] at h
  simpa [endB] using h.2.2.2
theorem right_bytes {d q e : Int} (h : rightB d q e = true) : d < 128 ∧ q < 128 := by
  simp [rightB, okB] at h
  omega

set_option maxHeartbeats 400000 in
theorem refFits_any (a b c u : Int) (w : World) :
    Calls Try.prog 11 #[.agg #[.int .i64 a, .int .i64 b, .int .i64 c, .int .i64 u]] w fun x w' => x = .returned (.bool (withinB a && (withinB b && withinB c))) ∧ Below w.heap.size w w' := by
  have i0 : ∀ w, (Instr.index 59 (.agg #[.int .i64 a, .int .i64 b, .int .i64 c]) (.int .i64 0)).run Try.prog w = .ok (.int .i64 a) w := fun _ => by kernel_rfl
  have i1 : ∀ w, (Instr.index 59 (.agg #[.int .i64 a, .int .i64 b, .int .i64 c]) (.int .i64 1)).run Try.prog w = .ok (.int .i64 b) w := fun _ => by kernel_rfl
  have i2 : ∀ w, (Instr.index 59 (.agg #[.int .i64 a, .int .i64 b, .int .i64 c]) (.int .i64 2)).run Try.prog w = .ok (.int .i64 c) w := fun _ => by kernel_rfl
  go_enter Try.func11, Try.ntmps11
  go_wp2
  go_rounds 4
  all_goals go_ret
  all_goals refine ⟨ret_bool ?_, (Below.refl _ _).alloc (Nat.le_refl _) _⟩
  all_goals go_light
  all_goals clear i0 i1 i2
  all_goals (rw [Bool.eq_iff_iff]; simp [withinB] at *; try omega)

def bit (u : Bool) : Int := if u then 1 else 0
set_option maxHeartbeats 400000 in
theorem refLimits_any (a b c : Int) (u : Bool) (w : World) :
    Calls Try.prog 12 #[.agg #[.int .i64 a, .int .i64 b, .int .i64 c, .bool u]] w fun x w' => x = .returned (.agg #[.int .i64 a, .int .i64 b, .int .i64 c, .int .i64 (bit u)]) ∧ Below w.heap.size w w' := by
  cases u
  all_goals
    go_enter Try.func12, Try.ntmps12
    go_wp2
    refine bodyPost_ret (v := .agg #[.int .i64 a, .int .i64 b, .int .i64 c, .int .i64 (bit _)]) (by simp [results, Try.results12, go_sem, bit]) rfl ⟨rfl, ?_⟩
    (repeat (first | exact Below.refl _ _ | refine up_alloc ?_ _ | refine up_onto ?_ _ | refine up_drew ?_ | refine up_set ?_ (by first | (simp; done) | (simp; omega)) _))

theorem checkLimits_yes (a b c : Int) (u : Bool) (h : (withinB a && (withinB b && withinB c)) = true) (w : World) :
    Calls Try.prog 49 #[.agg #[.int .i64 a, .int .i64 b, .int .i64 c, .bool u]] w fun x w' => x = .returned (.int .i64 0) ∧ Below w.heap.size w w' := by
  simp only [Bool.and_eq_true] at h
  obtain ⟨ha, hb, hc⟩ := h
  go_enter Try.func49, Try.ntmps49
  go_wp2_with (go_at_call 55; refine (within_any _ _).mono ?_; rintro e w' ⟨rfl, rfl⟩)
  go_ret
  exact ⟨rfl, (Below.refl _ _).alloc (Nat.le_refl _) _⟩
theorem checkLimits_no (a b c : Int) (u : Bool) (h : (withinB a && (withinB b && withinB c)) = false) (w : World) :
    Calls Try.prog 49 #[.agg #[.int .i64 a, .int .i64 b, .int .i64 c, .bool u]] w fun x w' => x = .returned (.int .i64 2) ∧ Below w.heap.size w w' := by
  have hh : withinB a = false ∨ (withinB a = true ∧ withinB b = false) ∨ (withinB a = true ∧ withinB b = true ∧ withinB c = false) := by
    cases ha : withinB a <;> cases hb : withinB b <;> cases hc : withinB c <;> simp_all
  clear h
  rcases hh with ha | ⟨ha, hb⟩ | ⟨ha, hb, hc⟩
  all_goals
    go_enter Try.func49, Try.ntmps49
    go_wp2_with (go_at_call 55; refine (within_any _ _).mono ?_; rintro e w' ⟨rfl, rfl⟩)
    go_ret
    exact ⟨rfl, (Below.refl _ _).alloc (Nat.le_refl _) _⟩
theorem wide_any (w : World) :
    Calls Try.prog 25 #[] w fun x w' => x = .returned (.agg #[.int .i64 2147483648, .int .i64 2147483648, .int .i64 2147483648, .bool false]) ∧ Below w.heap.size w w' := by
  go_enter Try.func25, Try.ntmps25
  go_wp2
  refine bodyPost_ret (v := .agg #[.int .i64 2147483648, .int .i64 2147483648, .int .i64 2147483648, .bool false]) (by simp [results, Try.results25, go_sem]) rfl ⟨rfl, ?_⟩
  (repeat (first | exact Below.refl _ _ | refine up_alloc ?_ _ | refine up_onto ?_ _ | refine up_drew ?_ | refine up_set ?_ (by first | (simp; done) | (simp; omega)) _))
end Go.Proofs.Ytbglecaahopgdaa

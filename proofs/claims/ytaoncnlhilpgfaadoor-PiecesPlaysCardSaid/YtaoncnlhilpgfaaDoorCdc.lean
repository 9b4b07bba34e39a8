/- Layer 1: the program's Check. -/
import Derived.Test.YtaoncnlhilpgfaaDoorNda
namespace Go.Proofs.YtaoncnlhilpgfaaDoor
open Go.ChangeShapes Go.WideShapes Go.ChangeAt Go.RowKit
set_option linter.unusedVariables false
set_option linter.unusedSimpArgs false

def wordS (e : Int) : ByteArray := if e = 1 then ⟨#[108, 102]⟩ else if e = 2 then ⟨#[99, 114, 108, 102]⟩ else if e = 3 then ⟨#[101, 105, 116, 104, 101, 114]⟩ else ⟨#[]⟩
set_option maxHeartbeats 400000 in
theorem usable_any (b : Int) (h0 : 0 ≤ b) (h1 : b ≤ 255) (w : World) : Calls Tryd.prog 36 #[.int .u8 b] w fun e w' => e = .returned (.bool (okB b)) ∧ w = w' := by
  go_enter Tryd.func36, Tryd.ntmps36
  go_wp2
  all_goals go_ret
  all_goals exact ⟨ret_bool (by simp [okB]; try omega), rfl⟩

set_option maxHeartbeats 400000 in
theorem word_any (b : Int) (w : World) : Calls Tryd.prog 37 #[.int .i64 b] w fun e w' => e = .returned (.string (wordS b)) ∧ w = w' := by
  go_enter Tryd.func37, Tryd.ntmps37
  go_wp2
  all_goals go_ret
  all_goals exact ⟨ret_string (by simp_all [wordS]), rfl⟩

set_option maxHeartbeats 400000 in
theorem check_yes (d q e : Int) (d0 : 0 ≤ d) (d1 : d ≤ 255) (q0 : 0 ≤ q) (q1 : q ≤ 255) (h : rightB d q e = true) (w : World) :
    Calls Tryd.prog 27 #[.agg #[.int .u8 d, .int .u8 q, .int .i64 e]] w fun x w' => x = .returned (.int .i64 0) ∧ Below w.heap.size w w' := by
  simp only [rightB, Bool.and_eq_true] at h
  obtain ⟨a, b, c, f⟩ := h
  have c' : (d == q) = false := by simpa using c
  have f' : e = 1 ∨ e = 2 ∨ e = 3 := by simpa [endB] using f
  rcases f' with rfl | rfl | rfl
  all_goals
    clear c f
    go_enter Tryd.func27, Tryd.ntmps27
    go_wp2_with (first | (go_at_call 36; refine (usable_any _ (by assumption) (by assumption) _).mono ?_; rintro e w' ⟨rfl, rfl⟩) | (go_at_call 37; refine (word_any _ _).mono ?_; rintro e w' ⟨rfl, rfl⟩; simp only [wordS]))
    go_ret
    exact ⟨rfl, (Below.refl _ _).alloc (Nat.le_refl _) _⟩
set_option maxHeartbeats 400000 in
theorem check_no (d q e : Int) (d0 : 0 ≤ d) (d1 : d ≤ 255) (q0 : 0 ≤ q) (q1 : q ≤ 255) (h : rightB d q e = false) (w : World) :
    Calls Tryd.prog 27 #[.agg #[.int .u8 d, .int .u8 q, .int .i64 e]] w fun x w' => x = .returned (.int .i64 1) ∧ Below w.heap.size w w' := by
  have H := Lib.hid h
  clear h
  by_cases a : okB d = true
  · by_cases b : okB q = true
    · by_cases c : (d == q) = true
      · clear H
        go_enter Tryd.func27, Tryd.ntmps27
        go_wp2_with (first | (go_at_call 36; refine (usable_any _ (by assumption) (by assumption) _).mono ?_; rintro e w' ⟨rfl, rfl⟩) | (go_at_call 37; refine (word_any _ _).mono ?_; rintro e w' ⟨rfl, rfl⟩; simp only [wordS]))
        go_ret
        exact ⟨rfl, (Below.refl _ _).alloc (Nat.le_refl _) _⟩
      · have c' : (d == q) = false := by simpa using c
        have f : endB e = false := by
          have := H.out
          simp only [rightB, a, b, bne, c', Bool.true_and, Bool.not_false] at this
          exact this
        have n : wordS e = ⟨#[]⟩ := by simp [endB] at f; simp [wordS, f]
        have N := Lib.hid n
        clear n f c H
        go_enter Tryd.func27, Tryd.ntmps27
        go_wp2_with (first | (go_at_call 36; refine (usable_any _ (by assumption) (by assumption) _).mono ?_; rintro e w' ⟨rfl, rfl⟩) | (go_at_call 37; refine (word_any _ _).mono ?_; rintro e w' ⟨rfl, rfl⟩; rw [N.out]))
        go_ret
        exact ⟨rfl, (Below.refl _ _).alloc (Nat.le_refl _) _⟩
    · have b' : okB q = false := by simpa using b
      clear b H
      go_enter Tryd.func27, Tryd.ntmps27
      go_wp2_with (first | (go_at_call 36; refine (usable_any _ (by assumption) (by assumption) _).mono ?_; rintro e w' ⟨rfl, rfl⟩))
      go_ret
      exact ⟨rfl, (Below.refl _ _).alloc (Nat.le_refl _) _⟩
  · have a' : okB d = false := by simpa using a
    clear a H
    go_enter Tryd.func27, Tryd.ntmps27
    go_wp2_with (first | (go_at_call 36; refine (usable_any _ (by assumption) (by assumption) _).mono ?_; rintro e w' ⟨rfl, rfl⟩))
    go_ret
    exact ⟨rfl, (Below.refl _ _).alloc (Nat.le_refl _) _⟩
end Go.Proofs.YtaoncnlhilpgfaaDoor

/- More contracts of layer 1: End, Text, and the document's own answers Right, End, Text, Fits; the two that turn a dialect and limits into the document's. -/
import Derived.Test.YtkpcebpbhacgpaaDia
namespace Go.Proofs.Ytkpcebpbhacgpaa
open Go.ChangeShapes Go.WideShapes Go.ChangeAt Go.RowKit
set_option linter.unusedVariables false

def endS (e : Int) : ByteArray := if e = 2 then ⟨#[13, 10]⟩ else ⟨#[10]⟩
def textS (d q e : Int) : ByteArray := hexS d ++ ⟨#[32]⟩ ++ hexS q ++ ⟨#[32]⟩ ++ wordS e

@[go_sem] theorem hexS_size (b : Int) : (hexS b).size = 2 := rfl
theorem wordS_size (e : Int) : (wordS e).size ≤ 6 := by unfold wordS; (repeat' split) <;> decide
theorem right_ends {d q e : Int} (h : rightB d q e = true) : e = 1 ∨ e = 2 ∨ e = 3 := by
  simp only [rightB, Bool.and_eq_true] at h
  simpa [endB] using h.2.2.2
theorem right_bytes {d q e : Int} (h : rightB d q e = true) : d < 128 ∧ q < 128 := by
  simp [rightB, okB] at h
  omega

set_option maxHeartbeats 400000 in
theorem end_yes (d q e : Int) (d0 : 0 ≤ d) (d1 : d ≤ 255) (q0 : 0 ≤ q) (q1 : q ≤ 255) (h : rightB d q e = true) (w : World) :
    Calls Try.prog 11 #[.agg #[.int .u8 d, .int .u8 q, .int .i64 e]] w fun x w' => x = .returned (.string (endS e)) ∧ Below w.heap.size w w' := by
  rcases right_ends h with rfl | rfl | rfl
  all_goals
    have H := Lib.hid h
    clear h
    go_enter Try.func11, Try.ntmps11
    go_wp2_with fail
    refine (check_yes _ _ _ d0 d1 q0 q1 H.out _).mono ?_
    rintro x w1 ⟨rfl, hb⟩
    obtain ⟨hc, hf⟩ := bcell hb
    go_wp2_with fail
    go_ret
    exact ⟨rfl, ((Below.refl _ _).alloc (Nat.le_refl _) _).trans (hb.mono (by simp))⟩
set_option maxHeartbeats 400000 in
theorem end_no (d q e : Int) (d0 : 0 ≤ d) (d1 : d ≤ 255) (q0 : 0 ≤ q) (q1 : q ≤ 255) (h : rightB d q e = false) (w : World) :
    Calls Try.prog 11 #[.agg #[.int .u8 d, .int .u8 q, .int .i64 e]] w fun x w' => x = .returned (.string ⟨#[]⟩) ∧ Below w.heap.size w w' := by
  have H := Lib.hid h
  clear h
  go_enter Try.func11, Try.ntmps11
  go_wp2_with fail
  refine (check_no _ _ _ d0 d1 q0 q1 H.out _).mono ?_
  rintro x w1 ⟨rfl, hb⟩
  obtain ⟨hc, hf⟩ := bcell hb
  go_wp2_with fail
  go_ret
  exact ⟨rfl, ((Below.refl _ _).alloc (Nat.le_refl _) _).trans (hb.mono (by simp))⟩

set_option maxHeartbeats 400000 in
theorem text_no (d q e : Int) (d0 : 0 ≤ d) (d1 : d ≤ 255) (q0 : 0 ≤ q) (q1 : q ≤ 255) (h : rightB d q e = false) (w : World) :
    Calls Try.prog 7 #[.agg #[.int .u8 d, .int .u8 q, .int .i64 e]] w fun x w' => x = .returned (.tuple #[.string ⟨#[]⟩, .int .i64 1]) ∧ Below w.heap.size w w' := by
  have H := Lib.hid h
  clear h
  go_enter Try.func7, Try.ntmps7
  go_wp2_with fail
  refine (check_no _ _ _ d0 d1 q0 q1 H.out _).mono ?_
  rintro x w1 ⟨rfl, hb⟩
  obtain ⟨hc, hf⟩ := bcell hb
  go_wp2_with fail
  go_ret2
  exact ⟨rfl, ((Below.refl _ _).alloc (Nat.le_refl _) _).trans (hb.mono (by simp))⟩
set_option maxHeartbeats 400000 in
theorem text_yes (d q e : Int) (d0 : 0 ≤ d) (d1 : d ≤ 255) (q0 : 0 ≤ q) (q1 : q ≤ 255) (h : rightB d q e = true) (w : World) :
    Calls Try.prog 7 #[.agg #[.int .u8 d, .int .u8 q, .int .i64 e]] w fun x w' => x = .returned (.tuple #[.string (textS d q e), .int .i64 0]) ∧ Below w.heap.size w w' := by
  have H := Lib.hid h
  clear h
  go_enter Try.func7, Try.ntmps7
  go_wp2_with fail
  refine (check_yes _ _ _ d0 d1 q0 q1 H.out _).mono ?_
  rintro x w1 ⟨rfl, hb⟩
  obtain ⟨hc, hf⟩ := bcell hb
  have hs : w.heap.size < w1.heap.size := by have := hb.size; simp at this; omega
  go_wp2_with fail
  have hws := wordS_size e
  refine wp_region_onto (by kernel_rfl) (by kernel_rfl) ?_
  repeat (go_big_quiet_step (first | (go_at_call 21; exact calls_onto (hex_any _ (by assumption) (by assumption) _)) | (go_at_call 22; exact calls_onto_same (word_any _ _))))
  refine wpQuiet_nil ?_
  intro _ hw'
  obtain ⟨x1, hw''⟩ := hw'
  subst hw''
  go_wp2_with fail
  go_ret2
  refine ⟨?_, ?_⟩
  · rfl
  · exact below_onto (((Below.refl _ _).alloc (Nat.le_refl _) _).trans (hb.mono (by simp))) (by omega) _

/-! ### The document's own answers -/
def okR (b : Int) : Bool := !(decide (b < 0) || (decide (127 < b) || (b == 10 || b == 13)))
def rightR (d q e : Int) : Bool := okR d && (okR q && (d != q && endB e))
theorem right_eq (d q e : Int) (d0 : 0 ≤ d) (q0 : 0 ≤ q) : rightR d q e = rightB d q e := by
  have h : ∀ b : Int, 0 ≤ b → okR b = okB b := by
    intro b hb
    rw [Bool.eq_iff_iff]
    simp [okR, okB]
    omega
  simp [rightR, rightB, h d d0, h q q0]

set_option maxHeartbeats 400000 in
theorem refDigit_any (n : Int) (n0 : 0 ≤ n) (n1 : n < 16) (w : World) : Calls Try.prog 24 #[.int .i64 n] w fun x w' => x = .returned (.string ⟨#[hexd n]⟩) ∧ Below w.heap.size w w' := by
  have hk := fun (x : Int) => run_string_one' (P := Try.prog) w 63 9 5 Try.underlying63 Try.underlying5 Try.underlying9 x 5 1
  go_enter Try.func24, Try.ntmps24
  go_wp2
  all_goals go_ret
  all_goals refine ⟨ret_string ?_, (Below.refl _ _).alloc (Nat.le_refl _) _⟩
  · have h : n < 10 := by assumption
    simp only [hexd, if_pos h]
    rw [show (48 + n).toNat = 48 + n.toNat from by omega]
  · have h : ¬ n < 10 := by omega
    simp only [hexd, if_neg h]
    rw [show (97 + n - 10).toNat = 87 + n.toNat from by omega]

theorem refEnd_any (d q e : Int) (w : World) :
    Calls Try.prog 13 #[.agg #[.int .i64 d, .int .i64 q, .int .i64 e]] w fun x w' => x = .returned (.string (endS e)) ∧ Below w.heap.size w w' := by
  go_enter Try.func13, Try.ntmps13
  go_wp2
  all_goals go_ret
  all_goals exact ⟨ret_string (by simp_all [endS]), (Below.refl _ _).alloc (Nat.le_refl _) _⟩

set_option maxHeartbeats 400000 in
theorem ref_any (d q e : Int) (d0 : 0 ≤ d) (d1 : d ≤ 255) (q0 : 0 ≤ q) (q1 : q ≤ 255) (w : World) :
    Calls Try.prog 9 #[.agg #[.int .u8 d, .int .u8 q, .int .i64 e]] w fun x w' => x = .returned (.agg #[.int .i64 d, .int .i64 q, .int .i64 e]) ∧ Below w.heap.size w w' := by
  go_enter Try.func9, Try.ntmps9
  go_wp2
  refine bodyPost_ret (v := .agg #[.int .i64 d, .int .i64 q, .int .i64 e]) (by simp [results, Try.results9, go_sem]) rfl ⟨rfl, ((Below.refl _ _).alloc (Nat.le_refl _) _).alloc (by simp) _⟩

set_option maxHeartbeats 400000 in
theorem refRight_any (d q e : Int) (w : World) :
    Calls Try.prog 8 #[.agg #[.int .i64 d, .int .i64 q, .int .i64 e]] w fun x w' => x = .returned (.bool (rightR d q e)) ∧ Below w.heap.size w w' := by
  have i0 : ∀ w, (Instr.index 53 (.agg #[.int .i64 d, .int .i64 q]) (.int .i64 0)).run Try.prog w = .ok (.int .i64 d) w := fun _ => by kernel_rfl
  have i1 : ∀ w, (Instr.index 53 (.agg #[.int .i64 d, .int .i64 q]) (.int .i64 1)).run Try.prog w = .ok (.int .i64 q) w := fun _ => by kernel_rfl
  go_enter Try.func8, Try.ntmps8
  go_wp2
  go_rounds 3
  all_goals go_ret
  all_goals refine ⟨ret_bool ?_, (Below.refl _ _).alloc (Nat.le_refl _) _⟩
  all_goals go_light
  all_goals clear i0 i1
  all_goals (rw [Bool.eq_iff_iff]; simp [rightR, okR, endB] at *; try omega)
end Go.Proofs.Ytkpcebpbhacgpaa

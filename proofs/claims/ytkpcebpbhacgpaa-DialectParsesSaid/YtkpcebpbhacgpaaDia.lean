/- Contracts of the functions of layer 1 (dialects) and of the document's own answers for it: what each returns, and that it leaves all that was there as it was. No condition but the ranges of the kinds. -/
import Derived.Test.YtkpcebpbhacgpaaRows
import Derived.Test.YtkpcebpbhacgpaaKit
namespace Go.Proofs.Ytkpcebpbhacgpaa
open Go.ChangeShapes Go.WideShapes Go.ChangeAt Go.RowKit
set_option linter.unusedVariables false

/-! ### The plain words -/
def okB (b : Int) : Bool := decide (b < 128) && (b != 13 && b != 10)
def endB (e : Int) : Bool := e == 1 || (e == 2 || e == 3)
def wordS (e : Int) : ByteArray := if e = 1 then ⟨#[108, 102]⟩ else if e = 2 then ⟨#[99, 114, 108, 102]⟩ else if e = 3 then ⟨#[101, 105, 116, 104, 101, 114]⟩ else ⟨#[]⟩
def hexd (n : Int) : UInt8 := if n < 10 then UInt8.ofNat (48 + n.toNat) else UInt8.ofNat (87 + n.toNat)
def hexS (b : Int) : ByteArray := ⟨#[hexd (b / 16), hexd (b % 16)]⟩
def rightB (d q e : Int) : Bool := okB d && (okB q && (d != q && endB e))
def withinB (n : Int) : Bool := decide (1 ≤ n) && decide (n ≤ 2147483648)

set_option maxHeartbeats 400000 in
theorem usable_any (b : Int) (h0 : 0 ≤ b) (h1 : b ≤ 255) (w : World) : Calls Try.prog 23 #[.int .u8 b] w fun e w' => e = .returned (.bool (okB b)) ∧ w = w' := by
  go_enter Try.func23, Try.ntmps23
  go_wp2
  all_goals go_ret
  all_goals exact ⟨ret_bool (by simp [okB]; try omega), rfl⟩

set_option maxHeartbeats 400000 in
theorem within_any (n : Int) (w : World) : Calls Try.prog 25 #[.int .i64 n] w fun e w' => e = .returned (.bool (withinB n)) ∧ w = w' := by
  go_enter Try.func25, Try.ntmps25
  go_wp2
  all_goals go_ret
  all_goals exact ⟨ret_bool (by simp [withinB]; try omega), rfl⟩

set_option maxHeartbeats 400000 in
theorem word_any (b : Int) (w : World) : Calls Try.prog 22 #[.int .i64 b] w fun e w' => e = .returned (.string (wordS b)) ∧ w = w' := by
  go_enter Try.func22, Try.ntmps22
  go_wp2
  all_goals go_ret
  all_goals exact ⟨ret_string (by simp_all [wordS]), rfl⟩

theorem hex_at (n : Nat) (h : n < 16) : ((⟨#[48, 49, 50, 51, 52, 53, 54, 55, 56, 57, 97, 98, 99, 100, 101, 102]⟩ : ByteArray)[n]'h) = hexd n := by
  have : ∀ m : Fin 16, ((⟨#[48, 49, 50, 51, 52, 53, 54, 55, 56, 57, 97, 98, 99, 100, 101, 102]⟩ : ByteArray)[m.1]'m.2) = hexd m.1 := by decide
  exact this ⟨n, h⟩
set_option maxHeartbeats 400000 in
theorem hex_any (b : Int) (h0 : 0 ≤ b) (h1 : b ≤ 255) (w : World) : Calls Try.prog 21 #[.int .u8 b] w fun e w' => e = .returned (.string (hexS b)) ∧ Below w.heap.size w w' := by
  have i0 : 0 ≤ b / 16 := by omega
  have i1 : b / 16 < 16 := by omega
  have j0 : 0 ≤ b % 16 := by omega
  have j1 : b % 16 < 16 := by omega
  have hk := fun (x y : Int) => run_string_two (P := Try.prog) w 63 9 5 Try.underlying63 Try.underlying5 Try.underlying9 x y 5 2
  have e0 := hex_at (b / 16).toNat (by omega)
  have e1 := hex_at (b % 16).toNat (by omega)
  rw [show ((b / 16).toNat : Int) = b / 16 from by omega] at e0
  rw [show ((b % 16).toNat : Int) = b % 16 from by omega] at e1
  have E0 := Lib.hid e0
  have E1 := Lib.hid e1
  clear e0 e1
  go_enter Try.func21, Try.ntmps21
  go_wp2
  go_region
  go_wp2
  go_ret
  refine ⟨ret_string ?_, ((Below.refl _ _).alloc (Nat.le_refl _) _).drew⟩
  unfold hexS
  rw [← E0.out, ← E1.out]

/-! ### Check, End, Text -/
set_option maxHeartbeats 400000 in
theorem check_yes (d q e : Int) (d0 : 0 ≤ d) (d1 : d ≤ 255) (q0 : 0 ≤ q) (q1 : q ≤ 255) (h : rightB d q e = true) (w : World) :
    Calls Try.prog 10 #[.agg #[.int .u8 d, .int .u8 q, .int .i64 e]] w fun x w' => x = .returned (.int .i64 0) ∧ Below w.heap.size w w' := by
  simp only [rightB, Bool.and_eq_true] at h
  obtain ⟨a, b, c, f⟩ := h
  have c' : (d == q) = false := by simpa using c
  have f' : e = 1 ∨ e = 2 ∨ e = 3 := by simpa [endB] using f
  rcases f' with rfl | rfl | rfl
  all_goals
    clear c f
    go_enter Try.func10, Try.ntmps10
    go_wp2_with (first | (go_at_call 23; refine (usable_any _ (by assumption) (by assumption) _).mono ?_; rintro e w' ⟨rfl, rfl⟩) | (go_at_call 22; refine (word_any _ _).mono ?_; rintro e w' ⟨rfl, rfl⟩; simp only [wordS]))
    go_ret
    exact ⟨rfl, (Below.refl _ _).alloc (Nat.le_refl _) _⟩
set_option maxHeartbeats 400000 in
theorem check_no (d q e : Int) (d0 : 0 ≤ d) (d1 : d ≤ 255) (q0 : 0 ≤ q) (q1 : q ≤ 255) (h : rightB d q e = false) (w : World) :
    Calls Try.prog 10 #[.agg #[.int .u8 d, .int .u8 q, .int .i64 e]] w fun x w' => x = .returned (.int .i64 1) ∧ Below w.heap.size w w' := by
  have H := Lib.hid h
  clear h
  by_cases a : okB d = true
  · by_cases b : okB q = true
    · by_cases c : (d == q) = true
      · clear H
        go_enter Try.func10, Try.ntmps10
        go_wp2_with (first | (go_at_call 23; refine (usable_any _ (by assumption) (by assumption) _).mono ?_; rintro e w' ⟨rfl, rfl⟩) | (go_at_call 22; refine (word_any _ _).mono ?_; rintro e w' ⟨rfl, rfl⟩; simp only [wordS]))
        go_ret
        exact ⟨rfl, (Below.refl _ _).alloc (Nat.le_refl _) _⟩
      · have c' : (d == q) = false := by simpa using c
        have f : endB e = false := by
          have := H.out
          simp only [rightB, a, b, bne, c', Bool.true_and, Bool.not_false] at this
          exact this
        have n : wordS e = ⟨#[]⟩ := by simp [endB] at f; simp [wordS, f]
        have N := Lib.hid n
        clear n f c H
        go_enter Try.func10, Try.ntmps10
        go_wp2_with (first | (go_at_call 23; refine (usable_any _ (by assumption) (by assumption) _).mono ?_; rintro e w' ⟨rfl, rfl⟩) | (go_at_call 22; refine (word_any _ _).mono ?_; rintro e w' ⟨rfl, rfl⟩; rw [N.out]))
        go_ret
        exact ⟨rfl, (Below.refl _ _).alloc (Nat.le_refl _) _⟩
    · have b' : okB q = false := by simpa using b
      clear b H
      go_enter Try.func10, Try.ntmps10
      go_wp2_with (first | (go_at_call 23; refine (usable_any _ (by assumption) (by assumption) _).mono ?_; rintro e w' ⟨rfl, rfl⟩))
      go_ret
      exact ⟨rfl, (Below.refl _ _).alloc (Nat.le_refl _) _⟩
  · have a' : okB d = false := by simpa using a
    clear a H
    go_enter Try.func10, Try.ntmps10
    go_wp2_with (first | (go_at_call 23; refine (usable_any _ (by assumption) (by assumption) _).mono ?_; rintro e w' ⟨rfl, rfl⟩))
    go_ret
    exact ⟨rfl, (Below.refl _ _).alloc (Nat.le_refl _) _⟩
end Go.Proofs.Ytkpcebpbhacgpaa

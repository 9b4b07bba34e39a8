/- Layer 1: the document's own Parse. -/
import Derived.Test.YtkpcebpbhacgpaaDir
namespace Go.Proofs.Ytkpcebpbhacgpaa
open Go.ChangeShapes Go.WideShapes Go.ChangeAt Go.RowKit
set_option linter.unusedVariables false

def nn (k j : Nat) (x : Int) : Int := if j < k then hval x else -1
def xs4 (x0 x1 x3 x4 : Int) (k : Nat) : Int := if k = 0 then x0 else if k = 1 then x1 else if k = 2 then x3 else x4
def okTo (x0 x1 x3 x4 : Int) (k : Nat) : Prop := ∀ j, j < k → digB (xs4 x0 x1 x3 x4 j) = true

theorem hval_d {x : Int} (a : 48 ≤ x) (b : x ≤ 57) : hval x = x - 48 := by unfold hval; rw [if_pos ⟨a, b⟩]
theorem hval_l {x : Int} (a : 97 ≤ x) (b : x ≤ 102) : hval x = x - 97 + 10 := by unfold hval; rw [if_neg (by omega), if_pos ⟨a, b⟩]; omega
theorem digB_d {x : Int} (a : 48 ≤ x) (b : x ≤ 57) : digB x = true := by unfold digB; rw [hval_d a b]; simp; omega
theorem digB_l {x : Int} (a : 97 ≤ x) (b : x ≤ 102) : digB x = true := by unfold digB; rw [hval_l a b]; simp; omega
theorem okTo_succ {x0 x1 x3 x4 : Int} {k : Nat} (h : okTo x0 x1 x3 x4 k) (hk : digB (xs4 x0 x1 x3 x4 k) = true) : okTo x0 x1 x3 x4 (k + 1) := by
  intro j hj
  by_cases e : j = k
  · subst e; exact hk
  · exact h j (by omega)
theorem okTo_all {x0 x1 x3 x4 : Int} (h : okTo x0 x1 x3 x4 4) : digB x0 = true ∧ digB x1 = true ∧ digB x3 = true ∧ digB x4 = true :=
  ⟨h 0 (by omega), h 1 (by omega), h 2 (by omega), h 3 (by omega)⟩
theorem digV_hval {x : Int} (h : digB x = true) : hval x = digV x := by
  unfold digB at h; simp at h; unfold digV; rw [if_pos h]

set_option maxHeartbeats 1600000 in
theorem refParse_digits (s : ByteArray) (n : 8 ≤ s.size) (n12 : s.size ≤ 12) (x0 x1 x3 x4 : Int) (e0 : ((s[0]'(by omega)).toNat : Int) = x0) (e1 : ((s[1]'(by omega)).toNat : Int) = x1)
    (e3 : ((s[3]'(by omega)).toNat : Int) = x3) (e4 : ((s[4]'(by omega)).toNat : Int) = x4) (hno : (digB x0 && (digB x1 && (digB x3 && digB x4))) = false) (w : World) :
    Calls Try.prog 20 #[.string s] w fun x w' => x = .returned (.tuple #[.agg #[.int .i64 0, .int .i64 0, .int .i64 0], .bool false]) ∧ Below w.heap.size w w' := by
  have n8 : (8 : Int) ≤ s.size := by omega
  have n12' : (s.size : Int) ≤ 12 := by omega
  have hx : ∀ b : UInt8, 0 ≤ (b.toNat : Int) ∧ (b.toNat : Int) ≤ 255 := fun b => by have := b.toNat_lt; omega
  obtain ⟨p0, q0⟩ := hx (s[0]'(by omega))
  obtain ⟨p1, q1⟩ := hx (s[1]'(by omega))
  obtain ⟨p3, q3⟩ := hx (s[3]'(by omega))
  obtain ⟨p4, q4⟩ := hx (s[4]'(by omega))
  rw [e0] at p0 q0; rw [e1] at p1 q1; rw [e3] at p3 q3; rw [e4] at p4 q4
  clear hx
  have ix0 : ∀ w, (Instr.index 61 (.agg #[.int .i64 0, .int .i64 1, .int .i64 3, .int .i64 4]) (.int .i64 0)).run Try.prog w = .ok (.int .i64 0) w := fun _ => by kernel_rfl
  have ix1 : ∀ w, (Instr.index 61 (.agg #[.int .i64 0, .int .i64 1, .int .i64 3, .int .i64 4]) (.int .i64 1)).run Try.prog w = .ok (.int .i64 1) w := fun _ => by kernel_rfl
  have ix2 : ∀ w, (Instr.index 61 (.agg #[.int .i64 0, .int .i64 1, .int .i64 3, .int .i64 4]) (.int .i64 2)).run Try.prog w = .ok (.int .i64 3) w := fun _ => by kernel_rfl
  have ix3 : ∀ w, (Instr.index 61 (.agg #[.int .i64 0, .int .i64 1, .int .i64 3, .int .i64 4]) (.int .i64 3)).run Try.prog w = .ok (.int .i64 4) w := fun _ => by kernel_rfl
  have HNO := Lib.hid hno
  clear hno
  go_enter Try.func20, Try.ntmps20
  go_wp2_with fail
  go_loopw [5] (fun i wr => ∃ k : Nat, k ≤ 4 ∧ i = .int .i64 k ∧ okTo x0 x1 x3 x4 k ∧ wr = (w.alloc (.cells #[.int .i64 0, .int .i64 0, .int .i64 0] 29)).alloc (.cells #[.int .i64 (nn k 0 x0), .int .i64 (nn k 1 x1), .int .i64 (nn k 2 x3), .int .i64 (nn k 3 x4)] 61)) (fun i wr => 4 - (intOf i).toNat)
  case atStart => exact ⟨0, by omega, rfl, fun j hj => by omega, rfl⟩
  case round =>
    obtain ⟨k, hk, rfl, hok, rfl⟩ := hrel
    have hcase : k = 0 ∨ k = 1 ∨ k = 2 ∨ k = 3 ∨ k = 4 := by omega
    have HOK := Lib.hid hok
    clear hok hk
    rcases hcase with rfl | rfl | rfl | rfl | rfl
    · simp only [nn]
      by_cases hd : 48 ≤ x0 ∧ x0 ≤ 57
      · obtain ⟨a, b⟩ := hd
        go_wp2_with fail
        go_roundw
        case rel => exact ⟨1, by omega, rfl, okTo_succ HOK.out (digB_d a b), by simp [hval_d a b]⟩
        case measure => simp [intOf]
      · by_cases hl : 97 ≤ x0 ∧ x0 ≤ 102
        · obtain ⟨a, b⟩ := hl
          clear hd
          go_wp2_with fail
          all_goals
            go_roundw
            case rel => exact ⟨1, by omega, rfl, okTo_succ HOK.out (digB_l a b), by simp [hval_l a b]⟩
            case measure => simp [intOf]
        · go_wp2_with fail
          all_goals
            refine bodyPost_ret (v := .tuple #[.agg #[.int .i64 0, .int .i64 0, .int .i64 0], .bool false]) (by simp [results, Try.results20, go_sem]) rfl ⟨rfl, ?_⟩
            (repeat (first | exact Below.refl _ _ | refine up_alloc ?_ _ | refine up_onto ?_ _ | refine up_drew ?_ | refine up_set ?_ (by first | (simp; done) | (simp; omega) | (have := onto_size; simp; omega)) _))
    · simp only [nn]
      by_cases hd : 48 ≤ x1 ∧ x1 ≤ 57
      · obtain ⟨a, b⟩ := hd
        go_wp2_with fail
        go_roundw
        case rel => exact ⟨2, by omega, rfl, okTo_succ HOK.out (digB_d a b), by simp [hval_d a b]⟩
        case measure => simp [intOf]
      · by_cases hl : 97 ≤ x1 ∧ x1 ≤ 102
        · obtain ⟨a, b⟩ := hl
          clear hd
          go_wp2_with fail
          all_goals
            go_roundw
            case rel => exact ⟨2, by omega, rfl, okTo_succ HOK.out (digB_l a b), by simp [hval_l a b]⟩
            case measure => simp [intOf]
        · go_wp2_with fail
          all_goals
            refine bodyPost_ret (v := .tuple #[.agg #[.int .i64 0, .int .i64 0, .int .i64 0], .bool false]) (by simp [results, Try.results20, go_sem]) rfl ⟨rfl, ?_⟩
            (repeat (first | exact Below.refl _ _ | refine up_alloc ?_ _ | refine up_onto ?_ _ | refine up_drew ?_ | refine up_set ?_ (by first | (simp; done) | (simp; omega) | (have := onto_size; simp; omega)) _))
    · simp only [nn]
      by_cases hd : 48 ≤ x3 ∧ x3 ≤ 57
      · obtain ⟨a, b⟩ := hd
        go_wp2_with fail
        go_roundw
        case rel => exact ⟨3, by omega, rfl, okTo_succ HOK.out (digB_d a b), by simp [hval_d a b]⟩
        case measure => simp [intOf]
      · by_cases hl : 97 ≤ x3 ∧ x3 ≤ 102
        · obtain ⟨a, b⟩ := hl
          clear hd
          go_wp2_with fail
          all_goals
            go_roundw
            case rel => exact ⟨3, by omega, rfl, okTo_succ HOK.out (digB_l a b), by simp [hval_l a b]⟩
            case measure => simp [intOf]
        · go_wp2_with fail
          all_goals
            refine bodyPost_ret (v := .tuple #[.agg #[.int .i64 0, .int .i64 0, .int .i64 0], .bool false]) (by simp [results, Try.results20, go_sem]) rfl ⟨rfl, ?_⟩
            (repeat (first | exact Below.refl _ _ | refine up_alloc ?_ _ | refine up_onto ?_ _ | refine up_drew ?_ | refine up_set ?_ (by first | (simp; done) | (simp; omega) | (have := onto_size; simp; omega)) _))
    · simp only [nn]
      by_cases hd : 48 ≤ x4 ∧ x4 ≤ 57
      · obtain ⟨a, b⟩ := hd
        go_wp2_with fail
        go_roundw
        case rel => exact ⟨4, by omega, rfl, okTo_succ HOK.out (digB_d a b), by simp [hval_d a b]⟩
        case measure => simp [intOf]
      · by_cases hl : 97 ≤ x4 ∧ x4 ≤ 102
        · obtain ⟨a, b⟩ := hl
          clear hd
          go_wp2_with fail
          all_goals
            go_roundw
            case rel => exact ⟨4, by omega, rfl, okTo_succ HOK.out (digB_l a b), by simp [hval_l a b]⟩
            case measure => simp [intOf]
        · go_wp2_with fail
          all_goals
            refine bodyPost_ret (v := .tuple #[.agg #[.int .i64 0, .int .i64 0, .int .i64 0], .bool false]) (by simp [results, Try.results20, go_sem]) rfl ⟨rfl, ?_⟩
            (repeat (first | exact Below.refl _ _ | refine up_alloc ?_ _ | refine up_onto ?_ _ | refine up_drew ?_ | refine up_set ?_ (by first | (simp; done) | (simp; omega) | (have := onto_size; simp; omega)) _))
    · exact absurd HNO.out (by obtain ⟨a, b, c, d⟩ := okTo_all HOK.out; simp [a, b, c, d])
end Go.Proofs.Ytkpcebpbhacgpaa

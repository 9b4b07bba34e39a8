/- Layer 4: contracts of the document's own answers for it, and of the words that turn the program's into the document's. -/
import Derived.Test.YtpnjpcknlmpaiaaScc
import Derived.StillTailTactics
namespace Go.Proofs.Ytpnjpcknlmpaiaa
open Go.ChangeShapes Go.WideShapes Go.ChangeAt Go.RowKit
set_option linter.unusedVariables false
set_option linter.unusedSimpArgs false

def bitI (u : Bool) : Int := if u = true then 1 else 0
def okB4 (b : Int) : Bool := decide (b < 128) && (b != 13 && b != 10)
def okR4 (b : Int) : Bool := !(decide (b < 0) || (decide (127 < b) || (b == 10 || b == 13)))
def endB4 (e : Int) : Bool := e == 1 || (e == 2 || e == 3)
def right4 (d q e : Int) : Bool := okR4 d && (okR4 q && (d != q && endB4 e))
theorem right4_facts {d q e : Int} (h : right4 d q e = true) : d ≠ q ∧ d ≠ 13 ∧ d ≠ 10 ∧ q ≠ 13 ∧ q ≠ 10 ∧ (e = 1 ∨ e = 2 ∨ e = 3) := by
  simp [right4, okR4, endB4] at h
  omega

theorem ref_any (d q e : Int) (d0 : 0 ≤ d) (d1 : d ≤ 255) (q0 : 0 ≤ q) (q1 : q ≤ 255) (w : World) :
    Calls Try.prog 8 #[.agg #[.int .u8 d, .int .u8 q, .int .i64 e]] w fun x w' => x = .returned (.agg #[.int .i64 d, .int .i64 q, .int .i64 e]) ∧ Below w.heap.size w w' := by
  go_enter Try.func8, Try.ntmps8
  go_wp2
  refine bodyPost_ret (v := .agg #[.int .i64 d, .int .i64 q, .int .i64 e]) (by simp [results, Try.results8, go_sem]) rfl ⟨rfl, ((Below.refl _ _).alloc (Nat.le_refl _) _).alloc (by simp) _⟩

theorem refRight_any (d q e : Int) (w : World) :
    Calls Try.prog 7 #[.agg #[.int .i64 d, .int .i64 q, .int .i64 e]] w fun x w' => x = .returned (.bool (right4 d q e)) ∧ Below w.heap.size w w' := by
  have i0 : ∀ w, (Instr.index 51 (.agg #[.int .i64 d, .int .i64 q]) (.int .i64 0)).run Try.prog w = .ok (.int .i64 d) w := fun _ => by kernel_rfl
  have i1 : ∀ w, (Instr.index 51 (.agg #[.int .i64 d, .int .i64 q]) (.int .i64 1)).run Try.prog w = .ok (.int .i64 q) w := fun _ => by kernel_rfl
  go_enter Try.func7, Try.ntmps7
  go_wp2
  go_rounds 3
  all_goals go_ret
  all_goals refine ⟨ret_bool ?_, (Below.refl _ _).alloc (Nat.le_refl _) _⟩
  all_goals go_light
  all_goals clear i0 i1
  all_goals (rw [Bool.eq_iff_iff]; simp [right4, okR4, endB4] at *; try omega)
theorem refRight_is (d q e : Int) (r : Bool) (h : Hid (right4 d q e = r)) (w : World) :
    Calls Try.prog 7 #[.agg #[.int .i64 d, .int .i64 q, .int .i64 e]] w fun x w' => x = .returned (.bool r) ∧ Below w.heap.size w w' := by
  rw [← h.out]; exact refRight_any d q e w

theorem one_any (u : Bool) (w : World) : Calls Try.prog 24 #[.bool u] w fun x w' => x = .returned (.int .i64 (bitI u)) ∧ w = w' := by
  cases u
  all_goals
    go_enter Try.func24, Try.ntmps24
    go_wp2
    go_ret
    exact ⟨rfl, rfl⟩

theorem wp_region_still_end {P : Program} {id : Nat} {Q : Exit → Act → World → Prop} {a : Act} {w : World} {l : List Oper} (n : Nat) (hm : P.follows .mixedOrders = true) (hB : Region.lexTailB .any l.toArray n = true)
    (h : wpStill P l.toArray w.drew (fun a' => wpList P l.toArray Q (l.drop n) a' w.drew) (l.take n) a) : (Code.region id l.toArray true).wp P Q a w := wp_region_still_tail n hm hB h
theorem one_same (u : Bool) (w : World) : Calls Try.prog 24 #[.bool u] w fun x w' => x = .returned (.int .i64 (bitI u)) ∧ w' = w := (one_any u w).mono fun _ _ ⟨h, h'⟩ => ⟨h, h'.symm⟩

/-! ### The column -/
def colR (d q b : Int) : Int := if b = q then 0 else if b = d then 1 else if b = 13 then 2 else if b = 10 then 3 else 4
/-- Of five kinds a byte is one. -/
def Kind5 (d q b c : Int) : Prop :=
  ((b == q) = true ∧ (b == d) = false ∧ (b == 13) = false ∧ (b == 10) = false ∧ c = 0) ∨ ((b == q) = false ∧ (b == d) = true ∧ (b == 13) = false ∧ (b == 10) = false ∧ c = 1) ∨
  ((b == q) = false ∧ (b == d) = false ∧ (b == 13) = true ∧ (b == 10) = false ∧ c = 2) ∨ ((b == q) = false ∧ (b == d) = false ∧ (b == 13) = false ∧ (b == 10) = true ∧ c = 3) ∨
  ((b == q) = false ∧ (b == d) = false ∧ (b == 13) = false ∧ (b == 10) = false ∧ c = 4)
theorem kind5 {d q e : Int} (b : Int) (h : right4 d q e = true) : Kind5 d q b (colR d q b) := by
  obtain ⟨h1, h2, h3, h4, h5, _⟩ := right4_facts h
  simp only [Kind5, beq_iff_eq, beq_eq_false_iff_ne, colR]
  by_cases a1 : b = q
  · rw [if_pos a1]; exact .inl ⟨a1, by omega, by omega, by omega, rfl⟩
  · rw [if_neg a1]
    by_cases a2 : b = d
    · rw [if_pos a2]; exact .inr (.inl ⟨a1, a2, by omega, by omega, rfl⟩)
    · rw [if_neg a2]
      by_cases a3 : b = 13
      · rw [if_pos a3]; exact .inr (.inr (.inl ⟨a1, a2, a3, by omega, rfl⟩))
      · rw [if_neg a3]
        by_cases a4 : b = 10
        · rw [if_pos a4]; exact .inr (.inr (.inr (.inl ⟨a1, a2, a3, a4, rfl⟩)))
        · rw [if_neg a4]; exact .inr (.inr (.inr (.inr ⟨a1, a2, a3, a4, rfl⟩)))

theorem column_any (d q e b c : Int) (h : Hid (Kind5 d q b c)) (w : World) : Calls Try.prog 23 #[.agg #[.int .i64 d, .int .i64 q, .int .i64 e], .int .i64 b] w fun x w' => x = .returned (.int .i64 c) ∧ Below w.heap.size w w' := by
  rcases h.out with ⟨h1, h2, h3, h4, rfl⟩ | ⟨h1, h2, h3, h4, rfl⟩ | ⟨h1, h2, h3, h4, rfl⟩ | ⟨h1, h2, h3, h4, rfl⟩ | ⟨h1, h2, h3, h4, rfl⟩
  all_goals
    clear h
    go_enter Try.func23, Try.ntmps23
    go_wp2_with fail
    go_ret
    exact ⟨rfl, (Below.refl _ _).alloc (Nat.le_refl _) _⟩

theorem refEv_any (bg ad fi li re : Bool) (pb : Int) (p0 : 0 ≤ pb) (p1 : pb ≤ 255) (w : World) : Calls Try.prog 12 #[.agg #[.bool bg, .bool ad, .bool fi, .bool li, .bool re, .int .u8 pb]] w fun x w' =>
    x = .returned (.agg #[.int .i64 (bitI bg), .int .i64 (bitI ad), .int .i64 (bitI fi), .int .i64 (bitI li), .int .i64 (bitI re), .int .i64 pb]) ∧ Below w.heap.size w w' := by
  have hwr : IntKind.i64.wrap pb = pb := IntWalk.i64_in _ (by omega)
  go_enter Try.func12, Try.ntmps12
  go_wp2_with fail
  refine wp_region_still_end 19 (by kernel_rfl) (by kernel_rfl) ?_
  simp only [List.take_succ_cons, List.take_zero, List.drop_succ_cons, List.drop_zero]
  repeat (first | still_step | still_call (one_same _ _))
  refine wpStill_nil ?_
  go_wp2_with fail
  refine bodyPost_ret ?_ rfl ⟨rfl, ?_⟩
  · simp [results, Try.results12, go_sem]
  · (repeat (first | (with_reducible exact Below.refl _ _) | with_reducible refine up_alloc ?_ _ | with_reducible refine up_onto ?_ _ | with_reducible refine up_drew ?_ | with_reducible refine up_set ?_ (by first | (simp; done) | (simp; omega)) _))
end Go.Proofs.Ytpnjpcknlmpaiaa

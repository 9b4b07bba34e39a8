/- Layer 4: contracts of the document's own Close, and of its Step where a byte is out of place. -/
import Derived.Test.YtpnjpcknlmpaiaaScd
import Derived.Test.YtpnjpcknlmpaiaaKit2
import Derived.Deep.DeepCutAuto
namespace Go.Proofs.Ytpnjpcknlmpaiaa
open Go.ChangeShapes Go.WideShapes Go.ChangeAt Go.RowKit
set_option linter.unusedVariables false
set_option linter.unusedSimpArgs false

set_option maxHeartbeats 800000 in
theorem refClose_any (s : Int) (h0 : 0 ≤ s) (h6 : s ≤ 6) (w : World) : Calls Try.prog 14 #[.int .i64 s] w fun x w' =>
    x = .returned (.tuple #[.agg #[.int .i64 (bitI (closeE s).bg), .int .i64 (bitI (closeE s).ad), .int .i64 (bitI (closeE s).fi), .int .i64 (bitI (closeE s).li), .int .i64 (bitI (closeE s).re), .int .i64 (closeE s).b], .int .i64 (closeK s)]) ∧ Below w.heap.size w w' := by
  have hc : s = 0 ∨ s = 1 ∨ s = 2 ∨ s = 3 ∨ s = 4 ∨ s = 5 ∨ s = 6 := by omega
  clear h0 h6
  have hix : ∀ w, (Instr.index 56 (.agg #[.int .i64 0, .int .i64 0, .int .i64 0, .int .i64 11, .int .i64 0, .int .i64 6, .int .i64 6]) (.int .i64 s)).run Try.prog w = .ok (.int .i64 (closeK s)) w := by
    intro w; rcases hc with rfl | rfl | rfl | rfl | rfl | rfl | rfl <;> kernel_rfl
  rcases hc with rfl | rfl | rfl | rfl | rfl | rfl | rfl
  all_goals
    go_enter Try.func14, Try.ntmps14
    go_wp2_with fail
    go_region
    go_wp2_with fail
    refine bodyPost_ret ?_ rfl ⟨rfl, ?_⟩
    · simp [results, Try.results14, go_sem, closeE, closeK, ev0, evRec, bitI]
    · (repeat (first | (with_reducible exact Below.refl _ _) | with_reducible refine up_alloc ?_ _ | with_reducible refine up_onto ?_ _ | with_reducible refine up_drew ?_ | with_reducible refine up_set ?_ (by first | (simp; done) | (simp; omega)) _))
theorem refClose_is (s : Int) (h0 : 0 ≤ s) (h6 : s ≤ 6) (bg ad fi li re : Bool) (pb k : Int) (h : Hid (closeE s = ⟨bg, ad, fi, li, re, pb⟩)) (hk : Hid (closeK s = k)) (w : World) : Calls Try.prog 14 #[.int .i64 s] w fun x w' =>
    x = .returned (.tuple #[.agg #[.int .i64 (bitI bg), .int .i64 (bitI ad), .int .i64 (bitI fi), .int .i64 (bitI li), .int .i64 (bitI re), .int .i64 pb], .int .i64 k]) ∧ Below w.heap.size w w' := by
  have := refClose_any s h0 h6 w
  rw [h.out, hk.out] at this
  exact this


set_option maxHeartbeats 800000 in
theorem refStep_out (d q e s b c : Int) (hk : Kind5 d q b c) (x1 : (s != 3) = true) (x2 : s < 5) (ho : (c = 2 ∧ e = 1) ∨ (c = 3 ∧ e = 2)) (w : World) : Calls Try.prog 11 #[.agg #[.int .i64 d, .int .i64 q, .int .i64 e], .int .i64 s, .int .i64 b] w fun x w' =>
    x = .returned (.tuple #[.agg #[.int .i64 0, .int .i64 0, .int .i64 0, .int .i64 0, .int .i64 0, .int .i64 0], .int .i64 0, .int .i64 6]) ∧ Below w.heap.size w w' := by
  have K := Lib.hid hk
  clear hk
  have x2' : decide (s < 5) = true := by simpa using x2
  rcases ho with ⟨rfl, rfl⟩ | ⟨rfl, rfl⟩
  all_goals
    go_enter Try.func11, Try.ntmps11
    go_wp2_with fail
    refine (column_any d q _ b _ K _).mono ?_
    rintro x w1 ⟨rfl, hb⟩
    obtain ⟨hc, hf⟩ := bcell hb
    have hs : w.heap.size + 1 < w1.heap.size := by have := hb.size; simp at this; omega
    have O1 := Lib.hid (up_call0 (up_alloc (up_alloc (Below.refl _ _) _) _) hb)
    clear hb
    have m0 : w1.cell? ⟨w.heap.size + 1, 0, none⟩ = some (.int .i64 0) := (hc _ _ (by simp)).trans (by simp [go_sem])
    have m1 : w1.cell? ⟨w.heap.size + 1, 1, none⟩ = some (.int .i64 0) := (hc _ _ (by simp)).trans (by simp [go_sem])
    have m2 : w1.cell? ⟨w.heap.size + 1, 2, none⟩ = some (.int .i64 0) := (hc _ _ (by simp)).trans (by simp [go_sem])
    have m3 : w1.cell? ⟨w.heap.size + 1, 3, none⟩ = some (.int .i64 0) := (hc _ _ (by simp)).trans (by simp [go_sem])
    have m4 : w1.cell? ⟨w.heap.size + 1, 4, none⟩ = some (.int .i64 0) := (hc _ _ (by simp)).trans (by simp [go_sem])
    have m5 : w1.cell? ⟨w.heap.size + 1, 5, none⟩ = some (.int .i64 0) := (hc _ _ (by simp)).trans (by simp [go_sem])
    go_wp2_with fail
    refine bodyPost_ret ?_ rfl ⟨rfl, ?_⟩
    · simp [results, Try.results11, go_sem, m0, m1, m2, m3, m4, m5]
    · have := O1.out
      (repeat (first | (with_reducible exact this) | with_reducible refine Below.setCell ?_ (by simp) _))
end Go.Proofs.Ytpnjpcknlmpaiaa

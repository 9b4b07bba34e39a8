/- Layer 4: the document's example (awake), and the walk of the statement ScanCloses. -/
import Derived.Test.YtpnjpcknlmpaiaaSch
import Derived.Test.YtpnjpcknlmpaiaaSce
import Derived.Laws.StructEq
namespace Go.Proofs.Ytpnjpcknlmpaiaa
open Go.ChangeShapes Go.WideShapes Go.ChangeAt Go.RowKit
set_option linter.unusedVariables false
set_option linter.unusedSimpArgs false

theorem scFault_eql (a b : Int) (w : World) : (binOp .eql 47 (.agg #[.int .i64 a, .int .i64 b]) (.agg #[.int .i64 a, .int .i64 b])).run Try.prog w = .ok (.bool true) w := by
  have hp : Try.prog.stoodInHeld 47 = false := by kernel_rfl
  simp [run_eql_struct, run_equalIn_agg, Program.fieldsOf, Try.underlying47, hp, Op.eqFields, go_sem]
theorem scEv_eql (bg ad fi li re : Bool) (b : Int) (w : World) : (binOp .eql 30 (.agg #[.bool bg, .bool ad, .bool fi, .bool li, .bool re, .int .u8 b]) (.agg #[.bool bg, .bool ad, .bool fi, .bool li, .bool re, .int .u8 b])).run Try.prog w = .ok (.bool true) w := by
  have hp : Try.prog.stoodInHeld 30 = false := by kernel_rfl
  simp [run_eql_struct, run_equalIn_agg, Program.fieldsOf, Try.underlying30, hp, Op.eqFields, go_sem]
theorem scRef_eql (x0 x1 x2 x3 x4 x5 : Int) (w : World) : (binOp .eql 35 (.agg #[.int .i64 x0, .int .i64 x1, .int .i64 x2, .int .i64 x3, .int .i64 x4, .int .i64 x5]) (.agg #[.int .i64 x0, .int .i64 x1, .int .i64 x2, .int .i64 x3, .int .i64 x4, .int .i64 x5])).run Try.prog w = .ok (.bool true) w := by
  have hp : Try.prog.stoodInHeld 35 = false := by kernel_rfl
  simp [run_eql_struct, run_equalIn_agg, Program.fieldsOf, Try.underlying35, hp, Op.eqFields, go_sem]

theorem SlMany.cells {w : World} {base : Nat} {e : TypeId} {sz : Nat} {A : Option Addr} {n c : Nat} {xs : List Value} (h : SlMany w base e sz A n c xs) (hn : 0 < n) :
    ∃ g, A = some ⟨g, 0, none⟩ ∧ base ≤ g ∧ g < w.heap.size ∧ ∀ j u, xs[j]? = some u → w.cell? ⟨g, j, none⟩ = some u := by
  obtain ⟨h1, h2, h3, h4⟩ := h
  rcases h4 with ⟨_, hc⟩ | ⟨g, cur, fz, rfl, hb, hg, hs, hf, hx⟩
  · omega
  · exact ⟨g, rfl, hb, heap_lt hg, fun j u hu => (cell_of_row w g j cur e fz hg).trans (hx j u hu)⟩

/-- Run's contract, its values as letters. -/
theorem run_is (d q e : Int) (s : ByteArray) (hs : s.size ≤ 1000000) (l : List Ev) (n : Nat) (k a : Int) (hl : Hid (runE d q e 0 (bl s) = l)) (hn : Hid (l.length = n)) (hk : Hid (runK d q e 0 (bl s) = k)) (ha : Hid (runA d q e 0 (bl s) = a)) (w : World) :
    Calls Try.prog 15 #[.agg #[.int .u8 d, .int .u8 q, .int .i64 e], .string s] w fun x w' => ∃ A c, x = .returned (.tuple #[.slice A n c, .agg #[.int .i64 k, .int .i64 a]]) ∧ Hid (SlMany w' w.heap.size 30 6 A n c (flat l)) ∧ ∃ y, w' = onto w y := by
  refine (run_any d q e s hs w).mono ?_
  rintro x w' ⟨A, c, rfl, h1, h2⟩
  rw [hl.out, hn.out] at h1
  rw [hl.out, hn.out, hk.out, ha.out]
  exact ⟨A, c, rfl, Lib.hid h1, onto_of h2⟩

theorem sc_example : runE 44 34 1 0 [97, 10] = [⟨true, true, false, false, false, 97⟩, ⟨false, false, false, true, true, 0⟩, ⟨false, false, false, false, false, 0⟩] ∧ runK 44 34 1 0 [97, 10] = 0 ∧ runA 44 34 1 0 [97, 10] = 0 := by decide
set_option maxHeartbeats 800000 in
theorem scAwake_any (w : World) : Calls Try.prog 9 #[] w fun x w' => x = .returned (.bool true) ∧ Below w.heap.size w w' := by
  obtain ⟨x1, x2, x3⟩ := sc_example
  have hb : bl ⟨#[97, 10]⟩ = [97, 10] := by decide
  rw [← hb] at x1 x2 x3
  have X1 := Lib.hid x1
  have X2 := Lib.hid x2
  have X3 := Lib.hid x3
  have hfe := scFault_eql
  have hee := scEv_eql
  clear x1 x2 x3 hb
  go_enter Try.func9, Try.ntmps9
  go_wp2_with fail
  refine (run_is 44 34 1 ⟨#[97, 10]⟩ (by decide) _ 3 _ _ X1 (Lib.hid rfl) X2 X3 w).mono ?_
  rintro x w1 ⟨A, c, rfl, hin, y, rfl⟩
  obtain ⟨g, rfl, hb, hg, hx⟩ := hin.out.cells (by decide)
  have c0 := hx 0 _ rfl
  have c1 := hx 1 _ rfl
  have c2 := hx 2 _ rfl
  have c3 := hx 3 _ rfl
  have c4 := hx 4 _ rfl
  have c5 := hx 5 _ rfl
  have c6 := hx 6 _ rfl
  have c7 := hx 7 _ rfl
  have c8 := hx 8 _ rfl
  have c9 := hx 9 _ rfl
  have c10 := hx 10 _ rfl
  have c11 := hx 11 _ rfl
  have c12 := hx 12 _ rfl
  have c13 := hx 13 _ rfl
  have c14 := hx 14 _ rfl
  have c15 := hx 15 _ rfl
  have c16 := hx 16 _ rfl
  have c17 := hx 17 _ rfl
  clear hx hin
  go_wp2_with fail
  go_ret
  exact ⟨rfl, up_alloc (onto_below w y) _⟩
end Go.Proofs.Ytpnjpcknlmpaiaa

/- Layer 4: more contracts of the program's functions: bare, quoted, closing, ahead, lineFeed, Step, Close. -/
import Derived.Test.YtbglecaahopgdaaSca
namespace Go.Proofs.Ytbglecaahopgdaa
open Go.ChangeShapes Go.WideShapes Go.ChangeAt Go.RowKit
set_option linter.unusedVariables false
set_option linter.unusedSimpArgs false

theorem first_is (d q e b : Int) (bg ad fi li re : Bool) (pb n k : Int) (h : Hid (firstR d q b = ⟨⟨bg, ad, fi, li, re, pb⟩, n, k⟩)) (w : World) : Calls Try.prog 67 #[.agg #[.int .u8 d, .int .u8 q, .int .i64 e], .int .u8 b] w fun x w' =>
    x = .returned (.tuple #[.agg #[.bool bg, .bool ad, .bool fi, .bool li, .bool re, .int .u8 pb], .int .i64 n, .int .i64 k]) ∧ Below w.heap.size w w' := by
  have := first_any d q e b w
  rw [h.out] at this
  exact this

theorem feed_any (bg ad fi li re : Bool) (pb : Int) (b : Int) (w : World) : Calls Try.prog 71 #[.agg #[.bool bg, .bool ad, .bool fi, .bool li, .bool re, .int .u8 pb], .int .u8 b] w fun x w' =>
    x = .returned (.tuple #[.agg #[.bool (feedR ⟨bg, ad, fi, li, re, pb⟩ b).ev.bg, .bool (feedR ⟨bg, ad, fi, li, re, pb⟩ b).ev.ad, .bool (feedR ⟨bg, ad, fi, li, re, pb⟩ b).ev.fi, .bool (feedR ⟨bg, ad, fi, li, re, pb⟩ b).ev.li, .bool (feedR ⟨bg, ad, fi, li, re, pb⟩ b).ev.re, .int .u8 (feedR ⟨bg, ad, fi, li, re, pb⟩ b).ev.b], .int .i64 (feedR ⟨bg, ad, fi, li, re, pb⟩ b).n, .int .i64 (feedR ⟨bg, ad, fi, li, re, pb⟩ b).k]) ∧ Below w.heap.size w w' := by
  cases h1 : (b == 10)
  all_goals
    first | (have g1 := beq_t h1) | (have g1 := beq_f h1)
    go_enter Try.func71, Try.ntmps71
    go_wp2_with fail
    refine bodyPost_ret ?_ rfl ⟨rfl, ?_⟩
    · simp [results, Try.results71, go_sem, feedR, h1, g1, ev0]
    · (repeat (first | (with_reducible exact Below.refl _ _) | with_reducible refine up_alloc ?_ _ | with_reducible refine up_onto ?_ _ | with_reducible refine up_drew ?_ | with_reducible refine up_set ?_ (by first | (simp; done) | (simp; omega)) _))

theorem feed_is (v0 v1 v2 v3 v4 : Bool) (v5 b : Int) (bg ad fi li re : Bool) (pb n k : Int) (h : Hid (feedR ⟨v0, v1, v2, v3, v4, v5⟩ b = ⟨⟨bg, ad, fi, li, re, pb⟩, n, k⟩)) (w : World) : Calls Try.prog 71 #[.agg #[.bool v0, .bool v1, .bool v2, .bool v3, .bool v4, .int .u8 v5], .int .u8 b] w fun x w' =>
    x = .returned (.tuple #[.agg #[.bool bg, .bool ad, .bool fi, .bool li, .bool re, .int .u8 pb], .int .i64 n, .int .i64 k]) ∧ Below w.heap.size w w' := by
  have := feed_any v0 v1 v2 v3 v4 v5 b w
  rw [h.out] at this
  exact this

theorem quoted_any (d q e b : Int) (w : World) : Calls Try.prog 69 #[.agg #[.int .u8 d, .int .u8 q, .int .i64 e], .int .u8 b] w fun x w' =>
    x = .returned (.tuple #[.agg #[.bool (quotedR q b).ev.bg, .bool (quotedR q b).ev.ad, .bool (quotedR q b).ev.fi, .bool (quotedR q b).ev.li, .bool (quotedR q b).ev.re, .int .u8 (quotedR q b).ev.b], .int .i64 (quotedR q b).n, .int .i64 (quotedR q b).k]) ∧ Below w.heap.size w w' := by
  cases h1 : (b == q)
  all_goals
    first | (have g1 := beq_t h1) | (have g1 := beq_f h1)
    go_enter Try.func69, Try.ntmps69
    go_wp2_with fail
    refine bodyPost_ret ?_ rfl ⟨rfl, ?_⟩
    · simp [results, Try.results69, go_sem, quotedR, h1, g1, ev0, evAdd]
    · (repeat (first | (with_reducible exact Below.refl _ _) | with_reducible refine up_alloc ?_ _ | with_reducible refine up_onto ?_ _ | with_reducible refine up_drew ?_ | with_reducible refine up_set ?_ (by first | (simp; done) | (simp; omega)) _))

theorem quoted_is (d q e b : Int) (bg ad fi li re : Bool) (pb n k : Int) (h : Hid (quotedR q b = ⟨⟨bg, ad, fi, li, re, pb⟩, n, k⟩)) (w : World) : Calls Try.prog 69 #[.agg #[.int .u8 d, .int .u8 q, .int .i64 e], .int .u8 b] w fun x w' =>
    x = .returned (.tuple #[.agg #[.bool bg, .bool ad, .bool fi, .bool li, .bool re, .int .u8 pb], .int .i64 n, .int .i64 k]) ∧ Below w.heap.size w w' := by
  have := quoted_any d q e b w
  rw [h.out] at this
  exact this

theorem closing_any (d q e b : Int) (w : World) : Calls Try.prog 70 #[.agg #[.int .u8 d, .int .u8 q, .int .i64 e], .int .u8 b] w fun x w' =>
    x = .returned (.tuple #[.agg #[.bool (closingR d q b).ev.bg, .bool (closingR d q b).ev.ad, .bool (closingR d q b).ev.fi, .bool (closingR d q b).ev.li, .bool (closingR d q b).ev.re, .int .u8 (closingR d q b).ev.b], .int .i64 (closingR d q b).n, .int .i64 (closingR d q b).k]) ∧ Below w.heap.size w w' := by
  obtain ⟨v, hv⟩ : ∃ v, parE d b = v := ⟨_, rfl⟩
  obtain ⟨n, hn⟩ : ∃ n, parN d b = n := ⟨_, rfl⟩
  have V := Lib.hid hv
  have N := Lib.hid hn
  clear hv hn
  obtain ⟨bg, ad, fi, li, re, pb⟩ := v
  cases hk : parB d b <;> cases h1 : (b == q)
  all_goals
    have K := Lib.hid hk
    clear hk
    first | (have g1 := beq_t h1) | (have g1 := beq_f h1)
    go_enter Try.func70, Try.ntmps70
    go_wp2_with (first | (go_at_call 74; ((with_reducible refine (above (parting_is d q e b _ _ _ V N K _)).mono ?_); rintro x _ ⟨rfl, y, rfl⟩)))
    refine bodyPost_ret ?_ rfl ⟨rfl, ?_⟩
    · simp [results, Try.results70, go_sem, closingR, V.out, N.out, K.out, h1, g1, ev0, evAdd]
    · (repeat (first | (with_reducible exact Below.refl _ _) | with_reducible refine up_alloc ?_ _ | with_reducible refine up_onto ?_ _ | with_reducible refine up_drew ?_ | with_reducible refine up_set ?_ (by first | (simp; done) | (simp; omega)) _))

theorem closing_is (d q e b : Int) (bg ad fi li re : Bool) (pb n k : Int) (h : Hid (closingR d q b = ⟨⟨bg, ad, fi, li, re, pb⟩, n, k⟩)) (w : World) : Calls Try.prog 70 #[.agg #[.int .u8 d, .int .u8 q, .int .i64 e], .int .u8 b] w fun x w' =>
    x = .returned (.tuple #[.agg #[.bool bg, .bool ad, .bool fi, .bool li, .bool re, .int .u8 pb], .int .i64 n, .int .i64 k]) ∧ Below w.heap.size w w' := by
  have := closing_any d q e b w
  rw [h.out] at this
  exact this

theorem bare_any (d q e b : Int) (w : World) : Calls Try.prog 68 #[.agg #[.int .u8 d, .int .u8 q, .int .i64 e], .int .u8 b] w fun x w' =>
    x = .returned (.tuple #[.agg #[.bool (bareR d q b).ev.bg, .bool (bareR d q b).ev.ad, .bool (bareR d q b).ev.fi, .bool (bareR d q b).ev.li, .bool (bareR d q b).ev.re, .int .u8 (bareR d q b).ev.b], .int .i64 (bareR d q b).n, .int .i64 (bareR d q b).k]) ∧ Below w.heap.size w w' := by
  obtain ⟨⟨⟨bg, ad, fi, li, re, pb⟩, n, k⟩, hv⟩ : ∃ v, firstR d q b = v := ⟨_, rfl⟩
  have V := Lib.hid hv
  clear hv
  cases h1 : (b == q)
  all_goals
    first | (have g1 := beq_t h1) | (have g1 := beq_f h1)
    go_enter Try.func68, Try.ntmps68
    go_wp2_with (first | (go_at_call 67; ((with_reducible refine (above (first_is d q e b _ _ _ _ _ _ _ _ V _)).mono ?_); rintro x _ ⟨rfl, y, rfl⟩)))
    refine bodyPost_ret ?_ rfl ⟨rfl, ?_⟩
    · simp [results, Try.results68, go_sem, bareR, V.out, h1, g1, ev0]
    · (repeat (first | (with_reducible exact Below.refl _ _) | with_reducible refine up_alloc ?_ _ | with_reducible refine up_onto ?_ _ | with_reducible refine up_drew ?_ | with_reducible refine up_set ?_ (by first | (simp; done) | (simp; omega)) _))

theorem bare_is (d q e b : Int) (bg ad fi li re : Bool) (pb n k : Int) (h : Hid (bareR d q b = ⟨⟨bg, ad, fi, li, re, pb⟩, n, k⟩)) (w : World) : Calls Try.prog 68 #[.agg #[.int .u8 d, .int .u8 q, .int .i64 e], .int .u8 b] w fun x w' =>
    x = .returned (.tuple #[.agg #[.bool bg, .bool ad, .bool fi, .bool li, .bool re, .int .u8 pb], .int .i64 n, .int .i64 k]) ∧ Below w.heap.size w w' := by
  have := bare_any d q e b w
  rw [h.out] at this
  exact this

theorem ahead_any (d q e b : Int) (w : World) : Calls Try.prog 66 #[.agg #[.int .u8 d, .int .u8 q, .int .i64 e], .int .u8 b] w fun x w' =>
    x = .returned (.tuple #[.agg #[.bool (aheadR d q b).ev.bg, .bool (aheadR d q b).ev.ad, .bool (aheadR d q b).ev.fi, .bool (aheadR d q b).ev.li, .bool (aheadR d q b).ev.re, .int .u8 (aheadR d q b).ev.b], .int .i64 (aheadR d q b).n, .int .i64 (aheadR d q b).k]) ∧ Below w.heap.size w w' := by
  obtain ⟨⟨⟨bg, ad, fi, li, re, pb⟩, n, k⟩, hv⟩ : ∃ v, firstR d q b = v := ⟨_, rfl⟩
  have V := Lib.hid hv
  clear hv
  cases h1 : (b == 13) <;> cases h2 : (b == 10)
  all_goals
    first | (have g1 := beq_t h1) | (have g1 := beq_f h1)
    first | (have g2 := beq_t h2) | (have g2 := beq_f h2)
    go_enter Try.func66, Try.ntmps66
    go_wp2_with (first | (go_at_call 67; ((with_reducible refine (above (first_is d q e b _ _ _ _ _ _ _ _ V _)).mono ?_); rintro x _ ⟨rfl, y, rfl⟩)))
    refine bodyPost_ret ?_ rfl ⟨rfl, ?_⟩
    · simp [results, Try.results66, go_sem, aheadR, V.out, h1, g1, g2, ev0]
    · (repeat (first | (with_reducible exact Below.refl _ _) | with_reducible refine up_alloc ?_ _ | with_reducible refine up_onto ?_ _ | with_reducible refine up_drew ?_ | with_reducible refine up_set ?_ (by first | (simp; done) | (simp; omega)) _))

theorem ahead_is (d q e b : Int) (bg ad fi li re : Bool) (pb n k : Int) (h : Hid (aheadR d q b = ⟨⟨bg, ad, fi, li, re, pb⟩, n, k⟩)) (w : World) : Calls Try.prog 66 #[.agg #[.int .u8 d, .int .u8 q, .int .i64 e], .int .u8 b] w fun x w' =>
    x = .returned (.tuple #[.agg #[.bool bg, .bool ad, .bool fi, .bool li, .bool re, .int .u8 pb], .int .i64 n, .int .i64 k]) ∧ Below w.heap.size w w' := by
  have := ahead_any d q e b w
  rw [h.out] at this
  exact this
end Go.Proofs.Ytbglecaahopgdaa

/- Layer 4: what each byte comes to: plain functions, and contracts of the program's Step and Close and all that they call. Layer 4: more contracts of the program's functions: bare, quoted, closing, ahead, lineFeed, Step, Close. Layer 4: contracts of the program's Step and Close. -/
import Derived.Test.YtoeanbfemgmgnaaGreatDoorRows
import Derived.Test.YtoeanbfemgmgnaaGreatDoorZp
namespace Go.Proofs.YtoeanbfemgmgnaaGreatDoor
open Go.ChangeShapes Go.WideShapes Go.ChangeAt Go.RowKit
set_option linter.unusedVariables false
set_option linter.unusedSimpArgs false

def Ev.v (x : Ev) : Value := .agg #[.bool x.bg, .bool x.ad, .bool x.fi, .bool x.li, .bool x.re, .int .u8 x.b]
theorem oop_any (d q e b : Int) (w : World) : Calls Tryz.prog 94 #[.agg #[.int .u8 d, .int .u8 q, .int .i64 e], .int .u8 b] w fun x w' => x = .returned (.bool (oopB e b)) ∧ Below w.heap.size w w' := by
  cases h1 : (b == 13) <;> cases h2 : (e == 1) <;> cases h3 : (b == 10) <;> cases h4 : (e == 2)
  all_goals
    go_enter Tryz.func94, Tryz.ntmps94
    go_wp2_with fail
    go_ret
    exact ⟨ret_bool (by simp [oopB, h1, h2, h3, h4]), (Below.refl _ _).alloc (Nat.le_refl _) _⟩

theorem parting_any (d q e b : Int) (w : World) : Calls Tryz.prog 111 #[.agg #[.int .u8 d, .int .u8 q, .int .i64 e], .int .u8 b] w fun x w' =>
    x = .returned (.tuple #[.agg #[.bool (parE d b).bg, .bool (parE d b).ad, .bool (parE d b).fi, .bool (parE d b).li, .bool (parE d b).re, .int .u8 (parE d b).b], .int .i64 (parN d b), .bool (parB d b)]) ∧ Below w.heap.size w w' := by
  cases h1 : (b == d) <;> cases h2 : (b == 13) <;> cases h3 : (b == 10)
  all_goals
    go_enter Tryz.func111, Tryz.ntmps111
    go_wp2_with fail
    first | (have g1 := beq_t h1) | (have g1 := beq_f h1)
    first | (have g2 := beq_t h2) | (have g2 := beq_f h2)
    first | (have g3 := beq_t h3) | (have g3 := beq_f h3)
    refine bodyPost_ret ?_ rfl ⟨rfl, ?_⟩
    · simp [results, Tryz.results111, go_sem, parE, parN, parB, h1, h2, h3, g1, g2, g3, ev0, evRec]
    · (repeat (first | exact Below.refl _ _ | refine up_alloc ?_ _ | refine up_onto ?_ _))

theorem parting_is (d q e b : Int) (v : Ev) (n : Int) (k : Bool) (hv : Hid (parE d b = v)) (hn : Hid (parN d b = n)) (hk : Hid (parB d b = k)) (w : World) : Calls Tryz.prog 111 #[.agg #[.int .u8 d, .int .u8 q, .int .i64 e], .int .u8 b] w fun x w' =>
    x = .returned (.tuple #[.agg #[.bool v.bg, .bool v.ad, .bool v.fi, .bool v.li, .bool v.re, .int .u8 v.b], .int .i64 n, .bool k]) ∧ Below w.heap.size w w' := by
  have := parting_any d q e b w
  rw [hv.out, hn.out, hk.out] at this
  exact this

theorem first_any (d q e b : Int) (w : World) : Calls Tryz.prog 96 #[.agg #[.int .u8 d, .int .u8 q, .int .i64 e], .int .u8 b] w fun x w' =>
    x = .returned (.tuple #[.agg #[.bool (firstR d q b).ev.bg, .bool (firstR d q b).ev.ad, .bool (firstR d q b).ev.fi, .bool (firstR d q b).ev.li, .bool (firstR d q b).ev.re, .int .u8 (firstR d q b).ev.b], .int .i64 (firstR d q b).n, .int .i64 (firstR d q b).k]) ∧ Below w.heap.size w w' := by
  obtain ⟨v, hv⟩ : ∃ v, parE d b = v := ⟨_, rfl⟩
  obtain ⟨n, hn⟩ : ∃ n, parN d b = n := ⟨_, rfl⟩
  have V := Lib.hid hv
  have N := Lib.hid hn
  clear hv hn
  obtain ⟨bg, ad, fi, li, re, pb⟩ := v
  cases hk : parB d b <;> cases h1 : (b == q)
  all_goals
    have K := Lib.hid hk
    clear hk
    go_enter Tryz.func96, Tryz.ntmps96
    go_wp2_with (first | (go_at_call 111; ((with_reducible refine (above (parting_is d q e b _ _ _ V N K _)).mono ?_); rintro x _ ⟨rfl, y, rfl⟩)))
    first | (have g1 := beq_t h1) | (have g1 := beq_f h1)
    refine bodyPost_ret ?_ rfl ⟨rfl, ?_⟩
    · simp [results, Tryz.results96, go_sem, firstR, V.out, N.out, K.out, h1, g1, ev0, evAdd]
    · (repeat (first | (with_reducible exact Below.refl _ _) | with_reducible refine up_alloc ?_ _ | with_reducible refine up_onto ?_ _ | with_reducible refine up_drew ?_ | with_reducible refine up_set ?_ (by first | (simp; done) | (simp; omega)) _))
end Go.Proofs.YtoeanbfemgmgnaaGreatDoor

namespace Go.Proofs.YtoeanbfemgmgnaaGreatDoor
open Go.ChangeShapes Go.WideShapes Go.ChangeAt Go.RowKit
set_option linter.unusedVariables false
set_option linter.unusedSimpArgs false

theorem first_is (d q e b : Int) (bg ad fi li re : Bool) (pb n k : Int) (h : Hid (firstR d q b = ⟨⟨bg, ad, fi, li, re, pb⟩, n, k⟩)) (w : World) : Calls Tryz.prog 96 #[.agg #[.int .u8 d, .int .u8 q, .int .i64 e], .int .u8 b] w fun x w' =>
    x = .returned (.tuple #[.agg #[.bool bg, .bool ad, .bool fi, .bool li, .bool re, .int .u8 pb], .int .i64 n, .int .i64 k]) ∧ Below w.heap.size w w' := by
  have := first_any d q e b w
  rw [h.out] at this
  exact this

theorem feed_any (bg ad fi li re : Bool) (pb : Int) (b : Int) (w : World) : Calls Tryz.prog 100 #[.agg #[.bool bg, .bool ad, .bool fi, .bool li, .bool re, .int .u8 pb], .int .u8 b] w fun x w' =>
    x = .returned (.tuple #[.agg #[.bool (feedR ⟨bg, ad, fi, li, re, pb⟩ b).ev.bg, .bool (feedR ⟨bg, ad, fi, li, re, pb⟩ b).ev.ad, .bool (feedR ⟨bg, ad, fi, li, re, pb⟩ b).ev.fi, .bool (feedR ⟨bg, ad, fi, li, re, pb⟩ b).ev.li, .bool (feedR ⟨bg, ad, fi, li, re, pb⟩ b).ev.re, .int .u8 (feedR ⟨bg, ad, fi, li, re, pb⟩ b).ev.b], .int .i64 (feedR ⟨bg, ad, fi, li, re, pb⟩ b).n, .int .i64 (feedR ⟨bg, ad, fi, li, re, pb⟩ b).k]) ∧ Below w.heap.size w w' := by
  cases h1 : (b == 10)
  all_goals
    first | (have g1 := beq_t h1) | (have g1 := beq_f h1)
    go_enter Tryz.func100, Tryz.ntmps100
    go_wp2_with fail
    refine bodyPost_ret ?_ rfl ⟨rfl, ?_⟩
    · simp [results, Tryz.results100, go_sem, feedR, h1, g1, ev0]
    · (repeat (first | (with_reducible exact Below.refl _ _) | with_reducible refine up_alloc ?_ _ | with_reducible refine up_onto ?_ _ | with_reducible refine up_drew ?_ | with_reducible refine up_set ?_ (by first | (simp; done) | (simp; omega)) _))

theorem feed_is (v0 v1 v2 v3 v4 : Bool) (v5 b : Int) (bg ad fi li re : Bool) (pb n k : Int) (h : Hid (feedR ⟨v0, v1, v2, v3, v4, v5⟩ b = ⟨⟨bg, ad, fi, li, re, pb⟩, n, k⟩)) (w : World) : Calls Tryz.prog 100 #[.agg #[.bool v0, .bool v1, .bool v2, .bool v3, .bool v4, .int .u8 v5], .int .u8 b] w fun x w' =>
    x = .returned (.tuple #[.agg #[.bool bg, .bool ad, .bool fi, .bool li, .bool re, .int .u8 pb], .int .i64 n, .int .i64 k]) ∧ Below w.heap.size w w' := by
  have := feed_any v0 v1 v2 v3 v4 v5 b w
  rw [h.out] at this
  exact this

theorem scquoted_any (d q e b : Int) (w : World) : Calls Tryz.prog 98 #[.agg #[.int .u8 d, .int .u8 q, .int .i64 e], .int .u8 b] w fun x w' =>
    x = .returned (.tuple #[.agg #[.bool (quotedR q b).ev.bg, .bool (quotedR q b).ev.ad, .bool (quotedR q b).ev.fi, .bool (quotedR q b).ev.li, .bool (quotedR q b).ev.re, .int .u8 (quotedR q b).ev.b], .int .i64 (quotedR q b).n, .int .i64 (quotedR q b).k]) ∧ Below w.heap.size w w' := by
  cases h1 : (b == q)
  all_goals
    first | (have g1 := beq_t h1) | (have g1 := beq_f h1)
    go_enter Tryz.func98, Tryz.ntmps98
    go_wp2_with fail
    refine bodyPost_ret ?_ rfl ⟨rfl, ?_⟩
    · simp [results, Tryz.results98, go_sem, quotedR, h1, g1, ev0, evAdd]
    · (repeat (first | (with_reducible exact Below.refl _ _) | with_reducible refine up_alloc ?_ _ | with_reducible refine up_onto ?_ _ | with_reducible refine up_drew ?_ | with_reducible refine up_set ?_ (by first | (simp; done) | (simp; omega)) _))

theorem quoted_is (d q e b : Int) (bg ad fi li re : Bool) (pb n k : Int) (h : Hid (quotedR q b = ⟨⟨bg, ad, fi, li, re, pb⟩, n, k⟩)) (w : World) : Calls Tryz.prog 98 #[.agg #[.int .u8 d, .int .u8 q, .int .i64 e], .int .u8 b] w fun x w' =>
    x = .returned (.tuple #[.agg #[.bool bg, .bool ad, .bool fi, .bool li, .bool re, .int .u8 pb], .int .i64 n, .int .i64 k]) ∧ Below w.heap.size w w' := by
  have := scquoted_any d q e b w
  rw [h.out] at this
  exact this

theorem closing_any (d q e b : Int) (w : World) : Calls Tryz.prog 99 #[.agg #[.int .u8 d, .int .u8 q, .int .i64 e], .int .u8 b] w fun x w' =>
    x = .returned (.tuple #[.agg #[.bool (closingR d q b).ev.bg, .bool (closingR d q b).ev.ad, .bool (closingR d q b).ev.fi, .bool (closingR d q b).ev.li, .bool (closingR d q b).ev.re, .int .u8 (closingR d q b).ev.b], .int .i64 (closingR d q b).n, .int .i64 (closingR d q b).k]) ∧ Below w.heap.size w w' := by
  obtain ⟨v, hv⟩ : ∃ v, parE d b = v := ⟨_, rfl⟩
  obtain ⟨n, hn⟩ : ∃ n, parN d b = n := ⟨_, rfl⟩
  have V := Lib.hid hv
  have N := Lib.hid hn
  clear hv hn
  obtain ⟨bg, ad, fi, li, re, pb⟩ := v
  cases hk : parB d b <;> cases h1 : (b == q)
  all_goals
    have K := Lib.hid hk
    clear hk
    first | (have g1 := beq_t h1) | (have g1 := beq_f h1)
    go_enter Tryz.func99, Tryz.ntmps99
    go_wp2_with (first | (go_at_call 111; ((with_reducible refine (above (parting_is d q e b _ _ _ V N K _)).mono ?_); rintro x _ ⟨rfl, y, rfl⟩)))
    refine bodyPost_ret ?_ rfl ⟨rfl, ?_⟩
    · simp [results, Tryz.results99, go_sem, closingR, V.out, N.out, K.out, h1, g1, ev0, evAdd]
    · (repeat (first | (with_reducible exact Below.refl _ _) | with_reducible refine up_alloc ?_ _ | with_reducible refine up_onto ?_ _ | with_reducible refine up_drew ?_ | with_reducible refine up_set ?_ (by first | (simp; done) | (simp; omega)) _))

theorem closing_is (d q e b : Int) (bg ad fi li re : Bool) (pb n k : Int) (h : Hid (closingR d q b = ⟨⟨bg, ad, fi, li, re, pb⟩, n, k⟩)) (w : World) : Calls Tryz.prog 99 #[.agg #[.int .u8 d, .int .u8 q, .int .i64 e], .int .u8 b] w fun x w' =>
    x = .returned (.tuple #[.agg #[.bool bg, .bool ad, .bool fi, .bool li, .bool re, .int .u8 pb], .int .i64 n, .int .i64 k]) ∧ Below w.heap.size w w' := by
  have := closing_any d q e b w
  rw [h.out] at this
  exact this

theorem bare_any (d q e b : Int) (w : World) : Calls Tryz.prog 97 #[.agg #[.int .u8 d, .int .u8 q, .int .i64 e], .int .u8 b] w fun x w' =>
    x = .returned (.tuple #[.agg #[.bool (bareR d q b).ev.bg, .bool (bareR d q b).ev.ad, .bool (bareR d q b).ev.fi, .bool (bareR d q b).ev.li, .bool (bareR d q b).ev.re, .int .u8 (bareR d q b).ev.b], .int .i64 (bareR d q b).n, .int .i64 (bareR d q b).k]) ∧ Below w.heap.size w w' := by
  obtain ⟨⟨⟨bg, ad, fi, li, re, pb⟩, n, k⟩, hv⟩ : ∃ v, firstR d q b = v := ⟨_, rfl⟩
  have V := Lib.hid hv
  clear hv
  cases h1 : (b == q)
  all_goals
    first | (have g1 := beq_t h1) | (have g1 := beq_f h1)
    go_enter Tryz.func97, Tryz.ntmps97
    go_wp2_with (first | (go_at_call 96; ((with_reducible refine (above (first_is d q e b _ _ _ _ _ _ _ _ V _)).mono ?_); rintro x _ ⟨rfl, y, rfl⟩)))
    refine bodyPost_ret ?_ rfl ⟨rfl, ?_⟩
    · simp [results, Tryz.results97, go_sem, bareR, V.out, h1, g1, ev0]
    · (repeat (first | (with_reducible exact Below.refl _ _) | with_reducible refine up_alloc ?_ _ | with_reducible refine up_onto ?_ _ | with_reducible refine up_drew ?_ | with_reducible refine up_set ?_ (by first | (simp; done) | (simp; omega)) _))

theorem bare_is (d q e b : Int) (bg ad fi li re : Bool) (pb n k : Int) (h : Hid (bareR d q b = ⟨⟨bg, ad, fi, li, re, pb⟩, n, k⟩)) (w : World) : Calls Tryz.prog 97 #[.agg #[.int .u8 d, .int .u8 q, .int .i64 e], .int .u8 b] w fun x w' =>
    x = .returned (.tuple #[.agg #[.bool bg, .bool ad, .bool fi, .bool li, .bool re, .int .u8 pb], .int .i64 n, .int .i64 k]) ∧ Below w.heap.size w w' := by
  have := bare_any d q e b w
  rw [h.out] at this
  exact this

theorem ahead_any (d q e b : Int) (w : World) : Calls Tryz.prog 95 #[.agg #[.int .u8 d, .int .u8 q, .int .i64 e], .int .u8 b] w fun x w' =>
    x = .returned (.tuple #[.agg #[.bool (aheadR d q b).ev.bg, .bool (aheadR d q b).ev.ad, .bool (aheadR d q b).ev.fi, .bool (aheadR d q b).ev.li, .bool (aheadR d q b).ev.re, .int .u8 (aheadR d q b).ev.b], .int .i64 (aheadR d q b).n, .int .i64 (aheadR d q b).k]) ∧ Below w.heap.size w w' := by
  obtain ⟨⟨⟨bg, ad, fi, li, re, pb⟩, n, k⟩, hv⟩ : ∃ v, firstR d q b = v := ⟨_, rfl⟩
  have V := Lib.hid hv
  clear hv
  cases h1 : (b == 13) <;> cases h2 : (b == 10)
  all_goals
    first | (have g1 := beq_t h1) | (have g1 := beq_f h1)
    first | (have g2 := beq_t h2) | (have g2 := beq_f h2)
    go_enter Tryz.func95, Tryz.ntmps95
    go_wp2_with (first | (go_at_call 96; ((with_reducible refine (above (first_is d q e b _ _ _ _ _ _ _ _ V _)).mono ?_); rintro x _ ⟨rfl, y, rfl⟩)))
    refine bodyPost_ret ?_ rfl ⟨rfl, ?_⟩
    · simp [results, Tryz.results95, go_sem, aheadR, V.out, h1, g1, g2, ev0]
    · (repeat (first | (with_reducible exact Below.refl _ _) | with_reducible refine up_alloc ?_ _ | with_reducible refine up_onto ?_ _ | with_reducible refine up_drew ?_ | with_reducible refine up_set ?_ (by first | (simp; done) | (simp; omega)) _))

theorem ahead_is (d q e b : Int) (bg ad fi li re : Bool) (pb n k : Int) (h : Hid (aheadR d q b = ⟨⟨bg, ad, fi, li, re, pb⟩, n, k⟩)) (w : World) : Calls Tryz.prog 95 #[.agg #[.int .u8 d, .int .u8 q, .int .i64 e], .int .u8 b] w fun x w' =>
    x = .returned (.tuple #[.agg #[.bool bg, .bool ad, .bool fi, .bool li, .bool re, .int .u8 pb], .int .i64 n, .int .i64 k]) ∧ Below w.heap.size w w' := by
  have := ahead_any d q e b w
  rw [h.out] at this
  exact this
end Go.Proofs.YtoeanbfemgmgnaaGreatDoor

namespace Go.Proofs.YtoeanbfemgmgnaaGreatDoor
open Go.ChangeShapes Go.WideShapes Go.ChangeAt Go.RowKit
set_option linter.unusedVariables false
set_option linter.unusedSimpArgs false

theorem oop_is (d q e b : Int) (o : Bool) (h : Hid (oopB e b = o)) (w : World) : Calls Tryz.prog 94 #[.agg #[.int .u8 d, .int .u8 q, .int .i64 e], .int .u8 b] w fun x w' => x = .returned (.bool o) ∧ Below w.heap.size w w' := by
  have := oop_any d q e b w
  rw [h.out] at this
  exact this

set_option maxHeartbeats 800000 in
theorem step_any (d q e s b : Int) (h0 : 0 ≤ s) (h6 : s ≤ 6) (w : World) : Calls Tryz.prog 78 #[.agg #[.int .u8 d, .int .u8 q, .int .i64 e], .int .i64 s, .int .u8 b] w fun x w' =>
    x = .returned (.tuple #[.agg #[.bool (stepR d q e s b).ev.bg, .bool (stepR d q e s b).ev.ad, .bool (stepR d q e s b).ev.fi, .bool (stepR d q e s b).ev.li, .bool (stepR d q e s b).ev.re, .int .u8 (stepR d q e s b).ev.b], .int .i64 (stepR d q e s b).n, .int .i64 (stepR d q e s b).k]) ∧ Below w.heap.size w w' := by
  have hc : s = 0 ∨ s = 1 ∨ s = 2 ∨ s = 3 ∨ s = 4 ∨ s = 5 ∨ s = 6 := by omega
  obtain ⟨⟨⟨a0, b0, c0, d0, e0, f0⟩, n0, k0⟩, hv0⟩ : ∃ v, aheadR d q b = v := ⟨_, rfl⟩
  have V0 := Lib.hid hv0
  clear hv0
  obtain ⟨⟨⟨a1, b1, c1, d1, e1, f1⟩, n1, k1⟩, hv1⟩ : ∃ v, firstR d q b = v := ⟨_, rfl⟩
  have V1 := Lib.hid hv1
  clear hv1
  obtain ⟨⟨⟨a2, b2, c2, d2, e2, f2⟩, n2, k2⟩, hv2⟩ : ∃ v, bareR d q b = v := ⟨_, rfl⟩
  have V2 := Lib.hid hv2
  clear hv2
  obtain ⟨⟨⟨a3, b3, c3, d3, e3, f3⟩, n3, k3⟩, hv3⟩ : ∃ v, quotedR q b = v := ⟨_, rfl⟩
  have V3 := Lib.hid hv3
  clear hv3
  obtain ⟨⟨⟨a4, b4, c4, d4, e4, f4⟩, n4, k4⟩, hv4⟩ : ∃ v, closingR d q b = v := ⟨_, rfl⟩
  have V4 := Lib.hid hv4
  clear hv4
  obtain ⟨⟨⟨a5, b5, c5, d5, e5, f5⟩, n5, k5⟩, hv5⟩ : ∃ v, feedR ⟨false, false, false, false, true, 0⟩ b = v := ⟨_, rfl⟩
  have V5 := Lib.hid hv5
  clear hv5
  obtain ⟨⟨⟨a6, b6, c6, d6, e6, f6⟩, n6, k6⟩, hv6⟩ : ∃ v, feedR ⟨false, false, false, false, false, 0⟩ b = v := ⟨_, rfl⟩
  have V6 := Lib.hid hv6
  clear hv6
  clear h0 h6
  rcases hc with rfl | rfl | rfl | rfl | rfl | rfl | rfl <;> cases ho : oopB e b
  all_goals
    have O := Lib.hid ho
    clear ho
    go_enter Tryz.func78, Tryz.ntmps78
    go_wp2_with (first | (go_at_call 94; ((with_reducible refine (above (oop_is d q e b _ O _)).mono ?_); rintro x _ ⟨rfl, y, rfl⟩)) | (go_at_call 95; ((with_reducible refine (above (ahead_is d q e b _ _ _ _ _ _ _ _ V0 _)).mono ?_); rintro x _ ⟨rfl, y, rfl⟩)) | (go_at_call 96; ((with_reducible refine (above (first_is d q e b _ _ _ _ _ _ _ _ V1 _)).mono ?_); rintro x _ ⟨rfl, y, rfl⟩)) | (go_at_call 97; ((with_reducible refine (above (bare_is d q e b _ _ _ _ _ _ _ _ V2 _)).mono ?_); rintro x _ ⟨rfl, y, rfl⟩)) | (go_at_call 98; ((with_reducible refine (above (quoted_is d q e b _ _ _ _ _ _ _ _ V3 _)).mono ?_); rintro x _ ⟨rfl, y, rfl⟩)) | (go_at_call 99; ((with_reducible refine (above (closing_is d q e b _ _ _ _ _ _ _ _ V4 _)).mono ?_); rintro x _ ⟨rfl, y, rfl⟩)) | (go_at_call 100; ((with_reducible refine (above (feed_is _ _ _ _ _ _ b _ _ _ _ _ _ _ _ V5 _)).mono ?_); rintro x _ ⟨rfl, y, rfl⟩)) | (go_at_call 100; ((with_reducible refine (above (feed_is _ _ _ _ _ _ b _ _ _ _ _ _ _ _ V6 _)).mono ?_); rintro x _ ⟨rfl, y, rfl⟩)))
    refine bodyPost_ret ?_ rfl ⟨rfl, ?_⟩
    · simp [results, Tryz.results78, go_sem, stepR, O.out, ev0, V0.out, V1.out, V2.out, V3.out, V4.out, V5.out, V6.out]
    · (repeat (first | (with_reducible exact Below.refl _ _) | with_reducible refine up_alloc ?_ _ | with_reducible refine up_onto ?_ _ | with_reducible refine up_drew ?_ | with_reducible refine up_set ?_ (by first | (simp; done) | (simp; omega)) _))

theorem step_is (d q e s b : Int) (h0 : 0 ≤ s) (h6 : s ≤ 6) (bg ad fi li re : Bool) (pb n k : Int) (h : Hid (stepR d q e s b = ⟨⟨bg, ad, fi, li, re, pb⟩, n, k⟩)) (w : World) : Calls Tryz.prog 78 #[.agg #[.int .u8 d, .int .u8 q, .int .i64 e], .int .i64 s, .int .u8 b] w fun x w' =>
    x = .returned (.tuple #[.agg #[.bool bg, .bool ad, .bool fi, .bool li, .bool re, .int .u8 pb], .int .i64 n, .int .i64 k]) ∧ Below w.heap.size w w' := by
  have := step_any d q e s b h0 h6 w
  rw [h.out] at this
  exact this

theorem close_any (s : Int) (h0 : 0 ≤ s) (h6 : s ≤ 6) (w : World) : Calls Tryz.prog 81 #[.int .i64 s] w fun x w' =>
    x = .returned (.tuple #[.agg #[.bool (closeE s).bg, .bool (closeE s).ad, .bool (closeE s).fi, .bool (closeE s).li, .bool (closeE s).re, .int .u8 (closeE s).b], .int .i64 (closeK s)]) ∧ Below w.heap.size w w' := by
  have hc : s = 0 ∨ s = 1 ∨ s = 2 ∨ s = 3 ∨ s = 4 ∨ s = 5 ∨ s = 6 := by omega
  clear h0 h6
  rcases hc with rfl | rfl | rfl | rfl | rfl | rfl | rfl
  all_goals
    go_enter Tryz.func81, Tryz.ntmps81
    go_wp2_with fail
    refine bodyPost_ret ?_ rfl ⟨rfl, ?_⟩
    · simp [results, Tryz.results81, go_sem, closeE, closeK, ev0, evRec]
    · (repeat (first | (with_reducible exact Below.refl _ _) | with_reducible refine up_alloc ?_ _ | with_reducible refine up_onto ?_ _ | with_reducible refine up_drew ?_ | with_reducible refine up_set ?_ (by first | (simp; done) | (simp; omega)) _))
theorem close_is (s : Int) (h0 : 0 ≤ s) (h6 : s ≤ 6) (bg ad fi li re : Bool) (pb k : Int) (h : Hid (closeE s = ⟨bg, ad, fi, li, re, pb⟩)) (hk : Hid (closeK s = k)) (w : World) : Calls Tryz.prog 81 #[.int .i64 s] w fun x w' =>
    x = .returned (.tuple #[.agg #[.bool bg, .bool ad, .bool fi, .bool li, .bool re, .int .u8 pb], .int .i64 k]) ∧ Below w.heap.size w w' := by
  have := close_any s h0 h6 w
  rw [h.out, hk.out] at this
  exact this
end Go.Proofs.YtoeanbfemgmgnaaGreatDoor

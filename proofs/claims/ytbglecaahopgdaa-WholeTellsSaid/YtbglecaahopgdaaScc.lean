/- Layer 4: contracts of the program's Step and Close. -/
import Derived.Test.YtbglecaahopgdaaScb
namespace Go.Proofs.Ytbglecaahopgdaa
open Go.ChangeShapes Go.WideShapes Go.ChangeAt Go.RowKit
set_option linter.unusedVariables false
set_option linter.unusedSimpArgs false

theorem oop_is (d q e b : Int) (o : Bool) (h : Hid (oopB e b = o)) (w : World) : Calls Try.prog 65 #[.agg #[.int .u8 d, .int .u8 q, .int .i64 e], .int .u8 b] w fun x w' => x = .returned (.bool o) ∧ Below w.heap.size w w' := by
  have := oop_any d q e b w
  rw [h.out] at this
  exact this

set_option maxHeartbeats 800000 in
theorem step_any (d q e s b : Int) (h0 : 0 ≤ s) (h6 : s ≤ 6) (w : World) : Calls Try.prog 58 #[.agg #[.int .u8 d, .int .u8 q, .int .i64 e], .int .i64 s, .int .u8 b] w fun x w' =>
    x = .returned (.tuple #[.agg #[.bool (stepR d q e s b).ev.bg, .bool (stepR d q e s b).ev.ad, .bool (stepR d q e s b).ev.fi, .bool (stepR d q e s b).ev.li, .bool (stepR d q e s b).ev.re, .int .u8 (stepR d q e s b).ev.b], .int .i64 (stepR d q e s b).n, .int .i64 (stepR d q e s b).k]) ∧ Below w.heap.size w w' := by
  have hc : s = 0 ∨ s = 1 ∨ s = 2 ∨ s = 3 ∨ s = 4 ∨ s = 5 ∨ s = 6 := by omega
  obtain ⟨⟨⟨a0, b0, c0, d0, e0, f0⟩, n0, k0⟩, hv0⟩ : ∃ v, aheadR d q b = v := ⟨_, rfl⟩
  have V0 := Lib.hid hv0
  clear hv0
  obtain ⟨⟨⟨a1, b1, c1, d1, e1, f1⟩, n1, k1⟩, hv1⟩ : ∃ v, firstR d q b = v := ⟨_, rfl⟩
  have V1 := Lib.hid hv1
  clear hv1
  obtain ⟨⟨⟨a2, b2, c2, d2, e2, f2⟩, n2, k2⟩, hv2⟩ : ∃ v, bareR d q b = v := ⟨_, rfl⟩
  have V2 := Lib.hid hv2
  clear hv2
  obtain ⟨⟨⟨a3, b3, c3, d3, e3, f3⟩, n3, k3⟩, hv3⟩ : ∃ v, quotedR q b = v := ⟨_, rfl⟩
  have V3 := Lib.hid hv3
  clear hv3
  obtain ⟨⟨⟨a4, b4, c4, d4, e4, f4⟩, n4, k4⟩, hv4⟩ : ∃ v, closingR d q b = v := ⟨_, rfl⟩
  have V4 := Lib.hid hv4
  clear hv4
  obtain ⟨⟨⟨a5, b5, c5, d5, e5, f5⟩, n5, k5⟩, hv5⟩ : ∃ v, feedR ⟨false, false, false, false, true, 0⟩ b = v := ⟨_, rfl⟩
  have V5 := Lib.hid hv5
  clear hv5
  obtain ⟨⟨⟨a6, b6, c6, d6, e6, f6⟩, n6, k6⟩, hv6⟩ : ∃ v, feedR ⟨false, false, false, false, false, 0⟩ b = v := ⟨_, rfl⟩
  have V6 := Lib.hid hv6
  clear hv6
  clear h0 h6
  rcases hc with rfl | rfl | rfl | rfl | rfl | rfl | rfl <;> cases ho : oopB e b
  all_goals
    have O := Lib.hid ho
    clear ho
    go_enter Try.func58, Try.ntmps58
    go_wp2_with (first | (go_at_call 65; ((with_reducible refine (above (oop_is d q e b _ O _)).mono ?_); rintro x _ ⟨rfl, y, rfl⟩)) | (go_at_call 66; ((with_reducible refine (above (ahead_is d q e b _ _ _ _ _ _ _ _ V0 _)).mono ?_); rintro x _ ⟨rfl, y, rfl⟩)) | (go_at_call 67; ((with_reducible refine (above (first_is d q e b _ _ _ _ _ _ _ _ V1 _)).mono ?_); rintro x _ ⟨rfl, y, rfl⟩)) | (go_at_call 68; ((with_reducible refine (above (bare_is d q e b _ _ _ _ _ _ _ _ V2 _)).mono ?_); rintro x _ ⟨rfl, y, rfl⟩)) | (go_at_call 69; ((with_reducible refine (above (quoted_is d q e b _ _ _ _ _ _ _ _ V3 _)).mono ?_); rintro x _ ⟨rfl, y, rfl⟩)) | (go_at_call 70; ((with_reducible refine (above (closing_is d q e b _ _ _ _ _ _ _ _ V4 _)).mono ?_); rintro x _ ⟨rfl, y, rfl⟩)) | (go_at_call 71; ((with_reducible refine (above (feed_is _ _ _ _ _ _ b _ _ _ _ _ _ _ _ V5 _)).mono ?_); rintro x _ ⟨rfl, y, rfl⟩)) | (go_at_call 71; ((with_reducible refine (above (feed_is _ _ _ _ _ _ b _ _ _ _ _ _ _ _ V6 _)).mono ?_); rintro x _ ⟨rfl, y, rfl⟩)))
    refine bodyPost_ret ?_ rfl ⟨rfl, ?_⟩
    · simp [results, Try.results58, go_sem, stepR, O.out, ev0, V0.out, V1.out, V2.out, V3.out, V4.out, V5.out, V6.out]
    · (repeat (first | (with_reducible exact Below.refl _ _) | with_reducible refine up_alloc ?_ _ | with_reducible refine up_onto ?_ _ | with_reducible refine up_drew ?_ | with_reducible refine up_set ?_ (by first | (simp; done) | (simp; omega)) _))

theorem step_is (d q e s b : Int) (h0 : 0 ≤ s) (h6 : s ≤ 6) (bg ad fi li re : Bool) (pb n k : Int) (h : Hid (stepR d q e s b = ⟨⟨bg, ad, fi, li, re, pb⟩, n, k⟩)) (w : World) : Calls Try.prog 58 #[.agg #[.int .u8 d, .int .u8 q, .int .i64 e], .int .i64 s, .int .u8 b] w fun x w' =>
    x = .returned (.tuple #[.agg #[.bool bg, .bool ad, .bool fi, .bool li, .bool re, .int .u8 pb], .int .i64 n, .int .i64 k]) ∧ Below w.heap.size w w' := by
  have := step_any d q e s b h0 h6 w
  rw [h.out] at this
  exact this

theorem close_any (s : Int) (h0 : 0 ≤ s) (h6 : s ≤ 6) (w : World) : Calls Try.prog 59 #[.int .i64 s] w fun x w' =>
    x = .returned (.tuple #[.agg #[.bool (closeE s).bg, .bool (closeE s).ad, .bool (closeE s).fi, .bool (closeE s).li, .bool (closeE s).re, .int .u8 (closeE s).b], .int .i64 (closeK s)]) ∧ Below w.heap.size w w' := by
  have hc : s = 0 ∨ s = 1 ∨ s = 2 ∨ s = 3 ∨ s = 4 ∨ s = 5 ∨ s = 6 := by omega
  clear h0 h6
  rcases hc with rfl | rfl | rfl | rfl | rfl | rfl | rfl
  all_goals
    go_enter Try.func59, Try.ntmps59
    go_wp2_with fail
    refine bodyPost_ret ?_ rfl ⟨rfl, ?_⟩
    · simp [results, Try.results59, go_sem, closeE, closeK, ev0, evRec]
    · (repeat (first | (with_reducible exact Below.refl _ _) | with_reducible refine up_alloc ?_ _ | with_reducible refine up_onto ?_ _ | with_reducible refine up_drew ?_ | with_reducible refine up_set ?_ (by first | (simp; done) | (simp; omega)) _))
theorem close_is (s : Int) (h0 : 0 ≤ s) (h6 : s ≤ 6) (bg ad fi li re : Bool) (pb k : Int) (h : Hid (closeE s = ⟨bg, ad, fi, li, re, pb⟩)) (hk : Hid (closeK s = k)) (w : World) : Calls Try.prog 59 #[.int .i64 s] w fun x w' =>
    x = .returned (.tuple #[.agg #[.bool bg, .bool ad, .bool fi, .bool li, .bool re, .int .u8 pb], .int .i64 k]) ∧ Below w.heap.size w w' := by
  have := close_any s h0 h6 w
  rw [h.out, hk.out] at this
  exact this
end Go.Proofs.Ytbglecaahopgdaa

/- Layer 6: newWalker and walk; what walk answers is an iterator (walk_seq). -/
import Derived.Test.YtbglecaahopgdaaWkd
namespace Go.Proofs.Ytbglecaahopgdaa
open Go.ChangeShapes Go.WideShapes Go.ChangeAt Go.RowKit
set_option linter.unusedVariables false
set_option linter.unusedSimpArgs false
attribute [local go_sem] Oper.semAt_some

theorem yieldAt_depth {n m : Nat} {P : Program} {l : Nat} {args : Array Value} {W : World} {R : Ending → World → Prop} (h : YieldAt Fence.wide n P l args W R) : YieldAt Fence.wide m P l args W R := by
  obtain ⟨fn, tmps, assign, body, hy, hR⟩ := h
  exact ⟨fn, tmps, assign, body, hy, hR.1, fun c cs _ => hR.2 c cs (fun _ h => by simp [Fence.wide] at h)⟩

section
variable (d q e a b c : Int) (u : Bool)
set_option maxHeartbeats 800000 in
theorem nw_dial (d0 : 0 ≤ d) (d1 : d ≤ 255) (q0 : 0 ≤ q) (q1 : q ≤ 255) (h : rightB d q e = false) (w : World) : Calls Try.prog 27 #[.agg #[.int .u8 d, .int .u8 q, .int .i64 e], .agg #[.int .i64 a, .int .i64 b, .int .i64 c, .bool u]] w fun x w' =>
    x = .returned (.tuple #[.pointer none, .int .i64 1]) ∧ Below w.heap.size w w' := by
  go_enter Try.func27, Try.ntmps27
  go_wp2_with (go_at_call 36; ((with_reducible refine (above (check_no d q e d0 d1 q0 q1 h _)).mono ?_); rintro x _ ⟨rfl, yy, rfl⟩))
  go_ret2
  exact ⟨rfl, up_onto (up_alloc (up_alloc (Below.refl _ _) _) _) yy⟩
set_option maxHeartbeats 800000 in
theorem nw_lim (d0 : 0 ≤ d) (d1 : d ≤ 255) (q0 : 0 ≤ q) (q1 : q ≤ 255) (h : rightB d q e = true) (hl : Hid ((withinB a && (withinB b && withinB c)) = false)) (w : World) : Calls Try.prog 27 #[.agg #[.int .u8 d, .int .u8 q, .int .i64 e], .agg #[.int .i64 a, .int .i64 b, .int .i64 c, .bool u]] w fun x w' =>
    x = .returned (.tuple #[.pointer none, .int .i64 2]) ∧ Below w.heap.size w w' := by
  go_enter Try.func27, Try.ntmps27
  go_wp2_with (first | (go_at_call 36; ((with_reducible refine (above (check_yes d q e d0 d1 q0 q1 h _)).mono ?_); rintro x _ ⟨rfl, yy, rfl⟩)) | (go_at_call 37; ((with_reducible refine (above (new_no a b c u hl _)).mono ?_); rintro x _ ⟨rfl, yz, rfl⟩)))
  go_ret2
  exact ⟨rfl, up_onto (up_onto (up_alloc (up_alloc (Below.refl _ _) _) _) _) _⟩

def WalkerOut (w : World) (x : Ending) (w' : World) : Prop :=
  ∃ p, x = .returned (.tuple #[.pointer (some ⟨p, 0, none⟩), .int .i64 0]) ∧ Hid (∃ Z, WkB w' p d q e 0 0 (mk0 a b c u) Z ∧ (∀ k, Z k → w.heap.size ≤ k) ∧ Below w.heap.size w w')
set_option maxHeartbeats 1600000 in
theorem nw_yes (d0 : 0 ≤ d) (d1 : d ≤ 255) (q0 : 0 ≤ q) (q1 : q ≤ 255) (h : rightB d q e = true) (hl : Hid ((withinB a && (withinB b && withinB c)) = true)) (w : World) : Calls Try.prog 27 #[.agg #[.int .u8 d, .int .u8 q, .int .i64 e], .agg #[.int .i64 a, .int .i64 b, .int .i64 c, .bool u]] w
    (WalkerOut d q e a b c u w) := by
  go_enter Try.func27, Try.ntmps27
  go_wp2_with (first | (go_at_call 36; ((with_reducible refine (above (check_yes d q e d0 d1 q0 q1 h _)).mono ?_); rintro x _ ⟨rfl, yy, rfl⟩)))
  obtain ⟨V, hV⟩ : ∃ V, onto ((w.alloc (.cells #[.int .u8 d, .int .u8 q, .int .i64 e] 23)).alloc (.cells #[.int .i64 a, .int .i64 b, .int .i64 c, .bool u] 25)) yy = V := ⟨_, rfl⟩
  have HB := Lib.hid (show Below w.heap.size w V from by rw [← hV]; exact up_onto (up_alloc (up_alloc (Below.refl _ _) _) _) yy)
  have hd := (StB.alloc (StB.made w (g := w.heap.size) rfl 23 #[.int .u8 d, .int .u8 q, .int .i64 e]) (.cells #[.int .i64 a, .int .i64 b, .int .i64 c, .bool u] 25)).onto yy
  rw [hV] at hd ⊢
  clear hV
  refine (new_yes a b c u hl V).mono ?_
  rintro x w1 ⟨g, S, rfl, hm, hS, hb⟩
  have hd1 := hd.below hb.out
  have c0 : w1.cell? ⟨w.heap.size, 0, none⟩ = some (.int .u8 d) := hd1.cell 0
  have c1 : w1.cell? ⟨w.heap.size, 1, none⟩ = some (.int .u8 q) := hd1.cell 1
  have c2 : w1.cell? ⟨w.heap.size, 2, none⟩ = some (.int .i64 e) := hd1.cell 2
  have cl := hd1.lt
  clear hd hd1
  go_wp2_with fail
  go_ret2
  refine ⟨_, rfl, Lib.hid ⟨fun k => k = w1.heap.size ∨ S k, ⟨g, S, StB.new _ _ _, hm.out.below (up_alloc (Below.refl _ w1) _), fun h => by have := hm.out.lt _ h; omega, fun k => Iff.rfl⟩, ?_, ?_⟩⟩
  · rintro k (rfl | hk)
    · omega
    · have := hS.out k hk; have := HB.out.size; omega
  · exact up_alloc (HB.out.trans (hb.out.mono HB.out.size)) _
theorem walk_any (s : ByteArray) (w : World) : Calls Try.prog 19 #[.agg #[.int .u8 d, .int .u8 q, .int .i64 e], .agg #[.int .i64 a, .int .i64 b, .int .i64 c, .bool u], .string s] w fun x w' =>
    x = .returned (.func (.func 26) #[] #[.pointer (some ⟨w.heap.size, 0, none⟩), .pointer (some ⟨w.heap.size + 1, 0, none⟩), .pointer (some ⟨w.heap.size + 2, 0, none⟩)]) ∧
    w' = ((w.alloc (.cells #[.int .u8 d, .int .u8 q, .int .i64 e] 23)).alloc (.cells #[.int .i64 a, .int .i64 b, .int .i64 c, .bool u] 25)).alloc (.cells #[.string s] 9) := by
  go_enter Try.func19, Try.ntmps19
  go_wp2_with fail
  go_ret
  exact ⟨rfl, rfl⟩
end
end Go.Proofs.Ytbglecaahopgdaa

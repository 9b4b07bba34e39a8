/- Layer 2, as far as layer 6 calls it: contracts of the program's functions: what each returns; that it leaves all that was there as it was. -/
import Derived.Test.YtoeanbfemgmgnaaGreatDoorRows
import Derived.Test.YtoeanbfemgmgnaaGreatDoorZk
import Derived.Test.YtoeanbfemgmgnaaGreatDoorZp
import Derived.LoopTactic
namespace Go.Proofs.YtoeanbfemgmgnaaGreatDoor
open Go.ChangeShapes Go.WideShapes Go.ChangeAt Go.RowKit
set_option linter.unusedVariables false

theorem ret_step {a b : Int} {x y : Bool} (h : a = b) (h' : x = y) : Ending.returned (.tuple #[.int .i64 a, .bool x]) = .returned (.tuple #[.int .i64 b, .bool y]) := by rw [h, h']

set_option maxHeartbeats 400000 in
theorem utFirst_any (b : Int) (h0 : 0 ≤ b) (h1 : b ≤ 255) (w : World) : Calls Tryz.prog 92 #[.int .u8 b] w fun e w' => e = .returned (.tuple #[.int .i64 (utNx 0 b), .bool (utOk 0 b)]) ∧ w = w' := by
  have hc := ut_cls b
  have HC := Lib.hid hc
  clear hc
  go_enter Tryz.func92, Tryz.ntmps92
  go_wp2
  all_goals go_ret2
  all_goals refine ⟨ret_step ?_ ?_, rfl⟩
  all_goals
    have hc := HC.out
    rcases hc with ⟨c, o, e⟩ | ⟨c, d, o, e⟩ | ⟨c, o, e⟩ | ⟨c, o, e⟩ | ⟨c, d, f, o, e⟩ | ⟨c, o, e⟩ | ⟨c, d, o, e⟩ | ⟨c, o, e⟩ | ⟨c, o, e⟩
    all_goals first | (rw [o]; done) | (rw [e]; done) | (exfalso; simp at *; omega)

set_option maxHeartbeats 400000 in
theorem further_yes (b lo hi n : Int) (h0 : lo ≤ b) (h1 : b ≤ hi) (w : World) : Calls Tryz.prog 93 #[.int .u8 b, .int .u8 lo, .int .u8 hi, .int .i64 n] w fun e w' => e = .returned (.tuple #[.int .i64 n, .bool true]) ∧ w = w' := by
  go_enter Tryz.func93, Tryz.ntmps93
  go_wp2
  go_ret2
  exact ⟨rfl, rfl⟩
set_option maxHeartbeats 400000 in
theorem further_no (b lo hi n : Int) (h : ¬ (lo ≤ b ∧ b ≤ hi)) (w : World) : Calls Tryz.prog 93 #[.int .u8 b, .int .u8 lo, .int .u8 hi, .int .i64 n] w fun e w' => e = .returned (.tuple #[.int .i64 0, .bool false]) ∧ w = w' := by
  by_cases h0 : b < lo
  · clear h
    go_enter Tryz.func93, Tryz.ntmps93
    go_wp2
    go_ret2
    exact ⟨rfl, rfl⟩
  · have h1 : hi < b := by omega
    clear h
    go_enter Tryz.func93, Tryz.ntmps93
    go_wp2
    go_ret2
    exact ⟨rfl, rfl⟩
theorem further_any (b lo hi n : Int) (x : Bool) (v : Int) (hx : x = decide (lo ≤ b ∧ b ≤ hi)) (hv : v = if x = true then n else 0) (w : World) : Calls Tryz.prog 93 #[.int .u8 b, .int .u8 lo, .int .u8 hi, .int .i64 n] w fun e w' => e = .returned (.tuple #[.int .i64 v, .bool x]) ∧ w = w' := by
  subst hv
  by_cases h : lo ≤ b ∧ b ≤ hi
  · obtain rfl : x = true := by rw [hx]; simpa using h
    exact further_yes b lo hi n h.1 h.2 w
  · obtain rfl : x = false := by rw [hx]; simpa using h
    exact further_no b lo hi n h w

set_option maxHeartbeats 800000 in
theorem utStep_any (s b : Int) (h0 : 0 ≤ b) (h1 : b ≤ 255) (w : World) : Calls Tryz.prog 77 #[.int .i64 s, .int .u8 b] w fun e w' => e = .returned (.tuple #[.int .i64 (utNx s b), .bool (utOk s b)]) ∧ w = w' := by
  by_cases s0 : s = 0
  · subst s0
    go_enter Tryz.func77, Tryz.ntmps77
    go_wp2_with (go_at_call 92; ((with_reducible refine (utFirst_any _ h0 h1 _).mono ?_); rintro e w' ⟨rfl, rfl⟩))
    go_ret2
    exact ⟨rfl, rfl⟩
  by_cases s1 : s = 1
  · subst s1
    clear s0
    go_enter Tryz.func77, Tryz.ntmps77
    go_wp2_with (go_at_call 93; ((with_reducible refine (further_any _ _ _ _ (utOk 1 b) (utNx 1 b) (by simp [utOk]) (by simp [utNx]) _).mono ?_); rintro e w' ⟨rfl, rfl⟩))
    go_ret2
    exact ⟨rfl, rfl⟩
  by_cases s2 : s = 2
  · subst s2
    clear s0 s1
    go_enter Tryz.func77, Tryz.ntmps77
    go_wp2_with (go_at_call 93; ((with_reducible refine (further_any _ _ _ _ (utOk 2 b) (utNx 2 b) (by simp [utOk]) (by simp [utNx]) _).mono ?_); rintro e w' ⟨rfl, rfl⟩))
    go_ret2
    exact ⟨rfl, rfl⟩
  by_cases s3 : s = 3
  · subst s3
    clear s0 s1 s2
    go_enter Tryz.func77, Tryz.ntmps77
    go_wp2_with (go_at_call 93; ((with_reducible refine (further_any _ _ _ _ (utOk 3 b) (utNx 3 b) (by simp [utOk]) (by simp [utNx]) _).mono ?_); rintro e w' ⟨rfl, rfl⟩))
    go_ret2
    exact ⟨rfl, rfl⟩
  by_cases s4 : s = 4
  · subst s4
    clear s0 s1 s2 s3
    go_enter Tryz.func77, Tryz.ntmps77
    go_wp2_with (go_at_call 93; ((with_reducible refine (further_any _ _ _ _ (utOk 4 b) (utNx 4 b) (by simp [utOk]) (by simp [utNx]) _).mono ?_); rintro e w' ⟨rfl, rfl⟩))
    go_ret2
    exact ⟨rfl, rfl⟩
  by_cases s5 : s = 5
  · subst s5
    clear s0 s1 s2 s3 s4
    go_enter Tryz.func77, Tryz.ntmps77
    go_wp2_with (go_at_call 93; ((with_reducible refine (further_any _ _ _ _ (utOk 5 b) (utNx 5 b) (by simp [utOk]) (by simp [utNx]) _).mono ?_); rintro e w' ⟨rfl, rfl⟩))
    go_ret2
    exact ⟨rfl, rfl⟩
  by_cases s6 : s = 6
  · subst s6
    clear s0 s1 s2 s3 s4 s5
    go_enter Tryz.func77, Tryz.ntmps77
    go_wp2_with (go_at_call 93; ((with_reducible refine (further_any _ _ _ _ (utOk 6 b) (utNx 6 b) (by simp [utOk]) (by simp [utNx]) _).mono ?_); rintro e w' ⟨rfl, rfl⟩))
    go_ret2
    exact ⟨rfl, rfl⟩
  by_cases s7 : s = 7
  · subst s7
    clear s0 s1 s2 s3 s4 s5 s6
    go_enter Tryz.func77, Tryz.ntmps77
    go_wp2_with (go_at_call 93; ((with_reducible refine (further_any _ _ _ _ (utOk 7 b) (utNx 7 b) (by simp [utOk]) (by simp [utNx]) _).mono ?_); rintro e w' ⟨rfl, rfl⟩))
    go_ret2
    exact ⟨rfl, rfl⟩
  · have e0 : utOk s b = false := by simp [utOk, s0, s1, s2, s3, s4, s5, s6, s7]
    have e1 : utNx s b = 0 := by simp [utNx, e0]
    rw [e0, e1]
    clear e0 e1
    have a0 : (s == 0) = false := by simpa using s0
    have a1 : (s == 1) = false := by simpa using s1
    have a2 : (s == 2) = false := by simpa using s2
    have a3 : (s == 3) = false := by simpa using s3
    have a4 : (s == 4) = false := by simpa using s4
    have a5 : (s == 5) = false := by simpa using s5
    have a6 : (s == 6) = false := by simpa using s6
    have a7 : (s == 7) = false := by simpa using s7
    clear s0 s1 s2 s3 s4 s5 s6 s7
    go_enter Tryz.func77, Tryz.ntmps77
    go_wp2_with fail
    go_ret2
    exact ⟨rfl, rfl⟩

theorem utStep_is (s b n : Int) (o : Bool) (h0 : 0 ≤ b) (h1 : b ≤ 255) (hn : Hid (utNx s b = n)) (ho : Hid (utOk s b = o)) (w : World) : Calls Tryz.prog 77 #[.int .i64 s, .int .u8 b] w fun e w' => e = .returned (.tuple #[.int .i64 n, .bool o]) ∧ w = w' := by
  rw [← hn.out, ← ho.out]; exact utStep_any s b h0 h1 w
end Go.Proofs.YtoeanbfemgmgnaaGreatDoor

/- Layer 2: contracts of the program's functions: what each returns; that it leaves all that was there as it was. -/
import Derived.Test.YtolligkigihenaaRows
import Derived.Test.YtolligkigihenaaKit
import Derived.Test.YtolligkigihenaaUto
import Derived.LoopTactic
namespace Go.Proofs.Ytolligkigihenaa
open Go.ChangeShapes Go.WideShapes Go.ChangeAt Go.RowKit
set_option linter.unusedVariables false

/-- A text's bytes, as numbers. -/
def bl (s : ByteArray) : List Int := s.data.toList.map fun c => (c.toNat : Int)
theorem bl_length (s : ByteArray) : (bl s).length = s.size := by unfold bl; rw [List.length_map]; rfl
theorem bl_drop (s : ByteArray) (k : Nat) (h : k < s.size) : (bl s).drop k = ((s[k].toNat : Nat) : Int) :: (bl s).drop (k + 1) := by
  have h' : k < (bl s).length := by rw [bl_length]; exact h
  rw [List.drop_eq_getElem_cons h']
  simp [bl]
  rfl
theorem bl_end (s : ByteArray) (k : Nat) (h : s.size ≤ k) : (bl s).drop k = [] := List.drop_eq_nil_of_le (by rw [bl_length]; exact h)
theorem byte_lo (c : UInt8) : 0 ≤ ((c.toNat : Nat) : Int) := by omega
theorem byte_hi (c : UInt8) : ((c.toNat : Nat) : Int) ≤ 255 := by have := c.toNat_lt; omega
theorem ret_step {a b : Int} {x y : Bool} (h : a = b) (h' : x = y) : Ending.returned (.tuple #[.int .i64 a, .bool x]) = .returned (.tuple #[.int .i64 b, .bool y]) := by rw [h, h']

set_option maxHeartbeats 400000 in
theorem first_any (b : Int) (h0 : 0 ≤ b) (h1 : b ≤ 255) (w : World) : Calls Try.prog 18 #[.int .u8 b] w fun e w' => e = .returned (.tuple #[.int .i64 (utNx 0 b), .bool (utOk 0 b)]) ∧ w = w' := by
  have hc := ut_cls b
  have HC := Lib.hid hc
  clear hc
  go_enter Try.func18, Try.ntmps18
  go_wp2
  all_goals go_ret2
  all_goals refine ⟨ret_step ?_ ?_, rfl⟩
  all_goals
    have hc := HC.out
    rcases hc with ⟨c, o, e⟩ | ⟨c, d, o, e⟩ | ⟨c, o, e⟩ | ⟨c, o, e⟩ | ⟨c, d, f, o, e⟩ | ⟨c, o, e⟩ | ⟨c, d, o, e⟩ | ⟨c, o, e⟩ | ⟨c, o, e⟩
    all_goals first | (rw [o]; done) | (rw [e]; done) | (exfalso; simp at *; omega)

set_option maxHeartbeats 400000 in
theorem further_yes (b lo hi n : Int) (h0 : lo ≤ b) (h1 : b ≤ hi) (w : World) : Calls Try.prog 19 #[.int .u8 b, .int .u8 lo, .int .u8 hi, .int .i64 n] w fun e w' => e = .returned (.tuple #[.int .i64 n, .bool true]) ∧ w = w' := by
  go_enter Try.func19, Try.ntmps19
  go_wp2
  go_ret2
  exact ⟨rfl, rfl⟩
set_option maxHeartbeats 400000 in
theorem further_no (b lo hi n : Int) (h : ¬ (lo ≤ b ∧ b ≤ hi)) (w : World) : Calls Try.prog 19 #[.int .u8 b, .int .u8 lo, .int .u8 hi, .int .i64 n] w fun e w' => e = .returned (.tuple #[.int .i64 0, .bool false]) ∧ w = w' := by
  by_cases h0 : b < lo
  · clear h
    go_enter Try.func19, Try.ntmps19
    go_wp2
    go_ret2
    exact ⟨rfl, rfl⟩
  · have h1 : hi < b := by omega
    clear h
    go_enter Try.func19, Try.ntmps19
    go_wp2
    go_ret2
    exact ⟨rfl, rfl⟩
theorem further_any (b lo hi n : Int) (x : Bool) (v : Int) (hx : x = decide (lo ≤ b ∧ b ≤ hi)) (hv : v = if x = true then n else 0) (w : World) : Calls Try.prog 19 #[.int .u8 b, .int .u8 lo, .int .u8 hi, .int .i64 n] w fun e w' => e = .returned (.tuple #[.int .i64 v, .bool x]) ∧ w = w' := by
  subst hv
  by_cases h : lo ≤ b ∧ b ≤ hi
  · obtain rfl : x = true := by rw [hx]; simpa using h
    exact further_yes b lo hi n h.1 h.2 w
  · obtain rfl : x = false := by rw [hx]; simpa using h
    exact further_no b lo hi n h w

set_option maxHeartbeats 800000 in
theorem step_any (s b : Int) (h0 : 0 ≤ b) (h1 : b ≤ 255) (w : World) : Calls Try.prog 7 #[.int .i64 s, .int .u8 b] w fun e w' => e = .returned (.tuple #[.int .i64 (utNx s b), .bool (utOk s b)]) ∧ w = w' := by
  by_cases s0 : s = 0
  · subst s0
    go_enter Try.func7, Try.ntmps7
    go_wp2_with (go_at_call 18; ((with_reducible refine (first_any _ h0 h1 _).mono ?_); rintro e w' ⟨rfl, rfl⟩))
    go_ret2
    exact ⟨rfl, rfl⟩
  by_cases s1 : s = 1
  · subst s1
    clear s0
    go_enter Try.func7, Try.ntmps7
    go_wp2_with (go_at_call 19; ((with_reducible refine (further_any _ _ _ _ (utOk 1 b) (utNx 1 b) (by simp [utOk]) (by simp [utNx]) _).mono ?_); rintro e w' ⟨rfl, rfl⟩))
    go_ret2
    exact ⟨rfl, rfl⟩
  by_cases s2 : s = 2
  · subst s2
    clear s0 s1
    go_enter Try.func7, Try.ntmps7
    go_wp2_with (go_at_call 19; ((with_reducible refine (further_any _ _ _ _ (utOk 2 b) (utNx 2 b) (by simp [utOk]) (by simp [utNx]) _).mono ?_); rintro e w' ⟨rfl, rfl⟩))
    go_ret2
    exact ⟨rfl, rfl⟩
  by_cases s3 : s = 3
  · subst s3
    clear s0 s1 s2
    go_enter Try.func7, Try.ntmps7
    go_wp2_with (go_at_call 19; ((with_reducible refine (further_any _ _ _ _ (utOk 3 b) (utNx 3 b) (by simp [utOk]) (by simp [utNx]) _).mono ?_); rintro e w' ⟨rfl, rfl⟩))
    go_ret2
    exact ⟨rfl, rfl⟩
  by_cases s4 : s = 4
  · subst s4
    clear s0 s1 s2 s3
    go_enter Try.func7, Try.ntmps7
    go_wp2_with (go_at_call 19; ((with_reducible refine (further_any _ _ _ _ (utOk 4 b) (utNx 4 b) (by simp [utOk]) (by simp [utNx]) _).mono ?_); rintro e w' ⟨rfl, rfl⟩))
    go_ret2
    exact ⟨rfl, rfl⟩
  by_cases s5 : s = 5
  · subst s5
    clear s0 s1 s2 s3 s4
    go_enter Try.func7, Try.ntmps7
    go_wp2_with (go_at_call 19; ((with_reducible refine (further_any _ _ _ _ (utOk 5 b) (utNx 5 b) (by simp [utOk]) (by simp [utNx]) _).mono ?_); rintro e w' ⟨rfl, rfl⟩))
    go_ret2
    exact ⟨rfl, rfl⟩
  by_cases s6 : s = 6
  · subst s6
    clear s0 s1 s2 s3 s4 s5
    go_enter Try.func7, Try.ntmps7
    go_wp2_with (go_at_call 19; ((with_reducible refine (further_any _ _ _ _ (utOk 6 b) (utNx 6 b) (by simp [utOk]) (by simp [utNx]) _).mono ?_); rintro e w' ⟨rfl, rfl⟩))
    go_ret2
    exact ⟨rfl, rfl⟩
  by_cases s7 : s = 7
  · subst s7
    clear s0 s1 s2 s3 s4 s5 s6
    go_enter Try.func7, Try.ntmps7
    go_wp2_with (go_at_call 19; ((with_reducible refine (further_any _ _ _ _ (utOk 7 b) (utNx 7 b) (by simp [utOk]) (by simp [utNx]) _).mono ?_); rintro e w' ⟨rfl, rfl⟩))
    go_ret2
    exact ⟨rfl, rfl⟩
  · have e0 : utOk s b = false := by simp [utOk, s0, s1, s2, s3, s4, s5, s6, s7]
    have e1 : utNx s b = 0 := by simp [utNx, e0]
    rw [e0, e1]
    clear e0 e1
    have a0 : (s == 0) = false := by simpa using s0
    have a1 : (s == 1) = false := by simpa using s1
    have a2 : (s == 2) = false := by simpa using s2
    have a3 : (s == 3) = false := by simpa using s3
    have a4 : (s == 4) = false := by simpa using s4
    have a5 : (s == 5) = false := by simpa using s5
    have a6 : (s == 6) = false := by simpa using s6
    have a7 : (s == 7) = false := by simpa using s7
    clear s0 s1 s2 s3 s4 s5 s6 s7
    go_enter Try.func7, Try.ntmps7
    go_wp2_with fail
    go_ret2
    exact ⟨rfl, rfl⟩

set_option maxHeartbeats 800000 in
theorem run_any (s : Int) (t : ByteArray) (ht : t.size ≤ maxLen) (w : World) : Calls Try.prog 17 #[.int .i64 s, .string t] w fun e w' => e = .returned (.tuple #[.int .i64 (utRs s (bl t)), .int .i64 (utRn s (bl t))]) ∧ w = w' := by
  unfold maxLen at ht
  go_enter Try.func17, Try.ntmps17
  go_wp2_with fail
  go_loop [0, 5] (fun st n => ∃ (k : Nat) (u : Int), k ≤ t.size ∧ n = .int .i64 k ∧ st = .int .i64 u ∧ Hid (utRs s (bl t) = utRs u ((bl t).drop k)) ∧ Hid (utRn s (bl t) = k + utRn u ((bl t).drop k))) (fun _ n => t.size - (intOf n).toNat)
  case atStart => exact ⟨0, s, Nat.zero_le _, rfl, rfl, Lib.hid (by simp), Lib.hid (by simp)⟩
  case round =>
    obtain ⟨k, u, hk, rfl, rfl, H1, H2⟩ := hrel
    by_cases hlt : k < t.size
    · have hd := bl_drop t k hlt
      have HD := Lib.hid hd
      clear hd
      cases ho : utOk u ((t[k].toNat : Nat) : Int)
      · have e1 : utRs s (bl t) = u := by rw [H1.out, HD.out, utRs, if_neg (by simp [ho])]
        have e2 : utRn s (bl t) = k := by rw [H2.out, HD.out, utRn, if_neg (by simp [ho])]; rfl
        have E1 := Lib.hid e1
        have E2 := Lib.hid e2
        clear e1 e2 H1 H2
        go_wp2_with (go_at_call 7; ((with_reducible refine (step_any _ _ (byte_lo _) (byte_hi _) _).mono ?_); rintro e w' ⟨rfl, rfl⟩))
        go_ret2
        rw [E1.out, E2.out]
        exact ⟨rfl, rfl⟩
      · have e1 : utRs s (bl t) = utRs (utNx u ((t[k].toNat : Nat) : Int)) ((bl t).drop (k + 1)) := by rw [H1.out, HD.out, utRs, if_pos ho]
        have e2 : utRn s (bl t) = k + 1 + utRn (utNx u ((t[k].toNat : Nat) : Int)) ((bl t).drop (k + 1)) := by rw [H2.out, HD.out, utRn, if_pos ho]; omega
        have E1 := Lib.hid e1
        have E2 := Lib.hid e2
        clear e1 e2 H1 H2
        go_wp2_with (go_at_call 7; ((with_reducible refine (step_any _ _ (byte_lo _) (byte_hi _) _).mono ?_); rintro e w' ⟨rfl, rfl⟩))
        go_round
        case rel => exact ⟨k + 1, _, by omega, by go_num, rfl, E1, E2⟩
        case measure => simp [intOf]; omega
    · have e1 : utRs s (bl t) = u := by rw [H1.out, bl_end t k (by omega), utRs]
      have e2 : utRn s (bl t) = k := by rw [H2.out, bl_end t k (by omega), utRn]; rfl
      have E1 := Lib.hid e1
      have E2 := Lib.hid e2
      clear e1 e2 H1 H2
      go_wp2_with fail
      go_ret2
      rw [E1.out, E2.out]
      exact ⟨rfl, rfl⟩
end Go.Proofs.Ytolligkigihenaa

/- Layer 2: more contracts of the program's functions: Bad, Valid, Longest; the document's example. -/
import Derived.Test.YtolligkigihenaaUta
namespace Go.Proofs.Ytolligkigihenaa
open Go.ChangeShapes Go.WideShapes Go.ChangeAt Go.RowKit
set_option linter.unusedVariables false

def utBadK (l : List Int) : Int := if utRn 0 l < l.length then 3 else if utRs 0 l = 0 then 0 else 12
def utBadA (l : List Int) : Int := if utRn 0 l < l.length then utRn 0 l else if utRs 0 l = 0 then 0 else utRn 0 l
def utVal (l : List Int) : Bool := utBadK l == 0

set_option maxHeartbeats 400000 in
theorem bad_any (s : ByteArray) (hs : s.size ≤ maxLen) (w : World) : Calls Try.prog 12 #[.string s] w fun e w' => e = .returned (.agg #[.int .i64 (utBadK (bl s)), .int .i64 (utBadA (bl s))]) ∧ Below w.heap.size w w' := by
  have hl := bl_length s
  have hr := utRn_le 0 (bl s)
  rw [hl] at hr
  by_cases h : utRn 0 (bl s) < s.size
  · have e1 : utBadK (bl s) = 3 := by rw [utBadK, hl, if_pos h]
    have e2 : utBadA (bl s) = utRn 0 (bl s) := by rw [utBadA, hl, if_pos h]
    rw [e1, e2]
    clear e1 e2 hl
    go_enter Try.func12, Try.ntmps12
    go_wp2_with (go_at_call 17; ((with_reducible refine (run_any _ _ hs _).mono ?_); rintro e w' ⟨rfl, rfl⟩))
    exact bodyPost_ret (v := .agg #[.int .i64 3, .int .i64 (utRn 0 (bl s))]) (by simp [results, Try.results12, go_sem]) rfl ⟨rfl, up_alloc (Below.refl _ _) _⟩
  · by_cases h0 : utRs 0 (bl s) = 0
    · have e1 : utBadK (bl s) = 0 := by rw [utBadK, hl, if_neg h, if_pos h0]
      have e2 : utBadA (bl s) = 0 := by rw [utBadA, hl, if_neg h, if_pos h0]
      have h0' : (utRs 0 (bl s) != 0) = false := by simpa using h0
      rw [e1, e2]
      clear e1 e2 hl h0
      go_enter Try.func12, Try.ntmps12
      go_wp2_with (go_at_call 17; ((with_reducible refine (run_any _ _ hs _).mono ?_); rintro e w' ⟨rfl, rfl⟩))
      exact bodyPost_ret (v := .agg #[.int .i64 0, .int .i64 0]) (by simp [results, Try.results12, go_sem]) rfl ⟨rfl, up_alloc (Below.refl _ _) _⟩
    · have e1 : utBadK (bl s) = 12 := by rw [utBadK, hl, if_neg h, if_neg h0]
      have e2 : utBadA (bl s) = utRn 0 (bl s) := by rw [utBadA, hl, if_neg h, if_neg h0]
      have h0' : (utRs 0 (bl s) != 0) = true := by simpa using h0
      rw [e1, e2]
      clear e1 e2 hl h0
      go_enter Try.func12, Try.ntmps12
      go_wp2_with (go_at_call 17; ((with_reducible refine (run_any _ _ hs _).mono ?_); rintro e w' ⟨rfl, rfl⟩))
      exact bodyPost_ret (v := .agg #[.int .i64 12, .int .i64 (utRn 0 (bl s))]) (by simp [results, Try.results12, go_sem]) rfl ⟨rfl, up_alloc (Below.refl _ _) _⟩

theorem valid_any (s : ByteArray) (hs : s.size ≤ maxLen) (w : World) : Calls Try.prog 15 #[.string s] w fun e w' => e = .returned (.bool (utVal (bl s))) ∧ Below w.heap.size w w' := by
  have hfld : ∀ (x y : Value) w, (Instr.field 32 (.agg #[x, y]) 0).run Try.prog w = .ok x w := fun _ _ _ => by kernel_rfl
  go_enter Try.func15, Try.ntmps15
  go_wp2_with fail
  refine (bad_any _ hs _).mono ?_
  rintro e w1 ⟨rfl, hb⟩
  go_wp2_with fail
  go_ret
  exact ⟨rfl, hb⟩

set_option maxHeartbeats 800000 in
theorem longest_any (t : ByteArray) (ht : t.size ≤ maxLen) (w : World) : Calls Try.prog 16 #[.string t] w fun e w' => e = .returned (.int .i64 (utLon 0 0 0 (bl t))) ∧ w = w' := by
  unfold maxLen at ht
  go_enter Try.func16, Try.ntmps16
  go_wp2_with fail
  go_loop [3, 4, 5] (fun st lg n => ∃ (k g : Nat) (u : Int), k ≤ t.size ∧ n = .int .i64 k ∧ lg = .int .i64 g ∧ st = .int .i64 u ∧ Hid (utLon 0 0 0 (bl t) = utLon u k g ((bl t).drop k))) (fun _ _ n => t.size - (intOf n).toNat)
  case atStart => exact ⟨0, 0, 0, Nat.zero_le _, rfl, rfl, rfl, Lib.hid (by simp)⟩
  case round =>
    obtain ⟨k, g, u, hk, rfl, rfl, rfl, H1⟩ := hrel
    by_cases hlt : k < t.size
    · have hd := bl_drop t k hlt
      have HD := Lib.hid hd
      clear hd
      cases ho : utOk u ((t[k].toNat : Nat) : Int)
      · have e1 : utLon 0 0 0 (bl t) = g := by rw [H1.out, HD.out, utLon, if_neg (by simp [ho])]
        have E1 := Lib.hid e1
        clear e1 H1
        go_wp2_with (go_at_call 7; ((with_reducible refine (step_any _ _ (byte_lo _) (byte_hi _) _).mono ?_); rintro e w' ⟨rfl, rfl⟩))
        go_ret
        rw [E1.out]
        exact ⟨rfl, rfl⟩
      · by_cases hz : utNx u ((t[k].toNat : Nat) : Int) = 0
        · have e1 : utLon 0 0 0 (bl t) = utLon (utNx u ((t[k].toNat : Nat) : Int)) (k + 1) (k + 1) ((bl t).drop (k + 1)) := by rw [H1.out, HD.out, utLon, if_pos ho, if_pos hz]
          have E1 := Lib.hid e1
          have hz' : (utNx u ((t[k].toNat : Nat) : Int) == 0) = true := by simpa using hz
          clear e1 H1 hz
          go_wp2_with (go_at_call 7; ((with_reducible refine (step_any _ _ (byte_lo _) (byte_hi _) _).mono ?_); rintro e w' ⟨rfl, rfl⟩))
          go_round
          case rel => exact ⟨k + 1, k + 1, _, by omega, by go_num, by go_num, rfl, E1⟩
          case measure => simp [intOf]; omega
        · have e1 : utLon 0 0 0 (bl t) = utLon (utNx u ((t[k].toNat : Nat) : Int)) (k + 1) g ((bl t).drop (k + 1)) := by rw [H1.out, HD.out, utLon, if_pos ho, if_neg hz]
          have E1 := Lib.hid e1
          have hz' : (utNx u ((t[k].toNat : Nat) : Int) == 0) = false := by simpa using hz
          clear e1 H1 hz
          go_wp2_with (go_at_call 7; ((with_reducible refine (step_any _ _ (byte_lo _) (byte_hi _) _).mono ?_); rintro e w' ⟨rfl, rfl⟩))
          go_round
          case rel => exact ⟨k + 1, g, _, by omega, by go_num, rfl, rfl, E1⟩
          case measure => simp [intOf]; omega
    · have e1 : utLon 0 0 0 (bl t) = g := by rw [H1.out, bl_end t k (by omega), utLon]
      have E1 := Lib.hid e1
      clear e1 H1
      go_wp2_with fail
      go_ret
      rw [E1.out]
      exact ⟨rfl, rfl⟩

theorem step_is (s b n : Int) (h0 : 0 ≤ b) (h1 : b ≤ 255) (hn : utNx s b = n) (ho : utOk s b = true) (w : World) : Calls Try.prog 7 #[.int .i64 s, .int .u8 b] w fun e w' => e = .returned (.tuple #[.int .i64 n, .bool true]) ∧ w = w' := by
  rw [← hn, ← ho]; exact step_any s b h0 h1 w
theorem bad_is (w : World) : Calls Try.prog 12 #[.string ⟨#[226, 40]⟩] w fun e w' => e = .returned (.agg #[.int .i64 3, .int .i64 1]) ∧ Below w.heap.size w w' := by
  have e1 : utBadK (bl ⟨#[226, 40]⟩) = 3 := by decide
  have e2 : utBadA (bl ⟨#[226, 40]⟩) = 1 := by decide
  rw [← e1, ← e2]; exact bad_any _ (by decide) w
theorem utawake_any (w : World) : Calls Try.prog 10 #[] w fun x w' => x = .returned (.bool true) ∧ Below w.heap.size w w' := by
  have heq : ∀ w, (binOp .eql 32 (.agg #[.int .i64 3, .int .i64 1]) (.agg #[.int .i64 3, .int .i64 1])).run Try.prog w = .ok (.bool true) w := fun _ => by kernel_rfl
  go_enter Try.func10, Try.ntmps10
  go_wp2_with fail
  refine (step_is 0 226 2 (by decide) (by decide) (by decide) (by decide) _).mono ?_
  rintro e w' ⟨rfl, rfl⟩
  go_wp2_with fail
  refine (step_is 2 130 1 (by decide) (by decide) (by decide) (by decide) _).mono ?_
  rintro e w' ⟨rfl, rfl⟩
  go_wp2_with fail
  refine (step_is 1 172 0 (by decide) (by decide) (by decide) (by decide) _).mono ?_
  rintro e w' ⟨rfl, rfl⟩
  go_wp2_with fail
  refine (bad_is _).mono ?_
  rintro e w1 ⟨rfl, hb⟩
  go_wp2_with fail
  go_ret
  exact ⟨rfl, hb⟩
end Go.Proofs.Ytolligkigihenaa

/- Layer 2: the walk of the statement UtfSteps: the Go text returns true and leaves all that was there as it was. -/
import Derived.Test.YtolligkigihenaaUtg
namespace Go.Proofs.Ytolligkigihenaa
open Go.ChangeShapes Go.WideShapes Go.ChangeAt Go.RowKit
set_option linter.unusedVariables false

/-- The document's answer for one byte more is the program's: of 0 and 4 to 7. -/
theorem ut_step (s b : Int) (hs : s = 0 ∨ s = 4 ∨ s = 5 ∨ s = 6 ∨ s = 7) : utGoesB (beginL s ++ [b]) = utOk s b ∧ (utOk s b = true → utState (beginL s ++ [b]) = utNx s b) := by
  rcases hs with rfl | hs
  · refine ⟨bool_eq (by rw [utGoesB_iff]; exact ut_G1 b), fun ho => ?_⟩
    have : beginL 0 ++ [b] = [b] := rfl
    rw [this]
    have key : utState [b] = if b ≤ 127 then 0 else if b = 224 then 4 else if b = 237 then 5 else if b = 240 then 6 else if b = 244 then 7 else (if 240 ≤ b then 3 else if 224 ≤ b then 2 else 1) - 1 + 1 := by
      unfold utState
      rw [utSize_1]
      simp only [utB, List.length_singleton, List.getElem?_cons_zero, Option.getD_some, true_and]
      by_cases h : b ≤ 127
      · rw [if_pos h, if_pos (show utS1 b from h), if_pos rfl]
      · rw [if_neg h, if_neg (show ¬ utS1 b from h), if_neg (by omega)]; rfl
    rw [key]
    rcases ut_cls b with ⟨c, o, e⟩ | ⟨c, d, o, e⟩ | ⟨c, o, e⟩ | ⟨c, o, e⟩ | ⟨c, d, f, o, e⟩ | ⟨c, o, e⟩ | ⟨c, d, o, e⟩ | ⟨c, o, e⟩ | ⟨c, o, e⟩
    case inr.inr.inr.inr.inr.inr.inr.inr => rw [o] at ho; cases ho
    all_goals
      rw [e]
      (repeat' split) <;> omega
  · obtain ⟨a, ha, n1, n2, hg, hsz, hst⟩ : ∃ a, beginL s = [a] ∧ ¬ utS1 a ∧ ¬ utS2 a b ∧ ((utP3 a b ∨ utP4 a b) ↔ utOk s b = true) ∧ utSize [a, b] = 0 ∧ (if 240 ≤ a then (3 : Int) else if 224 ≤ a then 2 else 1) - 2 + 1 = (if s ≤ 5 then 1 else 2) := by
      rcases hs with rfl | rfl | rfl | rfl
      · exact ⟨224, rfl, by unfold utS1; omega, by unfold utS2; omega, by unfold utP3 utP4 utOk; simp <;> omega, by rw [utSize_2, if_neg (by unfold utS1; omega), if_neg (by unfold utS2; omega)], by decide⟩
      · exact ⟨237, rfl, by unfold utS1; omega, by unfold utS2; omega, by unfold utP3 utP4 utOk; simp <;> omega, by rw [utSize_2, if_neg (by unfold utS1; omega), if_neg (by unfold utS2; omega)], by decide⟩
      · exact ⟨240, rfl, by unfold utS1; omega, by unfold utS2; omega, by unfold utP3 utP4 utOk; simp <;> omega, by rw [utSize_2, if_neg (by unfold utS1; omega), if_neg (by unfold utS2; omega)], by decide⟩
      · exact ⟨244, rfl, by unfold utS1; omega, by unfold utS2; omega, by unfold utP3 utP4 utOk; simp <;> omega, by rw [utSize_2, if_neg (by unfold utS1; omega), if_neg (by unfold utS2; omega)], by decide⟩
    rw [ha]
    have hl : [a] ++ [b] = [a, b] := rfl
    rw [hl]
    refine ⟨bool_eq ?_, fun ho => ?_⟩
    · rw [utGoesB_iff, ut_G2 a b n1]
      constructor
      · rintro (h | h)
        · exact absurd h n2
        · exact hg.1 h
      · intro h; exact .inr (hg.2 h)
    · have key : utState [a, b] = (if 240 ≤ a then (3 : Int) else if 224 ≤ a then 2 else 1) - 2 + 1 := by
        simp [utState, utB, hsz]
      rw [key]
      unfold utNx
      rw [if_pos ho, hst]
      rcases hs with rfl | rfl | rfl | rfl <;> simp

theorem begin_is (s : Int) (h0 : 0 ≤ s) (h7 : s ≤ 7) (B : ByteArray) (hB : Hid (toBA (beginL s) = B)) (w : World) : Calls Try.prog 8 #[.int .i64 s] w fun e w' => e = .returned (.string B) ∧ w = w' := by
  rw [← hB.out]; exact begin_any s h0 h7 w
theorem Goes_is (s : ByteArray) (h1 : 1 ≤ s.size) (hs : s.size ≤ maxLen) (g : Bool) (hg : Hid (utGoesB (bl s) = g)) (w : World) : Calls Try.prog 9 #[.string s] w fun e w' => e = .returned (.bool g) ∧ Below w.heap.size w w' := by
  rw [← hg.out]; exact Goes_any s h1 hs w
theorem state_is (s : ByteArray) (h1 : 1 ≤ s.size) (hs : s.size ≤ 9) (g : Int) (hg : Hid (utState (bl s) = g)) (w : World) : Calls Try.prog 11 #[.string s] w fun e w' => e = .returned (.int .i64 g) ∧ Below w.heap.size w w' := by
  rw [← hg.out]; exact state_any s h1 hs w
theorem step_eq (s b : Int) (h0 : 0 ≤ b) (h1 : b ≤ 255) (n : Int) (o : Bool) (hn : Hid (utNx s b = n)) (ho : Hid (utOk s b = o)) (w : World) : Calls Try.prog 7 #[.int .i64 s, .int .u8 b] w fun e w' => e = .returned (.tuple #[.int .i64 n, .bool o]) ∧ w = w' := by
  rw [← hn.out, ← ho.out]; exact step_any s b h0 h1 w

set_option maxHeartbeats 3200000 in
theorem utfSteps_walk (x b : Int) (w : World) (hx : (Lit.int .u8 x).wf = true) (hb : (Lit.int .u8 b).wf = true) : Calls Try.prog 3 #[.int .u8 x, .int .u8 b] w fun x w' => x = .returned (.bool true) ∧ Below w.heap.size w w' := by
  obtain ⟨x0, x1⟩ := bounds_u8 hx
  obtain ⟨b0, b1⟩ := bounds_u8 hb
  clear hx hb
  obtain ⟨s, hs⟩ : ∃ s : Int, x % 8 = s := ⟨_, rfl⟩
  have s0 : 0 ≤ s := by omega
  have s7 : s ≤ 7 := by omega
  obtain ⟨B, hB⟩ : ∃ B, toBA (beginL s) = B := ⟨_, rfl⟩
  have hBz : B.size ≤ 1 := by
    rw [← hB, toBA_size]; unfold beginL; (repeat' split) <;> simp
  have hBb : bl B = beginL s := by
    rw [← hB]; refine bl_toBA _ ?_
    unfold beginL; (repeat' split) <;> simp
  have hcc : bl (B ++ toBA [b]) = beginL s ++ [b] := by
    rw [bl_append, hBb, bl_toBA [b] (by intro x hx; simp only [List.mem_cons, List.not_mem_nil, or_false] at hx; omega)]
  have hz1 : 1 ≤ (B ++ toBA [b]).size := by rw [ByteArray.size_append, toBA_size]; show 1 ≤ B.size + 1; omega
  have hz2 : (B ++ toBA [b]).size ≤ 9 := by rw [ByteArray.size_append, toBA_size]; show B.size + 1 ≤ 9; omega
  have hz3 : (B ++ toBA [b]).size ≤ maxLen := by unfold maxLen; omega
  have HB := Lib.hid hB
  have kx := fun (V : World) => run_string_list (P := Try.prog) V 26 9 5 Try.underlying26 Try.underlying5 Try.underlying9 [b] 5 1 1 rfl
  simp only [List.map_cons, List.map_nil] at kx
  obtain ⟨n, hn⟩ : ∃ n, utNx s b = n := ⟨_, rfl⟩
  obtain ⟨g, hg⟩ : ∃ g, utGoesB (beginL s ++ [b]) = g := ⟨_, rfl⟩
  obtain ⟨t, ht⟩ : ∃ t, utState (beginL s ++ [b]) = t := ⟨_, rfl⟩
  have G := Lib.hid (show utGoesB (bl (B ++ toBA [b])) = g by rw [hcc, hg])
  have T := Lib.hid (show utState (bl (B ++ toBA [b])) = t by rw [hcc, ht])
  have N := Lib.hid hn
  by_cases hc : 1 ≤ s ∧ s ≤ 3
  · obtain ⟨c1, c3⟩ := hc
    have hok : utOk s b = decide (128 ≤ b ∧ b ≤ 191) := by
      have : s = 1 ∨ s = 2 ∨ s = 3 := by omega
      rcases this with rfl | rfl | rfl <;> simp [utOk]
    by_cases hr : 128 ≤ b ∧ b ≤ 191
    · have ho : utOk s b = true := by rw [hok]; exact decide_eq_true hr
      have hnv : n = s - 1 := by
        rw [← hn]; unfold utNx; rw [if_pos ho]
        have : s = 1 ∨ s = 2 ∨ s = 3 := by omega
        rcases this with rfl | rfl | rfl <;> simp
      subst hnv
      have O := Lib.hid ho
      obtain ⟨r1, r2⟩ := hr
      clear hok ho hn hg ht hcc hBb hB
      go_enter Try.func3, Try.ntmps3
      go_wp2_with (first
        | (go_at_call 7; ((with_reducible refine (step_eq s b b0 b1 _ _ N O _).mono ?_); rintro e w' ⟨rfl, rfl⟩))
        | (go_at_call 8; ((with_reducible refine (begin_is s s0 s7 B HB _).mono ?_); rintro e w' ⟨rfl, rfl⟩))
        | (go_at_call 9; ((with_reducible refine (above (Goes_is _ hz1 hz3 g G _)).mono ?_); rintro e _ ⟨rfl, y, rfl⟩))
        | (go_at_call 11; ((with_reducible refine (above (state_is _ hz1 hz2 t T _)).mono ?_); rintro e _ ⟨rfl, y, rfl⟩))
        | (go_at_call 10; ((with_reducible refine (above (utawake_any _)).mono ?_); rintro x _ ⟨rfl, y, rfl⟩)))
      go_ret
      exact ⟨rfl, (by (repeat (first | exact Below.refl _ _ | refine up_alloc ?_ _ | refine up_onto ?_ _)))⟩
    · have ho : utOk s b = false := by rw [hok]; exact decide_eq_false hr
      have hnv : n = 0 := by rw [← hn]; unfold utNx; rw [if_neg (by rw [ho]; simp)]
      subst hnv
      have O := Lib.hid ho
      have hr' : b < 128 ∨ (128 ≤ b ∧ 191 < b) := by omega
      clear hok ho hn hg ht hcc hBb hB hr
      rcases hr' with r1 | ⟨r1, r2⟩
      all_goals
        first | have q := decide_eq_false (show ¬ b ≤ 191 by omega) | skip
        go_enter Try.func3, Try.ntmps3
        go_wp2_with (first
          | (go_at_call 7; ((with_reducible refine (step_eq s b b0 b1 _ _ N O _).mono ?_); rintro e w' ⟨rfl, rfl⟩))
          | (go_at_call 8; ((with_reducible refine (begin_is s s0 s7 B HB _).mono ?_); rintro e w' ⟨rfl, rfl⟩))
          | (go_at_call 9; ((with_reducible refine (above (Goes_is _ hz1 hz3 g G _)).mono ?_); rintro e _ ⟨rfl, y, rfl⟩))
          | (go_at_call 10; ((with_reducible refine (above (utawake_any _)).mono ?_); rintro x _ ⟨rfl, y, rfl⟩)))
        go_ret
        exact ⟨rfl, (by (repeat (first | exact Below.refl _ _ | refine up_alloc ?_ _ | refine up_onto ?_ _)))⟩
  · obtain ⟨e1, e2⟩ := ut_step s b (by omega)
    rw [hg] at e1
    rw [ht, hn] at e2
    have hc' : s < 1 ∨ (1 ≤ s ∧ 3 < s) := by omega
    clear hc
    cases g
    · have O := Lib.hid e1.symm
      have hnv : n = 0 := by rw [← hn]; unfold utNx; rw [if_neg (by rw [← e1]; simp)]
      subst hnv
      clear e1 e2 hn hg ht hcc hBb hB
      rcases hc' with r1 | ⟨r1, r2⟩
      all_goals
        first | have q := decide_eq_false (show ¬ s ≤ 3 by omega) | skip
        go_enter Try.func3, Try.ntmps3
        go_wp2_with (first
          | (go_at_call 7; ((with_reducible refine (step_eq s b b0 b1 _ _ N O _).mono ?_); rintro e w' ⟨rfl, rfl⟩))
          | (go_at_call 8; ((with_reducible refine (begin_is s s0 s7 B HB _).mono ?_); rintro e w' ⟨rfl, rfl⟩))
          | (go_at_call 9; ((with_reducible refine (above (Goes_is _ hz1 hz3 false G _)).mono ?_); rintro e _ ⟨rfl, y, rfl⟩))
          | (go_at_call 10; ((with_reducible refine (above (utawake_any _)).mono ?_); rintro x _ ⟨rfl, y, rfl⟩)))
        go_ret
        exact ⟨rfl, (by (repeat (first | exact Below.refl _ _ | refine up_alloc ?_ _ | refine up_onto ?_ _)))⟩
    · have O := Lib.hid e1.symm
      obtain rfl : t = n := e2 e1.symm
      clear e1 e2 hn hg ht hcc hBb hB
      rcases hc' with r1 | ⟨r1, r2⟩
      all_goals
        first | have q := decide_eq_false (show ¬ s ≤ 3 by omega) | skip
        go_enter Try.func3, Try.ntmps3
        go_wp2_with (first
          | (go_at_call 7; ((with_reducible refine (step_eq s b b0 b1 _ _ N O _).mono ?_); rintro e w' ⟨rfl, rfl⟩))
          | (go_at_call 8; ((with_reducible refine (begin_is s s0 s7 B HB _).mono ?_); rintro e w' ⟨rfl, rfl⟩))
          | (go_at_call 9; ((with_reducible refine (above (Goes_is _ hz1 hz3 true G _)).mono ?_); rintro e _ ⟨rfl, y, rfl⟩))
          | (go_at_call 11; ((with_reducible refine (above (state_is _ hz1 hz2 t T _)).mono ?_); rintro e _ ⟨rfl, y, rfl⟩))
          | (go_at_call 10; ((with_reducible refine (above (utawake_any _)).mono ?_); rintro x _ ⟨rfl, y, rfl⟩)))
        go_ret
        exact ⟨rfl, (by (repeat (first | exact Below.refl _ _ | refine up_alloc ?_ _ | refine up_onto ?_ _)))⟩
end Go.Proofs.Ytolligkigihenaa

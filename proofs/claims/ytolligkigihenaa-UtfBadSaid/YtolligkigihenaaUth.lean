/- Layer 2: the walks of the statements UtfBad and UtfSteps: the Go text returns true and leaves all that was there as it was. -/
import Derived.Test.YtolligkigihenaaUtg
import Derived.Laws.StructEq
namespace Go.Proofs.Ytolligkigihenaa
open Go.ChangeShapes Go.WideShapes Go.ChangeAt Go.RowKit
set_option linter.unusedVariables false

theorem fault_eql (a b : Int) (w : World) : (binOp .eql 32 (.agg #[.int .i64 a, .int .i64 b]) (.agg #[.int .i64 a, .int .i64 b])).run Try.prog w = .ok (.bool true) w := by
  have hp : Try.prog.stoodInHeld 32 = false := by kernel_rfl
  simp [run_eql_struct, run_equalIn_agg, Program.fieldsOf, Try.underlying32, hp, Op.eqFields, go_sem]

theorem bad_eq (s : ByteArray) (hs : s.size ≤ maxLen) (a b : Int) (ha : Hid (utBadK (bl s) = a)) (hb : Hid (utBadA (bl s) = b)) (w : World) : Calls Try.prog 12 #[.string s] w fun e w' => e = .returned (.agg #[.int .i64 a, .int .i64 b]) ∧ Below w.heap.size w w' := by
  rw [← ha.out, ← hb.out]; exact bad_any s hs w
theorem whole_is (s : ByteArray) (hs : s.size ≤ maxLen) (n : Nat) (hn : Hid (utWhole (bl s) = n)) (w : World) : Calls Try.prog 13 #[.string s] w fun e w' => e = .returned (.int .i64 n) ∧ Below w.heap.size w w' := by
  rw [← hn.out]; exact whole_any s hs w
theorem refBad_is (s : ByteArray) (hs : s.size ≤ 1000000) (n : Int) (hn : Hid (utRefBad (bl s) = n)) (w : World) : Calls Try.prog 14 #[.string s] w fun e w' => e = .returned (.int .i64 n) ∧ Below w.heap.size w w' := by
  rw [← hn.out]; exact refBad_any s hs w

/-- Whole and the run: three kinds of texts. -/
theorem ut_kinds (l : List Int) : (utRn 0 l < l.length ∧ utWhole l < l.length) ∨ (utRn 0 l = l.length ∧ utRs 0 l ≠ 0 ∧ utWhole l < l.length) ∨ (utRn 0 l = l.length ∧ utRs 0 l = 0 ∧ utWhole l = l.length) := by
  obtain ⟨w1, w2, w3, w4, w5⟩ := utWhole_spec _ l (Nat.le_refl _)
  have h := (ut_F2 _ w3).2.2
  have hle := utRn_le 0 l
  have hle2 := utRn_le 0 (l.drop (utWhole l))
  rw [List.length_drop] at hle2
  by_cases hw : utWhole l = l.length
  · have hd : l.drop (utWhole l) = [] := List.drop_eq_nil_of_le (by omega)
    rw [hd] at w4 w5
    exact .inr (.inr ⟨by rw [w4]; simpa [utRn] using hw, by rw [w5]; rfl, hw⟩)
  · by_cases hr : utRn 0 l < l.length
    · exact .inl ⟨hr, by omega⟩
    · refine .inr (.inl ⟨by omega, ?_, by omega⟩)
      rw [w5]
      rcases h with h | h
      · omega
      · exact h

set_option maxHeartbeats 1600000 in
theorem utfBad_walk (s : ByteArray) (w : World) (hs : s.size ≤ maxLen) : Calls Try.prog 4 #[.string s] w fun x w' => x = .returned (.bool true) ∧ Below w.heap.size w w' := by
  have hs0 : s.size ≤ 9223372036854775807 := hs
  by_cases h200 : s.size ≤ 200
  · have hs6 : s.size ≤ 1000000 := by omega
    have hl := bl_length s
    have hk := ut_kinds (bl s)
    obtain ⟨_, w2, _⟩ := utWhole_spec _ (bl s) (Nat.le_refl _)
    rw [hl] at hk
    have hfe := fault_eql
    obtain ⟨n, hn⟩ : ∃ n, utWhole (bl s) = n := ⟨_, rfl⟩
    obtain ⟨r, hr⟩ : ∃ r, utRn 0 (bl s) = r := ⟨_, rfl⟩
    have N := Lib.hid hn
    have L := Lib.hid (show utLon 0 0 0 (bl s) = n by rw [w2, hn])
    rw [hn, hr] at hk
    rcases hk with ⟨k1, k2⟩ | ⟨k1, k0, k2⟩ | ⟨k1, k0, k2⟩
    · have K := Lib.hid (show utBadK (bl s) = 3 by unfold utBadK; rw [if_pos (by omega)])
      have A := Lib.hid (show utBadA (bl s) = (r : Int) by unfold utBadA; rw [if_pos (by omega), hr])
      have R := Lib.hid (show utRefBad (bl s) = (r : Int) by unfold utRefBad; rw [if_pos (by omega), hr])
      have V := Lib.hid (show utVal (bl s) = false by unfold utVal; rw [K.out]; rfl)
      have b1 : ((n : Int) == (s.size : Int)) = false := by rw [beq_eq_false_iff_ne]; omega
      have b2 : (n == s.size) = false := by rw [beq_eq_false_iff_ne]; omega
      clear hn hr w2 hl
      go_enter Try.func4, Try.ntmps4
      go_wp2_with (first
        | (go_at_call 12; ((with_reducible refine (above (bad_eq s hs _ _ K A _)).mono ?_); rintro e _ ⟨rfl, y, rfl⟩))
        | (go_at_call 13; ((with_reducible refine (above (whole_is s hs _ N _)).mono ?_); rintro e _ ⟨rfl, y, rfl⟩))
        | (go_at_call 14; ((with_reducible refine (above (refBad_is s hs6 _ R _)).mono ?_); rintro e _ ⟨rfl, y, rfl⟩))
        | (go_at_call 15; ((with_reducible refine (above (valid_is s hs _ V _)).mono ?_); rintro e _ ⟨rfl, y, rfl⟩))
        | (go_at_call 16; ((with_reducible refine (longest_is s hs _ L _).mono ?_); rintro e w' ⟨rfl, rfl⟩))
        | (go_at_call 10; ((with_reducible refine (above (utawake_any _)).mono ?_); rintro x _ ⟨rfl, y, rfl⟩)))
      go_ret
      exact ⟨rfl, (by (repeat (first | exact Below.refl _ _ | refine up_alloc ?_ _ | refine up_onto ?_ _ | refine up_set ?_ (by first | (simp; done) | (simp; omega)) _)))⟩
    · subst k1
      have K := Lib.hid (show utBadK (bl s) = 12 by unfold utBadK; rw [if_neg (by omega), if_neg k0])
      have A := Lib.hid (show utBadA (bl s) = (s.size : Int) by unfold utBadA; rw [if_neg (by omega), if_neg k0, hr])
      have R := Lib.hid (show utRefBad (bl s) = -1 by unfold utRefBad; rw [if_neg (by omega)])
      have V := Lib.hid (show utVal (bl s) = false by unfold utVal; rw [K.out]; rfl)
      have b1 : ((n : Int) == (s.size : Int)) = false := by rw [beq_eq_false_iff_ne]; omega
      have b2 : (n == s.size) = false := by rw [beq_eq_false_iff_ne]; omega
      clear hn hr w2 hl k0
      go_enter Try.func4, Try.ntmps4
      go_wp2_with (first
        | (go_at_call 12; ((with_reducible refine (above (bad_eq s hs _ _ K A _)).mono ?_); rintro e _ ⟨rfl, y, rfl⟩))
        | (go_at_call 13; ((with_reducible refine (above (whole_is s hs _ N _)).mono ?_); rintro e _ ⟨rfl, y, rfl⟩))
        | (go_at_call 14; ((with_reducible refine (above (refBad_is s hs6 _ R _)).mono ?_); rintro e _ ⟨rfl, y, rfl⟩))
        | (go_at_call 15; ((with_reducible refine (above (valid_is s hs _ V _)).mono ?_); rintro e _ ⟨rfl, y, rfl⟩))
        | (go_at_call 16; ((with_reducible refine (longest_is s hs _ L _).mono ?_); rintro e w' ⟨rfl, rfl⟩))
        | (go_at_call 10; ((with_reducible refine (above (utawake_any _)).mono ?_); rintro x _ ⟨rfl, y, rfl⟩)))
      go_ret
      exact ⟨rfl, (by (repeat (first | exact Below.refl _ _ | refine up_alloc ?_ _ | refine up_onto ?_ _ | refine up_set ?_ (by first | (simp; done) | (simp; omega)) _)))⟩
    · subst k1
      subst k2
      have K := Lib.hid (show utBadK (bl s) = 0 by unfold utBadK; rw [if_neg (by omega), if_pos k0])
      have A := Lib.hid (show utBadA (bl s) = 0 by unfold utBadA; rw [if_neg (by omega), if_pos k0])
      have R := Lib.hid (show utRefBad (bl s) = -1 by unfold utRefBad; rw [if_neg (by omega)])
      have V := Lib.hid (show utVal (bl s) = true by unfold utVal; rw [K.out]; rfl)
      clear hn hr w2 hl k0
      go_enter Try.func4, Try.ntmps4
      go_wp2_with (first
        | (go_at_call 12; ((with_reducible refine (above (bad_eq s hs _ _ K A _)).mono ?_); rintro e _ ⟨rfl, y, rfl⟩))
        | (go_at_call 13; ((with_reducible refine (above (whole_is s hs _ N _)).mono ?_); rintro e _ ⟨rfl, y, rfl⟩))
        | (go_at_call 14; ((with_reducible refine (above (refBad_is s hs6 _ R _)).mono ?_); rintro e _ ⟨rfl, y, rfl⟩))
        | (go_at_call 15; ((with_reducible refine (above (valid_is s hs _ V _)).mono ?_); rintro e _ ⟨rfl, y, rfl⟩))
        | (go_at_call 16; ((with_reducible refine (longest_is s hs _ L _).mono ?_); rintro e w' ⟨rfl, rfl⟩))
        | (go_at_call 10; ((with_reducible refine (above (utawake_any _)).mono ?_); rintro x _ ⟨rfl, y, rfl⟩)))
      go_ret
      exact ⟨rfl, (by (repeat (first | exact Below.refl _ _ | refine up_alloc ?_ _ | refine up_onto ?_ _ | refine up_set ?_ (by first | (simp; done) | (simp; omega)) _)))⟩
  · have h200' : 200 < s.size := by omega
    go_enter Try.func4, Try.ntmps4
    go_wp2_with (go_at_call 10; ((with_reducible refine (above (utawake_any _)).mono ?_); rintro x _ ⟨rfl, y, rfl⟩))
    go_ret
    exact ⟨rfl, (by (repeat (first | exact Below.refl _ _ | refine up_alloc ?_ _ | refine up_onto ?_ _)))⟩
end Go.Proofs.Ytolligkigihenaa

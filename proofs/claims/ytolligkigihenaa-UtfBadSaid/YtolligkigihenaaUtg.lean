/- Layer 2: the walks of the statements UtfPieces and UtfTexts: the Go text returns true and leaves all that was there as it was. -/
import Derived.Test.YtolligkigihenaaUtf
namespace Go.Proofs.Ytolligkigihenaa
open Go.ChangeShapes Go.WideShapes Go.ChangeAt Go.RowKit
set_option linter.unusedVariables false

theorem utVal_iff (l : List Int) : utVal l = true ↔ utRn 0 l = l.length ∧ utRs 0 l = 0 := by
  have := utRn_le 0 l
  unfold utVal utBadK
  by_cases h : utRn 0 l < l.length
  · rw [if_pos h]; simp; omega
  · rw [if_neg h]
    by_cases h0 : utRs 0 l = 0
    · rw [if_pos h0]; simp [h0]; omega
    · rw [if_neg h0]; simp [h0]
theorem bool_eq {a b : Bool} (h : a = true ↔ b = true) : a = b := by cases a <;> cases b <;> simp_all
theorem utVal_app (a b : List Int) (h : utVal a = true) : utVal (a ++ b) = utVal b ∧ utLon 0 0 0 (a ++ b) = a.length + utLon 0 0 0 b := by
  obtain ⟨h1, h2⟩ := (utVal_iff a).1 h
  obtain ⟨r1, r2⟩ := utR_app 0 a b h1
  rw [h2] at r1 r2
  refine ⟨bool_eq ?_, ?_⟩
  · rw [utVal_iff, utVal_iff, r1, r2, List.length_append]
    constructor
    · rintro ⟨x, y⟩; exact ⟨by omega, y⟩
    · rintro ⟨x, y⟩; exact ⟨by omega, y⟩
  · rw [utLon_app _ _ _ _ _ h1, h2, utLon_all 0 0 0 a h1 h2 (fun _ => rfl), utLon_shift]
    omega
theorem utVal_byte (c : Int) : utVal [c] = decide (c < 128) := by
  apply bool_eq
  rw [utVal_iff]
  rcases ut_cls c with ⟨c, o, e⟩ | ⟨c, d, o, e⟩ | ⟨c, o, e⟩ | ⟨c, o, e⟩ | ⟨c, d, f, o, e⟩ | ⟨c, o, e⟩ | ⟨c, d, o, e⟩ | ⟨c, o, e⟩ | ⟨c, o, e⟩
  all_goals (simp [utRn, utRs, o, e]; try omega)

theorem run_is (s : Int) (t : ByteArray) (ht : t.size ≤ maxLen) (u : Int) (n : Nat) (hu : Hid (utRs s (bl t) = u)) (hn : Hid (utRn s (bl t) = n)) (w : World) : Calls Try.prog 17 #[.int .i64 s, .string t] w fun e w' => e = .returned (.tuple #[.int .i64 u, .int .i64 n]) ∧ w = w' := by
  rw [← hu.out, ← hn.out]; exact run_any s t ht w

set_option maxHeartbeats 1600000 in
theorem utfPieces_walk (s : ByteArray) (x : Int) (w : World) (hs : s.size ≤ maxLen) (hx : (Lit.int .u8 x).wf = true) : Calls Try.prog 5 #[.string s, .int .u8 x] w fun x w' => x = .returned (.bool true) ∧ Below w.heap.size w w' := by
  obtain ⟨x0, x1⟩ := bounds_u8 hx
  have hs0 : s.size ≤ 9223372036854775807 := hs
  clear hx
  by_cases h200 : s.size ≤ 200
  · obtain ⟨k, hk⟩ : ∃ k : Nat, x % ((s.size : Int) + 1) = k := ⟨(x % ((s.size : Int) + 1)).toNat, by rw [Int.toNat_of_nonneg (Int.emod_nonneg _ (by omega))]⟩
    have hk1 : k ≤ s.size := by have := Int.emod_lt_of_pos x (show (0 : Int) < (s.size : Int) + 1 by omega); omega
    have hk2 : (k : Int) ≤ s.size := by omega
    have hl := bl_length s
    have ht : bl (s.extract 0 k) = (bl s).take k := bl_take s k
    have hd : bl (s.extract k s.size) = (bl s).drop k := bl_from s k
    have hz1 : (s.extract 0 k).size ≤ maxLen := by rw [ByteArray.size_extract]; unfold maxLen; omega
    have hz2 : (s.extract k s.size).size ≤ maxLen := by rw [ByteArray.size_extract]; unfold maxLen; omega
    have hsp : bl s = (bl s).take k ++ (bl s).drop k := (List.take_append_drop _ _).symm
    have hlt : ((bl s).take k).length = k := by rw [List.length_take]; omega
    obtain ⟨m, hm⟩ : ∃ m, utRn 0 ((bl s).take k) = m := ⟨_, rfl⟩
    obtain ⟨u, hu⟩ : ∃ u, utRs 0 ((bl s).take k) = u := ⟨_, rfl⟩
    have hmk : m ≤ k := by have := utRn_le 0 ((bl s).take k); omega
    have M := Lib.hid (show utRn 0 (bl (s.extract 0 k)) = m by rw [ht, hm])
    have U := Lib.hid (show utRs 0 (bl (s.extract 0 k)) = u by rw [ht, hu])
    by_cases hlt2 : m < k
    · obtain ⟨r1, r2⟩ := utR_stop 0 ((bl s).take k) ((bl s).drop k) (by omega)
      rw [← hsp] at r1 r2
      have M2 := Lib.hid (show utRn 0 (bl s) = m by rw [r2, hm])
      have U2 := Lib.hid (show utRs 0 (bl s) = u by rw [r1, hu])
      clear r1 r2 hm hu hlt hsp hd ht hl
      go_enter Try.func5, Try.ntmps5
      go_wp2_with (first
        | (go_at_call 17; ((with_reducible refine (run_is 0 s hs u m U2 M2 _).mono ?_); rintro e w' ⟨rfl, rfl⟩))
        | (go_at_call 17; ((with_reducible refine (run_is 0 (s.extract 0 k) hz1 u m U M _).mono ?_); rintro e w' ⟨rfl, rfl⟩))
        | (go_at_call 10; ((with_reducible refine (above (utawake_any _)).mono ?_); rintro x _ ⟨rfl, y, rfl⟩)))
      go_ret
      exact ⟨rfl, (by (repeat (first | exact Below.refl _ _ | refine up_alloc ?_ _ | refine up_onto ?_ _)))⟩
    · obtain rfl : m = k := by omega
      obtain ⟨r1, r2⟩ := utR_app 0 ((bl s).take m) ((bl s).drop m) (by omega)
      rw [← hsp, hu] at r1 r2
      rw [hlt] at r2
      obtain ⟨n, hn⟩ : ∃ n, utRn u ((bl s).drop m) = n := ⟨_, rfl⟩
      obtain ⟨v, hv⟩ : ∃ v, utRs u ((bl s).drop m) = v := ⟨_, rfl⟩
      have hn' := utRn_le u ((bl s).drop m)
      rw [hn, List.length_drop, hl] at hn'
      have M2 := Lib.hid (show utRn 0 (bl s) = m + n by rw [r2, hn])
      have U2 := Lib.hid (show utRs 0 (bl s) = v by rw [r1, hv])
      have M3 := Lib.hid (show utRn u (bl (s.extract m s.size)) = n by rw [hd, hn])
      have U3 := Lib.hid (show utRs u (bl (s.extract m s.size)) = v by rw [hd, hv])
      clear r1 r2 hm hu hlt hsp hd ht hl hn hv
      go_enter Try.func5, Try.ntmps5
      go_wp2_with (first
        | (go_at_call 17; ((with_reducible refine (run_is 0 s hs v (m + n) U2 M2 _).mono ?_); rintro e w' ⟨rfl, rfl⟩))
        | (go_at_call 17; ((with_reducible refine (run_is 0 (s.extract 0 m) hz1 u m U M _).mono ?_); rintro e w' ⟨rfl, rfl⟩))
        | (go_at_call 17; ((with_reducible refine (run_is u (s.extract m s.size) hz2 v n U3 M3 _).mono ?_); rintro e w' ⟨rfl, rfl⟩))
        | (go_at_call 10; ((with_reducible refine (above (utawake_any _)).mono ?_); rintro x _ ⟨rfl, y, rfl⟩)))
      go_ret
      exact ⟨rfl, (by (repeat (first | exact Below.refl _ _ | refine up_alloc ?_ _ | refine up_onto ?_ _)))⟩
  · have h200' : 200 < s.size := by omega
    go_enter Try.func5, Try.ntmps5
    go_wp2_with (go_at_call 10; ((with_reducible refine (above (utawake_any _)).mono ?_); rintro x _ ⟨rfl, y, rfl⟩))
    go_ret
    exact ⟨rfl, (by (repeat (first | exact Below.refl _ _ | refine up_alloc ?_ _ | refine up_onto ?_ _)))⟩

theorem valid_is (s : ByteArray) (hs : s.size ≤ maxLen) (v : Bool) (hv : Hid (utVal (bl s) = v)) (w : World) : Calls Try.prog 15 #[.string s] w fun e w' => e = .returned (.bool v) ∧ Below w.heap.size w w' := by
  rw [← hv.out]; exact valid_any s hs w
theorem longest_is (s : ByteArray) (hs : s.size ≤ maxLen) (n : Nat) (hn : Hid (utLon 0 0 0 (bl s) = n)) (w : World) : Calls Try.prog 16 #[.string s] w fun e w' => e = .returned (.int .i64 n) ∧ w = w' := by
  rw [← hn.out]; exact longest_any s hs w

set_option maxHeartbeats 1600000 in
theorem utfTexts_walk (a b : ByteArray) (c : Int) (w : World) (ha : a.size ≤ maxLen) (hb : b.size ≤ maxLen) (hc : (Lit.int .u8 c).wf = true) : Calls Try.prog 6 #[.string a, .string b, .int .u8 c] w fun x w' => x = .returned (.bool true) ∧ Below w.heap.size w w' := by
  obtain ⟨c0, c1⟩ := bounds_u8 hc
  have ha0 : a.size ≤ 9223372036854775807 := ha
  have hb0 : b.size ≤ 9223372036854775807 := hb
  clear hc
  by_cases h1 : a.size ≤ 100
  · by_cases h2 : b.size ≤ 100
    · cases hv : utVal (bl a)
      · have V := Lib.hid hv
        clear hv
        go_enter Try.func6, Try.ntmps6
        go_wp2_with (first
          | (go_at_call 15; ((with_reducible refine (above (valid_is a ha false V _)).mono ?_); rintro e _ ⟨rfl, y, rfl⟩))
          | (go_at_call 10; ((with_reducible refine (above (utawake_any _)).mono ?_); rintro x _ ⟨rfl, y, rfl⟩)))
        go_ret
        exact ⟨rfl, (by (repeat (first | exact Below.refl _ _ | refine up_alloc ?_ _ | refine up_onto ?_ _)))⟩
      · have hab : (a ++ b).size ≤ maxLen := by rw [ByteArray.size_append]; unfold maxLen; omega
        have hac : (a ++ toBA [c]).size ≤ maxLen := by rw [ByteArray.size_append, toBA_size]; show a.size + 1 ≤ maxLen; unfold maxLen; omega
        obtain ⟨e1, e2⟩ := utVal_app (bl a) (bl b) hv
        have e3 := (utVal_app (bl a) [c] hv).1
        rw [utVal_byte, ← bl_toBA [c] (by intro x hx; simp only [List.mem_cons, List.not_mem_nil, or_false] at hx; omega), ← bl_append] at e3
        rw [← bl_append] at e1 e2
        rw [bl_length] at e2
        obtain ⟨v, hvb⟩ : ∃ v, utVal (bl b) = v := ⟨_, rfl⟩
        obtain ⟨n, hn⟩ : ∃ n, utLon 0 0 0 (bl b) = n := ⟨_, rfl⟩
        have hnb := utLon_le 0 0 0 (bl b) (Nat.le_refl _)
        rw [hn, bl_length] at hnb
        have V := Lib.hid hv
        have VB := Lib.hid hvb
        have VAB := Lib.hid (show utVal (bl (a ++ b)) = v by rw [e1, hvb])
        have NB := Lib.hid hn
        have NAB := Lib.hid (show utLon 0 0 0 (bl (a ++ b)) = a.size + n by rw [e2, hn])
        have kx := fun (V : World) => run_string_list (P := Try.prog) V 26 9 5 Try.underlying26 Try.underlying5 Try.underlying9 [c] 5 1 1 rfl
        simp only [List.map_cons, List.map_nil] at kx
        clear e1 e2 hvb hn hv
        by_cases h128 : c < 128
        all_goals
          first | (have hcd := decide_eq_true h128; rw [hcd] at e3) | (have hcd := decide_eq_false h128; rw [hcd] at e3)
          have VAC := Lib.hid e3
          clear e3
          cases v
          all_goals
            go_enter Try.func6, Try.ntmps6
            go_wp2_with (first
              | (go_at_call 15; ((with_reducible refine (above (valid_is a ha _ V _)).mono ?_); rintro e _ ⟨rfl, y, rfl⟩))
              | (go_at_call 15; ((with_reducible refine (above (valid_is b hb _ VB _)).mono ?_); rintro e _ ⟨rfl, y, rfl⟩))
              | (go_at_call 15; ((with_reducible refine (above (valid_is (a ++ b) hab _ VAB _)).mono ?_); rintro e _ ⟨rfl, y, rfl⟩))
              | (go_at_call 15; ((with_reducible refine (above (valid_is (a ++ toBA [c]) hac _ VAC _)).mono ?_); rintro e _ ⟨rfl, y, rfl⟩))
              | (go_at_call 16; ((with_reducible refine (longest_is b hb _ NB _).mono ?_); rintro e w' ⟨rfl, rfl⟩))
              | (go_at_call 16; ((with_reducible refine (longest_is (a ++ b) hab _ NAB _).mono ?_); rintro e w' ⟨rfl, rfl⟩))
              | (go_at_call 10; ((with_reducible refine (above (utawake_any _)).mono ?_); rintro x _ ⟨rfl, y, rfl⟩)))
            go_ret
            exact ⟨rfl, (by (repeat (first | exact Below.refl _ _ | refine up_alloc ?_ _ | refine up_onto ?_ _)))⟩
    · have h2' : 100 < b.size := by omega
      go_enter Try.func6, Try.ntmps6
      go_wp2_with (go_at_call 10; ((with_reducible refine (above (utawake_any _)).mono ?_); rintro x _ ⟨rfl, y, rfl⟩))
      go_ret
      exact ⟨rfl, (by (repeat (first | exact Below.refl _ _ | refine up_alloc ?_ _ | refine up_onto ?_ _)))⟩
  · have h1' : 100 < a.size := by omega
    go_enter Try.func6, Try.ntmps6
    go_wp2_with (go_at_call 10; ((with_reducible refine (above (utawake_any _)).mono ?_); rintro x _ ⟨rfl, y, rfl⟩))
    go_ret
    exact ⟨rfl, (by (repeat (first | exact Below.refl _ _ | refine up_alloc ?_ _ | refine up_onto ?_ _)))⟩
end Go.Proofs.Ytolligkigihenaa

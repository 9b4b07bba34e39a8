/- Layer 1: reading a dialect's text: digits, ends, Parse, and the document's own Parse. -/
import Derived.Test.YtkpcebpbhacgpaaDic
namespace Go.Proofs.Ytkpcebpbhacgpaa
open Go.ChangeShapes Go.WideShapes Go.ChangeAt Go.RowKit
set_option linter.unusedVariables false

/-- The value of a hexadecimal digit; -1: none. -/
def hval (c : Int) : Int := if 48 ≤ c ∧ c ≤ 57 then c - 48 else if 97 ≤ c ∧ c ≤ 102 then c - 87 else -1
theorem hval_lt (c : Int) : -1 ≤ hval c ∧ hval c < 16 := by unfold hval; (repeat' split) <;> omega

def digB (c : Int) : Bool := decide (0 ≤ hval c)
def digV (c : Int) : Int := if 0 ≤ hval c then hval c else 0
theorem digV_lt (c : Int) : 0 ≤ digV c ∧ digV c < 16 := by
  have := hval_lt c
  unfold digV; (repeat' split) <;> omega
def endOf (l : List UInt8) : Int := if l == [108, 102] then 1 else if l == [99, 114, 108, 102] then 2 else if l == [101, 105, 116, 104, 101, 114] then 3 else 0

set_option maxHeartbeats 400000 in
theorem digit_any (c : Int) (c0 : 0 ≤ c) (c1 : c ≤ 255) (w : World) : Calls Try.prog 28 #[.int .u8 c] w fun x w' => x = .returned (.tuple #[.int .u8 (digV c), .bool (digB c)]) ∧ w = w' := by
  by_cases h1 : 48 ≤ c ∧ c ≤ 57
  · have e1 : digV c = c - 48 := by unfold digV hval; rw [if_pos h1, if_pos (by omega)]
    have e2 : digB c = true := by unfold digB hval; rw [if_pos h1]; simp; omega
    rw [e1, e2]; clear e1 e2
    obtain ⟨a, b⟩ := h1
    go_enter Try.func28, Try.ntmps28
    go_wp2
    go_ret2
    exact ⟨rfl, rfl⟩
  · by_cases h2 : 97 ≤ c ∧ c ≤ 102
    · have e1 : digV c = c - 97 + 10 := by unfold digV hval; rw [if_neg h1, if_pos h2, if_pos (by omega)]; omega
      have e2 : digB c = true := by unfold digB hval; rw [if_neg h1, if_pos h2]; simp; omega
      rw [e1, e2]; clear e1 e2
      obtain ⟨a, b⟩ := h2
      clear h1
      go_enter Try.func28, Try.ntmps28
      go_wp2
      go_ret2
      exact ⟨rfl, rfl⟩
    · have e1 : digV c = 0 := by unfold digV hval; rw [if_neg h1, if_neg h2]; decide
      have e2 : digB c = false := by unfold digB hval; rw [if_neg h1, if_neg h2]; decide
      rw [e1, e2]; clear e1 e2
      go_enter Try.func28, Try.ntmps28
      go_wp2
      all_goals go_ret2
      all_goals exact ⟨rfl, rfl⟩
theorem or_16 (a b : Int) (a0 : 0 ≤ a) (a1 : a < 16) (b0 : 0 ≤ b) (b1 : b < 16) : bits BinOp.or IntKind.u8 (a * 16) b = 16 * a + b := by
  have h : ∀ x y : Fin 16, bits BinOp.or IntKind.u8 ((x.1 : Int) * 16) (y.1 : Int) = 16 * (x.1 : Int) + (y.1 : Int) := by decide
  have := h ⟨a.toNat, by omega⟩ ⟨b.toNat, by omega⟩
  rwa [show ((a.toNat : Nat) : Int) = a from by omega, show ((b.toNat : Nat) : Int) = b from by omega] at this
set_option maxHeartbeats 400000 in
theorem unhex_any (a b : Int) (a0 : 0 ≤ a) (a1 : a ≤ 255) (b0 : 0 ≤ b) (b1 : b ≤ 255) (w : World) : Calls Try.prog 26 #[.int .u8 a, .int .u8 b] w fun x w' => x = .returned (.tuple #[.int .u8 (16 * digV a + digV b), .bool (digB a && digB b)]) ∧ w = w' := by
  obtain ⟨k0, k1⟩ := digV_lt a
  obtain ⟨l0, l1⟩ := digV_lt b
  have ho := or_16 _ _ k0 k1 l0 l1
  have HO := Lib.hid ho
  clear ho
  cases ha : digB a <;> cases hb : digB b
  all_goals
    go_enter Try.func26, Try.ntmps26
    go_wp2_with ((go_at_call 28; ((with_reducible refine (digit_any _ (by assumption) (by assumption) _).mono ?_); rintro e w' ⟨rfl, rfl⟩)))
    go_ret2
    rw [← HO.out]
    exact ⟨rfl, rfl⟩
set_option maxHeartbeats 400000 in
theorem ending_any (s : ByteArray) (w : World) : Calls Try.prog 27 #[.string s] w fun x w' => x = .returned (.int .i64 (endOf s.toList)) ∧ w = w' := by
  go_enter Try.func27, Try.ntmps27
  go_wp2
  all_goals go_ret
  all_goals exact ⟨ret_int (by simp only [endOf, *]; rfl), rfl⟩

/-- What a text's bytes say, if it is a dialect's. -/
def formB (x0 x1 x2 x3 x4 x5 e : Int) : Bool := !(x2 != 32) && (!(x5 != 32) && ((digB x0 && digB x1) && ((digB x3 && digB x4) && !(e == 0))))
set_option maxHeartbeats 400000 in
theorem parse_short (s : ByteArray) (hs : s.size < 6) (w : World) : Calls Try.prog 19 #[.string s] w fun x w' => x = .returned (.tuple #[.agg #[.int .u8 0, .int .u8 0, .int .i64 0], .int .i64 23]) ∧ Below w.heap.size w w' := by
  go_enter Try.func19, Try.ntmps19
  go_wp2_with fail
  refine bodyPost_ret (v := .tuple #[.agg #[.int .u8 0, .int .u8 0, .int .i64 0], .int .i64 23]) (by simp [results, Try.results19, go_sem]) rfl ⟨rfl, ?_⟩
  (repeat (first | exact Below.refl _ _ | refine up_alloc ?_ _ | refine up_onto ?_ _ | refine up_drew ?_ | refine Below.trans ?_ (HB2.out.mono (up_alloc (up_onto (up_alloc (Below.refl _ _) _) _) _).size) | refine up_set ?_ (by first | (simp; done) | (simp; omega)) _))
theorem form_parts {x0 x1 x2 x3 x4 x5 e : Int} (h : formB x0 x1 x2 x3 x4 x5 e = true) : (x2 != 32) = false ∧ (x5 != 32) = false ∧ (digB x0 && digB x1) = true ∧ (digB x3 && digB x4) = true ∧ (e == 0) = false := by
  simp only [formB, Bool.and_eq_true, Bool.not_eq_true'] at h
  simp only [Bool.and_eq_true]
  exact h
set_option maxHeartbeats 800000 in
theorem parse_none (s : ByteArray) (n : 6 ≤ s.size) (hs : s.size ≤ 9223372036854775807) (x0 x1 x2 x3 x4 x5 : Int) (e0 : ((s[0]'(by omega)).toNat : Int) = x0) (e1 : ((s[1]'(by omega)).toNat : Int) = x1) (e2 : ((s[2]'(by omega)).toNat : Int) = x2)
    (e3 : ((s[3]'(by omega)).toNat : Int) = x3) (e4 : ((s[4]'(by omega)).toNat : Int) = x4) (e5 : ((s[5]'(by omega)).toNat : Int) = x5) (e : Int) (he : Hid (endOf (s.extract 6 s.size).toList = e)) (h : formB x0 x1 x2 x3 x4 x5 e = false) (w : World) : Calls Try.prog 19 #[.string s] w fun x w' => x = .returned (.tuple #[.agg #[.int .u8 0, .int .u8 0, .int .i64 0], .int .i64 23]) ∧ Below w.heap.size w w' := by
  have n' : (6 : Int) ≤ s.size := by omega
  have hx : ∀ b : UInt8, 0 ≤ (b.toNat : Int) ∧ (b.toNat : Int) ≤ 255 := fun b => by have := b.toNat_lt; omega
  obtain ⟨p0, q0⟩ := hx (s[0]'(by omega))
  obtain ⟨p1, q1⟩ := hx (s[1]'(by omega))
  obtain ⟨p3, q3⟩ := hx (s[3]'(by omega))
  obtain ⟨p4, q4⟩ := hx (s[4]'(by omega))
  rw [e0] at p0 q0; rw [e1] at p1 q1; rw [e3] at p3 q3; rw [e4] at p4 q4
  clear hx
  have H := Lib.hid h
  clear h
  cases a : (x2 != 32)
  · cases b : (x5 != 32)
    · go_enter Try.func19, Try.ntmps19
      go_wp2_with fail
      refine wp_region_onto (by kernel_rfl) (by kernel_rfl) ?_
      repeat (go_big_quiet_step ((go_at_call 26; exact calls_onto_same (unhex_any _ _ (by assumption) (by assumption) (by assumption) (by assumption) _))))
      refine wpQuiet_nil ?_
      intro _ hw'
      obtain ⟨zz, hw''⟩ := hw'
      subst hw''
      go_wp2_with fail
      refine wp_region_onto (by kernel_rfl) (by kernel_rfl) ?_
      repeat (go_big_quiet_step ((go_at_call 26; exact calls_onto_same (unhex_any _ _ (by assumption) (by assumption) (by assumption) (by assumption) _))))
      refine wpQuiet_nil ?_
      intro _ hw'
      obtain ⟨zz, hw''⟩ := hw'
      subst hw''
      go_wp2_with fail
      refine (ending_any _ _).mono ?_
      rintro x _ ⟨rfl, rfl⟩
      rw [he.out]
      cases hA : (digB x0 && digB x1) <;> cases hB : (digB x3 && digB x4) <;> cases hE : (e == 0)
      case true.true.false => exact absurd H.out (by simp only [formB, a, b, hA, hB, hE]; decide)
      all_goals
        go_wp2_with fail
        refine bodyPost_ret (v := .tuple #[.agg #[.int .u8 0, .int .u8 0, .int .i64 0], .int .i64 23]) (by simp [results, Try.results19, go_sem]) rfl ⟨rfl, ?_⟩
        (repeat (first | exact Below.refl _ _ | refine up_alloc ?_ _ | refine up_onto ?_ _ | refine up_drew ?_ | refine up_set ?_ (by first | (simp; done) | (simp; omega) | (have := onto_size; simp; omega)) _))
    · go_enter Try.func19, Try.ntmps19
      go_wp2_with fail
      refine bodyPost_ret (v := .tuple #[.agg #[.int .u8 0, .int .u8 0, .int .i64 0], .int .i64 23]) (by simp [results, Try.results19, go_sem]) rfl ⟨rfl, ?_⟩
      (repeat (first | exact Below.refl _ _ | refine up_alloc ?_ _ | refine up_onto ?_ _ | refine up_drew ?_ | refine up_set ?_ (by first | (simp; done) | (simp; omega) | (have := onto_size; simp; omega)) _))
  · go_enter Try.func19, Try.ntmps19
    go_wp2_with fail
    refine bodyPost_ret (v := .tuple #[.agg #[.int .u8 0, .int .u8 0, .int .i64 0], .int .i64 23]) (by simp [results, Try.results19, go_sem]) rfl ⟨rfl, ?_⟩
    (repeat (first | exact Below.refl _ _ | refine up_alloc ?_ _ | refine up_onto ?_ _ | refine up_drew ?_ | refine up_set ?_ (by first | (simp; done) | (simp; omega) | (have := onto_size; simp; omega)) _))
end Go.Proofs.Ytkpcebpbhacgpaa

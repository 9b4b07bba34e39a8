/- Layer 1: Parse where the text has a dialect's form. -/
import Derived.Test.YtkpcebpbhacgpaaDip
namespace Go.Proofs.Ytkpcebpbhacgpaa
open Go.ChangeShapes Go.WideShapes Go.ChangeAt Go.RowKit
set_option linter.unusedVariables false

set_option maxHeartbeats 800000 in
theorem parse_bad (s : ByteArray) (n : 6 ≤ s.size) (hs : s.size ≤ 9223372036854775807) (x0 x1 x2 x3 x4 x5 : Int) (e0 : ((s[0]'(by omega)).toNat : Int) = x0) (e1 : ((s[1]'(by omega)).toNat : Int) = x1) (e2 : ((s[2]'(by omega)).toNat : Int) = x2)
    (e3 : ((s[3]'(by omega)).toNat : Int) = x3) (e4 : ((s[4]'(by omega)).toNat : Int) = x4) (e5 : ((s[5]'(by omega)).toNat : Int) = x5) (e : Int) (he : Hid (endOf (s.extract 6 s.size).toList = e)) (h : formB x0 x1 x2 x3 x4 x5 e = true) (hr : rightB (16 * digV x0 + digV x1) (16 * digV x3 + digV x4) e = false) (w : World) : Calls Try.prog 19 #[.string s] w fun x w' => x = .returned (.tuple #[.agg #[.int .u8 0, .int .u8 0, .int .i64 0], .int .i64 1]) ∧ Below w.heap.size w w' := by
  have n' : (6 : Int) ≤ s.size := by omega
  have hx : ∀ b : UInt8, 0 ≤ (b.toNat : Int) ∧ (b.toNat : Int) ≤ 255 := fun b => by have := b.toNat_lt; omega
  obtain ⟨p0, q0⟩ := hx (s[0]'(by omega))
  obtain ⟨p1, q1⟩ := hx (s[1]'(by omega))
  obtain ⟨p3, q3⟩ := hx (s[3]'(by omega))
  obtain ⟨p4, q4⟩ := hx (s[4]'(by omega))
  rw [e0] at p0 q0; rw [e1] at p1 q1; rw [e3] at p3 q3; rw [e4] at p4 q4
  clear hx
  obtain ⟨a, b, hA, hB, hE⟩ := form_parts h
  have HR := Lib.hid hr
  have HA := Lib.hid hA
  have HB := Lib.hid hB
  have dv := digV_lt
  obtain ⟨u0, v0⟩ := dv x0
  obtain ⟨u1, v1⟩ := dv x1
  obtain ⟨u3, v3⟩ := dv x3
  obtain ⟨u4, v4⟩ := dv x4
  clear h hr hA hB dv
  go_enter Try.func19, Try.ntmps19
  go_wp2_with fail
  refine wp_region_onto (by kernel_rfl) (by kernel_rfl) ?_
  repeat (go_big_quiet_step ((go_at_call 26; exact calls_onto_same (unhex_any _ _ (by assumption) (by assumption) (by assumption) (by assumption) _))))
  refine wpQuiet_nil ?_
  intro _ hw'
  obtain ⟨zz, hw''⟩ := hw'
  subst hw''
  go_wp2_with fail
  refine wp_region_onto (by kernel_rfl) (by kernel_rfl) ?_
  repeat (go_big_quiet_step ((go_at_call 26; exact calls_onto_same (unhex_any _ _ (by assumption) (by assumption) (by assumption) (by assumption) _))))
  refine wpQuiet_nil ?_
  intro _ hw'
  obtain ⟨zz, hw''⟩ := hw'
  subst hw''
  go_wp2_with fail
  refine (ending_any _ _).mono ?_
  rintro x _ ⟨rfl, rfl⟩
  rw [he.out, HA.out, HB.out]
  go_wp2_with fail
  refine (check_no _ _ _ (by omega) (by omega) (by omega) (by omega) HR.out _).mono ?_
  rintro x V ⟨rfl, hb⟩
  obtain ⟨m0, n0⟩ := mem_up hb (a := ⟨w.heap.size, 0, none⟩) (v := .int .u8 0) (by simp [go_sem]) (by simp [go_sem])
  obtain ⟨m1, n1⟩ := mem_up hb (a := ⟨w.heap.size, 1, none⟩) (v := .int .u8 0) (by simp [go_sem]) (by simp [go_sem])
  obtain ⟨m2, n2⟩ := mem_up hb (a := ⟨w.heap.size, 2, none⟩) (v := .int .i64 0) (by simp [go_sem]) (by simp [go_sem])
  have HB2 := Lib.hid hb
  clear hb
  go_wp2_with fail
  refine bodyPost_ret (v := .tuple #[.agg #[.int .u8 0, .int .u8 0, .int .i64 0], .int .i64 1]) (by simp [results, Try.results19, go_sem, m0, m1, m2]) rfl ⟨rfl, ?_⟩
  (repeat (first | exact Below.refl _ _ | refine up_alloc ?_ _ | refine up_onto ?_ _ | refine up_drew ?_ | refine Below.trans ?_ (HB2.out.mono (up_alloc (up_onto (up_alloc (Below.refl _ _) _) _) _).size) | refine up_set ?_ (by first | (simp; done) | (simp; omega) | (have := onto_size; simp; omega)) _))
set_option maxHeartbeats 800000 in
theorem parse_ok (s : ByteArray) (n : 6 ≤ s.size) (hs : s.size ≤ 9223372036854775807) (x0 x1 x2 x3 x4 x5 : Int) (e0 : ((s[0]'(by omega)).toNat : Int) = x0) (e1 : ((s[1]'(by omega)).toNat : Int) = x1) (e2 : ((s[2]'(by omega)).toNat : Int) = x2)
    (e3 : ((s[3]'(by omega)).toNat : Int) = x3) (e4 : ((s[4]'(by omega)).toNat : Int) = x4) (e5 : ((s[5]'(by omega)).toNat : Int) = x5) (e : Int) (he : Hid (endOf (s.extract 6 s.size).toList = e)) (h : formB x0 x1 x2 x3 x4 x5 e = true) (hr : rightB (16 * digV x0 + digV x1) (16 * digV x3 + digV x4) e = true) (w : World) : Calls Try.prog 19 #[.string s] w fun x w' => x = .returned (.tuple #[.agg #[.int .u8 (16 * digV x0 + digV x1), .int .u8 (16 * digV x3 + digV x4), .int .i64 e], .int .i64 0]) ∧ Below w.heap.size w w' := by
  have n' : (6 : Int) ≤ s.size := by omega
  have hx : ∀ b : UInt8, 0 ≤ (b.toNat : Int) ∧ (b.toNat : Int) ≤ 255 := fun b => by have := b.toNat_lt; omega
  obtain ⟨p0, q0⟩ := hx (s[0]'(by omega))
  obtain ⟨p1, q1⟩ := hx (s[1]'(by omega))
  obtain ⟨p3, q3⟩ := hx (s[3]'(by omega))
  obtain ⟨p4, q4⟩ := hx (s[4]'(by omega))
  rw [e0] at p0 q0; rw [e1] at p1 q1; rw [e3] at p3 q3; rw [e4] at p4 q4
  clear hx
  obtain ⟨a, b, hA, hB, hE⟩ := form_parts h
  have HR := Lib.hid hr
  have HA := Lib.hid hA
  have HB := Lib.hid hB
  have dv := digV_lt
  obtain ⟨u0, v0⟩ := dv x0
  obtain ⟨u1, v1⟩ := dv x1
  obtain ⟨u3, v3⟩ := dv x3
  obtain ⟨u4, v4⟩ := dv x4
  clear h hr hA hB dv
  go_enter Try.func19, Try.ntmps19
  go_wp2_with fail
  refine wp_region_onto (by kernel_rfl) (by kernel_rfl) ?_
  repeat (go_big_quiet_step ((go_at_call 26; exact calls_onto_same (unhex_any _ _ (by assumption) (by assumption) (by assumption) (by assumption) _))))
  refine wpQuiet_nil ?_
  intro _ hw'
  obtain ⟨zz, hw''⟩ := hw'
  subst hw''
  go_wp2_with fail
  refine wp_region_onto (by kernel_rfl) (by kernel_rfl) ?_
  repeat (go_big_quiet_step ((go_at_call 26; exact calls_onto_same (unhex_any _ _ (by assumption) (by assumption) (by assumption) (by assumption) _))))
  refine wpQuiet_nil ?_
  intro _ hw'
  obtain ⟨zz, hw''⟩ := hw'
  subst hw''
  go_wp2_with fail
  refine (ending_any _ _).mono ?_
  rintro x _ ⟨rfl, rfl⟩
  rw [he.out, HA.out, HB.out]
  go_wp2_with fail
  refine (check_yes _ _ _ (by omega) (by omega) (by omega) (by omega) HR.out _).mono ?_
  rintro x V ⟨rfl, hb⟩
  obtain ⟨m0, n0⟩ := mem_up hb (a := ⟨w.heap.size, 0, none⟩) (v := .int .u8 0) (by simp [go_sem]) (by simp [go_sem])
  obtain ⟨m1, n1⟩ := mem_up hb (a := ⟨w.heap.size, 1, none⟩) (v := .int .u8 0) (by simp [go_sem]) (by simp [go_sem])
  obtain ⟨m2, n2⟩ := mem_up hb (a := ⟨w.heap.size, 2, none⟩) (v := .int .i64 0) (by simp [go_sem]) (by simp [go_sem])
  have l0 := (mem_up hb (a := ⟨_, 0, none⟩) (World.cell?_alloc_mark _ _ _ _ 0) (by simp [go_sem])).1
  have l1 := (mem_up hb (a := ⟨_, 1, none⟩) (World.cell?_alloc_mark _ _ _ _ 1) (by simp [go_sem])).1
  have l2 := (mem_up hb (a := ⟨_, 2, none⟩) (World.cell?_alloc_mark _ _ _ _ 2) (by simp [go_sem])).1
  have HB2 := Lib.hid hb
  clear hb
  go_wp2_with fail
  refine bodyPost_ret (v := .tuple #[.agg #[.int .u8 (16 * digV x0 + digV x1), .int .u8 (16 * digV x3 + digV x4), .int .i64 e], .int .i64 0]) (by simp [results, Try.results19, go_sem, m0, m1, m2]) rfl ⟨rfl, ?_⟩
  (repeat (first | exact Below.refl _ _ | refine up_alloc ?_ _ | refine up_onto ?_ _ | refine up_drew ?_ | refine Below.trans ?_ (HB2.out.mono (up_alloc (up_onto (up_alloc (Below.refl _ _) _) _) _).size) | refine up_set ?_ (by first | (simp; done) | (simp; omega) | (have := onto_size; simp; omega)) _))
end Go.Proofs.Ytkpcebpbhacgpaa

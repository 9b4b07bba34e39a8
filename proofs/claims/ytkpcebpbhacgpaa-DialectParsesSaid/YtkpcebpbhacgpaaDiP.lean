/- The walk of the statement DialectParses. -/
import Derived.Test.YtkpcebpbhacgpaaDit
import Derived.Test.YtkpcebpbhacgpaaDiu
namespace Go.Proofs.Ytkpcebpbhacgpaa
open Go.ChangeShapes Go.WideShapes Go.ChangeAt Go.RowKit
set_option linter.unusedVariables false

theorem cell_up0 {U V : World} (hb : Below U.heap.size U V) {a : Addr} {v : Value} (h : U.cell? a = some v) : V.cell? a = some v := (hb.cell (lt_of_cell h)).trans h
theorem cell_call {U V : World} {o : Obj} (hb : Below (U.alloc o).heap.size (U.alloc o) V) {a : Addr} {v : Value} (h : U.cell? a = some v) : V.cell? a = some v := cell_up0 hb (cell_alloc h)
theorem refParse_size (s : ByteArray) (hs : s.size ≤ 9223372036854775807) (n : s.size < 8 ∨ 12 < s.size) (w : World) :
    Calls Try.prog 20 #[.string s] w fun x w' => x = .returned (.tuple #[.agg #[.int .i64 0, .int .i64 0, .int .i64 0], .bool false]) ∧ Below w.heap.size w w' := by
  rcases n with n | n
  · have h : (s.size : Int) < 8 := by omega
    go_enter Try.func20, Try.ntmps20
    go_wp2_with fail
    refine bodyPost_ret (v := .tuple #[.agg #[.int .i64 0, .int .i64 0, .int .i64 0], .bool false]) (by simp [results, Try.results20, go_sem]) rfl ⟨rfl, ?_⟩
    (repeat (first | exact Below.refl _ _ | refine up_alloc ?_ _ | refine up_onto ?_ _ | refine up_drew ?_ | refine up_set ?_ (by first | (simp; done) | (simp; omega)) _))
  · have h : (12 : Int) < s.size := by omega
    go_enter Try.func20, Try.ntmps20
    go_wp2_with fail
    refine bodyPost_ret (v := .tuple #[.agg #[.int .i64 0, .int .i64 0, .int .i64 0], .bool false]) (by simp [results, Try.results20, go_sem]) rfl ⟨rfl, ?_⟩
    (repeat (first | exact Below.refl _ _ | refine up_alloc ?_ _ | refine up_onto ?_ _ | refine up_drew ?_ | refine up_set ?_ (by first | (simp; done) | (simp; omega)) _))

/-- Neither reader finds a dialect. -/
theorem dialectParses_none (s : ByteArray) (hs : s.size ≤ 9223372036854775807) (n60 : s.size ≤ 60)
    (hp : ∀ w, Calls Try.prog 19 #[.string s] w fun x w' => x = .returned (.tuple #[.agg #[.int .u8 0, .int .u8 0, .int .i64 0], .int .i64 23]) ∧ Below w.heap.size w w')
    (hr : ∀ w, Calls Try.prog 20 #[.string s] w fun x w' => x = .returned (.tuple #[.agg #[.int .i64 0, .int .i64 0, .int .i64 0], .bool false]) ∧ Below w.heap.size w w') (w : World) :
    Calls Try.prog 5 #[.string s] w fun x w' => x = .returned (.bool true) ∧ Below w.heap.size w w' := by
  have heq : ∀ w, (binOp .eql 23 (.agg #[.int .u8 0, .int .u8 0, .int .i64 0]) (.agg #[.int .u8 0, .int .u8 0, .int .i64 0])).run Try.prog w = .ok (.bool true) w := fun _ => by kernel_rfl
  have n60' : (s.size : Int) ≤ 60 := by omega
  have HP := Lib.hid hp
  have HR := Lib.hid hr
  clear hp hr
  go_enter Try.func5, Try.ntmps5
  go_wp2_with fail
  refine (HP.out _).mono ?_
  rintro x V1 ⟨rfl, hb1⟩
  have hu : Below w.heap.size w V1 := hb1
  have HU := Lib.hid hu
  clear hb1 hu
  go_wp2_with fail
  refine (HR.out _).mono ?_
  rintro x V2 ⟨rfl, hb⟩
  have d0 := new_call hb 0 rfl
  have d1 := new_call hb 1 rfl
  have d2 := new_call hb 2 rfl
  have hz := size_call hb
  have hu := up_call HU.out hb
  clear HU
  have HU := Lib.hid hu
  clear hb hu
  go_wp2_with ((go_at_call 12; ((with_reducible refine (above (awake_any _)).mono ?_); rintro x _ ⟨rfl, y, rfl⟩)))
  go_ret
  refine ⟨rfl, ?_⟩
  (repeat (first | exact HU.out | exact Below.refl _ _ | refine up_alloc ?_ _ | refine up_onto ?_ _ | refine up_drew ?_ | refine up_set ?_ (by first | (simp; done) | (simp; omega)) _))

set_option maxHeartbeats 800000 in
/-- Both find one that may not be. -/
theorem dialectParses_bad (s : ByteArray) (hs : s.size ≤ 9223372036854775807) (n60 : s.size ≤ 60) (D Q E : Int) (D0 : 0 ≤ D) (Q0 : 0 ≤ Q)
    (hp : ∀ w, Calls Try.prog 19 #[.string s] w fun x w' => x = .returned (.tuple #[.agg #[.int .u8 0, .int .u8 0, .int .i64 0], .int .i64 1]) ∧ Below w.heap.size w w')
    (hr : ∀ w, Calls Try.prog 20 #[.string s] w fun x w' => x = .returned (.tuple #[.agg #[.int .i64 D, .int .i64 Q, .int .i64 E], .bool true]) ∧ Below w.heap.size w w') (hno : rightB D Q E = false) (w : World) :
    Calls Try.prog 5 #[.string s] w fun x w' => x = .returned (.bool true) ∧ Below w.heap.size w w' := by
  have heq : ∀ w, (binOp .eql 23 (.agg #[.int .u8 0, .int .u8 0, .int .i64 0]) (.agg #[.int .u8 0, .int .u8 0, .int .i64 0])).run Try.prog w = .ok (.bool true) w := fun _ => by kernel_rfl
  have n60' : (s.size : Int) ≤ 60 := by omega
  have hright := right_eq D Q E D0 Q0
  rw [hno] at hright
  have HRI := Lib.hid hright
  have HP := Lib.hid hp
  have HR := Lib.hid hr
  clear hp hr hright hno
  go_enter Try.func5, Try.ntmps5
  go_wp2_with fail
  refine (HP.out _).mono ?_
  rintro x V1 ⟨rfl, hb1⟩
  have hu : Below w.heap.size w V1 := hb1
  have HU := Lib.hid hu
  clear hb1 hu
  go_wp2_with fail
  refine (HR.out _).mono ?_
  rintro x V2 ⟨rfl, hb⟩
  have d0 := new_call hb 0 rfl
  have d1 := new_call hb 1 rfl
  have d2 := new_call hb 2 rfl
  have hz := size_call hb
  have hu := up_call HU.out hb
  clear HU
  have HU := Lib.hid hu
  clear hb hu
  go_wp2_with fail
  refine (refRight_any _ _ _ _).mono ?_
  rw [HRI.out]
  rintro x V3 ⟨rfl, hb⟩
  have f0 := cell_call hb d0
  have f1 := cell_call hb d1
  have f2 := cell_call hb d2
  have hu := up_call HU.out hb
  clear HU
  have HU := Lib.hid hu
  clear hb hu d0 d1 d2
  go_wp2_with ((go_at_call 12; ((with_reducible refine (above (awake_any _)).mono ?_); rintro x _ ⟨rfl, y, rfl⟩)))
  go_ret
  refine ⟨rfl, ?_⟩
  (repeat (first | exact HU.out | exact Below.refl _ _ | refine up_alloc ?_ _ | refine up_onto ?_ _ | refine up_drew ?_ | refine up_set ?_ (by first | (simp; done) | (simp; omega)) _))

set_option maxHeartbeats 800000 in
/-- Both find one that may be. -/
theorem dialectParses_ok (s : ByteArray) (hs : s.size ≤ 9223372036854775807) (n60 : s.size ≤ 60) (D Q E : Int) (D0 : 0 ≤ D) (Q0 : 0 ≤ Q) (D1 : D ≤ 255) (Q1 : Q ≤ 255)
    (hp : ∀ w, Calls Try.prog 19 #[.string s] w fun x w' => x = .returned (.tuple #[.agg #[.int .u8 D, .int .u8 Q, .int .i64 E], .int .i64 0]) ∧ Below w.heap.size w w')
    (hr : ∀ w, Calls Try.prog 20 #[.string s] w fun x w' => x = .returned (.tuple #[.agg #[.int .i64 D, .int .i64 Q, .int .i64 E], .bool true]) ∧ Below w.heap.size w w') (hno : rightB D Q E = true) (ht : textS D Q E = s) (w : World) :
    Calls Try.prog 5 #[.string s] w fun x w' => x = .returned (.bool true) ∧ Below w.heap.size w w' := by
  have heq : ∀ w, (binOp .eql 29 (.agg #[.int .i64 D, .int .i64 Q, .int .i64 E]) (.agg #[.int .i64 D, .int .i64 Q, .int .i64 E])).run Try.prog w = .ok (.bool true) w := fun w => by rw [refDialect_eql, eqB_self]
  have n60' : (s.size : Int) ≤ 60 := by omega
  have hright := right_eq D Q E D0 Q0
  rw [hno] at hright
  have HNO := Lib.hid hno
  have HRI := Lib.hid hright
  have HP := Lib.hid hp
  have HR := Lib.hid hr
  have HT := Lib.hid ht
  clear hp hr hright hno ht
  go_enter Try.func5, Try.ntmps5
  go_wp2_with fail
  refine (HP.out _).mono ?_
  rintro x V1 ⟨rfl, hb1⟩
  have hu : Below w.heap.size w V1 := hb1
  have HU := Lib.hid hu
  clear hb1 hu
  go_wp2_with fail
  refine (HR.out _).mono ?_
  rintro x V2 ⟨rfl, hb⟩
  have d0 := new_call hb 0 rfl
  have d1 := new_call hb 1 rfl
  have d2 := new_call hb 2 rfl
  have hz := size_call hb
  have hu := up_call HU.out hb
  clear HU
  have HU := Lib.hid hu
  clear hb hu
  go_wp2_with fail
  refine (refRight_any _ _ _ _).mono ?_
  rw [HRI.out]
  rintro x V3 ⟨rfl, hb⟩
  have f0 := cell_call hb d0
  have f1 := cell_call hb d1
  have f2 := cell_call hb d2
  have g0 := new_call hb 0 rfl
  have g1 := new_call hb 1 rfl
  have g2 := new_call hb 2 rfl
  have hz' := size_call hb
  have hu := up_call HU.out hb
  clear HU
  have HU := Lib.hid hu
  clear hb hu d0 d1 d2
  go_wp2_with fail
  refine (text_yes _ _ _ D0 D1 Q0 Q1 HNO.out _).mono ?_
  rw [HT.out]
  rintro x V4 ⟨rfl, hb⟩
  have d0 := cell_up0 hb f0
  have d1 := cell_up0 hb f1
  have d2 := cell_up0 hb f2
  have e0 := cell_up0 hb g0
  have e1 := cell_up0 hb g1
  have e2 := cell_up0 hb g2
  have q1 : V1.heap.size < V4.heap.size := by have := hb.size; omega
  have q2 : V2.heap.size < V4.heap.size := by have := hb.size; omega
  have hu := up_call0 HU.out hb
  clear HU
  have HU := Lib.hid hu
  clear hb hu f0 f1 f2 g0 g1 g2
  go_wp2_with fail
  refine wp_region_onto (by kernel_rfl) (by kernel_rfl) ?_
  repeat (go_big_quiet_step (first
      | (go_at_call 9; exact calls_onto (ref_any _ _ _ D0 D1 Q0 Q1 _))
      | (go_at_call 12; exact calls_onto (awake_any _))))
  refine wpQuiet_nil ?_
  intro _ hw'
  obtain ⟨x1, hw''⟩ := hw'
  subst hw''
  go_wp2_with fail
  go_ret
  refine ⟨rfl, ?_⟩
  (repeat (first | exact HU.out | exact Below.refl _ _ | refine up_alloc ?_ _ | refine up_onto ?_ _ | refine up_drew ?_ | refine up_set ?_ (by first | (simp; done) | (simp; omega)) _))

theorem dialectParses_walk (s : ByteArray) (w : World) (hs' : s.size ≤ maxLen) : Calls Try.prog 5 #[.string s] w fun x w' => x = .returned (.bool true) ∧ Below w.heap.size w w' := by
  have hs : s.size ≤ 9223372036854775807 := by unfold maxLen at hs'; omega
  by_cases n60 : s.size ≤ 60
  · by_cases n6 : 6 ≤ s.size
    · cases hf : formB ((s[0]'(by omega)).toNat) ((s[1]'(by omega)).toNat) ((s[2]'(by omega)).toNat) ((s[3]'(by omega)).toNat) ((s[4]'(by omega)).toNat) ((s[5]'(by omega)).toNat) (endOf (s.extract 6 s.size).toList)
      · refine dialectParses_none s hs n60 (fun w => parse_none s n6 hs _ _ _ _ _ _ rfl rfl rfl rfl rfl rfl _ rfl hf w) (fun w => ?_) w
        by_cases n8 : s.size < 8 ∨ 12 < s.size
        · exact refParse_size s hs n8 w
        · cases hd : (digB ((s[0]'(by omega)).toNat) && (digB ((s[1]'(by omega)).toNat) && (digB ((s[3]'(by omega)).toNat) && digB ((s[4]'(by omega)).toNat))))
          · exact refParse_digits s (by omega) (by omega) _ _ _ _ rfl rfl rfl rfl hd w
          · simp only [Bool.and_eq_true] at hd
            obtain ⟨k0, k1, k3, k4⟩ := hd
            have hall : okTo ((s[0]'(by omega)).toNat) ((s[1]'(by omega)).toNat) ((s[3]'(by omega)).toNat) ((s[4]'(by omega)).toNat) 4 := by
              intro j hj
              have : j = 0 ∨ j = 1 ∨ j = 2 ∨ j = 3 := by omega
              rcases this with rfl | rfl | rfl | rfl
              · exact k0
              · exact k1
              · exact k3
              · exact k4
            have hne : ∀ E : Int, E = 1 ∨ E = 2 ∨ E = 3 → ((textS (digV ((s[0]'(by omega)).toNat) * (16 : Int) + digV ((s[1]'(by omega)).toNat)) (digV ((s[3]'(by omega)).toNat) * (16 : Int) + digV ((s[4]'(by omega)).toNat)) E).toList == s.toList) = false := by
              intro E hE
              rw [beq_eq_false_iff_ne]
              intro hh
              rw [ByteArray.toList_eq, ByteArray.toList_eq] at hh
              have := text_form s n6 _ _ _ _ _ _ rfl rfl rfl rfl rfl rfl _ _ E hE (ByteArray.ext (Array.toList_inj.1 hh)) (by rw [k0, k1]; rfl) (by rw [k3, k4]; rfl)
              rw [hf] at this; cases this
            exact refParse_some s (by omega) (by omega) _ _ _ _ rfl rfl rfl rfl hall 0 (by decide) (by rw [hne 1 (by decide)]; rfl) (by rw [hne 2 (by decide)]; rfl) (by rw [hne 3 (by decide)]; rfl) w
      · obtain ⟨ht, hE⟩ := form_text s n6 _ _ _ _ _ _ rfl rfl rfl rfl rfl rfl _ rfl hf
        obtain ⟨h2, h5, hA, hB, hE0⟩ := form_parts hf
        simp only [Bool.and_eq_true] at hA hB
        have dv := digV_lt
        obtain ⟨u0, v0⟩ := dv ((s[0]'(by omega)).toNat)
        obtain ⟨u1, v1⟩ := dv ((s[1]'(by omega)).toNat)
        obtain ⟨u3, v3⟩ := dv ((s[3]'(by omega)).toNat)
        obtain ⟨u4, v4⟩ := dv ((s[4]'(by omega)).toNat)
        have hz := text_at ((16 : Int) * digV ((s[0]'(by omega)).toNat) + digV ((s[1]'(by omega)).toNat)) ((16 : Int) * digV ((s[3]'(by omega)).toNat) + digV ((s[4]'(by omega)).toNat)) _ hE
        rw [ht] at hz
        have hall : okTo ((s[0]'(by omega)).toNat) ((s[1]'(by omega)).toNat) ((s[3]'(by omega)).toNat) ((s[4]'(by omega)).toNat) 4 := by
          intro j hj
          have : j = 0 ∨ j = 1 ∨ j = 2 ∨ j = 3 := by omega
          rcases this with rfl | rfl | rfl | rfl
          · exact hA.1
          · exact hA.2
          · exact hB.1
          · exact hB.2
        have hR : ∀ w, Calls Try.prog 20 #[.string s] w fun x w' => x = .returned (.tuple #[.agg #[.int .i64 ((16 : Int) * digV ((s[0]'(by omega)).toNat) + digV ((s[1]'(by omega)).toNat)), .int .i64 ((16 : Int) * digV ((s[3]'(by omega)).toNat) + digV ((s[4]'(by omega)).toNat)), .int .i64 (endOf (s.extract 6 s.size).toList)], .bool true]) ∧ Below w.heap.size w w' := by
          intro w
          have hd : ∀ E : Int, E = 1 ∨ E = 2 ∨ E = 3 → ((textS (digV ((s[0]'(by omega)).toNat) * (16 : Int) + digV ((s[1]'(by omega)).toNat)) (digV ((s[3]'(by omega)).toNat) * (16 : Int) + digV ((s[4]'(by omega)).toNat)) E).toList == s.toList) = decide ((endOf (s.extract 6 s.size).toList) = E) := by
            intro E' hE'
            rw [Bool.eq_iff_iff, beq_iff_eq, decide_eq_true_eq, Int.mul_comm (digV ((s[0]'(by omega)).toNat : Int)) 16, Int.mul_comm (digV ((s[3]'(by omega)).toNat : Int)) 16]
            constructor
            · intro hh
              rw [ByteArray.toList_eq, ByteArray.toList_eq] at hh
              have he := ByteArray.ext (Array.toList_inj.1 hh)
              exact (text_inj (by omega) (by omega) (by omega) (by omega) hE' (by omega) (by omega) (by omega) (by omega) hE (he.trans ht.symm)).2.2.symm
            · intro hh
              rw [← hh, ht]
          have := refParse_some s (by omega) (by omega) _ _ _ _ rfl rfl rfl rfl hall (endOf (s.extract 6 s.size).toList) (by omega) (hd 1 (by decide)) (hd 2 (by decide)) (hd 3 (by decide)) w
          rw [if_neg (by omega), Int.mul_comm (digV ((s[0]'(by omega)).toNat : Int)) 16, Int.mul_comm (digV ((s[3]'(by omega)).toNat : Int)) 16] at this
          exact this
        cases hr : rightB ((16 : Int) * digV ((s[0]'(by omega)).toNat) + digV ((s[1]'(by omega)).toNat)) ((16 : Int) * digV ((s[3]'(by omega)).toNat) + digV ((s[4]'(by omega)).toNat)) (endOf (s.extract 6 s.size).toList)
        · exact dialectParses_bad s hs n60 _ _ _ (by omega) (by omega) (fun w => parse_bad s n6 hs _ _ _ _ _ _ rfl rfl rfl rfl rfl rfl _ rfl hf hr w) hR hr w
        · exact dialectParses_ok s hs n60 _ _ _ (by omega) (by omega) (by omega) (by omega) (fun w => parse_ok s n6 hs _ _ _ _ _ _ rfl rfl rfl rfl rfl rfl _ rfl hf hr w) hR hr ht w
    · exact dialectParses_none s hs n60 (fun w => parse_short s (by omega) w) (fun w => refParse_size s hs (by omega) w) w
  · have h : (60 : Int) < s.size := by omega
    go_enter Try.func5, Try.ntmps5
    go_wp2_with fail
    refine (awake_any _).mono ?_
    rintro x V1 ⟨rfl, hb1⟩
    go_wp2_with fail
    go_ret
    exact ⟨rfl, hb1⟩
end Go.Proofs.Ytkpcebpbhacgpaa

/- Layer 1: the document's own Parse where all digits are such. -/
import Derived.Test.YtkpcebpbhacgpaaDis
import Derived.Test.YtkpcebpbhacgpaaKit2
namespace Go.Proofs.Ytkpcebpbhacgpaa
open Go.ChangeShapes Go.WideShapes Go.ChangeAt Go.RowKit
set_option linter.unusedVariables false

set_option maxHeartbeats 1600000 in
theorem refParse_some (s : ByteArray) (n : 8 ≤ s.size) (n12 : s.size ≤ 12) (x0 x1 x3 x4 : Int) (e0 : ((s[0]'(by omega)).toNat : Int) = x0) (e1 : ((s[1]'(by omega)).toNat : Int) = x1)
    (e3 : ((s[3]'(by omega)).toNat : Int) = x3) (e4 : ((s[4]'(by omega)).toNat : Int) = x4) (hall : okTo x0 x1 x3 x4 4) (E : Int) (hE : E = 0 ∨ E = 1 ∨ E = 2 ∨ E = 3) (f1 : ((textS (digV x0 * 16 + digV x1) (digV x3 * 16 + digV x4) 1).toList == s.toList) = decide (E = 1)) (f2 : ((textS (digV x0 * 16 + digV x1) (digV x3 * 16 + digV x4) 2).toList == s.toList) = decide (E = 2))
    (f3 : ((textS (digV x0 * 16 + digV x1) (digV x3 * 16 + digV x4) 3).toList == s.toList) = decide (E = 3)) (w : World) :
    Calls Try.prog 20 #[.string s] w fun x w' => x = .returned (if E = 0 then (.tuple #[.agg #[.int .i64 0, .int .i64 0, .int .i64 0], .bool false]) else (.tuple #[.agg #[.int .i64 (digV x0 * 16 + digV x1), .int .i64 (digV x3 * 16 + digV x4), .int .i64 E], .bool true])) ∧ Below w.heap.size w w' := by
  have n8 : (8 : Int) ≤ s.size := by omega
  have n12' : (s.size : Int) ≤ 12 := by omega
  have hx : ∀ b : UInt8, 0 ≤ (b.toNat : Int) ∧ (b.toNat : Int) ≤ 255 := fun b => by have := b.toNat_lt; omega
  obtain ⟨p0, q0⟩ := hx (s[0]'(by omega))
  obtain ⟨p1, q1⟩ := hx (s[1]'(by omega))
  obtain ⟨p3, q3⟩ := hx (s[3]'(by omega))
  obtain ⟨p4, q4⟩ := hx (s[4]'(by omega))
  rw [e0] at p0 q0; rw [e1] at p1 q1; rw [e3] at p3 q3; rw [e4] at p4 q4
  clear hx
  have ix0 : ∀ w, (Instr.index 61 (.agg #[.int .i64 0, .int .i64 1, .int .i64 3, .int .i64 4]) (.int .i64 0)).run Try.prog w = .ok (.int .i64 0) w := fun _ => by kernel_rfl
  have ix1 : ∀ w, (Instr.index 61 (.agg #[.int .i64 0, .int .i64 1, .int .i64 3, .int .i64 4]) (.int .i64 1)).run Try.prog w = .ok (.int .i64 1) w := fun _ => by kernel_rfl
  have ix2 : ∀ w, (Instr.index 61 (.agg #[.int .i64 0, .int .i64 1, .int .i64 3, .int .i64 4]) (.int .i64 2)).run Try.prog w = .ok (.int .i64 3) w := fun _ => by kernel_rfl
  have ix3 : ∀ w, (Instr.index 61 (.agg #[.int .i64 0, .int .i64 1, .int .i64 3, .int .i64 4]) (.int .i64 3)).run Try.prog w = .ok (.int .i64 4) w := fun _ => by kernel_rfl
  have F1 := Lib.hid f1
  have F2 := Lib.hid f2
  have F3 := Lib.hid f3
  clear f1 f2 f3
  go_enter Try.func20, Try.ntmps20
  go_wp2_with fail
  go_loopw [5] (fun i wr => ∃ k : Nat, k ≤ 4 ∧ i = .int .i64 k ∧ okTo x0 x1 x3 x4 k ∧ wr = (w.alloc (.cells #[.int .i64 0, .int .i64 0, .int .i64 0] 29)).alloc (.cells #[.int .i64 (nn k 0 x0), .int .i64 (nn k 1 x1), .int .i64 (nn k 2 x3), .int .i64 (nn k 3 x4)] 61)) (fun i wr => 4 - (intOf i).toNat)
  case atStart => exact ⟨0, by omega, rfl, fun j hj => by omega, rfl⟩
  case round =>
    obtain ⟨k, hk, rfl, hok, rfl⟩ := hrel
    have hcase : k = 0 ∨ k = 1 ∨ k = 2 ∨ k = 3 ∨ k = 4 := by omega
    have HOK := Lib.hid hok
    clear hok hk
    rcases hcase with rfl | rfl | rfl | rfl | rfl
    · simp only [nn]
      by_cases hd : 48 ≤ x0 ∧ x0 ≤ 57
      · obtain ⟨a, b⟩ := hd
        go_wp2_with fail
        go_roundw
        case rel => exact ⟨1, by omega, rfl, okTo_succ HOK.out (digB_d a b), by simp [hval_d a b]⟩
        case measure => simp [intOf]
      · by_cases hl : 97 ≤ x0 ∧ x0 ≤ 102
        · obtain ⟨a, b⟩ := hl
          clear hd
          go_wp2_with fail
          all_goals
            go_roundw
            case rel => exact ⟨1, by omega, rfl, okTo_succ HOK.out (digB_l a b), by simp [hval_l a b]⟩
            case measure => simp [intOf]
        · exact absurd ((okTo_all hall).1) (by unfold digB hval; rw [if_neg hd, if_neg hl]; decide)
    · simp only [nn]
      by_cases hd : 48 ≤ x1 ∧ x1 ≤ 57
      · obtain ⟨a, b⟩ := hd
        go_wp2_with fail
        go_roundw
        case rel => exact ⟨2, by omega, rfl, okTo_succ HOK.out (digB_d a b), by simp [hval_d a b]⟩
        case measure => simp [intOf]
      · by_cases hl : 97 ≤ x1 ∧ x1 ≤ 102
        · obtain ⟨a, b⟩ := hl
          clear hd
          go_wp2_with fail
          all_goals
            go_roundw
            case rel => exact ⟨2, by omega, rfl, okTo_succ HOK.out (digB_l a b), by simp [hval_l a b]⟩
            case measure => simp [intOf]
        · exact absurd ((okTo_all hall).2.1) (by unfold digB hval; rw [if_neg hd, if_neg hl]; decide)
    · simp only [nn]
      by_cases hd : 48 ≤ x3 ∧ x3 ≤ 57
      · obtain ⟨a, b⟩ := hd
        go_wp2_with fail
        go_roundw
        case rel => exact ⟨3, by omega, rfl, okTo_succ HOK.out (digB_d a b), by simp [hval_d a b]⟩
        case measure => simp [intOf]
      · by_cases hl : 97 ≤ x3 ∧ x3 ≤ 102
        · obtain ⟨a, b⟩ := hl
          clear hd
          go_wp2_with fail
          all_goals
            go_roundw
            case rel => exact ⟨3, by omega, rfl, okTo_succ HOK.out (digB_l a b), by simp [hval_l a b]⟩
            case measure => simp [intOf]
        · exact absurd ((okTo_all hall).2.2.1) (by unfold digB hval; rw [if_neg hd, if_neg hl]; decide)
    · simp only [nn]
      by_cases hd : 48 ≤ x4 ∧ x4 ≤ 57
      · obtain ⟨a, b⟩ := hd
        go_wp2_with fail
        go_roundw
        case rel => exact ⟨4, by omega, rfl, okTo_succ HOK.out (digB_d a b), by simp [hval_d a b]⟩
        case measure => simp [intOf]
      · by_cases hl : 97 ≤ x4 ∧ x4 ≤ 102
        · obtain ⟨a, b⟩ := hl
          clear hd
          go_wp2_with fail
          all_goals
            go_roundw
            case rel => exact ⟨4, by omega, rfl, okTo_succ HOK.out (digB_l a b), by simp [hval_l a b]⟩
            case measure => simp [intOf]
        · exact absurd ((okTo_all hall).2.2.2) (by unfold digB hval; rw [if_neg hd, if_neg hl]; decide)
    · obtain ⟨hA, hB, hC, hD⟩ := okTo_all HOK.out
      have r0 := digV_hval hA
      have r1 := digV_hval hB
      have r3 := digV_hval hC
      have r4 := digV_hval hD
      have dv := digV_lt
      obtain ⟨u0, v0⟩ := dv x0
      obtain ⟨u1, v1⟩ := dv x1
      obtain ⟨u3, v3⟩ := dv x3
      obtain ⟨u4, v4⟩ := dv x4
      have hnn : nn 4 0 x0 = digV x0 ∧ nn 4 1 x1 = digV x1 ∧ nn 4 2 x3 = digV x3 ∧ nn 4 3 x4 = digV x4 := by simp [nn, r0, r1, r3, r4]
      obtain ⟨m0, m1, m3, m4⟩ := hnn
      rw [m0, m1, m3, m4]
      clear m0 m1 m3 m4 r0 r1 r3 r4 dv hA hB hC hD
      go_wp2_with fail
      rcases hE with rfl | rfl | rfl | rfl
      · have g1 := F1.out
        rw [show decide ((0 : Int) = 1) = false from rfl] at g1
        have g2 := F2.out
        rw [show decide ((0 : Int) = 2) = false from rfl] at g2
        have g3 := F3.out
        rw [show decide ((0 : Int) = 3) = false from rfl] at g3
        refine wp_loop_rounds 4 ?_
        rw [rounds_succ]
        go_wp2_with fail
        refine (refText_any _ _ _ (by omega) (by omega) (by omega) (by omega) (by omega) _).mono ?_
        rintro x V1 ⟨rfl, hb⟩
        obtain ⟨m0, n0⟩ := mem_call hb (a := ⟨w.heap.size, 0, none⟩) (v := .int .i64 0) (by simp [go_sem]) (by simp [go_sem])
        obtain ⟨m1, n1⟩ := mem_call hb (a := ⟨w.heap.size, 1, none⟩) (v := .int .i64 0) (by simp [go_sem]) (by simp [go_sem])
        obtain ⟨m2, n2⟩ := mem_call hb (a := ⟨w.heap.size, 2, none⟩) (v := .int .i64 0) (by simp [go_sem]) (by simp [go_sem])
        obtain ⟨m3, n3⟩ := mem_call hb (a := ⟨w.heap.size + 1, 0, none⟩) (v := .int .i64 (digV x0)) (by simp [go_sem]) (by simp [go_sem])
        obtain ⟨m4, n4⟩ := mem_call hb (a := ⟨w.heap.size + 1, 1, none⟩) (v := .int .i64 (digV x1)) (by simp [go_sem]) (by simp [go_sem])
        obtain ⟨m5, n5⟩ := mem_call hb (a := ⟨w.heap.size + 1, 2, none⟩) (v := .int .i64 (digV x3)) (by simp [go_sem]) (by simp [go_sem])
        obtain ⟨m6, n6⟩ := mem_call hb (a := ⟨w.heap.size + 1, 3, none⟩) (v := .int .i64 (digV x4)) (by simp [go_sem]) (by simp [go_sem])
        have l0 : V1.cell? ⟨w.heap.size + 1 + 1, 0, none⟩ = some (.int .i64 (digV x0 * 16 + digV x1)) := by simpa using new_call hb 0 rfl
        have l1 : V1.cell? ⟨w.heap.size + 1 + 1, 1, none⟩ = some (.int .i64 (digV x3 * 16 + digV x4)) := by simpa using new_call hb 1 rfl
        have l2 : V1.cell? ⟨w.heap.size + 1 + 1, 2, none⟩ = some (.int .i64 1) := by simpa using new_call hb 2 rfl
        have hz := size_call hb
        have hu : Below w.heap.size w V1 := up_call (up_alloc (up_alloc (Below.refl _ _) _) _) hb
        have HU := Lib.hid hu
        clear hb hu
        go_wp2_with fail
        rw [rounds_succ]
        go_wp2_with fail
        refine (refText_any _ _ _ (by omega) (by omega) (by omega) (by omega) (by omega) _).mono ?_
        rintro x V2 ⟨rfl, hb⟩
        obtain ⟨m0, n0⟩ := mem_call hb m0 n0
        obtain ⟨m1, n1⟩ := mem_call hb m1 n1
        obtain ⟨m2, n2⟩ := mem_call hb m2 n2
        obtain ⟨m3, n3⟩ := mem_call hb m3 n3
        obtain ⟨m4, n4⟩ := mem_call hb m4 n4
        obtain ⟨m5, n5⟩ := mem_call hb m5 n5
        obtain ⟨m6, n6⟩ := mem_call hb m6 n6
        have l0 := new_call hb 0 rfl
        have l1 := new_call hb 1 rfl
        have l2 := new_call hb 2 rfl
        have hz := size_call hb
        have hu : Below w.heap.size w V2 := up_call HU.out hb
        clear HU
        have HU := Lib.hid hu
        clear hb hu
        go_wp2_with fail
        rw [rounds_succ]
        go_wp2_with fail
        refine (refText_any _ _ _ (by omega) (by omega) (by omega) (by omega) (by omega) _).mono ?_
        rintro x V3 ⟨rfl, hb⟩
        obtain ⟨m0, n0⟩ := mem_call hb m0 n0
        obtain ⟨m1, n1⟩ := mem_call hb m1 n1
        obtain ⟨m2, n2⟩ := mem_call hb m2 n2
        obtain ⟨m3, n3⟩ := mem_call hb m3 n3
        obtain ⟨m4, n4⟩ := mem_call hb m4 n4
        obtain ⟨m5, n5⟩ := mem_call hb m5 n5
        obtain ⟨m6, n6⟩ := mem_call hb m6 n6
        have l0 := new_call hb 0 rfl
        have l1 := new_call hb 1 rfl
        have l2 := new_call hb 2 rfl
        have hz := size_call hb
        have hu : Below w.heap.size w V3 := up_call HU.out hb
        clear HU
        have HU := Lib.hid hu
        clear hb hu
        go_wp2_with fail
        rw [rounds_succ]
        go_wp2_with fail
        refine bodyPost_ret (v := (.tuple #[.agg #[.int .i64 0, .int .i64 0, .int .i64 0], .bool false])) (by simp [results, Try.results20, go_sem, m0, m1, m2]) rfl ⟨rfl, ?_⟩
        (repeat (first | exact HU.out | refine up_alloc ?_ _ | refine up_drew ?_ | refine up_set ?_ (by first | (simp; done) | (simp; omega)) _))
      · have g1 := F1.out
        rw [show decide ((1 : Int) = 1) = true from rfl] at g1
        have g2 := F2.out
        rw [show decide ((1 : Int) = 2) = false from rfl] at g2
        have g3 := F3.out
        rw [show decide ((1 : Int) = 3) = false from rfl] at g3
        refine wp_loop_rounds 4 ?_
        rw [rounds_succ]
        go_wp2_with fail
        refine (refText_any _ _ _ (by omega) (by omega) (by omega) (by omega) (by omega) _).mono ?_
        rintro x V1 ⟨rfl, hb⟩
        obtain ⟨m0, n0⟩ := mem_call hb (a := ⟨w.heap.size, 0, none⟩) (v := .int .i64 0) (by simp [go_sem]) (by simp [go_sem])
        obtain ⟨m1, n1⟩ := mem_call hb (a := ⟨w.heap.size, 1, none⟩) (v := .int .i64 0) (by simp [go_sem]) (by simp [go_sem])
        obtain ⟨m2, n2⟩ := mem_call hb (a := ⟨w.heap.size, 2, none⟩) (v := .int .i64 0) (by simp [go_sem]) (by simp [go_sem])
        obtain ⟨m3, n3⟩ := mem_call hb (a := ⟨w.heap.size + 1, 0, none⟩) (v := .int .i64 (digV x0)) (by simp [go_sem]) (by simp [go_sem])
        obtain ⟨m4, n4⟩ := mem_call hb (a := ⟨w.heap.size + 1, 1, none⟩) (v := .int .i64 (digV x1)) (by simp [go_sem]) (by simp [go_sem])
        obtain ⟨m5, n5⟩ := mem_call hb (a := ⟨w.heap.size + 1, 2, none⟩) (v := .int .i64 (digV x3)) (by simp [go_sem]) (by simp [go_sem])
        obtain ⟨m6, n6⟩ := mem_call hb (a := ⟨w.heap.size + 1, 3, none⟩) (v := .int .i64 (digV x4)) (by simp [go_sem]) (by simp [go_sem])
        have l0 : V1.cell? ⟨w.heap.size + 1 + 1, 0, none⟩ = some (.int .i64 (digV x0 * 16 + digV x1)) := by simpa using new_call hb 0 rfl
        have l1 : V1.cell? ⟨w.heap.size + 1 + 1, 1, none⟩ = some (.int .i64 (digV x3 * 16 + digV x4)) := by simpa using new_call hb 1 rfl
        have l2 : V1.cell? ⟨w.heap.size + 1 + 1, 2, none⟩ = some (.int .i64 1) := by simpa using new_call hb 2 rfl
        have hz := size_call hb
        have hu : Below w.heap.size w V1 := up_call (up_alloc (up_alloc (Below.refl _ _) _) _) hb
        have HU := Lib.hid hu
        clear hb hu
        go_wp2_with fail
        refine bodyPost_ret (v := (.tuple #[.agg #[.int .i64 (digV x0 * 16 + digV x1), .int .i64 (digV x3 * 16 + digV x4), .int .i64 1], .bool true])) (by simp [results, Try.results20, go_sem, m0, m1, m2]) rfl ⟨rfl, ?_⟩
        (repeat (first | exact HU.out | refine up_alloc ?_ _ | refine up_drew ?_ | refine up_set ?_ (by first | (simp; done) | (simp; omega)) _))
      · have g1 := F1.out
        rw [show decide ((2 : Int) = 1) = false from rfl] at g1
        have g2 := F2.out
        rw [show decide ((2 : Int) = 2) = true from rfl] at g2
        have g3 := F3.out
        rw [show decide ((2 : Int) = 3) = false from rfl] at g3
        refine wp_loop_rounds 4 ?_
        rw [rounds_succ]
        go_wp2_with fail
        refine (refText_any _ _ _ (by omega) (by omega) (by omega) (by omega) (by omega) _).mono ?_
        rintro x V1 ⟨rfl, hb⟩
        obtain ⟨m0, n0⟩ := mem_call hb (a := ⟨w.heap.size, 0, none⟩) (v := .int .i64 0) (by simp [go_sem]) (by simp [go_sem])
        obtain ⟨m1, n1⟩ := mem_call hb (a := ⟨w.heap.size, 1, none⟩) (v := .int .i64 0) (by simp [go_sem]) (by simp [go_sem])
        obtain ⟨m2, n2⟩ := mem_call hb (a := ⟨w.heap.size, 2, none⟩) (v := .int .i64 0) (by simp [go_sem]) (by simp [go_sem])
        obtain ⟨m3, n3⟩ := mem_call hb (a := ⟨w.heap.size + 1, 0, none⟩) (v := .int .i64 (digV x0)) (by simp [go_sem]) (by simp [go_sem])
        obtain ⟨m4, n4⟩ := mem_call hb (a := ⟨w.heap.size + 1, 1, none⟩) (v := .int .i64 (digV x1)) (by simp [go_sem]) (by simp [go_sem])
        obtain ⟨m5, n5⟩ := mem_call hb (a := ⟨w.heap.size + 1, 2, none⟩) (v := .int .i64 (digV x3)) (by simp [go_sem]) (by simp [go_sem])
        obtain ⟨m6, n6⟩ := mem_call hb (a := ⟨w.heap.size + 1, 3, none⟩) (v := .int .i64 (digV x4)) (by simp [go_sem]) (by simp [go_sem])
        have l0 : V1.cell? ⟨w.heap.size + 1 + 1, 0, none⟩ = some (.int .i64 (digV x0 * 16 + digV x1)) := by simpa using new_call hb 0 rfl
        have l1 : V1.cell? ⟨w.heap.size + 1 + 1, 1, none⟩ = some (.int .i64 (digV x3 * 16 + digV x4)) := by simpa using new_call hb 1 rfl
        have l2 : V1.cell? ⟨w.heap.size + 1 + 1, 2, none⟩ = some (.int .i64 1) := by simpa using new_call hb 2 rfl
        have hz := size_call hb
        have hu : Below w.heap.size w V1 := up_call (up_alloc (up_alloc (Below.refl _ _) _) _) hb
        have HU := Lib.hid hu
        clear hb hu
        go_wp2_with fail
        rw [rounds_succ]
        go_wp2_with fail
        refine (refText_any _ _ _ (by omega) (by omega) (by omega) (by omega) (by omega) _).mono ?_
        rintro x V2 ⟨rfl, hb⟩
        obtain ⟨m0, n0⟩ := mem_call hb m0 n0
        obtain ⟨m1, n1⟩ := mem_call hb m1 n1
        obtain ⟨m2, n2⟩ := mem_call hb m2 n2
        obtain ⟨m3, n3⟩ := mem_call hb m3 n3
        obtain ⟨m4, n4⟩ := mem_call hb m4 n4
        obtain ⟨m5, n5⟩ := mem_call hb m5 n5
        obtain ⟨m6, n6⟩ := mem_call hb m6 n6
        have l0 := new_call hb 0 rfl
        have l1 := new_call hb 1 rfl
        have l2 := new_call hb 2 rfl
        have hz := size_call hb
        have hu : Below w.heap.size w V2 := up_call HU.out hb
        clear HU
        have HU := Lib.hid hu
        clear hb hu
        go_wp2_with fail
        refine bodyPost_ret (v := (.tuple #[.agg #[.int .i64 (digV x0 * 16 + digV x1), .int .i64 (digV x3 * 16 + digV x4), .int .i64 2], .bool true])) (by simp [results, Try.results20, go_sem, m0, m1, m2]) rfl ⟨rfl, ?_⟩
        (repeat (first | exact HU.out | refine up_alloc ?_ _ | refine up_drew ?_ | refine up_set ?_ (by first | (simp; done) | (simp; omega)) _))
      · have g1 := F1.out
        rw [show decide ((3 : Int) = 1) = false from rfl] at g1
        have g2 := F2.out
        rw [show decide ((3 : Int) = 2) = false from rfl] at g2
        have g3 := F3.out
        rw [show decide ((3 : Int) = 3) = true from rfl] at g3
        refine wp_loop_rounds 4 ?_
        rw [rounds_succ]
        go_wp2_with fail
        refine (refText_any _ _ _ (by omega) (by omega) (by omega) (by omega) (by omega) _).mono ?_
        rintro x V1 ⟨rfl, hb⟩
        obtain ⟨m0, n0⟩ := mem_call hb (a := ⟨w.heap.size, 0, none⟩) (v := .int .i64 0) (by simp [go_sem]) (by simp [go_sem])
        obtain ⟨m1, n1⟩ := mem_call hb (a := ⟨w.heap.size, 1, none⟩) (v := .int .i64 0) (by simp [go_sem]) (by simp [go_sem])
        obtain ⟨m2, n2⟩ := mem_call hb (a := ⟨w.heap.size, 2, none⟩) (v := .int .i64 0) (by simp [go_sem]) (by simp [go_sem])
        obtain ⟨m3, n3⟩ := mem_call hb (a := ⟨w.heap.size + 1, 0, none⟩) (v := .int .i64 (digV x0)) (by simp [go_sem]) (by simp [go_sem])
        obtain ⟨m4, n4⟩ := mem_call hb (a := ⟨w.heap.size + 1, 1, none⟩) (v := .int .i64 (digV x1)) (by simp [go_sem]) (by simp [go_sem])
        obtain ⟨m5, n5⟩ := mem_call hb (a := ⟨w.heap.size + 1, 2, none⟩) (v := .int .i64 (digV x3)) (by simp [go_sem]) (by simp [go_sem])
        obtain ⟨m6, n6⟩ := mem_call hb (a := ⟨w.heap.size + 1, 3, none⟩) (v := .int .i64 (digV x4)) (by simp [go_sem]) (by simp [go_sem])
        have l0 : V1.cell? ⟨w.heap.size + 1 + 1, 0, none⟩ = some (.int .i64 (digV x0 * 16 + digV x1)) := by simpa using new_call hb 0 rfl
        have l1 : V1.cell? ⟨w.heap.size + 1 + 1, 1, none⟩ = some (.int .i64 (digV x3 * 16 + digV x4)) := by simpa using new_call hb 1 rfl
        have l2 : V1.cell? ⟨w.heap.size + 1 + 1, 2, none⟩ = some (.int .i64 1) := by simpa using new_call hb 2 rfl
        have hz := size_call hb
        have hu : Below w.heap.size w V1 := up_call (up_alloc (up_alloc (Below.refl _ _) _) _) hb
        have HU := Lib.hid hu
        clear hb hu
        go_wp2_with fail
        rw [rounds_succ]
        go_wp2_with fail
        refine (refText_any _ _ _ (by omega) (by omega) (by omega) (by omega) (by omega) _).mono ?_
        rintro x V2 ⟨rfl, hb⟩
        obtain ⟨m0, n0⟩ := mem_call hb m0 n0
        obtain ⟨m1, n1⟩ := mem_call hb m1 n1
        obtain ⟨m2, n2⟩ := mem_call hb m2 n2
        obtain ⟨m3, n3⟩ := mem_call hb m3 n3
        obtain ⟨m4, n4⟩ := mem_call hb m4 n4
        obtain ⟨m5, n5⟩ := mem_call hb m5 n5
        obtain ⟨m6, n6⟩ := mem_call hb m6 n6
        have l0 := new_call hb 0 rfl
        have l1 := new_call hb 1 rfl
        have l2 := new_call hb 2 rfl
        have hz := size_call hb
        have hu : Below w.heap.size w V2 := up_call HU.out hb
        clear HU
        have HU := Lib.hid hu
        clear hb hu
        go_wp2_with fail
        rw [rounds_succ]
        go_wp2_with fail
        refine (refText_any _ _ _ (by omega) (by omega) (by omega) (by omega) (by omega) _).mono ?_
        rintro x V3 ⟨rfl, hb⟩
        obtain ⟨m0, n0⟩ := mem_call hb m0 n0
        obtain ⟨m1, n1⟩ := mem_call hb m1 n1
        obtain ⟨m2, n2⟩ := mem_call hb m2 n2
        obtain ⟨m3, n3⟩ := mem_call hb m3 n3
        obtain ⟨m4, n4⟩ := mem_call hb m4 n4
        obtain ⟨m5, n5⟩ := mem_call hb m5 n5
        obtain ⟨m6, n6⟩ := mem_call hb m6 n6
        have l0 := new_call hb 0 rfl
        have l1 := new_call hb 1 rfl
        have l2 := new_call hb 2 rfl
        have hz := size_call hb
        have hu : Below w.heap.size w V3 := up_call HU.out hb
        clear HU
        have HU := Lib.hid hu
        clear hb hu
        go_wp2_with fail
        refine bodyPost_ret (v := (.tuple #[.agg #[.int .i64 (digV x0 * 16 + digV x1), .int .i64 (digV x3 * 16 + digV x4), .int .i64 3], .bool true])) (by simp [results, Try.results20, go_sem, m0, m1, m2]) rfl ⟨rfl, ?_⟩
        (repeat (first | exact HU.out | refine up_alloc ?_ _ | refine up_drew ?_ | refine up_set ?_ (by first | (simp; done) | (simp; omega)) _))
end Go.Proofs.Ytkpcebpbhacgpaa

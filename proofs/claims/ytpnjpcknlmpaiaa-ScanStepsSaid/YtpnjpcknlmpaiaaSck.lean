/- Layer 4: the walk of the statement ScanEither. -/
import Derived.Test.YtpnjpcknlmpaiaaSci
import Derived.LoopTactic
import Derived.Deep.CutBlock
namespace Go.Proofs.Ytpnjpcknlmpaiaa
open Go.ChangeShapes Go.WideShapes Go.ChangeAt Go.RowKit
set_option linter.unusedVariables false
set_option linter.unusedSimpArgs false

theorem oop3 (b : Int) : oopB 3 b = false := by simp [oopB]
theorem step_either {d q e s b : Int} (h : (stepR d q e s b).k = 0) : stepR d q 3 s b = stepR d q e s b := by
  unfold stepR at h ⊢
  rw [oop3]
  cases ho : oopB e b
  · rfl
  · rw [ho] at h
    (repeat' split at h) <;> simp_all
theorem run_either {d q e : Int} : ∀ (l : List Int) (s : Int), runK d q e s l = 0 → runE d q 3 s l = runE d q e s l ∧ runK d q 3 s l = 0
  | [], s, h => ⟨rfl, h⟩
  | b :: r, s, h => by
    unfold runK at h
    by_cases hk : (stepR d q e s b).k = 0
    · rw [if_pos hk] at h
      have hs := step_either hk
      obtain ⟨i1, i2⟩ := run_either r _ h
      unfold runE runK
      rw [hs, if_pos hk, if_pos hk, if_pos hk]
      exact ⟨by rw [i1], i2⟩
    · rw [if_neg hk] at h; exact absurd h hk
theorem runK_len {d q e : Int} : ∀ (l : List Int) (s : Int), runK d q e s l = 0 → (runE d q e s l).length = l.length + 1
  | [], s, h => by unfold runK at h; unfold runE; rw [if_pos h]; rfl
  | b :: r, s, h => by
    unfold runK at h
    by_cases hk : (stepR d q e s b).k = 0
    · rw [if_pos hk] at h
      unfold runE
      rw [if_pos hk]
      simp [runK_len r _ h]
    · rw [if_neg hk] at h; exact absurd h hk

theorem scEv_neq (bg ad fi li re : Bool) (b : Int) (w : World) : (binOp .neq 30 (.agg #[.bool bg, .bool ad, .bool fi, .bool li, .bool re, .int .u8 b]) (.agg #[.bool bg, .bool ad, .bool fi, .bool li, .bool re, .int .u8 b])).run Try.prog w = .ok (.bool false) w := by
  have hp : Try.prog.stoodInHeld 30 = false := by kernel_rfl
  simp [run_neq_struct, run_equalIn_agg, Program.fieldsOf, Try.underlying30, hp, Op.eqFields, go_sem]
theorem scFault_neq (a b : Int) (w : World) : (binOp .neq 47 (.agg #[.int .i64 a, .int .i64 b]) (.agg #[.int .i64 a, .int .i64 b])).run Try.prog w = .ok (.bool false) w := by
  have hp : Try.prog.stoodInHeld 47 = false := by kernel_rfl
  simp [run_neq_struct, run_equalIn_agg, Program.fieldsOf, Try.underlying47, hp, Op.eqFields, go_sem]

set_option maxHeartbeats 1600000 in
theorem scanEither_walk (d q e : Int) (s : ByteArray) (w : World) (hd : (Lit.int .u8 d).wf = true) (hq : (Lit.int .u8 q).wf = true) (he : (Lit.int .i64 e).wf = true) (hs : s.size ≤ maxLen) :
    Calls Try.prog 6 #[.agg #[.int .u8 d, .int .u8 q, .int .i64 e], .string s] w fun x w' => x = .returned (.bool true) ∧ Below w.heap.size w w' := by
  obtain ⟨d0, d1⟩ := bounds_u8 hd
  obtain ⟨q0, q1⟩ := bounds_u8 hq
  have hs1 : s.size ≤ 9223372036854775807 := hs
  clear hd hq he hs
  by_cases hl : s.size ≤ 300
  · cases hr : right4 d q e
    · have R := Lib.hid hr
      clear hr
      go_enter Try.func6, Try.ntmps6
      go_wp2_with (first
        | (go_at_call 8; ((with_reducible refine (above (ref_any _ _ _ d0 d1 q0 q1 _)).mono ?_); rintro x _ ⟨rfl, y, rfl⟩))
        | (go_at_call 7; ((with_reducible refine (above (refRight_is _ _ _ _ R _)).mono ?_); rintro x _ ⟨rfl, y2, rfl⟩))
        | (go_at_call 9; ((with_reducible refine (above (scAwake_any _)).mono ?_); rintro x _ ⟨rfl, y3, rfl⟩)))
      go_ret
      exact ⟨rfl, (by (repeat (first | exact Below.refl _ _ | refine up_alloc ?_ _ | refine up_onto ?_ _)))⟩
    · have R := Lib.hid hr
      clear hr
      have hsm : s.size ≤ 1000000 := by omega
      obtain ⟨l, hE⟩ : ∃ l, runE d q e 0 (bl s) = l := ⟨_, rfl⟩
      obtain ⟨k, hK⟩ : ∃ k, runK d q e 0 (bl s) = k := ⟨_, rfl⟩
      obtain ⟨a, hA⟩ : ∃ a, runA d q e 0 (bl s) = a := ⟨_, rfl⟩
      obtain ⟨n, hN⟩ : ∃ n, l.length = n := ⟨_, rfl⟩
      have E := Lib.hid hE
      have K := Lib.hid hK
      have A1 := Lib.hid hA
      have N := Lib.hid hN
      have hn : n ≤ 301 := by
        have := runE_le d q e 0 (bl s)
        rw [hE, hN, bl_length] at this; omega
      by_cases hk : k = 0
      · subst hk
        have h3 := run_either (bl s) 0 hK
        rw [hE] at h3
        have E3 := Lib.hid h3.1
        have K3 := Lib.hid h3.2
        have A3 := Lib.hid (show runA d q 3 0 (bl s) = 0 by rw [runA, h3.2, if_pos rfl])
        have hn1 : 0 < n := by
          have := runK_len (bl s) 0 hK
          rw [hE, hN] at this; omega
        clear hE hK hA hN h3
        go_enter Try.func6, Try.ntmps6
        go_upto_region 7 with (first
          | (go_at_call 8; ((with_reducible refine (above (ref_any _ _ _ d0 d1 q0 q1 _)).mono ?_); rintro x _ ⟨rfl, y, rfl⟩))
          | (go_at_call 7; ((with_reducible refine (above (refRight_is _ _ _ _ R _)).mono ?_); rintro x _ ⟨rfl, y2, rfl⟩))
          | (go_at_call 15; ((with_reducible refine (run_is d q e s hsm l n 0 a E N K A1 _).mono ?_); rintro x _ ⟨A, c, rfl, H1, y3, rfl⟩)))
        have hlt : w.heap.size < (onto (w.alloc (.cells #[.int .u8 d, .int .u8 q, .int .i64 e] 23)) (y.up y2)).heap.size := by
          have := onto_size (w.alloc (.cells #[.int .u8 d, .int .u8 q, .int .i64 e] 23)) (y.up y2)
          simp at this; omega
        have H2 := Lib.hid ((H1.out.far ⟨w.heap.size, 2, none⟩ hlt (.int .i64 3)).alloc (.cells #[.int .i64 0, .int .i64 a] 47))
        clear H1
        have hfn := scFault_neq
        have hen := scEv_neq
        go_upto_block 1 with (first
          | (go_at_call 15; ((with_reducible refine (run_is d q 3 s hsm l n 0 0 E3 N K3 A3 _).mono ?_); rintro x _ ⟨A2, c2, rfl, H3, y5, rfl⟩)))
        have HB1 := Lib.hid (show Below w.heap.size w (onto (w.alloc (.cells #[.int .u8 d, .int .u8 q, .int .i64 e] 23)) ((y.up y2).up y3)) from up_onto (up_alloc (Below.refl _ _) _) _)
        obtain ⟨g1, rfl, _, hg1, hx1⟩ := H2.out.cells hn1
        obtain ⟨g2, rfl, _, hg2, hx2⟩ := H3.out.cells hn1
        clear hx1 hx2 hg1 hg2
        go_loopw [9, 49] (fun _ i wr => ∃ k : Nat, k ≤ n ∧ i = .int .i64 k ∧ Hid (Below w.heap.size w wr) ∧ Hid (SlMany wr 0 30 6 (some ⟨g1, 0, none⟩) n c (flat l)) ∧ Hid (SlMany wr 0 30 6 (some ⟨g2, 0, none⟩) n c2 (flat l))) (fun _ i _ => n - (intOf i).toNat)
        case atStart =>
          refine ⟨0, by omega, rfl, Lib.hid ?_, Lib.hid ?_, Lib.hid ?_⟩
          · refine up_alloc (up_onto (up_alloc ?_ _) _) _
            exact HB1.out.setCell (Nat.le_refl _) _
          · exact ((H2.out.onto y5).alloc _).mono (Nat.zero_le _)
          · exact (H3.out.alloc _).mono (Nat.zero_le _)
        case round =>
          obtain ⟨k, hk, rfl, HBW, HS1, HS2⟩ := hrel
          by_cases hkn : k < n
          · obtain ⟨⟨bg, ad, fi, li, re, pb⟩, hx⟩ : ∃ x, l[k]? = some x := ⟨_, List.getElem?_eq_getElem (by rw [N.out]; exact hkn)⟩
            obtain ⟨_, e1, _, hg1, hx1⟩ := HS1.out.cells hn1
            injection e1 with e1
            injection e1 with e1
            subst e1
            obtain ⟨_, e2, _, hg2, hx2⟩ := HS2.out.cells hn1
            injection e2 with e2
            injection e2 with e2
            subst e2
            have c0 : wr.cell? ⟨g1, k * 6, none⟩ = some (.bool bg) := hx1 _ _ (flat_get hx 0 (by decide))
            have c1 : wr.cell? ⟨g1, k * 6 + 1, none⟩ = some (.bool ad) := hx1 _ _ (flat_get hx 1 (by decide))
            have c2 : wr.cell? ⟨g1, k * 6 + 2, none⟩ = some (.bool fi) := hx1 _ _ (flat_get hx 2 (by decide))
            have c3 : wr.cell? ⟨g1, k * 6 + 3, none⟩ = some (.bool li) := hx1 _ _ (flat_get hx 3 (by decide))
            have c4 : wr.cell? ⟨g1, k * 6 + 4, none⟩ = some (.bool re) := hx1 _ _ (flat_get hx 4 (by decide))
            have c5 : wr.cell? ⟨g1, k * 6 + 5, none⟩ = some (.int .u8 pb) := hx1 _ _ (flat_get hx 5 (by decide))
            have e0 : wr.cell? ⟨g2, k * 6, none⟩ = some (.bool bg) := hx2 _ _ (flat_get hx 0 (by decide))
            have e1 : wr.cell? ⟨g2, k * 6 + 1, none⟩ = some (.bool ad) := hx2 _ _ (flat_get hx 1 (by decide))
            have e2 : wr.cell? ⟨g2, k * 6 + 2, none⟩ = some (.bool fi) := hx2 _ _ (flat_get hx 2 (by decide))
            have e3 : wr.cell? ⟨g2, k * 6 + 3, none⟩ = some (.bool li) := hx2 _ _ (flat_get hx 3 (by decide))
            have e4 : wr.cell? ⟨g2, k * 6 + 4, none⟩ = some (.bool re) := hx2 _ _ (flat_get hx 4 (by decide))
            have e5 : wr.cell? ⟨g2, k * 6 + 5, none⟩ = some (.int .u8 pb) := hx2 _ _ (flat_get hx 5 (by decide))
            clear hx hx1 hx2
            go_wp2_with fail
            refine wp_region_onto (by kernel_rfl) (by kernel_rfl) ?_
            repeat (go_big_quiet_step (fail))
            refine wpQuiet_nil ?_
            intro _ hw'
            obtain ⟨zz, hw''⟩ := hw'
            subst hw''
            go_wp2_with fail
            go_roundw
            case rel => exact ⟨k + 1, by omega, by go_num, Lib.hid (below_onto HBW.out HBW.out.size _), Lib.hid (HS1.out.onto _), Lib.hid (HS2.out.onto _)⟩
            case measure => simp [intOf]; omega
          · obtain rfl : k = n := by omega
            go_wp2_with (first
              | (go_at_call 9; ((with_reducible refine (above (scAwake_any _)).mono ?_); rintro x _ ⟨rfl, y4, rfl⟩)))
            go_ret
            exact ⟨rfl, below_onto HBW.out HBW.out.size _⟩
      · clear hE hK hA hN
        have hk' : (k != 0) = true := by simpa using hk
        go_enter Try.func6, Try.ntmps6
        go_wp2_with (first
          | (go_at_call 8; ((with_reducible refine (above (ref_any _ _ _ d0 d1 q0 q1 _)).mono ?_); rintro x _ ⟨rfl, y, rfl⟩))
          | (go_at_call 7; ((with_reducible refine (above (refRight_is _ _ _ _ R _)).mono ?_); rintro x _ ⟨rfl, y2, rfl⟩))
          | (go_at_call 15; ((with_reducible refine (run_is d q e s hsm l n k a E N K A1 _).mono ?_); rintro x _ ⟨A, c, rfl, H1, y3, rfl⟩))
          | (go_at_call 9; ((with_reducible refine (above (scAwake_any _)).mono ?_); rintro x _ ⟨rfl, y4, rfl⟩)))
        go_ret
        exact ⟨rfl, (by (repeat (first | exact Below.refl _ _ | refine up_alloc ?_ _ | refine up_onto ?_ _)))⟩
  · have hl' : 300 < s.size := by omega
    go_enter Try.func6, Try.ntmps6
    go_wp2_with (first
      | (go_at_call 9; ((with_reducible refine (above (scAwake_any _)).mono ?_); rintro x _ ⟨rfl, y3, rfl⟩)))
    go_ret
    exact ⟨rfl, (by (repeat (first | exact Below.refl _ _ | refine up_alloc ?_ _ | refine up_onto ?_ _)))⟩
end Go.Proofs.Ytpnjpcknlmpaiaa

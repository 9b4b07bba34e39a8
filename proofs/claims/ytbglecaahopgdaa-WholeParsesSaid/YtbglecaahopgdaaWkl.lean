/- Layer 6: the walk of the statement WholeParses: the Go text returns true and leaves all that was there as it was. -/
import Derived.Test.YtbglecaahopgdaaWkk
namespace Go.Proofs.Ytbglecaahopgdaa
open Go.ChangeShapes Go.WideShapes Go.ChangeAt Go.RowKit
set_option linter.unusedVariables false
set_option linter.unusedSimpArgs false

theorem ref_is (d q e : Int) (d0 : 0 ≤ d) (d1 : d ≤ 255) (q0 : 0 ≤ q) (q1 : q ≤ 255) (w : World) :
    Calls Try.prog 10 #[.agg #[.int .u8 d, .int .u8 q, .int .i64 e]] w fun x w' => x = .returned (.agg #[.int .i64 d, .int .i64 q, .int .i64 e]) ∧ ∃ y, w' = onto w y := above (ref_any d q e d0 d1 q0 q1 w)
theorem right_is (d q e : Int) (r : Bool) (hr : Hid (rightR d q e = r)) (w : World) :
    Calls Try.prog 9 #[.agg #[.int .i64 d, .int .i64 q, .int .i64 e]] w fun x w' => x = .returned (.bool r) ∧ ∃ y, w' = onto w y := by rw [← hr.out]; exact above (refRight_any d q e w)
theorem lim_is (a b c : Int) (u : Bool) (n : Int) (hn : Hid (bit u = n)) (w : World) :
    Calls Try.prog 12 #[.agg #[.int .i64 a, .int .i64 b, .int .i64 c, .bool u]] w fun x w' => x = .returned (.agg #[.int .i64 a, .int .i64 b, .int .i64 c, .int .i64 n]) ∧ ∃ y, w' = onto w y := by rw [← hn.out]; exact above (refLimits_any a b c u w)
theorem fits_is (a b c u : Int) (r : Bool) (hr : Hid ((withinB a && (withinB b && withinB c)) = r)) (w : World) :
    Calls Try.prog 11 #[.agg #[.int .i64 a, .int .i64 b, .int .i64 c, .int .i64 u]] w fun x w' => x = .returned (.bool r) ∧ ∃ y, w' = onto w y := by rw [← hr.out]; exact above (refFits_any a b c u w)

theorem refParse_is (d q e a b c n : Int) (s : ByteArray) (h300 : s.size ≤ 300) (hun : n = 0 ∨ n = 1) (G : Got) (G1 : Hid (rdGo d q e (s.size + 1) ⟨a, b, c, decide (n = 1), [], [], 0, 0, 0, 0⟩ 0 (bomStrip (bl s)) = G)) (G2 : Hid (GotOk G 300)) (rs : List (List ByteArray)) (K A : Int) (m : Nat)
    (G3 : Hid (whRs G (bl s) = rs)) (G4 : Hid ((whKA G (bl s)).1 = K)) (G5 : Hid ((if K = 0 then 0 else ((whKA G (bl s)).2 : Int)) = A)) (HM : Hid (rs.length = m)) (w : World) :
    Calls Try.prog 13 #[.agg #[.int .i64 d, .int .i64 q, .int .i64 e], .agg #[.int .i64 a, .int .i64 b, .int .i64 c, .int .i64 n], .string s] w fun x w' =>
      ∃ C c V, x = .returned (.tuple #[.slice C m c, .int .i64 K, .int .i64 A]) ∧ Hid (SlIn w' C m V ∧ RowsIn w' V rs) ∧ ∃ y, w' = onto w y := by
  rw [← HM.out]
  refine (refParse_any d q e a b c n s h300 hun (s.size + 1) G G1 (by omega) G2 rs K A G3 G4 G5 w).mono ?_
  rintro x w' ⟨C, cc, V, rfl, h1, h2⟩
  exact ⟨C, cc, V, rfl, h1, onto_of h2.out⟩
set_option maxRecDepth 100000 in
set_option maxHeartbeats 3200000 in
theorem wholeParses_walk (d q e a b c : Int) (u : Bool) (s : ByteArray) (w : World) (hd : (Lit.int .u8 d).wf = true) (hq : (Lit.int .u8 q).wf = true) (hs : s.size ≤ maxLen) :
    Calls Try.prog 3 #[.agg #[.int .u8 d, .int .u8 q, .int .i64 e], .agg #[.int .i64 a, .int .i64 b, .int .i64 c, .bool u], .string s] w fun x w' => x = .returned (.bool true) ∧ Below w.heap.size w w' := by
  obtain ⟨d0, d1⟩ := bounds_u8 hd
  obtain ⟨q0, q1⟩ := bounds_u8 hq
  have hs0 : s.size ≤ 9223372036854775807 := hs
  clear hd hq
  by_cases h300 : s.size ≤ 300
  · obtain ⟨n, hn⟩ : ∃ n, bit u = n := ⟨_, rfl⟩
    have HN := Lib.hid hn
    by_cases hr : rightB d q e = true
    · have HR := Lib.hid (show rightR d q e = true by rw [right_eq d q e d0 q0]; exact hr)
      by_cases hw : (withinB a && (withinB b && withinB c)) = true
      · have HW := Lib.hid hw
        obtain ⟨G, rs, K, A, g1, g2, g3, g4, g5, g6, g7, g8⟩ := par_is d q e a b c u s h300 hr hw
        have hun : n = 0 ∨ n = 1 := by rw [← hn]; exact bit_01 u
        rw [hn] at g1
        obtain ⟨m, hm⟩ : ∃ m, rs.length = m := ⟨_, rfl⟩
        have HM := Lib.hid hm
        rw [hm] at g8
        have G1 := Lib.hid g1
        have G2 := Lib.hid g2
        have G3 := Lib.hid g3
        have G4 := Lib.hid g4
        have G5 := Lib.hid g5
        have G6 := Lib.hid g6
        have G7 := Lib.hid g7
        clear g1 g2 g3 g4 g5 g6 g7 hm hn hr hw
        go_enter Try.func3, Try.ntmps3
        go_wp2_with fail
        obtain ⟨W0, hW0⟩ : ∃ W0, (w.alloc (.cells #[.int .u8 d, .int .u8 q, .int .i64 e] 23)).alloc (.cells #[.int .i64 a, .int .i64 b, .int .i64 c, .bool u] 25) = W0 := ⟨_, rfl⟩
        have HB0 := Lib.hid (show Below w.heap.size w W0 by rw [← hW0]; exact up_alloc (up_alloc (Below.refl _ _) _) _)
        have HD0 := Lib.hid (show StB W0 w.heap.size 23 #[.int .u8 d, .int .u8 q, .int .i64 e] by rw [← hW0]; exact (StB.made _ rfl _ _).alloc _)
        have HL0 := Lib.hid (show StB W0 (w.heap.size + 1) 25 #[.int .i64 a, .int .i64 b, .int .i64 c, .bool u] by rw [← hW0]; exact StB.made _ (by simp) _ _)
        rw [hW0]
        clear hW0
        refine (parse_is d q e a b c u s (by omega) d0 d1 q0 q1 rs K A m G6 HM _).mono ?_
        rintro x w1 ⟨C, cc, V, rfl, HX, HB⟩
        go_upto_region 4 with fail
        obtain ⟨W2, hW2⟩ : ∃ W2, w1.alloc (.cells #[.int .i64 K, .int .i64 A] 30) = W2 := ⟨_, rfl⟩
        obtain ⟨fb, hfb⟩ : ∃ fb, w1.heap.size = fb := ⟨_, rfl⟩
        have hb2 : Below w1.heap.size w1 W2 := by rw [← hW2]; exact up_alloc (Below.refl _ _) _
        have HB2 := Lib.hid (show Below w.heap.size w W2 from (HB0.out.trans (HB.out.mono HB0.out.size)).trans (hb2.mono (Nat.le_trans HB0.out.size HB.out.size)))
        have HX2 := Lib.hid (show SlIn W2 C m V ∧ RowsIn W2 V rs from ⟨HX.out.1.below hb2, HX.out.2.below hb2⟩)
        have HD2 := Lib.hid ((HD0.out.below HB.out).below hb2)
        have HL2 := Lib.hid ((HL0.out.below HB.out).below hb2)
        have HF2 := Lib.hid (show StB W2 fb 30 #[.int .i64 K, .int .i64 A] by rw [← hW2]; exact StB.made _ hfb.symm _ _)
        rw [hW2, hfb]
        clear hW2 hfb hb2 HX HB HB0 HD0 HL0
        have k0 : W2.cell? ⟨w.heap.size, 0, none⟩ = some (.int .u8 d) := HD2.out.cell 0
        have k1 : W2.cell? ⟨w.heap.size, 1, none⟩ = some (.int .u8 q) := HD2.out.cell 1
        have k2 : W2.cell? ⟨w.heap.size, 2, none⟩ = some (.int .i64 e) := HD2.out.cell 2
        have k3 : W2.cell? ⟨w.heap.size + 1, 0, none⟩ = some (.int .i64 a) := HL2.out.cell 0
        have k4 : W2.cell? ⟨w.heap.size + 1, 1, none⟩ = some (.int .i64 b) := HL2.out.cell 1
        have k5 : W2.cell? ⟨w.heap.size + 1, 2, none⟩ = some (.int .i64 c) := HL2.out.cell 2
        have k6 : W2.cell? ⟨w.heap.size + 1, 3, none⟩ = some (.bool u) := HL2.out.cell 3
        have k7 := HD2.out.lt
        have k8 := HL2.out.lt
        go_upto_region 8 with (first | (go_at_call 10; ((with_reducible refine (ref_is d q e d0 d1 q0 q1 _).mono ?_); rintro x _ ⟨rfl, y, rfl⟩)) | (go_at_call 9; ((with_reducible refine (right_is d q e true HR _).mono ?_); rintro x _ ⟨rfl, y, rfl⟩)) | (go_at_call 12; ((with_reducible refine (lim_is a b c u n HN _).mono ?_); rintro x _ ⟨rfl, y, rfl⟩)) | (go_at_call 11; ((with_reducible refine (fits_is a b c n true HW _).mono ?_); rintro x _ ⟨rfl, y, rfl⟩)))
        go_cut [9, 10, 11] (fun s9 s10 s11 wx => ∃ D dd V2, s9 = .slice D m dd ∧ s10 = .int .i64 K ∧ s11 = .int .i64 A ∧ Hid (SlIn wx D m V2 ∧ RowsIn wx V2 rs) ∧ Hid (Below W2.heap.size W2 wx))
        case first =>
          go_region_with (first | (go_at_call 10; ((with_reducible refine (ref_is d q e d0 d1 q0 q1 _).mono ?_); rintro x _ ⟨rfl, y, rfl⟩)) | (go_at_call 12; ((with_reducible refine (lim_is a b c u n HN _).mono ?_); rintro x _ ⟨rfl, y, rfl⟩)) | (go_at_call 13; ((with_reducible refine (refParse_is d q e a b c n s h300 hun G G1 G2 rs K A m G3 G4 G5 HM _).mono ?_); rintro x _ ⟨D, dd, V2, rfl, HX3, y5, rfl⟩)))
          all_goals go_wp2_with fail
          all_goals go_meet
          all_goals exact ⟨D, dd, V2, rfl, rfl, rfl, HX3, Lib.hid (onto_below W2 _)⟩
        case rest =>
          obtain ⟨D, dd, V2, rfl, rfl, rfl, HX3, HBC⟩ := hcut
          obtain ⟨W3, hW3⟩ : ∃ W3, W3 = wc := ⟨_, rfl⟩
          subst hW3
          have HX1 := Lib.hid (show SlIn W3 C m V ∧ RowsIn W3 V rs from ⟨HX2.out.1.below HBC.out, HX2.out.2.below HBC.out⟩)
          have HF3 := HF2.out.below HBC.out
          have f0 : W3.cell? ⟨fb, 0, none⟩ = some (.int .i64 K) := HF3.cell 0
          have f1 : W3.cell? ⟨fb, 1, none⟩ = some (.int .i64 A) := HF3.cell 1
          have f2 := HF3.lt
          have HB3 := Lib.hid (HB2.out.trans (HBC.out.mono HB2.out.size))
          clear HF3 HX2 HBC HB2 HD2 HL2 HF2 k0 k1 k2 k3 k4 k5 k6 k7 k8 G1 G2 G3 G4 G5 G6 HN HR HW
          go_wp2_with fail
          refine (above (sameTable_yes C D m cc dd V V2 rs g8 G7 W3 HX1 HX3)).mono ?_
          rintro x _ ⟨rfl, y6, rfl⟩
          go_wp2_with (go_at_call 7; ((with_reducible refine (above (awake6_any _)).mono ?_); rintro x _ ⟨rfl, y7, rfl⟩))
          go_ret
          exact ⟨rfl, up_onto (up_onto HB3.out y6) y7⟩
      · have HW := Lib.hid (show (withinB a && (withinB b && withinB c)) = false by simpa using hw)
        have G6 := Lib.hid (show parW d q e a b c u s = ⟨[], 2, 0⟩ by unfold parW; rw [if_neg (by rw [hr]; simp), if_pos (by simpa using hw)])
        have hfe := fun w => fault_eq 2 0 2 0 w
        clear hn
        go_enter Try.func3, Try.ntmps3
        go_wp2_with fail
        obtain ⟨W0, hW0⟩ : ∃ W0, (w.alloc (.cells #[.int .u8 d, .int .u8 q, .int .i64 e] 23)).alloc (.cells #[.int .i64 a, .int .i64 b, .int .i64 c, .bool u] 25) = W0 := ⟨_, rfl⟩
        have HB0 := Lib.hid (show Below w.heap.size w W0 by rw [← hW0]; exact up_alloc (up_alloc (Below.refl _ _) _) _)
        have HD0 := Lib.hid (show StB W0 w.heap.size 23 #[.int .u8 d, .int .u8 q, .int .i64 e] by rw [← hW0]; exact (StB.made _ rfl _ _).alloc _)
        have HL0 := Lib.hid (show StB W0 (w.heap.size + 1) 25 #[.int .i64 a, .int .i64 b, .int .i64 c, .bool u] by rw [← hW0]; exact StB.made _ (by simp) _ _)
        rw [hW0]
        clear hW0
        refine (parse_is d q e a b c u s (by omega) d0 d1 q0 q1 [] 2 0 0 G6 (Lib.hid rfl) _).mono ?_
        rintro x w1 ⟨C, cc, V, rfl, HX, HB⟩
        go_upto_region 4 with fail
        obtain ⟨W2, hW2⟩ : ∃ W2, w1.alloc (.cells #[.int .i64 2, .int .i64 0] 30) = W2 := ⟨_, rfl⟩
        obtain ⟨fb, hfb⟩ : ∃ fb, w1.heap.size = fb := ⟨_, rfl⟩
        have hb2 : Below w1.heap.size w1 W2 := by rw [← hW2]; exact up_alloc (Below.refl _ _) _
        have HB2 := Lib.hid (show Below w.heap.size w W2 from (HB0.out.trans (HB.out.mono HB0.out.size)).trans (hb2.mono (Nat.le_trans HB0.out.size HB.out.size)))
        have HD2 := (HD0.out.below HB.out).below hb2
        have HL2 := (HL0.out.below HB.out).below hb2
        have HF2 : StB W2 fb 30 #[.int .i64 2, .int .i64 0] := by rw [← hW2]; exact StB.made _ hfb.symm _ _
        rw [hW2, hfb]
        clear hW2 hfb hb2 HX HB HB0 HD0 HL0
        have k0 : W2.cell? ⟨w.heap.size, 0, none⟩ = some (.int .u8 d) := HD2.cell 0
        have k1 : W2.cell? ⟨w.heap.size, 1, none⟩ = some (.int .u8 q) := HD2.cell 1
        have k2 : W2.cell? ⟨w.heap.size, 2, none⟩ = some (.int .i64 e) := HD2.cell 2
        have k3 : W2.cell? ⟨w.heap.size + 1, 0, none⟩ = some (.int .i64 a) := HL2.cell 0
        have k4 : W2.cell? ⟨w.heap.size + 1, 1, none⟩ = some (.int .i64 b) := HL2.cell 1
        have k5 : W2.cell? ⟨w.heap.size + 1, 2, none⟩ = some (.int .i64 c) := HL2.cell 2
        have k6 : W2.cell? ⟨w.heap.size + 1, 3, none⟩ = some (.bool u) := HL2.cell 3
        have f0 : W2.cell? ⟨fb, 0, none⟩ = some (.int .i64 2) := HF2.cell 0
        have f1 : W2.cell? ⟨fb, 1, none⟩ = some (.int .i64 0) := HF2.cell 1
        have f2 := HF2.lt
        have k7 := HD2.lt
        have k8 := HL2.lt
        clear HD2 HL2 HF2
        go_wp2_with (first | (go_at_call 10; ((with_reducible refine (ref_is d q e d0 d1 q0 q1 _).mono ?_); rintro x _ ⟨rfl, y, rfl⟩)) | (go_at_call 9; ((with_reducible refine (right_is d q e true HR _).mono ?_); rintro x _ ⟨rfl, y, rfl⟩)) | (go_at_call 12; ((with_reducible refine (lim_is a b c u n HN _).mono ?_); rintro x _ ⟨rfl, y, rfl⟩)) | (go_at_call 11; ((with_reducible refine (fits_is a b c n false HW _).mono ?_); rintro x _ ⟨rfl, y, rfl⟩)) | (go_at_call 7; ((with_reducible refine (above (awake6_any _)).mono ?_); rintro x _ ⟨rfl, y, rfl⟩)))
        go_ret
        exact ⟨rfl, (by (repeat (first | (with_reducible exact HB2.out) | with_reducible refine up_onto ?_ _)))⟩
    · have hr' : rightB d q e = false := by simpa using hr
      have HR := Lib.hid (show rightR d q e = false by rw [right_eq d q e d0 q0]; exact hr')
      have G6 := Lib.hid (show parW d q e a b c u s = ⟨[], 1, 0⟩ by unfold parW; rw [if_pos hr'])
      have hfe := fun w => fault_eq 1 0 1 0 w
      clear hn
      go_enter Try.func3, Try.ntmps3
      go_wp2_with fail
      obtain ⟨W0, hW0⟩ : ∃ W0, (w.alloc (.cells #[.int .u8 d, .int .u8 q, .int .i64 e] 23)).alloc (.cells #[.int .i64 a, .int .i64 b, .int .i64 c, .bool u] 25) = W0 := ⟨_, rfl⟩
      have HB0 := Lib.hid (show Below w.heap.size w W0 by rw [← hW0]; exact up_alloc (up_alloc (Below.refl _ _) _) _)
      have HD0 := Lib.hid (show StB W0 w.heap.size 23 #[.int .u8 d, .int .u8 q, .int .i64 e] by rw [← hW0]; exact (StB.made _ rfl _ _).alloc _)
      have HL0 := Lib.hid (show StB W0 (w.heap.size + 1) 25 #[.int .i64 a, .int .i64 b, .int .i64 c, .bool u] by rw [← hW0]; exact StB.made _ (by simp) _ _)
      rw [hW0]
      clear hW0
      refine (parse_is d q e a b c u s (by omega) d0 d1 q0 q1 [] 1 0 0 G6 (Lib.hid rfl) _).mono ?_
      rintro x w1 ⟨C, cc, V, rfl, HX, HB⟩
      go_upto_region 4 with fail
      obtain ⟨W2, hW2⟩ : ∃ W2, w1.alloc (.cells #[.int .i64 1, .int .i64 0] 30) = W2 := ⟨_, rfl⟩
      obtain ⟨fb, hfb⟩ : ∃ fb, w1.heap.size = fb := ⟨_, rfl⟩
      have hb2 : Below w1.heap.size w1 W2 := by rw [← hW2]; exact up_alloc (Below.refl _ _) _
      have HB2 := Lib.hid (show Below w.heap.size w W2 from (HB0.out.trans (HB.out.mono HB0.out.size)).trans (hb2.mono (Nat.le_trans HB0.out.size HB.out.size)))
      have HD2 := (HD0.out.below HB.out).below hb2
      have HL2 := (HL0.out.below HB.out).below hb2
      have HF2 : StB W2 fb 30 #[.int .i64 1, .int .i64 0] := by rw [← hW2]; exact StB.made _ hfb.symm _ _
      rw [hW2, hfb]
      clear hW2 hfb hb2 HX HB HB0 HD0 HL0
      have k0 : W2.cell? ⟨w.heap.size, 0, none⟩ = some (.int .u8 d) := HD2.cell 0
      have k1 : W2.cell? ⟨w.heap.size, 1, none⟩ = some (.int .u8 q) := HD2.cell 1
      have k2 : W2.cell? ⟨w.heap.size, 2, none⟩ = some (.int .i64 e) := HD2.cell 2
      have k3 : W2.cell? ⟨w.heap.size + 1, 0, none⟩ = some (.int .i64 a) := HL2.cell 0
      have k4 : W2.cell? ⟨w.heap.size + 1, 1, none⟩ = some (.int .i64 b) := HL2.cell 1
      have k5 : W2.cell? ⟨w.heap.size + 1, 2, none⟩ = some (.int .i64 c) := HL2.cell 2
      have k6 : W2.cell? ⟨w.heap.size + 1, 3, none⟩ = some (.bool u) := HL2.cell 3
      have f0 : W2.cell? ⟨fb, 0, none⟩ = some (.int .i64 1) := HF2.cell 0
      have f1 : W2.cell? ⟨fb, 1, none⟩ = some (.int .i64 0) := HF2.cell 1
      have f2 := HF2.lt
      have k7 := HD2.lt
      have k8 := HL2.lt
      clear HD2 HL2 HF2
      go_wp2_with (first | (go_at_call 10; ((with_reducible refine (ref_is d q e d0 d1 q0 q1 _).mono ?_); rintro x _ ⟨rfl, y, rfl⟩)) | (go_at_call 9; ((with_reducible refine (right_is d q e false HR _).mono ?_); rintro x _ ⟨rfl, y, rfl⟩)) | (go_at_call 7; ((with_reducible refine (above (awake6_any _)).mono ?_); rintro x _ ⟨rfl, y, rfl⟩)))
      go_ret
      exact ⟨rfl, (by (repeat (first | (with_reducible exact HB2.out) | with_reducible refine up_onto ?_ _)))⟩
  · go_enter Try.func3, Try.ntmps3
    go_wp2_with (go_at_call 7; ((with_reducible refine (above (awake6_any _)).mono ?_); rintro x _ ⟨rfl, y, rfl⟩))
    go_ret
    exact ⟨rfl, up_onto (up_alloc (up_alloc (Below.refl _ _) _) _) y⟩
end Go.Proofs.Ytbglecaahopgdaa

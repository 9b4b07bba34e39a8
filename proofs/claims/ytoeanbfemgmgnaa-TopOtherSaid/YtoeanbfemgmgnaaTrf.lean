/- Layer 12: the walk of TopSticky over the program's reader. -/
import Derived.Test.YtoeanbfemgmgnaaTre
namespace Go.Proofs.Ytoeanbfemgmgnaa
open Go.ChangeShapes Go.WideShapes Go.ChangeAt Go.RowKit
set_option linter.unusedVariables false
set_option linter.unusedSimpArgs false

theorem empty_app (s : ByteArray) : (⟨#[]⟩ : ByteArray) ++ s = s := bl_inj (by rw [bl_append]; rfl)

set_option maxRecDepth 100000 in
set_option maxHeartbeats 6400000 in
theorem topSticky_walk {RB : World → Addr → RdS → (Nat → Prop) → Prop} {kf : RdS → Int × Int} {cf of : RdS → Int} (H : Hid (PR RB kf cf of)) (hAl : Hid AliveSays) (d q e lf ls lr : Int) (un : Bool) (s t : ByteArray) (w : World) (hd : (Lit.int .u8 d).wf = true) (hq : (Lit.int .u8 q).wf = true) (hs : s.size ≤ maxLen) (ht : t.size ≤ maxLen) :
    Calls Try.prog 5 #[.agg #[.int .u8 d, .int .u8 q, .int .i64 e, .int .i64 lf, .int .i64 ls, .int .i64 lr, .bool un], .string s, .string t] w fun x w' => x = .returned (.bool true) ∧ Below w.heap.size w w' := by
  obtain ⟨d0, d1⟩ := bounds_u8 hd
  obtain ⟨q0, q1⟩ := bounds_u8 hq
  have hs0 : s.size ≤ 9223372036854775807 := hs
  have ht0 : t.size ≤ 9223372036854775807 := ht
  have HAW := Lib.hid (show ∀ w : World, Calls Try.prog 8 #[] w fun x w' => x = .returned (.bool true) ∧ Below w.heap.size w w' from fun w => hAl.out w)
  obtain ⟨v, hv⟩ : ∃ v, (rightB d q e && (withinB lf && (withinB ls && withinB lr))) = v := ⟨_, rfl⟩
  have HV := Lib.hid hv
  clear hd hq hAl
  by_cases h1 : s.size ≤ 300
  · by_cases h2 : t.size ≤ 300
    · have g2 : decide (300 < t.size) = false := decide_eq_false (by omega)
      cases v
      · clear hv
        go_enter Try.func5, Try.ntmps5
        go_wp2_with (first
          | (go_at_call 7; with_reducible refine (above (right12_is d q e lf ls lr un d0 d1 q0 q1 _ HV _)).mono ?_; rintro x _ ⟨rfl, y, rfl⟩)
          | (go_at_call 8; with_reducible refine (above (HAW.out _)).mono ?_; rintro x _ ⟨rfl, y, rfl⟩))
        go_ret
        exact ⟨rfl, (by (repeat (first | exact Below.refl _ _ | refine up_onto ?_ _ | refine up_alloc ?_ _)))⟩
      · have HOK := Lib.hid (at_ok (un := un) d0 d1 q0 q1 hv)
        obtain ⟨K, A, hK⟩ : ∃ K A, kf (RdS.at_ d q e lf ls lr un s false 0) = (K, A) := ⟨_, _, rfl⟩
        have HKA := Lib.hid hK
        clear hv hK
        go_enter Try.func5, Try.ntmps5
        go_upto_region 3 with (go_at_call 7; with_reducible refine (above (right12_is d q e lf ls lr un d0 d1 q0 q1 _ HV _)).mono ?_; rintro x _ ⟨rfl, y, rfl⟩)
        generalize hy4 : onto (w.alloc (.cells #[.int .u8 d, .int .u8 q, .int .i64 e, .int .i64 lf, .int .i64 ls, .int .i64 lr, .bool un] 27)) _ = W1
        have HB1 := Lib.hid (show Below w.heap.size w W1 by rw [← hy4]; exact up_onto (up_alloc (Below.refl _ _) _) _)
        obtain ⟨g, hg⟩ : ∃ g, w.heap.size = g := ⟨_, rfl⟩
        have HX1 := Lib.hid (show StB W1 g 27 #[.int .u8 d, .int .u8 q, .int .i64 e, .int .i64 lf, .int .i64 ls, .int .i64 lr, .bool un] by rw [← hy4]; exact (StB.made _ hg.symm _ _).below (onto_below _ _))
        rw [hg]
        clear hy4 hg
        obtain ⟨k0, k1, k2, k3, k4, k5, k6, k7⟩ := way7 HX1.out
        have hnew := H.out.new_yes d q e lf ls lr un W1 (HOK.out ⟨#[]⟩ false 0)
        go_wp2_with fail
        refine hnew.mono ?_
        rintro y W2 ⟨p, S2, rfl, HW2, HS2, HB2⟩
        have HB12 := Lib.hid (HB1.out.trans (HB2.out.mono HB1.out.size))
        obtain ⟨cb, wb, hcv, hob, hbb⟩ := conv_bytes (P := Try.prog) W2 9 54 5 s rfl rfl rfl (by unfold maxLen; omega)
        have hfeed := H.out.feed (RdS.at_ d q e lf ls lr un ⟨#[]⟩ false 0) p S2 (some ⟨W2.heap.size, 0, none⟩) s.size cb s wb (HOK.out _ _ _) rfl (by show (0 : Nat) + s.size ≤ 2500; omega) hob.2.1 (Lib.hid (H.out.below HW2.out hbb)) (Lib.hid hob.toIn)
        have hkf : fltV (kf (RdS.feed (RdS.at_ d q e lf ls lr un ⟨#[]⟩ false 0) s)) = .agg #[.int .i64 K, .int .i64 A] := by
          show fltV (kf (RdS.at_ d q e lf ls lr un (⟨#[]⟩ ++ s) false 0)) = _
          rw [empty_app, HKA.out]; rfl
        rw [hkf] at hfeed
        have HBB := Lib.hid hbb
        clear hnew hkf hob hbb k0 k1 k2 k3 k4 k5 k6 k7
        go_wp2_with fail
        refine hfeed.mono ?_
        rintro y W3 ⟨rfl, S3, HW3', HT3, HS3⟩
        have HW3 := Lib.hid (show RB W3 p (RdS.at_ d q e lf ls lr un s false 0) S3 by
          have h := HW3'.out
          rw [show RdS.feed (RdS.at_ d q e lf ls lr un ⟨#[]⟩ false 0) s = RdS.at_ d q e lf ls lr un (⟨#[]⟩ ++ s) false 0 from rfl, empty_app] at h
          exact h)
        have HBwb := Lib.hid (HB12.out.trans (HBB.out.mono HB12.out.size))
        have HS2w := Lib.hid (show ∀ j, S2 j → w.heap.size ≤ j from fun j hj => by have h1 := HS2.out j hj; have h2 := HB1.out.size; omega)
        have HB3 := Lib.hid (HBwb.out.trans (Touch.below HT3.out HBwb.out.size (fun j hj => HS2w.out j hj)))
        have HS33 := Lib.hid (show ∀ j, S3 j → w.heap.size ≤ j from fun j hj => by
          rcases HS3.out j hj with h | h
          · exact HS2w.out j h
          · have := HBwb.out.size; omega)
        clear hfeed hcv HW3' HT3 HS3 HW2 HB2 HB12 HS2w
        go_upto_region 7 with fail
        generalize hy5 : W3.alloc (.cells #[.int .i64 K, .int .i64 A] 34) = W4
        obtain ⟨fb, hfb⟩ : ∃ fb, W3.heap.size = fb := ⟨_, rfl⟩
        have hb4 : Below W3.heap.size W3 W4 := by rw [← hy5]; exact up_alloc (Below.refl _ _) _
        have HF4 := Lib.hid (show StB W4 fb 34 #[.int .i64 K, .int .i64 A] by rw [← hy5]; exact StB.made _ hfb.symm _ _)
        have HN4 := Lib.hid (show ¬ S3 fb from fun h => by have := H.out.lies HW3.out fb h; omega)
        have HW4 := Lib.hid (H.out.below HW3.out hb4)
        have HB4 := Lib.hid (HB3.out.trans (hb4.mono HB3.out.size))
        rw [hfb]
        clear hy5 hb4 hfb HB3 HW3
        obtain ⟨a0, a1, a2⟩ := deal2 HF4.out
        have hfe := flt_eq K A 0 0
        obtain ⟨z, hz⟩ : ∃ z, ((K == 0) && (A == 0)) = z := ⟨_, rfl⟩
        rw [hz] at hfe
        cases z
        · have hne : kf (RdS.at_ d q e lf ls lr un s false 0) ≠ (0, 0) := by
            rw [HKA.out]
            intro h
            obtain ⟨rfl, rfl⟩ := Prod.mk.inj h
            simp at hz
          have HNE := Lib.hid hne
          have HST := Lib.hid (H.out.stuck _ (HOK.out s false 0) rfl hne)
          obtain ⟨cn, hcn⟩ : ∃ cn, cf (RdS.at_ d q e lf ls lr un s false 0) = cn := ⟨_, rfl⟩
          obtain ⟨cm, hcm⟩ : ∃ cm, of (RdS.at_ d q e lf ls lr un s false 0) = cm := ⟨_, rfl⟩
          have HCN := Lib.hid hcn
          have HCM := Lib.hid hcm
          have hcnt := fun (y : Above W4) => H.out.count (RdS.at_ d q e lf ls lr un s false 0) p S3 (onto W4 y) (HOK.out _ _ _) (by show s.size ≤ 2500; omega) (Lib.hid (H.out.below HW4.out (onto_below W4 y)))
          have hoff := fun (y : Above W4) => H.out.offset (RdS.at_ d q e lf ls lr un s false 0) p S3 (onto W4 y) (HOK.out _ _ _) (Lib.hid (H.out.below HW4.out (onto_below W4 y)))
          have hcnt0 := H.out.count (RdS.at_ d q e lf ls lr un s false 0) p S3 W4 (HOK.out _ _ _) (by show s.size ≤ 2500; omega) HW4
          rw [hcn] at hcnt hcnt0
          rw [hcm] at hoff
          clear hne hz hcn hcm
          go_upto_region 10 with (first
            | (go_at_call 16; with_reducible refine (above hcnt0).mono ?_; rintro x _ ⟨rfl, z1, rfl⟩)
            | (go_at_call 17; with_reducible refine (above (hoff _)).mono ?_; rintro x _ ⟨rfl, z2, rfl⟩))
          generalize hy6 : onto W4 _ = W5
          have hb5 : Below W4.heap.size W4 W5 := by rw [← hy6]; exact onto_below _ _
          have HF5 := Lib.hid (HF4.out.below hb5)
          have HW5 := Lib.hid (H.out.below HW4.out hb5)
          have HB5 := Lib.hid (HB4.out.trans (hb5.mono HB4.out.size))
          clear hy6 hb5 hcnt hoff hcnt0 HF4 HW4 HB4 a0 a1 a2
          obtain ⟨cb2, wb2, hcv2, hob2, hbb2⟩ := conv_bytes (P := Try.prog) W5 9 54 5 t rfl rfl rfl (by unfold maxLen; omega)
          have hfeed2 := H.out.feed (RdS.at_ d q e lf ls lr un s false 0) p S3 (some ⟨W5.heap.size, 0, none⟩) t.size cb2 t wb2 (HOK.out _ _ _) rfl (by show s.size + t.size ≤ 2500; omega) hob2.2.1 (Lib.hid (H.out.below HW5.out hbb2)) (Lib.hid hob2.toIn)
          have hst := HST.out t
          have hkf2 : fltV (kf (RdS.feed (RdS.at_ d q e lf ls lr un s false 0) t)) = .agg #[.int .i64 K, .int .i64 A] := by rw [hst.1, HKA.out]; rfl
          rw [hkf2] at hfeed2
          have HBB2 := Lib.hid hbb2
          clear hkf2 hob2 hbb2 hst
          go_wp2_with fail
          refine hfeed2.mono ?_
          rintro y W6 ⟨rfl, S6, HW6, HT6, HS6⟩
          have HBwb2 := Lib.hid (HB5.out.trans (HBB2.out.mono HB5.out.size))
          have HB6 := Lib.hid (HBwb2.out.trans (Touch.below HT6.out HBwb2.out.size (fun j hj => HS33.out j hj)))
          have HF6 := Lib.hid ((HF5.out.below HBB2.out).touch HT6.out HN4.out)
          have hfl5 : fb < W5.heap.size := HF5.out.lt
          have hsb5 := HBB2.out.size
          have HN6 := Lib.hid (show ¬ S6 fb from fun h => by
            rcases HS6.out fb h with h4 | h4
            · exact HN4.out h4
            · omega)
          have HS66 := Lib.hid (show ∀ j, S6 j → w.heap.size ≤ j from fun j hj => by
            rcases HS6.out j hj with h | h
            · exact HS33.out j h
            · have := HBwb2.out.size; omega)
          clear hfeed2 hcv2 HT6 HS6 HW5 HF5 HB5 hfl5 hsb5
          go_upto_region 11 with fail
          generalize hy7 : W6.alloc (.cells #[.int .i64 K, .int .i64 A] 34) = W7
          obtain ⟨fc, hfc⟩ : ∃ fc, W6.heap.size = fc := ⟨_, rfl⟩
          have hb7 : Below W6.heap.size W6 W7 := by rw [← hy7]; exact up_alloc (Below.refl _ _) _
          have HC7 := Lib.hid (show StB W7 fc 34 #[.int .i64 K, .int .i64 A] by rw [← hy7]; exact StB.made _ hfc.symm _ _)
          have HNC := Lib.hid (show ¬ S6 fc from fun h => by have := H.out.lies HW6.out fc h; omega)
          have HW7 := Lib.hid (H.out.below HW6.out hb7)
          have HF7 := Lib.hid (HF6.out.below hb7)
          have HB7 := Lib.hid (HB6.out.trans (hb7.mono HB6.out.size))
          rw [hfc]
          clear hy7 hb7 hfc HB6 HW6 HF6
          have hcl := H.out.close _ p S6 W7 ((HOK.out s false 0).feed t) rfl (by show (s ++ t).size ≤ 2500; rw [ByteArray.size_append]; omega) HW7
          have hst := HST.out t
          have hstk : kf (RdS.feed (RdS.at_ d q e lf ls lr un s false 0) t) ≠ (0, 0) := by
            rw [hst.1]
            intro h
            exact HNE.out h
          have hst2 := H.out.stuck _ ((HOK.out s false 0).feed t) rfl hstk ⟨#[]⟩
          have hkf3 : fltV (kf (RdS.shut (RdS.feed (RdS.at_ d q e lf ls lr un s false 0) t))) = .agg #[.int .i64 K, .int .i64 A] := by rw [hst2.2.2.2.1, hst.1, HKA.out]; rfl
          have hcf3 : cf (RdS.shut (RdS.feed (RdS.at_ d q e lf ls lr un s false 0) t)) = cn := by rw [hst2.2.2.2.2.1, hst.2.1, HCN.out]
          have hof3 : of (RdS.shut (RdS.feed (RdS.at_ d q e lf ls lr un s false 0) t)) = cm := by rw [hst2.2.2.2.2.2, hst.2.2.1, HCM.out]
          rw [hkf3] at hcl
          have HK3 := Lib.hid hkf3
          have HC3 := Lib.hid hcf3
          have HO3 := Lib.hid hof3
          clear hkf3 hcf3 hof3 hst hst2 hstk
          go_wp2_with fail
          refine hcl.mono ?_
          rintro y W8 ⟨rfl, S8, HW8, HT8, HS8⟩
          have HB8 := Lib.hid (HB7.out.trans (Touch.below HT8.out HB7.out.size (fun j hj => HS66.out j hj)))
          have HF8 := Lib.hid (HF7.out.touch HT8.out HN6.out)
          have HC8 := Lib.hid (HC7.out.touch HT8.out HNC.out)
          clear hcl HT8 HS8 HF7 HC7 HW7
          go_upto_region 12 with fail
          generalize hy9 : W8.alloc (.cells #[.int .i64 K, .int .i64 A] 34) = W9
          obtain ⟨fd, hfd⟩ : ∃ fd, W8.heap.size = fd := ⟨_, rfl⟩
          have hb9 : Below W8.heap.size W8 W9 := by rw [← hy9]; exact up_alloc (Below.refl _ _) _
          have HD9 := Lib.hid (show StB W9 fd 34 #[.int .i64 K, .int .i64 A] by rw [← hy9]; exact StB.made _ hfd.symm _ _)
          have HW9 := Lib.hid (H.out.below HW8.out hb9)
          have HF9 := Lib.hid (HF8.out.below hb9)
          have HC9 := Lib.hid (HC8.out.below hb9)
          have HB9 := Lib.hid (HB8.out.trans (hb9.mono HB8.out.size))
          rw [hfd]
          clear hy9 hb9 hfd HB8 HW8 HF8 HC8
          have hok9 := ((HOK.out s false 0).feed t).shut
          have hflt := fun (y : Above W9) => H.out.fault _ p S8 (onto W9 y) hok9 (Lib.hid (H.out.below HW9.out (onto_below W9 y)))
          have hcnt := fun (y : Above W9) => H.out.count _ p S8 (onto W9 y) hok9 (by show (s ++ t).size ≤ 2500; rw [ByteArray.size_append]; omega) (Lib.hid (H.out.below HW9.out (onto_below W9 y)))
          have hoff := fun (y : Above W9) => H.out.offset _ p S8 (onto W9 y) hok9 (Lib.hid (H.out.below HW9.out (onto_below W9 y)))
          rw [HK3.out] at hflt
          rw [HC3.out] at hcnt
          rw [HO3.out] at hoff
          have f0 : ∀ z, (onto W9 z).cell? ⟨fb, 0, none⟩ = some (.int .i64 K) := fun z => mem_cell (onto_below W9 z) (HF9.out.cell 0)
          have f1 : ∀ z, (onto W9 z).cell? ⟨fb, 1, none⟩ = some (.int .i64 A) := fun z => mem_cell (onto_below W9 z) (HF9.out.cell 1)
          have f2 : ∀ z, (onto W9 z).cell? ⟨fc, 0, none⟩ = some (.int .i64 K) := fun z => mem_cell (onto_below W9 z) (HC9.out.cell 0)
          have f3 : ∀ z, (onto W9 z).cell? ⟨fc, 1, none⟩ = some (.int .i64 A) := fun z => mem_cell (onto_below W9 z) (HC9.out.cell 1)
          have f4 : ∀ z, (onto W9 z).cell? ⟨fd, 0, none⟩ = some (.int .i64 K) := fun z => mem_cell (onto_below W9 z) (HD9.out.cell 0)
          have f5 : ∀ z, (onto W9 z).cell? ⟨fd, 1, none⟩ = some (.int .i64 A) := fun z => mem_cell (onto_below W9 z) (HD9.out.cell 1)
          have hfe2 := flt_eq K A K A
          rw [show ((K == K) && (A == A)) = true by simp] at hfe2
          have e1 : (cn == cn) = true := by simp
          have e2 : (cm == cm) = true := by simp
          clear hfe
          refine wp_region_onto (by kernel_rfl) (by kernel_rfl) ?_
          repeat (go_big_quiet_step (first
            | (with_reducible exact calls_onto (hflt _))
            | (with_reducible exact calls_onto (hcnt _))
            | (with_reducible exact calls_onto (hoff _))
            | (with_reducible exact calls_onto (HAW.out _))))
          refine wpQuiet_nil ?_
          intro _ hw'
          obtain ⟨x1, hw''⟩ := hw'
          subst hw''
          go_wp2_with fail
          go_ret
          exact ⟨rfl, up_onto HB9.out _⟩
        · clear hz
          go_wp2_with (go_at_call 8; with_reducible refine (above (HAW.out _)).mono ?_; rintro x _ ⟨rfl, y, rfl⟩)
          go_ret
          exact ⟨rfl, (by (repeat (first | exact HB4.out | refine up_onto ?_ _ | refine up_alloc ?_ _)))⟩
    · have g2 : decide (300 < t.size) = true := decide_eq_true (by omega)
      go_enter Try.func5, Try.ntmps5
      go_wp2_with (go_at_call 8; with_reducible refine (above (HAW.out _)).mono ?_; rintro x _ ⟨rfl, y, rfl⟩)
      go_ret
      exact ⟨rfl, (by (repeat (first | exact Below.refl _ _ | refine up_onto ?_ _ | refine up_alloc ?_ _)))⟩
  · go_enter Try.func5, Try.ntmps5
    go_wp2_with (go_at_call 8; with_reducible refine (above (HAW.out _)).mono ?_; rintro x _ ⟨rfl, y, rfl⟩)
    go_ret
    exact ⟨rfl, (by (repeat (first | exact Below.refl _ _ | refine up_onto ?_ _ | refine up_alloc ?_ _)))⟩
end Go.Proofs.Ytoeanbfemgmgnaa

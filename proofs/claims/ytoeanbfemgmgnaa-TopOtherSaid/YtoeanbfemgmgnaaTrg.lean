/- Layer 12: the walk of TopOther over the program's reader. -/
import Derived.Test.YtoeanbfemgmgnaaTrf
import Derived.Test.YtoeanbfemgmgnaaPtw
import Derived.Test.YtoeanbfemgmgnaaTrt
import Derived.Test.YtoeanbfemgmgnaaZk
import Derived.Deep.DeepCutAuto
import Derived.Deep.CutBlock
import Derived.Deep.CutRange
namespace Go.Proofs.Ytoeanbfemgmgnaa
open Go.ChangeShapes Go.WideShapes Go.ChangeAt Go.RowKit
set_option linter.unusedVariables false
set_option linter.unusedSimpArgs false

theorem slIn_new2 (w : World) (t : TypeId) (u v : Value) : SlIn (w.alloc (.cells #[u, v] t)) (some ⟨w.heap.size, 0, none⟩) 2 [u, v] :=
  ⟨rfl, fun j x hx => ⟨⟨w.heap.size, 0, none⟩, rfl, by
    match j, hx with
    | 0, hx => simp at hx; subst hx; exact (StB.made w rfl t #[u, v]).cell 0
    | 1, hx => simp at hx; subst hx; exact (StB.made w rfl t #[u, v]).cell 1
    | j + 2, hx => simp at hx⟩⟩
theorem wide_ok {d q e : Int} (d0 : 0 ≤ d) (d1 : d ≤ 255) (q0 : 0 ≤ q) (q1 : q ≤ 255) (h : rightB d q e = true) (x : ByteArray) (cl : Bool) (n : Nat) : (RdS.at_ d q e 2147483648 2147483648 2147483648 false x cl n).Ok :=
  ⟨d0, d1, q0, q1, h, by show (withinB 2147483648 && (withinB 2147483648 && withinB 2147483648)) = true; decide⟩
theorem flt_ne (a b c d : Int) (w : World) : (binOp .neq 34 (.agg #[.int .i64 a, .int .i64 b]) (.agg #[.int .i64 c, .int .i64 d])).run Try.prog w = .ok (.bool (!((a == c) && (b == d)))) w := by
  have hp : Try.prog.stoodInHeld 34 = false := by kernel_rfl
  simp [run_neq_struct, run_equalIn_agg, Program.fieldsOf, Try.underlying34, hp, Op.eqFields, go_sem]
  by_cases h1 : a = c <;> by_cases h2 : b = d <;> simp [h1, h2]
set_option maxRecDepth 100000 in
set_option maxHeartbeats 6400000 in
theorem topOther_walk {RB : World → Addr → RdS → (Nat → Prop) → Prop} {kf : RdS → Int × Int} {cf of : RdS → Int} (H : Hid (PR RB kf cf of)) (hAl : Hid AliveSays) (d q e d' q' e' : Int) (s : ByteArray) (w : World) (hd : (Lit.int .u8 d).wf = true) (hq : (Lit.int .u8 q).wf = true) (hd' : (Lit.int .u8 d').wf = true) (hq' : (Lit.int .u8 q').wf = true) (hs : s.size ≤ maxLen) :
    Calls Try.prog 6 #[.agg #[.int .u8 d, .int .u8 q, .int .i64 e], .agg #[.int .u8 d', .int .u8 q', .int .i64 e'], .string s] w fun x w' => x = .returned (.bool true) ∧ Below w.heap.size w w' := by
  obtain ⟨d0, d1⟩ := bounds_u8 hd
  obtain ⟨q0, q1⟩ := bounds_u8 hq
  obtain ⟨d0', d1'⟩ := bounds_u8 hd'
  obtain ⟨q0', q1'⟩ := bounds_u8 hq'
  have hs0 : s.size ≤ 9223372036854775807 := hs
  have HAW := Lib.hid (show ∀ w : World, Calls Try.prog 8 #[] w fun x w' => x = .returned (.bool true) ∧ Below w.heap.size w w' from fun w => hAl.out w)
  obtain ⟨v, hv⟩ : ∃ v, rightB d q e = v := ⟨_, rfl⟩
  obtain ⟨v', hv'⟩ : ∃ v', rightB d' q' e' = v' := ⟨_, rfl⟩
  have HV := Lib.hid (show rightR d q e = v by rw [right_eq d q e d0 q0]; exact hv)
  have HV' := Lib.hid (show rightR d' q' e' = v' by rw [right_eq d' q' e' d0' q0']; exact hv')
  obtain ⟨g, hg⟩ : ∃ g, w.heap.size = g := ⟨_, rfl⟩
  obtain ⟨U, hU⟩ : ∃ U, U = (w.alloc (.cells #[.int .u8 d, .int .u8 q, .int .i64 e] 23)).alloc (.cells #[.int .u8 d', .int .u8 q', .int .i64 e'] 23) := ⟨_, rfl⟩
  have HBU := Lib.hid (show Below w.heap.size w U by rw [hU]; exact up_alloc (up_alloc (Below.refl _ w) _) _)
  have HXU := Lib.hid (show StB U g 23 #[.int .u8 d, .int .u8 q, .int .i64 e] by rw [hU]; exact (StB.made w hg.symm _ _).below (up_alloc (Below.refl _ _) _))
  have HYU := Lib.hid (show StB U (g + 1) 23 #[.int .u8 d', .int .u8 q', .int .i64 e'] by rw [hU]; exact StB.made _ (by simp; omega) _ _)
  obtain ⟨k0, k1, k2, k3⟩ := dia3' HXU.out
  obtain ⟨j0, j1, j2, j3⟩ := dia3' HYU.out
  clear hd hq hAl hd' hq'
  by_cases h1 : s.size ≤ 300
  · have g1 : decide (300 < s.size) = false := decide_eq_false (by omega)
    cases v
    · clear hv hv'
      go_enter Try.func6, Try.ntmps6
      go_upto_region 1 with fail
      rw [← hU]
      clear hU
      go_wp2_with (first
        | (go_at_call 11; with_reducible refine (above (ref_any d q e d0 d1 q0 q1 _)).mono ?_; rintro x _ ⟨rfl, y, rfl⟩)
        | (go_at_call 20; with_reducible refine (above (refRight_is d q e _ HV _)).mono ?_; rintro x _ ⟨rfl, y, rfl⟩)
        | (go_at_call 8; with_reducible refine (above (HAW.out _)).mono ?_; rintro x _ ⟨rfl, y, rfl⟩))
      go_ret
      exact ⟨rfl, (by (repeat (first | exact HBU.out | refine up_onto ?_ _ | refine up_alloc ?_ _)))⟩
    · cases v'
      · clear hv hv'
        go_enter Try.func6, Try.ntmps6
        go_upto_region 1 with fail
        rw [← hU]
        clear hU
        go_wp2_with (first
          | (go_at_call 11; with_reducible refine (above (ref_any d q e d0 d1 q0 q1 _)).mono ?_; rintro x _ ⟨rfl, y, rfl⟩)
          | (go_at_call 11; with_reducible refine (above (ref_any d' q' e' d0' d1' q0' q1' _)).mono ?_; rintro x _ ⟨rfl, y, rfl⟩)
          | (go_at_call 20; with_reducible refine (above (refRight_is d q e _ HV _)).mono ?_; rintro x _ ⟨rfl, y, rfl⟩)
          | (go_at_call 20; with_reducible refine (above (refRight_is d' q' e' _ HV' _)).mono ?_; rintro x _ ⟨rfl, y, rfl⟩)
          | (go_at_call 8; with_reducible refine (above (HAW.out _)).mono ?_; rintro x _ ⟨rfl, y, rfl⟩))
        go_ret
        exact ⟨rfl, (by (repeat (first | exact HBU.out | refine up_onto ?_ _ | refine up_alloc ?_ _)))⟩
      · obtain ⟨rs, hrs⟩ : ∃ rs, (RdS.at_ d q e 2147483648 2147483648 2147483648 false s true 0).rs = rs := ⟨_, rfl⟩
        obtain ⟨K, A, hK⟩ : ∃ K A, (RdS.at_ d q e 2147483648 2147483648 2147483648 false s true 0).K = (K, A) := ⟨_, _, rfl⟩
        obtain ⟨m, hm⟩ : ∃ m, rs.length = m := ⟨_, rfl⟩
        have HOK := Lib.hid (fun x cl n => wide_ok d0 d1 q0 q1 hv x cl n)
        have HOK' := Lib.hid (fun x cl n => wide_ok d0' d1' q0' q1' hv' x cl n)
        have HRS := Lib.hid hrs
        have HKA := Lib.hid hK
        have HM := Lib.hid hm
        have HVV := Lib.hid hv'
        clear hv hrs hK hm hv'
        go_enter Try.func6, Try.ntmps6
        go_upto_region 1 with fail
        rw [← hU]
        clear hU
        go_upto_region 3 with (first
          | (go_at_call 11; with_reducible refine (above (ref_any d q e d0 d1 q0 q1 _)).mono ?_; rintro x _ ⟨rfl, y, rfl⟩)
          | (go_at_call 11; with_reducible refine (above (ref_any d' q' e' d0' d1' q0' q1' _)).mono ?_; rintro x _ ⟨rfl, y, rfl⟩)
          | (go_at_call 20; with_reducible refine (above (refRight_is d q e _ HV _)).mono ?_; rintro x _ ⟨rfl, y, rfl⟩)
          | (go_at_call 20; with_reducible refine (above (refRight_is d' q' e' _ HV' _)).mono ?_; rintro x _ ⟨rfl, y, rfl⟩))
        generalize hy4 : onto U _ = W0
        have hb0 : Below U.heap.size U W0 := by rw [← hy4]; exact onto_below _ _
        have HB0 := Lib.hid (HBU.out.trans (hb0.mono HBU.out.size))
        have HX0 := Lib.hid (HXU.out.below hb0)
        have HY0 := Lib.hid (HYU.out.below hb0)
        clear hy4 hb0 k0 k1 k2 k3 j0 j1 j2 j3 hg
        go_upto_region 4 with fail
        generalize hy5 : W0.alloc (.cells #[.int .i64 2147483648, .int .i64 2147483648, .int .i64 2147483648, .bool false] 25) = W1
        obtain ⟨lb, hlb⟩ : ∃ lb, W0.heap.size = lb := ⟨_, rfl⟩
        have hb1 : Below W0.heap.size W0 W1 := by rw [← hy5]; exact up_alloc (Below.refl _ _) _
        have HL1 := Lib.hid (show StB W1 lb 25 #[.int .i64 2147483648, .int .i64 2147483648, .int .i64 2147483648, .bool false] by rw [← hy5]; exact StB.made _ hlb.symm _ _)
        have HB1 := Lib.hid (HB0.out.trans (hb1.mono HB0.out.size))
        have HX1 := Lib.hid (HX0.out.below hb1)
        have HY1 := Lib.hid (HY0.out.below hb1)
        rw [hlb]
        clear hy5 hb1 hlb HX0 HY0 HB0
        obtain ⟨k0, k1, k2, k3⟩ := dia3' HX1.out
        obtain ⟨l0, l1, l2, l3, l4⟩ : W1.cell? ⟨lb, 0, none⟩ = some (.int .i64 2147483648) ∧ W1.cell? ⟨lb, 1, none⟩ = some (.int .i64 2147483648) ∧ W1.cell? ⟨lb, 2, none⟩ = some (.int .i64 2147483648) ∧ W1.cell? ⟨lb, 3, none⟩ = some (.bool false) ∧ lb < W1.heap.size := ⟨HL1.out.cell 0, HL1.out.cell 1, HL1.out.cell 2, HL1.out.cell 3, HL1.out.lt⟩
        have hba := up_alloc (Below.refl _ W1) (.cells #[.int .i64 7] 3)
        have hfed := fed_any H d q e 2147483648 2147483648 2147483648 false s (Lib.hid (HOK.out s true 0)) (by omega) [7] (some ⟨W1.heap.size, 0, none⟩) 1 1 (by omega) (W1.alloc (.cells #[.int .i64 7] 3)) (Lib.hid (slIn_new1 W1 3 (.int .i64 7))) rs K A m HRS HKA HM
        go_wp2_with fail
        refine hfed.mono ?_
        rintro x W2 ⟨C, cc, V_, rfl, HT2, hb2⟩
        have hb12 : Below W1.heap.size W1 W2 := hba.trans (hb2.out.mono hba.size)
        have HB2 := Lib.hid (HB1.out.trans (hb12.mono HB1.out.size))
        have HX2 := Lib.hid (HX1.out.below hb12)
        have HY2 := Lib.hid (HY1.out.below hb12)
        have HL2 := Lib.hid (HL1.out.below hb12)
        clear hfed k0 k1 k2 k3 l0 l1 l2 l3 l4 hb2 hb12 hba HX1 HY1 HL1 HB1
        go_upto_region 7 with fail
        generalize hy6 : W2.alloc (.cells #[.int .i64 K, .int .i64 A] 34) = W3
        obtain ⟨fb, hfb⟩ : ∃ fb, W2.heap.size = fb := ⟨_, rfl⟩
        have hb3 : Below W2.heap.size W2 W3 := by rw [← hy6]; exact up_alloc (Below.refl _ _) _
        have HF3 := Lib.hid (show StB W3 fb 34 #[.int .i64 K, .int .i64 A] by rw [← hy6]; exact StB.made _ hfb.symm _ _)
        have HB3 := Lib.hid (HB2.out.trans (hb3.mono HB2.out.size))
        have HX3 := Lib.hid (HX2.out.below hb3)
        have HY3 := Lib.hid (HY2.out.below hb3)
        have HL3 := Lib.hid (HL2.out.below hb3)
        have HT3 := Lib.hid (HT2.out.below hb3)
        rw [hfb]
        clear hy6 hb3 hfb HB2 HX2 HT2 HY2 HL2
        obtain ⟨a0, a1, a2⟩ := deal2 HF3.out
        have hfe := flt_ne K A 0 0
        obtain ⟨z, hz⟩ : ∃ z, ((K == 0) && (A == 0)) = z := ⟨_, rfl⟩
        rw [hz] at hfe
        cases z
        · clear hz
          go_wp2_with (go_at_call 8; with_reducible refine (above (HAW.out _)).mono ?_; rintro x _ ⟨rfl, y, rfl⟩)
          go_ret
          exact ⟨rfl, (by (repeat (first | exact HB3.out | refine up_onto ?_ _ | refine up_alloc ?_ _)))⟩
        · obtain ⟨hk0, ha0⟩ : K = 0 ∧ A = 0 := by simpa using hz
          have HMAY := Lib.hid ((HOK.out s true 0).may (show (RdS.at_ d q e 2147483648 2147483648 2147483648 false s true 0).K.1 = 0 by rw [HKA.out]; exact hk0))
          rw [HRS.out] at HMAY
          have hfld : fldN rs + bytN rs ≤ s.size + 1 := HMAY.out.2
          have hmf : rs.length ≤ fldN rs := by
            have h2 : ∀ t : List (List ByteArray), AllMay t → t.length ≤ fldN t := by
              intro t
              induction t with
              | nil => intro _; exact Nat.le_refl _
              | cons r t ih =>
                intro h
                have h3 := ih (fun x hx => h x (List.mem_cons_of_mem _ hx))
                have h4 := (mayN_zero (h r (List.mem_cons_self ..))).1
                have h5 : 1 ≤ r.length := by cases r with | nil => exact absurd rfl h4 | cons => simp
                rw [List.length_cons, fldN]; omega
            exact h2 rs HMAY.out.1
          have hm9 : m ≤ 301 := by rw [← HM.out]; omega
          obtain ⟨TX, hTX⟩ : ∃ TX, textO d' q' e' rs = TX := ⟨_, rfl⟩
          have HTX := Lib.hid (show bl TX = textN d' q' e' rs (frontN rs) by rw [← hTX]; exact bl_textO d0' d1' q0' q1' e' rs)
          have hts : TX.size ≤ 2200 := by rw [← hTX]; have := textO_size (e := e') d0' d1' q0' q1' rs; omega
          have HSZ := Lib.hid (show Sizes rs from fun r hr => ⟨by have := fldN_mem hr; unfold maxLen; omega, fun y hy => by have h1 := bytN_mem hr; have h2 := lenL_mem hy; omega⟩)
          have HWD := Lib.hid (show ∀ x ∈ rs, x.length ≤ 1000000 from fun x hx => by have := fldN_mem hx; omega)
          obtain ⟨u1, u2⟩ := text_back d0' d1' q0' q1' HVV.out (by decide) rs HMAY.out.1 (lf := 2147483648) (ls := 2147483648) (lr := 2147483648) (by omega) (fun r hr => by have := fldN_mem hr; omega) (fun r hr y hy => by have h1 := bytN_mem hr; have h2 := lenL_mem hy; omega) TX HTX.out
          have htext : ∀ V, Below W3.heap.size W3 V → Calls Try.prog 21 #[.agg #[.int .i64 d', .int .i64 q', .int .i64 e'], .slice C m cc] V fun x w' => x = .returned (.string TX) ∧ Below V.heap.size V w' := fun V hV =>
            text_any d' q' e' d0' d1' q0' q1' C m cc V_ rs (by omega) (by omega) (by omega) V (Lib.hid (HT3.out.below hV)) HSZ TX HTX
          have hfed2 := fun (V : World) {sb : Nat} (hS : Hid (SlIn V (some ⟨sb, 0, none⟩) 2 ([1, 5].map (Value.int .i64)))) => fed_new H d' q' e' 2147483648 2147483648 2147483648 false TX (Lib.hid (HOK'.out TX true 0)) hts [1, 5] (some ⟨sb, 0, none⟩) 2 2 (by omega) V hS rs 0 0 m (Lib.hid u1) (Lib.hid u2) HM
          have HA := Lib.hid ha0
          clear hTX u1 u2 hz hk0 ha0
          go_upto_region 9 with fail
          clear hfe
          go_cut [11, 12, 13] from 46 to 57 (fun s11 s12 s13 wx => ∃ (kb : Nat) (C4 : Option Addr) (cc4 : Nat) (V4 : List Value), s11 = .slice C4 m cc4 ∧ s12 = .pointer (some ⟨kb, 0, none⟩) ∧ s13 = .bool true ∧ Hid (StB wx kb 34 #[.int .i64 0, .int .i64 0]) ∧ Hid (TabIn wx C4 m V4 rs) ∧ Hid (Below W3.heap.size W3 wx))
          case first =>
            rename_i J K1 hJ hM'
            refine wp_mono (Q := Exit.then K1 (fun _ _ _ => False)) ?_ (fun e a w hq => by cases e <;> first | exact hq | exact hq.elim)
-- GEN
            refine region_W 5 (fun w' => Below W3.heap.size W3 w') (by kernel_rfl) ?_
            have hC : Below W3.heap.size W3 W3.drew := (Below.refl _ W3).drew
            refine takeC (i := 0) (v := .agg #[.int .u8 d', .int .u8 q', .int .i64 e']) rfl (by kernel_rfl) (by kernel_rfl) (by kernel_rfl) (by kernel_rfl) (fun _ _ _ h => h) hC (.inl ⟨by rfl, fun w hw => by obtain ⟨y0, y1, y2, y3⟩ := dia3' (HY3.out.below hw); go_simp⟩) ?_
            refine takeC (i := 1) (v := .agg #[.int .i64 2147483648, .int .i64 2147483648, .int .i64 2147483648, .bool false]) rfl (by kernel_rfl) (by kernel_rfl) (by kernel_rfl) (by kernel_rfl) (fun _ _ _ h => h) hC (.inl ⟨by rfl, fun w hw => by have l0 := (HL3.out.below hw).cell 0; have l1 := (HL3.out.below hw).cell 1; have l2 := (HL3.out.below hw).cell 2; have l3 := (HL3.out.below hw).cell 3; have l4 := (HL3.out.below hw).lt; go_simp⟩) ?_
            refine takeC (i := 2) (v := .agg #[.int .u8 d', .int .u8 q', .int .i64 e']) rfl (by kernel_rfl) (by kernel_rfl) (by kernel_rfl) (by kernel_rfl) (fun _ _ _ h => h) hC (.inl ⟨by rfl, fun w hw => by obtain ⟨y0, y1, y2, y3⟩ := dia3' (HY3.out.below hw); go_simp⟩) ?_
            refine takeC (i := 4) (v := .slice C m cc) rfl (by kernel_rfl) (by kernel_rfl) (by kernel_rfl) (by kernel_rfl) (fun _ _ _ h => h) hC (.inl ⟨by rfl, fun w hw => by go_simp⟩) ?_
            obtain ⟨Y0, eV0⟩ : ∃ Y0, Y0 = W3.drew := ⟨_, rfl⟩
            rw [← eV0] at hC ⊢
            clear eV0
            refine threeC (i := 3) (j := 6) (k := 12) (by kernel_rfl) rfl rfl rfl (by kernel_rfl) (fun K hK => ?_) (fun K hK => ?_) (fun K hK => ?_)
            · skip
              go_simp
              refine callsIn_wide.2 ((ref_any d' q' e' d0' d1' q0' q1' Y0).mono ?_)
              rintro x Y1 ⟨rfl, hb'⟩
              replace hC := Below.trans hC (Below.mono hb' (Below.size hC))
              refine hK _ _ hC ?_
              clear hK K
              clear hb'
              refine threeC (i := 5) (j := 6) (k := 12) (by kernel_rfl) rfl rfl rfl (by kernel_rfl) (fun K hK => ?_) (fun K hK => ?_) (fun K hK => ?_)
              · skip
                go_simp
                refine callsIn_wide.2 ((htext Y1 hC).mono ?_)
                rintro x Y2 ⟨rfl, hb'⟩
                replace hC := Below.trans hC (Below.mono hb' (Below.size hC))
                refine hK _ _ hC ?_
                clear hK K
                clear hb'
                refine twoC (i := 6) (j := 12) (by kernel_rfl) rfl rfl (by kernel_rfl) (fun K hK => ?_) (fun K hK => ?_)
                · skip
                  go_simp
                  obtain ⟨Y3, eV⟩ : ∃ Y3, Y3 = Y2.alloc (.cells #[.int .i64 1, .int .i64 5] 3) := ⟨_, rfl⟩
                  obtain ⟨sb, eb⟩ : ∃ sb, Y2.heap.size = sb := ⟨_, rfl⟩
                  have hb' : Below Y2.heap.size Y2 Y3 := by rw [eV]; exact up_alloc (Below.refl _ _) _
                  have hS : SlIn Y3 (some ⟨sb, 0, none⟩) 2 ([1, 5].map (Value.int .i64)) := by rw [eV, ← eb]; exact slIn_new2 _ _ _ _
                  rw [← eV, eb]
                  replace hC := Below.trans hC (Below.mono hb' (Below.size hC))
                  refine hK _ _ hC ?_
                  clear hK K
                  clear eV
                  clear eb
                  clear hb'
                  refine twoC (i := 7) (j := 12) (by kernel_rfl) rfl rfl (by kernel_rfl) (fun K hK => ?_) (fun K hK => ?_)
                  · skip
                    go_simp
                    refine callsIn_wide.2 ((hfed2 Y3 (Lib.hid hS)).mono ?_)
                    rintro x Y4 ⟨C4, cc4, V4, rfl, HT4, hbh⟩
                    have hb' : Below Y3.heap.size Y3 Y4 := hbh.out
                    replace hC := Below.trans hC (Below.mono hb' (Below.size hC))
                    obtain ⟨V7, e7⟩ : ∃ V7, V7 = Y4 := ⟨_, rfl⟩
                    have hB7 : Below V7.heap.size V7 Y4 := by rw [e7]; exact Below.refl _ _
                    obtain ⟨B7, eB7⟩ : ∃ B7, B7 = Y3.heap.size := ⟨_, rfl⟩
                    rw [← e7, ← eB7] at HT4
                    refine hK _ _ hC ?_
                    clear hK K
                    clear e7 eB7 hS
                    clear hb'
                    refine takeC (i := 8) (v := .tuple #[.slice C4 m cc4, .agg #[.int .i64 0, .int .i64 0], .bool true]) rfl (by kernel_rfl) (by kernel_rfl) (by kernel_rfl) (by kernel_rfl) (fun _ _ _ h => h) hC (.inl ⟨by rfl, fun w hw => by go_simp⟩) ?_
                    refine takeC (i := 9) (v := .slice C4 m cc4) rfl (by kernel_rfl) (by kernel_rfl) (by kernel_rfl) (by kernel_rfl) (fun _ _ _ h => h) hC (.inl ⟨by rfl, fun w hw => by go_simp⟩) ?_
                    refine takeC (i := 10) (v := .agg #[.int .i64 0, .int .i64 0]) rfl (by kernel_rfl) (by kernel_rfl) (by kernel_rfl) (by kernel_rfl) (fun _ _ _ h => h) hC (.inl ⟨by rfl, fun w hw => by go_simp⟩) ?_
                    refine takeC (i := 11) (v := .bool true) rfl (by kernel_rfl) (by kernel_rfl) (by kernel_rfl) (by kernel_rfl) (fun _ _ _ h => h) hC (.inl ⟨by rfl, fun w hw => by go_simp⟩) ?_
                    refine onlyC (i := 12) (by kernel_rfl) rfl (by kernel_rfl) (fun K hK => ?_)
                    go_simp
                    obtain ⟨Y5, eV⟩ : ∃ Y5, Y5 = Y4.alloc (.cells #[.int .i64 0, .int .i64 0] 34) := ⟨_, rfl⟩
                    obtain ⟨kb, ek⟩ : ∃ kb, Y4.heap.size = kb := ⟨_, rfl⟩
                    have hb' : Below Y4.heap.size Y4 Y5 := by rw [eV]; exact up_alloc (Below.refl _ _) _
                    have hA : StB Y5 kb 34 #[.int .i64 0, .int .i64 0] := by rw [eV]; exact StB.made _ ek.symm _ _
                    have hkU : W3.heap.size ≤ kb := by rw [← ek]; exact Below.size hC
                    have hfar : kb < B7 ∨ V7.heap.size ≤ kb := .inr (by rw [← ek]; exact Below.size hB7)
                    rw [← eV, ek]
                    replace hB7 := hB7.trans (Below.mono hb' (Below.size hB7))
                    replace hC := Below.trans hC (Below.mono hb' (Below.size hC))
                    refine hK _ _ hC ?_
                    clear hK K
                    clear eV
                    clear ek
                    clear hb'
                    refine takeC (i := 13) (v := .slice C4 m cc4) rfl (by kernel_rfl) (by kernel_rfl) (by kernel_rfl) (by kernel_rfl) (fun _ _ _ h => h) hC (.inl ⟨by rfl, fun w hw => by go_simp⟩) ?_
                    refine onlyC (i := 14) (by kernel_rfl) rfl (by kernel_rfl) (fun K hK => ?_)
                    have c0 := StB.cell hA 0
                    have c1 := StB.cell hA 1
                    have f0 := StB.free hA 0
                    have f1 := StB.free hA 1
                    have c2 := StB.lt hA
                    go_simp
                    obtain ⟨Z, eZ⟩ : ∃ Z, Z = (Y5.setCell ⟨kb, 0, none⟩ (.int .i64 0)).setCell ⟨kb, 1, none⟩ (.int .i64 0) := ⟨_, rfl⟩
                    have hTz : Touch Y5 Z (fun k => k = kb) := by rw [eZ]; exact ((Touch.refl _ (fun k => k = kb)).then_set (.inl rfl) _).then_set (.inl rfl) _
                    have hAz : StB Z kb 34 #[.int .i64 0, .int .i64 0] := by rw [eZ]; exact (StB.set_ hA 0 (.int .i64 0)).set_ 1 (.int .i64 0)
                    have hCz : Below W3.heap.size W3 Z := by rw [eZ]; exact (Below.setCell hC (p := ⟨kb, 0, none⟩) hkU _).setCell (p := ⟨kb, 1, none⟩) hkU _
                    have hT7 : Touch V7 Z (fun k => k = kb) := (Touch.of_below hB7 _).trans (Sub.refl _ _) hTz
                    have hTab := HT4.out.far hfar hT7
                    rw [← eZ]
                    refine hK _ _ hCz ?_
                    clear hK K eZ c0 c1 c2 f0 f1 hTz
                    refine onlyC (i := 15) (by kernel_rfl) rfl (by kernel_rfl) (fun K hK => ?_)
                    go_simp
                    refine hK _ _ hCz ?_
                    clear hK K
                    refine doneC (by kernel_rfl) ?_
                    go_simp
                    go_wp2_with fail
                    go_meet
                    exact ⟨kb, C4, cc4, V4, rfl, rfl, rfl, Lib.hid hAz, Lib.hid hTab, Lib.hid hCz⟩
                  · skip
                    go_simp
                    obtain ⟨Y6, eV⟩ : ∃ Y6, Y6 = Y3.alloc (.cells #[.int .i64 0, .int .i64 0] 34) := ⟨_, rfl⟩
                    obtain ⟨kb, ek⟩ : ∃ kb, Y3.heap.size = kb := ⟨_, rfl⟩
                    have hb' : Below Y3.heap.size Y3 Y6 := by rw [eV]; exact up_alloc (Below.refl _ _) _
                    have hA : StB Y6 kb 34 #[.int .i64 0, .int .i64 0] := by rw [eV]; exact StB.made _ ek.symm _ _
                    have hkU : W3.heap.size ≤ kb := by rw [← ek]; exact Below.size hC
                    rw [← eV, ek]
                    replace hS := SlIn.below hS hb'
                    replace hC := Below.trans hC (Below.mono hb' (Below.size hC))
                    refine hK _ _ hC ?_
                    clear hK K
                    clear eV
                    clear ek
                    clear hb'
                    refine onlyC (i := 7) (by kernel_rfl) rfl (by kernel_rfl) (fun K hK => ?_)
                    go_simp
                    refine callsIn_wide.2 ((hfed2 Y6 (Lib.hid hS)).mono ?_)
                    rintro x Y7 ⟨C4, cc4, V4, rfl, HT4, hbh⟩
                    have hb' : Below Y6.heap.size Y6 Y7 := hbh.out
                    have hfar : kb < Y6.heap.size ∨ Y7.heap.size ≤ kb := .inl (StB.lt hA)
                    replace hA := StB.below hA hb'
                    replace hC := Below.trans hC (Below.mono hb' (Below.size hC))
                    obtain ⟨V7, e7⟩ : ∃ V7, V7 = Y7 := ⟨_, rfl⟩
                    have hB7 : Below V7.heap.size V7 Y7 := by rw [e7]; exact Below.refl _ _
                    obtain ⟨B7, eB7⟩ : ∃ B7, B7 = Y6.heap.size := ⟨_, rfl⟩
                    rw [← e7, ← eB7] at HT4
                    rw [← e7, ← eB7] at hfar
                    refine hK _ _ hC ?_
                    clear hK K
                    clear e7 eB7 hS
                    clear hb'
                    refine takeC (i := 8) (v := .tuple #[.slice C4 m cc4, .agg #[.int .i64 0, .int .i64 0], .bool true]) rfl (by kernel_rfl) (by kernel_rfl) (by kernel_rfl) (by kernel_rfl) (fun _ _ _ h => h) hC (.inl ⟨by rfl, fun w hw => by go_simp⟩) ?_
                    refine takeC (i := 9) (v := .slice C4 m cc4) rfl (by kernel_rfl) (by kernel_rfl) (by kernel_rfl) (by kernel_rfl) (fun _ _ _ h => h) hC (.inl ⟨by rfl, fun w hw => by go_simp⟩) ?_
                    refine takeC (i := 10) (v := .agg #[.int .i64 0, .int .i64 0]) rfl (by kernel_rfl) (by kernel_rfl) (by kernel_rfl) (by kernel_rfl) (fun _ _ _ h => h) hC (.inl ⟨by rfl, fun w hw => by go_simp⟩) ?_
                    refine takeC (i := 11) (v := .bool true) rfl (by kernel_rfl) (by kernel_rfl) (by kernel_rfl) (by kernel_rfl) (fun _ _ _ h => h) hC (.inl ⟨by rfl, fun w hw => by go_simp⟩) ?_
                    refine takeC (i := 13) (v := .slice C4 m cc4) rfl (by kernel_rfl) (by kernel_rfl) (by kernel_rfl) (by kernel_rfl) (fun _ _ _ h => h) hC (.inl ⟨by rfl, fun w hw => by go_simp⟩) ?_
                    refine onlyC (i := 14) (by kernel_rfl) rfl (by kernel_rfl) (fun K hK => ?_)
                    have c0 := StB.cell hA 0
                    have c1 := StB.cell hA 1
                    have f0 := StB.free hA 0
                    have f1 := StB.free hA 1
                    have c2 := StB.lt hA
                    go_simp
                    obtain ⟨Z, eZ⟩ : ∃ Z, Z = (Y7.setCell ⟨kb, 0, none⟩ (.int .i64 0)).setCell ⟨kb, 1, none⟩ (.int .i64 0) := ⟨_, rfl⟩
                    have hTz : Touch Y7 Z (fun k => k = kb) := by rw [eZ]; exact ((Touch.refl _ (fun k => k = kb)).then_set (.inl rfl) _).then_set (.inl rfl) _
                    have hAz : StB Z kb 34 #[.int .i64 0, .int .i64 0] := by rw [eZ]; exact (StB.set_ hA 0 (.int .i64 0)).set_ 1 (.int .i64 0)
                    have hCz : Below W3.heap.size W3 Z := by rw [eZ]; exact (Below.setCell hC (p := ⟨kb, 0, none⟩) hkU _).setCell (p := ⟨kb, 1, none⟩) hkU _
                    have hT7 : Touch V7 Z (fun k => k = kb) := (Touch.of_below hB7 _).trans (Sub.refl _ _) hTz
                    have hTab := HT4.out.far hfar hT7
                    rw [← eZ]
                    refine hK _ _ hCz ?_
                    clear hK K eZ c0 c1 c2 f0 f1 hTz
                    refine onlyC (i := 15) (by kernel_rfl) rfl (by kernel_rfl) (fun K hK => ?_)
                    go_simp
                    refine hK _ _ hCz ?_
                    clear hK K
                    refine doneC (by kernel_rfl) ?_
                    go_simp
                    go_wp2_with fail
                    go_meet
                    exact ⟨kb, C4, cc4, V4, rfl, rfl, rfl, Lib.hid hAz, Lib.hid hTab, Lib.hid hCz⟩
                · skip
                  go_simp
                  obtain ⟨Y8, eV⟩ : ∃ Y8, Y8 = Y2.alloc (.cells #[.int .i64 0, .int .i64 0] 34) := ⟨_, rfl⟩
                  obtain ⟨kb, ek⟩ : ∃ kb, Y2.heap.size = kb := ⟨_, rfl⟩
                  have hb' : Below Y2.heap.size Y2 Y8 := by rw [eV]; exact up_alloc (Below.refl _ _) _
                  have hA : StB Y8 kb 34 #[.int .i64 0, .int .i64 0] := by rw [eV]; exact StB.made _ ek.symm _ _
                  have hkU : W3.heap.size ≤ kb := by rw [← ek]; exact Below.size hC
                  rw [← eV, ek]
                  replace hC := Below.trans hC (Below.mono hb' (Below.size hC))
                  refine hK _ _ hC ?_
                  clear hK K
                  clear eV
                  clear ek
                  clear hb'
                  refine onlyC (i := 6) (by kernel_rfl) rfl (by kernel_rfl) (fun K hK => ?_)
                  go_simp
                  obtain ⟨Y9, eV⟩ : ∃ Y9, Y9 = Y8.alloc (.cells #[.int .i64 1, .int .i64 5] 3) := ⟨_, rfl⟩
                  obtain ⟨sb, eb⟩ : ∃ sb, Y8.heap.size = sb := ⟨_, rfl⟩
                  have hb' : Below Y8.heap.size Y8 Y9 := by rw [eV]; exact up_alloc (Below.refl _ _) _
                  have hS : SlIn Y9 (some ⟨sb, 0, none⟩) 2 ([1, 5].map (Value.int .i64)) := by rw [eV, ← eb]; exact slIn_new2 _ _ _ _
                  rw [← eV, eb]
                  replace hA := StB.below hA hb'
                  replace hC := Below.trans hC (Below.mono hb' (Below.size hC))
                  refine hK _ _ hC ?_
                  clear hK K
                  clear eV
                  clear eb
                  clear hb'
                  refine onlyC (i := 7) (by kernel_rfl) rfl (by kernel_rfl) (fun K hK => ?_)
                  go_simp
                  refine callsIn_wide.2 ((hfed2 Y9 (Lib.hid hS)).mono ?_)
                  rintro x Y10 ⟨C4, cc4, V4, rfl, HT4, hbh⟩
                  have hb' : Below Y9.heap.size Y9 Y10 := hbh.out
                  have hfar : kb < Y9.heap.size ∨ Y10.heap.size ≤ kb := .inl (StB.lt hA)
                  replace hA := StB.below hA hb'
                  replace hC := Below.trans hC (Below.mono hb' (Below.size hC))
                  obtain ⟨V7, e7⟩ : ∃ V7, V7 = Y10 := ⟨_, rfl⟩
                  have hB7 : Below V7.heap.size V7 Y10 := by rw [e7]; exact Below.refl _ _
                  obtain ⟨B7, eB7⟩ : ∃ B7, B7 = Y9.heap.size := ⟨_, rfl⟩
                  rw [← e7, ← eB7] at HT4
                  rw [← e7, ← eB7] at hfar
                  refine hK _ _ hC ?_
                  clear hK K
                  clear e7 eB7 hS
                  clear hb'
                  refine takeC (i := 8) (v := .tuple #[.slice C4 m cc4, .agg #[.int .i64 0, .int .i64 0], .bool true]) rfl (by kernel_rfl) (by kernel_rfl) (by kernel_rfl) (by kernel_rfl) (fun _ _ _ h => h) hC (.inl ⟨by rfl, fun w hw => by go_simp⟩) ?_
                  refine takeC (i := 9) (v := .slice C4 m cc4) rfl (by kernel_rfl) (by kernel_rfl) (by kernel_rfl) (by kernel_rfl) (fun _ _ _ h => h) hC (.inl ⟨by rfl, fun w hw => by go_simp⟩) ?_
                  refine takeC (i := 10) (v := .agg #[.int .i64 0, .int .i64 0]) rfl (by kernel_rfl) (by kernel_rfl) (by kernel_rfl) (by kernel_rfl) (fun _ _ _ h => h) hC (.inl ⟨by rfl, fun w hw => by go_simp⟩) ?_
                  refine takeC (i := 11) (v := .bool true) rfl (by kernel_rfl) (by kernel_rfl) (by kernel_rfl) (by kernel_rfl) (fun _ _ _ h => h) hC (.inl ⟨by rfl, fun w hw => by go_simp⟩) ?_
                  refine takeC (i := 13) (v := .slice C4 m cc4) rfl (by kernel_rfl) (by kernel_rfl) (by kernel_rfl) (by kernel_rfl) (fun _ _ _ h => h) hC (.inl ⟨by rfl, fun w hw => by go_simp⟩) ?_
                  refine onlyC (i := 14) (by kernel_rfl) rfl (by kernel_rfl) (fun K hK => ?_)
                  have c0 := StB.cell hA 0
                  have c1 := StB.cell hA 1
                  have f0 := StB.free hA 0
                  have f1 := StB.free hA 1
                  have c2 := StB.lt hA
                  go_simp
                  obtain ⟨Z, eZ⟩ : ∃ Z, Z = (Y10.setCell ⟨kb, 0, none⟩ (.int .i64 0)).setCell ⟨kb, 1, none⟩ (.int .i64 0) := ⟨_, rfl⟩
                  have hTz : Touch Y10 Z (fun k => k = kb) := by rw [eZ]; exact ((Touch.refl _ (fun k => k = kb)).then_set (.inl rfl) _).then_set (.inl rfl) _
                  have hAz : StB Z kb 34 #[.int .i64 0, .int .i64 0] := by rw [eZ]; exact (StB.set_ hA 0 (.int .i64 0)).set_ 1 (.int .i64 0)
                  have hCz : Below W3.heap.size W3 Z := by rw [eZ]; exact (Below.setCell hC (p := ⟨kb, 0, none⟩) hkU _).setCell (p := ⟨kb, 1, none⟩) hkU _
                  have hT7 : Touch V7 Z (fun k => k = kb) := (Touch.of_below hB7 _).trans (Sub.refl _ _) hTz
                  have hTab := HT4.out.far hfar hT7
                  rw [← eZ]
                  refine hK _ _ hCz ?_
                  clear hK K eZ c0 c1 c2 f0 f1 hTz
                  refine onlyC (i := 15) (by kernel_rfl) rfl (by kernel_rfl) (fun K hK => ?_)
                  go_simp
                  refine hK _ _ hCz ?_
                  clear hK K
                  refine doneC (by kernel_rfl) ?_
                  go_simp
                  go_wp2_with fail
                  go_meet
                  exact ⟨kb, C4, cc4, V4, rfl, rfl, rfl, Lib.hid hAz, Lib.hid hTab, Lib.hid hCz⟩
              · skip
                go_simp
                obtain ⟨Y11, eV⟩ : ∃ Y11, Y11 = Y1.alloc (.cells #[.int .i64 1, .int .i64 5] 3) := ⟨_, rfl⟩
                obtain ⟨sb, eb⟩ : ∃ sb, Y1.heap.size = sb := ⟨_, rfl⟩
                have hb' : Below Y1.heap.size Y1 Y11 := by rw [eV]; exact up_alloc (Below.refl _ _) _
                have hS : SlIn Y11 (some ⟨sb, 0, none⟩) 2 ([1, 5].map (Value.int .i64)) := by rw [eV, ← eb]; exact slIn_new2 _ _ _ _
                rw [← eV, eb]
                replace hC := Below.trans hC (Below.mono hb' (Below.size hC))
                refine hK _ _ hC ?_
                clear hK K
                clear eV
                clear eb
                clear hb'
                refine twoC (i := 5) (j := 12) (by kernel_rfl) rfl rfl (by kernel_rfl) (fun K hK => ?_) (fun K hK => ?_)
                · skip
                  go_simp
                  refine callsIn_wide.2 ((htext Y11 hC).mono ?_)
                  rintro x Y12 ⟨rfl, hb'⟩
                  replace hS := SlIn.below hS hb'
                  replace hC := Below.trans hC (Below.mono hb' (Below.size hC))
                  refine hK _ _ hC ?_
                  clear hK K
                  clear hb'
                  refine twoC (i := 7) (j := 12) (by kernel_rfl) rfl rfl (by kernel_rfl) (fun K hK => ?_) (fun K hK => ?_)
                  · skip
                    go_simp
                    refine callsIn_wide.2 ((hfed2 Y12 (Lib.hid hS)).mono ?_)
                    rintro x Y13 ⟨C4, cc4, V4, rfl, HT4, hbh⟩
                    have hb' : Below Y12.heap.size Y12 Y13 := hbh.out
                    replace hC := Below.trans hC (Below.mono hb' (Below.size hC))
                    obtain ⟨V7, e7⟩ : ∃ V7, V7 = Y13 := ⟨_, rfl⟩
                    have hB7 : Below V7.heap.size V7 Y13 := by rw [e7]; exact Below.refl _ _
                    obtain ⟨B7, eB7⟩ : ∃ B7, B7 = Y12.heap.size := ⟨_, rfl⟩
                    rw [← e7, ← eB7] at HT4
                    refine hK _ _ hC ?_
                    clear hK K
                    clear e7 eB7 hS
                    clear hb'
                    refine takeC (i := 8) (v := .tuple #[.slice C4 m cc4, .agg #[.int .i64 0, .int .i64 0], .bool true]) rfl (by kernel_rfl) (by kernel_rfl) (by kernel_rfl) (by kernel_rfl) (fun _ _ _ h => h) hC (.inl ⟨by rfl, fun w hw => by go_simp⟩) ?_
                    refine takeC (i := 9) (v := .slice C4 m cc4) rfl (by kernel_rfl) (by kernel_rfl) (by kernel_rfl) (by kernel_rfl) (fun _ _ _ h => h) hC (.inl ⟨by rfl, fun w hw => by go_simp⟩) ?_
                    refine takeC (i := 10) (v := .agg #[.int .i64 0, .int .i64 0]) rfl (by kernel_rfl) (by kernel_rfl) (by kernel_rfl) (by kernel_rfl) (fun _ _ _ h => h) hC (.inl ⟨by rfl, fun w hw => by go_simp⟩) ?_
                    refine takeC (i := 11) (v := .bool true) rfl (by kernel_rfl) (by kernel_rfl) (by kernel_rfl) (by kernel_rfl) (fun _ _ _ h => h) hC (.inl ⟨by rfl, fun w hw => by go_simp⟩) ?_
                    refine onlyC (i := 12) (by kernel_rfl) rfl (by kernel_rfl) (fun K hK => ?_)
                    go_simp
                    obtain ⟨Y14, eV⟩ : ∃ Y14, Y14 = Y13.alloc (.cells #[.int .i64 0, .int .i64 0] 34) := ⟨_, rfl⟩
                    obtain ⟨kb, ek⟩ : ∃ kb, Y13.heap.size = kb := ⟨_, rfl⟩
                    have hb' : Below Y13.heap.size Y13 Y14 := by rw [eV]; exact up_alloc (Below.refl _ _) _
                    have hA : StB Y14 kb 34 #[.int .i64 0, .int .i64 0] := by rw [eV]; exact StB.made _ ek.symm _ _
                    have hkU : W3.heap.size ≤ kb := by rw [← ek]; exact Below.size hC
                    have hfar : kb < B7 ∨ V7.heap.size ≤ kb := .inr (by rw [← ek]; exact Below.size hB7)
                    rw [← eV, ek]
                    replace hB7 := hB7.trans (Below.mono hb' (Below.size hB7))
                    replace hC := Below.trans hC (Below.mono hb' (Below.size hC))
                    refine hK _ _ hC ?_
                    clear hK K
                    clear eV
                    clear ek
                    clear hb'
                    refine takeC (i := 13) (v := .slice C4 m cc4) rfl (by kernel_rfl) (by kernel_rfl) (by kernel_rfl) (by kernel_rfl) (fun _ _ _ h => h) hC (.inl ⟨by rfl, fun w hw => by go_simp⟩) ?_
                    refine onlyC (i := 14) (by kernel_rfl) rfl (by kernel_rfl) (fun K hK => ?_)
                    have c0 := StB.cell hA 0
                    have c1 := StB.cell hA 1
                    have f0 := StB.free hA 0
                    have f1 := StB.free hA 1
                    have c2 := StB.lt hA
                    go_simp
                    obtain ⟨Z, eZ⟩ : ∃ Z, Z = (Y14.setCell ⟨kb, 0, none⟩ (.int .i64 0)).setCell ⟨kb, 1, none⟩ (.int .i64 0) := ⟨_, rfl⟩
                    have hTz : Touch Y14 Z (fun k => k = kb) := by rw [eZ]; exact ((Touch.refl _ (fun k => k = kb)).then_set (.inl rfl) _).then_set (.inl rfl) _
                    have hAz : StB Z kb 34 #[.int .i64 0, .int .i64 0] := by rw [eZ]; exact (StB.set_ hA 0 (.int .i64 0)).set_ 1 (.int .i64 0)
                    have hCz : Below W3.heap.size W3 Z := by rw [eZ]; exact (Below.setCell hC (p := ⟨kb, 0, none⟩) hkU _).setCell (p := ⟨kb, 1, none⟩) hkU _
                    have hT7 : Touch V7 Z (fun k => k = kb) := (Touch.of_below hB7 _).trans (Sub.refl _ _) hTz
                    have hTab := HT4.out.far hfar hT7
                    rw [← eZ]
                    refine hK _ _ hCz ?_
                    clear hK K eZ c0 c1 c2 f0 f1 hTz
                    refine onlyC (i := 15) (by kernel_rfl) rfl (by kernel_rfl) (fun K hK => ?_)
                    go_simp
                    refine hK _ _ hCz ?_
                    clear hK K
                    refine doneC (by kernel_rfl) ?_
                    go_simp
                    go_wp2_with fail
                    go_meet
                    exact ⟨kb, C4, cc4, V4, rfl, rfl, rfl, Lib.hid hAz, Lib.hid hTab, Lib.hid hCz⟩
                  · skip
                    go_simp
                    obtain ⟨Y15, eV⟩ : ∃ Y15, Y15 = Y12.alloc (.cells #[.int .i64 0, .int .i64 0] 34) := ⟨_, rfl⟩
                    obtain ⟨kb, ek⟩ : ∃ kb, Y12.heap.size = kb := ⟨_, rfl⟩
                    have hb' : Below Y12.heap.size Y12 Y15 := by rw [eV]; exact up_alloc (Below.refl _ _) _
                    have hA : StB Y15 kb 34 #[.int .i64 0, .int .i64 0] := by rw [eV]; exact StB.made _ ek.symm _ _
                    have hkU : W3.heap.size ≤ kb := by rw [← ek]; exact Below.size hC
                    rw [← eV, ek]
                    replace hS := SlIn.below hS hb'
                    replace hC := Below.trans hC (Below.mono hb' (Below.size hC))
                    refine hK _ _ hC ?_
                    clear hK K
                    clear eV
                    clear ek
                    clear hb'
                    refine onlyC (i := 7) (by kernel_rfl) rfl (by kernel_rfl) (fun K hK => ?_)
                    go_simp
                    refine callsIn_wide.2 ((hfed2 Y15 (Lib.hid hS)).mono ?_)
                    rintro x Y16 ⟨C4, cc4, V4, rfl, HT4, hbh⟩
                    have hb' : Below Y15.heap.size Y15 Y16 := hbh.out
                    have hfar : kb < Y15.heap.size ∨ Y16.heap.size ≤ kb := .inl (StB.lt hA)
                    replace hA := StB.below hA hb'
                    replace hC := Below.trans hC (Below.mono hb' (Below.size hC))
                    obtain ⟨V7, e7⟩ : ∃ V7, V7 = Y16 := ⟨_, rfl⟩
                    have hB7 : Below V7.heap.size V7 Y16 := by rw [e7]; exact Below.refl _ _
                    obtain ⟨B7, eB7⟩ : ∃ B7, B7 = Y15.heap.size := ⟨_, rfl⟩
                    rw [← e7, ← eB7] at HT4
                    rw [← e7, ← eB7] at hfar
                    refine hK _ _ hC ?_
                    clear hK K
                    clear e7 eB7 hS
                    clear hb'
                    refine takeC (i := 8) (v := .tuple #[.slice C4 m cc4, .agg #[.int .i64 0, .int .i64 0], .bool true]) rfl (by kernel_rfl) (by kernel_rfl) (by kernel_rfl) (by kernel_rfl) (fun _ _ _ h => h) hC (.inl ⟨by rfl, fun w hw => by go_simp⟩) ?_
                    refine takeC (i := 9) (v := .slice C4 m cc4) rfl (by kernel_rfl) (by kernel_rfl) (by kernel_rfl) (by kernel_rfl) (fun _ _ _ h => h) hC (.inl ⟨by rfl, fun w hw => by go_simp⟩) ?_
                    refine takeC (i := 10) (v := .agg #[.int .i64 0, .int .i64 0]) rfl (by kernel_rfl) (by kernel_rfl) (by kernel_rfl) (by kernel_rfl) (fun _ _ _ h => h) hC (.inl ⟨by rfl, fun w hw => by go_simp⟩) ?_
                    refine takeC (i := 11) (v := .bool true) rfl (by kernel_rfl) (by kernel_rfl) (by kernel_rfl) (by kernel_rfl) (fun _ _ _ h => h) hC (.inl ⟨by rfl, fun w hw => by go_simp⟩) ?_
                    refine takeC (i := 13) (v := .slice C4 m cc4) rfl (by kernel_rfl) (by kernel_rfl) (by kernel_rfl) (by kernel_rfl) (fun _ _ _ h => h) hC (.inl ⟨by rfl, fun w hw => by go_simp⟩) ?_
                    refine onlyC (i := 14) (by kernel_rfl) rfl (by kernel_rfl) (fun K hK => ?_)
                    have c0 := StB.cell hA 0
                    have c1 := StB.cell hA 1
                    have f0 := StB.free hA 0
                    have f1 := StB.free hA 1
                    have c2 := StB.lt hA
                    go_simp
                    obtain ⟨Z, eZ⟩ : ∃ Z, Z = (Y16.setCell ⟨kb, 0, none⟩ (.int .i64 0)).setCell ⟨kb, 1, none⟩ (.int .i64 0) := ⟨_, rfl⟩
                    have hTz : Touch Y16 Z (fun k => k = kb) := by rw [eZ]; exact ((Touch.refl _ (fun k => k = kb)).then_set (.inl rfl) _).then_set (.inl rfl) _
                    have hAz : StB Z kb 34 #[.int .i64 0, .int .i64 0] := by rw [eZ]; exact (StB.set_ hA 0 (.int .i64 0)).set_ 1 (.int .i64 0)
                    have hCz : Below W3.heap.size W3 Z := by rw [eZ]; exact (Below.setCell hC (p := ⟨kb, 0, none⟩) hkU _).setCell (p := ⟨kb, 1, none⟩) hkU _
                    have hT7 : Touch V7 Z (fun k => k = kb) := (Touch.of_below hB7 _).trans (Sub.refl _ _) hTz
                    have hTab := HT4.out.far hfar hT7
                    rw [← eZ]
                    refine hK _ _ hCz ?_
                    clear hK K eZ c0 c1 c2 f0 f1 hTz
                    refine onlyC (i := 15) (by kernel_rfl) rfl (by kernel_rfl) (fun K hK => ?_)
                    go_simp
                    refine hK _ _ hCz ?_
                    clear hK K
                    refine doneC (by kernel_rfl) ?_
                    go_simp
                    go_wp2_with fail
                    go_meet
                    exact ⟨kb, C4, cc4, V4, rfl, rfl, rfl, Lib.hid hAz, Lib.hid hTab, Lib.hid hCz⟩
                · skip
                  go_simp
                  obtain ⟨Y17, eV⟩ : ∃ Y17, Y17 = Y11.alloc (.cells #[.int .i64 0, .int .i64 0] 34) := ⟨_, rfl⟩
                  obtain ⟨kb, ek⟩ : ∃ kb, Y11.heap.size = kb := ⟨_, rfl⟩
                  have hb' : Below Y11.heap.size Y11 Y17 := by rw [eV]; exact up_alloc (Below.refl _ _) _
                  have hA : StB Y17 kb 34 #[.int .i64 0, .int .i64 0] := by rw [eV]; exact StB.made _ ek.symm _ _
                  have hkU : W3.heap.size ≤ kb := by rw [← ek]; exact Below.size hC
                  rw [← eV, ek]
                  replace hS := SlIn.below hS hb'
                  replace hC := Below.trans hC (Below.mono hb' (Below.size hC))
                  refine hK _ _ hC ?_
                  clear hK K
                  clear eV
                  clear ek
                  clear hb'
                  refine onlyC (i := 5) (by kernel_rfl) rfl (by kernel_rfl) (fun K hK => ?_)
                  go_simp
                  refine callsIn_wide.2 ((htext Y17 hC).mono ?_)
                  rintro x Y18 ⟨rfl, hb'⟩
                  replace hS := SlIn.below hS hb'
                  replace hA := StB.below hA hb'
                  replace hC := Below.trans hC (Below.mono hb' (Below.size hC))
                  refine hK _ _ hC ?_
                  clear hK K
                  clear hb'
                  refine onlyC (i := 7) (by kernel_rfl) rfl (by kernel_rfl) (fun K hK => ?_)
                  go_simp
                  refine callsIn_wide.2 ((hfed2 Y18 (Lib.hid hS)).mono ?_)
                  rintro x Y19 ⟨C4, cc4, V4, rfl, HT4, hbh⟩
                  have hb' : Below Y18.heap.size Y18 Y19 := hbh.out
                  have hfar : kb < Y18.heap.size ∨ Y19.heap.size ≤ kb := .inl (StB.lt hA)
                  replace hA := StB.below hA hb'
                  replace hC := Below.trans hC (Below.mono hb' (Below.size hC))
                  obtain ⟨V7, e7⟩ : ∃ V7, V7 = Y19 := ⟨_, rfl⟩
                  have hB7 : Below V7.heap.size V7 Y19 := by rw [e7]; exact Below.refl _ _
                  obtain ⟨B7, eB7⟩ : ∃ B7, B7 = Y18.heap.size := ⟨_, rfl⟩
                  rw [← e7, ← eB7] at HT4
                  rw [← e7, ← eB7] at hfar
                  refine hK _ _ hC ?_
                  clear hK K
                  clear e7 eB7 hS
                  clear hb'
                  refine takeC (i := 8) (v := .tuple #[.slice C4 m cc4, .agg #[.int .i64 0, .int .i64 0], .bool true]) rfl (by kernel_rfl) (by kernel_rfl) (by kernel_rfl) (by kernel_rfl) (fun _ _ _ h => h) hC (.inl ⟨by rfl, fun w hw => by go_simp⟩) ?_
                  refine takeC (i := 9) (v := .slice C4 m cc4) rfl (by kernel_rfl) (by kernel_rfl) (by kernel_rfl) (by kernel_rfl) (fun _ _ _ h => h) hC (.inl ⟨by rfl, fun w hw => by go_simp⟩) ?_
                  refine takeC (i := 10) (v := .agg #[.int .i64 0, .int .i64 0]) rfl (by kernel_rfl) (by kernel_rfl) (by kernel_rfl) (by kernel_rfl) (fun _ _ _ h => h) hC (.inl ⟨by rfl, fun w hw => by go_simp⟩) ?_
                  refine takeC (i := 11) (v := .bool true) rfl (by kernel_rfl) (by kernel_rfl) (by kernel_rfl) (by kernel_rfl) (fun _ _ _ h => h) hC (.inl ⟨by rfl, fun w hw => by go_simp⟩) ?_
                  refine takeC (i := 13) (v := .slice C4 m cc4) rfl (by kernel_rfl) (by kernel_rfl) (by kernel_rfl) (by kernel_rfl) (fun _ _ _ h => h) hC (.inl ⟨by rfl, fun w hw => by go_simp⟩) ?_
                  refine onlyC (i := 14) (by kernel_rfl) rfl (by kernel_rfl) (fun K hK => ?_)
                  have c0 := StB.cell hA 0
                  have c1 := StB.cell hA 1
                  have f0 := StB.free hA 0
                  have f1 := StB.free hA 1
                  have c2 := StB.lt hA
                  go_simp
                  obtain ⟨Z, eZ⟩ : ∃ Z, Z = (Y19.setCell ⟨kb, 0, none⟩ (.int .i64 0)).setCell ⟨kb, 1, none⟩ (.int .i64 0) := ⟨_, rfl⟩
                  have hTz : Touch Y19 Z (fun k => k = kb) := by rw [eZ]; exact ((Touch.refl _ (fun k => k = kb)).then_set (.inl rfl) _).then_set (.inl rfl) _
                  have hAz : StB Z kb 34 #[.int .i64 0, .int .i64 0] := by rw [eZ]; exact (StB.set_ hA 0 (.int .i64 0)).set_ 1 (.int .i64 0)
                  have hCz : Below W3.heap.size W3 Z := by rw [eZ]; exact (Below.setCell hC (p := ⟨kb, 0, none⟩) hkU _).setCell (p := ⟨kb, 1, none⟩) hkU _
                  have hT7 : Touch V7 Z (fun k => k = kb) := (Touch.of_below hB7 _).trans (Sub.refl _ _) hTz
                  have hTab := HT4.out.far hfar hT7
                  rw [← eZ]
                  refine hK _ _ hCz ?_
                  clear hK K eZ c0 c1 c2 f0 f1 hTz
                  refine onlyC (i := 15) (by kernel_rfl) rfl (by kernel_rfl) (fun K hK => ?_)
                  go_simp
                  refine hK _ _ hCz ?_
                  clear hK K
                  refine doneC (by kernel_rfl) ?_
                  go_simp
                  go_wp2_with fail
                  go_meet
                  exact ⟨kb, C4, cc4, V4, rfl, rfl, rfl, Lib.hid hAz, Lib.hid hTab, Lib.hid hCz⟩
              · skip
                go_simp
                obtain ⟨Y20, eV⟩ : ∃ Y20, Y20 = Y1.alloc (.cells #[.int .i64 0, .int .i64 0] 34) := ⟨_, rfl⟩
                obtain ⟨kb, ek⟩ : ∃ kb, Y1.heap.size = kb := ⟨_, rfl⟩
                have hb' : Below Y1.heap.size Y1 Y20 := by rw [eV]; exact up_alloc (Below.refl _ _) _
                have hA : StB Y20 kb 34 #[.int .i64 0, .int .i64 0] := by rw [eV]; exact StB.made _ ek.symm _ _
                have hkU : W3.heap.size ≤ kb := by rw [← ek]; exact Below.size hC
                rw [← eV, ek]
                replace hC := Below.trans hC (Below.mono hb' (Below.size hC))
                refine hK _ _ hC ?_
                clear hK K
                clear eV
                clear ek
                clear hb'
                refine twoC (i := 5) (j := 6) (by kernel_rfl) rfl rfl (by kernel_rfl) (fun K hK => ?_) (fun K hK => ?_)
                · skip
                  go_simp
                  refine callsIn_wide.2 ((htext Y20 hC).mono ?_)
                  rintro x Y21 ⟨rfl, hb'⟩
                  replace hA := StB.below hA hb'
                  replace hC := Below.trans hC (Below.mono hb' (Below.size hC))
                  refine hK _ _ hC ?_
                  clear hK K
                  clear hb'
                  refine onlyC (i := 6) (by kernel_rfl) rfl (by kernel_rfl) (fun K hK => ?_)
                  go_simp
                  obtain ⟨Y22, eV⟩ : ∃ Y22, Y22 = Y21.alloc (.cells #[.int .i64 1, .int .i64 5] 3) := ⟨_, rfl⟩
                  obtain ⟨sb, eb⟩ : ∃ sb, Y21.heap.size = sb := ⟨_, rfl⟩
                  have hb' : Below Y21.heap.size Y21 Y22 := by rw [eV]; exact up_alloc (Below.refl _ _) _
                  have hS : SlIn Y22 (some ⟨sb, 0, none⟩) 2 ([1, 5].map (Value.int .i64)) := by rw [eV, ← eb]; exact slIn_new2 _ _ _ _
                  rw [← eV, eb]
                  replace hA := StB.below hA hb'
                  replace hC := Below.trans hC (Below.mono hb' (Below.size hC))
                  refine hK _ _ hC ?_
                  clear hK K
                  clear eV
                  clear eb
                  clear hb'
                  refine onlyC (i := 7) (by kernel_rfl) rfl (by kernel_rfl) (fun K hK => ?_)
                  go_simp
                  refine callsIn_wide.2 ((hfed2 Y22 (Lib.hid hS)).mono ?_)
                  rintro x Y23 ⟨C4, cc4, V4, rfl, HT4, hbh⟩
                  have hb' : Below Y22.heap.size Y22 Y23 := hbh.out
                  have hfar : kb < Y22.heap.size ∨ Y23.heap.size ≤ kb := .inl (StB.lt hA)
                  replace hA := StB.below hA hb'
                  replace hC := Below.trans hC (Below.mono hb' (Below.size hC))
                  obtain ⟨V7, e7⟩ : ∃ V7, V7 = Y23 := ⟨_, rfl⟩
                  have hB7 : Below V7.heap.size V7 Y23 := by rw [e7]; exact Below.refl _ _
                  obtain ⟨B7, eB7⟩ : ∃ B7, B7 = Y22.heap.size := ⟨_, rfl⟩
                  rw [← e7, ← eB7] at HT4
                  rw [← e7, ← eB7] at hfar
                  refine hK _ _ hC ?_
                  clear hK K
                  clear e7 eB7 hS
                  clear hb'
                  refine takeC (i := 8) (v := .tuple #[.slice C4 m cc4, .agg #[.int .i64 0, .int .i64 0], .bool true]) rfl (by kernel_rfl) (by kernel_rfl) (by kernel_rfl) (by kernel_rfl) (fun _ _ _ h => h) hC (.inl ⟨by rfl, fun w hw => by go_simp⟩) ?_
                  refine takeC (i := 9) (v := .slice C4 m cc4) rfl (by kernel_rfl) (by kernel_rfl) (by kernel_rfl) (by kernel_rfl) (fun _ _ _ h => h) hC (.inl ⟨by rfl, fun w hw => by go_simp⟩) ?_
                  refine takeC (i := 10) (v := .agg #[.int .i64 0, .int .i64 0]) rfl (by kernel_rfl) (by kernel_rfl) (by kernel_rfl) (by kernel_rfl) (fun _ _ _ h => h) hC (.inl ⟨by rfl, fun w hw => by go_simp⟩) ?_
                  refine takeC (i := 11) (v := .bool true) rfl (by kernel_rfl) (by kernel_rfl) (by kernel_rfl) (by kernel_rfl) (fun _ _ _ h => h) hC (.inl ⟨by rfl, fun w hw => by go_simp⟩) ?_
                  refine takeC (i := 13) (v := .slice C4 m cc4) rfl (by kernel_rfl) (by kernel_rfl) (by kernel_rfl) (by kernel_rfl) (fun _ _ _ h => h) hC (.inl ⟨by rfl, fun w hw => by go_simp⟩) ?_
                  refine onlyC (i := 14) (by kernel_rfl) rfl (by kernel_rfl) (fun K hK => ?_)
                  have c0 := StB.cell hA 0
                  have c1 := StB.cell hA 1
                  have f0 := StB.free hA 0
                  have f1 := StB.free hA 1
                  have c2 := StB.lt hA
                  go_simp
                  obtain ⟨Z, eZ⟩ : ∃ Z, Z = (Y23.setCell ⟨kb, 0, none⟩ (.int .i64 0)).setCell ⟨kb, 1, none⟩ (.int .i64 0) := ⟨_, rfl⟩
                  have hTz : Touch Y23 Z (fun k => k = kb) := by rw [eZ]; exact ((Touch.refl _ (fun k => k = kb)).then_set (.inl rfl) _).then_set (.inl rfl) _
                  have hAz : StB Z kb 34 #[.int .i64 0, .int .i64 0] := by rw [eZ]; exact (StB.set_ hA 0 (.int .i64 0)).set_ 1 (.int .i64 0)
                  have hCz : Below W3.heap.size W3 Z := by rw [eZ]; exact (Below.setCell hC (p := ⟨kb, 0, none⟩) hkU _).setCell (p := ⟨kb, 1, none⟩) hkU _
                  have hT7 : Touch V7 Z (fun k => k = kb) := (Touch.of_below hB7 _).trans (Sub.refl _ _) hTz
                  have hTab := HT4.out.far hfar hT7
                  rw [← eZ]
                  refine hK _ _ hCz ?_
                  clear hK K eZ c0 c1 c2 f0 f1 hTz
                  refine onlyC (i := 15) (by kernel_rfl) rfl (by kernel_rfl) (fun K hK => ?_)
                  go_simp
                  refine hK _ _ hCz ?_
                  clear hK K
                  refine doneC (by kernel_rfl) ?_
                  go_simp
                  go_wp2_with fail
                  go_meet
                  exact ⟨kb, C4, cc4, V4, rfl, rfl, rfl, Lib.hid hAz, Lib.hid hTab, Lib.hid hCz⟩
                · skip
                  go_simp
                  obtain ⟨Y24, eV⟩ : ∃ Y24, Y24 = Y20.alloc (.cells #[.int .i64 1, .int .i64 5] 3) := ⟨_, rfl⟩
                  obtain ⟨sb, eb⟩ : ∃ sb, Y20.heap.size = sb := ⟨_, rfl⟩
                  have hb' : Below Y20.heap.size Y20 Y24 := by rw [eV]; exact up_alloc (Below.refl _ _) _
                  have hS : SlIn Y24 (some ⟨sb, 0, none⟩) 2 ([1, 5].map (Value.int .i64)) := by rw [eV, ← eb]; exact slIn_new2 _ _ _ _
                  rw [← eV, eb]
                  replace hA := StB.below hA hb'
                  replace hC := Below.trans hC (Below.mono hb' (Below.size hC))
                  refine hK _ _ hC ?_
                  clear hK K
                  clear eV
                  clear eb
                  clear hb'
                  refine onlyC (i := 5) (by kernel_rfl) rfl (by kernel_rfl) (fun K hK => ?_)
                  go_simp
                  refine callsIn_wide.2 ((htext Y24 hC).mono ?_)
                  rintro x Y25 ⟨rfl, hb'⟩
                  replace hS := SlIn.below hS hb'
                  replace hA := StB.below hA hb'
                  replace hC := Below.trans hC (Below.mono hb' (Below.size hC))
                  refine hK _ _ hC ?_
                  clear hK K
                  clear hb'
                  refine onlyC (i := 7) (by kernel_rfl) rfl (by kernel_rfl) (fun K hK => ?_)
                  go_simp
                  refine callsIn_wide.2 ((hfed2 Y25 (Lib.hid hS)).mono ?_)
                  rintro x Y26 ⟨C4, cc4, V4, rfl, HT4, hbh⟩
                  have hb' : Below Y25.heap.size Y25 Y26 := hbh.out
                  have hfar : kb < Y25.heap.size ∨ Y26.heap.size ≤ kb := .inl (StB.lt hA)
                  replace hA := StB.below hA hb'
                  replace hC := Below.trans hC (Below.mono hb' (Below.size hC))
                  obtain ⟨V7, e7⟩ : ∃ V7, V7 = Y26 := ⟨_, rfl⟩
                  have hB7 : Below V7.heap.size V7 Y26 := by rw [e7]; exact Below.refl _ _
                  obtain ⟨B7, eB7⟩ : ∃ B7, B7 = Y25.heap.size := ⟨_, rfl⟩
                  rw [← e7, ← eB7] at HT4
                  rw [← e7, ← eB7] at hfar
                  refine hK _ _ hC ?_
                  clear hK K
                  clear e7 eB7 hS
                  clear hb'
                  refine takeC (i := 8) (v := .tuple #[.slice C4 m cc4, .agg #[.int .i64 0, .int .i64 0], .bool true]) rfl (by kernel_rfl) (by kernel_rfl) (by kernel_rfl) (by kernel_rfl) (fun _ _ _ h => h) hC (.inl ⟨by rfl, fun w hw => by go_simp⟩) ?_
                  refine takeC (i := 9) (v := .slice C4 m cc4) rfl (by kernel_rfl) (by kernel_rfl) (by kernel_rfl) (by kernel_rfl) (fun _ _ _ h => h) hC (.inl ⟨by rfl, fun w hw => by go_simp⟩) ?_
                  refine takeC (i := 10) (v := .agg #[.int .i64 0, .int .i64 0]) rfl (by kernel_rfl) (by kernel_rfl) (by kernel_rfl) (by kernel_rfl) (fun _ _ _ h => h) hC (.inl ⟨by rfl, fun w hw => by go_simp⟩) ?_
                  refine takeC (i := 11) (v := .bool true) rfl (by kernel_rfl) (by kernel_rfl) (by kernel_rfl) (by kernel_rfl) (fun _ _ _ h => h) hC (.inl ⟨by rfl, fun w hw => by go_simp⟩) ?_
                  refine takeC (i := 13) (v := .slice C4 m cc4) rfl (by kernel_rfl) (by kernel_rfl) (by kernel_rfl) (by kernel_rfl) (fun _ _ _ h => h) hC (.inl ⟨by rfl, fun w hw => by go_simp⟩) ?_
                  refine onlyC (i := 14) (by kernel_rfl) rfl (by kernel_rfl) (fun K hK => ?_)
                  have c0 := StB.cell hA 0
                  have c1 := StB.cell hA 1
                  have f0 := StB.free hA 0
                  have f1 := StB.free hA 1
                  have c2 := StB.lt hA
                  go_simp
                  obtain ⟨Z, eZ⟩ : ∃ Z, Z = (Y26.setCell ⟨kb, 0, none⟩ (.int .i64 0)).setCell ⟨kb, 1, none⟩ (.int .i64 0) := ⟨_, rfl⟩
                  have hTz : Touch Y26 Z (fun k => k = kb) := by rw [eZ]; exact ((Touch.refl _ (fun k => k = kb)).then_set (.inl rfl) _).then_set (.inl rfl) _
                  have hAz : StB Z kb 34 #[.int .i64 0, .int .i64 0] := by rw [eZ]; exact (StB.set_ hA 0 (.int .i64 0)).set_ 1 (.int .i64 0)
                  have hCz : Below W3.heap.size W3 Z := by rw [eZ]; exact (Below.setCell hC (p := ⟨kb, 0, none⟩) hkU _).setCell (p := ⟨kb, 1, none⟩) hkU _
                  have hT7 : Touch V7 Z (fun k => k = kb) := (Touch.of_below hB7 _).trans (Sub.refl _ _) hTz
                  have hTab := HT4.out.far hfar hT7
                  rw [← eZ]
                  refine hK _ _ hCz ?_
                  clear hK K eZ c0 c1 c2 f0 f1 hTz
                  refine onlyC (i := 15) (by kernel_rfl) rfl (by kernel_rfl) (fun K hK => ?_)
                  go_simp
                  refine hK _ _ hCz ?_
                  clear hK K
                  refine doneC (by kernel_rfl) ?_
                  go_simp
                  go_wp2_with fail
                  go_meet
                  exact ⟨kb, C4, cc4, V4, rfl, rfl, rfl, Lib.hid hAz, Lib.hid hTab, Lib.hid hCz⟩
            · skip
              go_simp
              obtain ⟨Y27, eV⟩ : ∃ Y27, Y27 = Y0.alloc (.cells #[.int .i64 1, .int .i64 5] 3) := ⟨_, rfl⟩
              obtain ⟨sb, eb⟩ : ∃ sb, Y0.heap.size = sb := ⟨_, rfl⟩
              have hb' : Below Y0.heap.size Y0 Y27 := by rw [eV]; exact up_alloc (Below.refl _ _) _
              have hS : SlIn Y27 (some ⟨sb, 0, none⟩) 2 ([1, 5].map (Value.int .i64)) := by rw [eV, ← eb]; exact slIn_new2 _ _ _ _
              rw [← eV, eb]
              replace hC := Below.trans hC (Below.mono hb' (Below.size hC))
              refine hK _ _ hC ?_
              clear hK K
              clear eV
              clear eb
              clear hb'
              refine twoC (i := 3) (j := 12) (by kernel_rfl) rfl rfl (by kernel_rfl) (fun K hK => ?_) (fun K hK => ?_)
              · skip
                go_simp
                refine callsIn_wide.2 ((ref_any d' q' e' d0' d1' q0' q1' Y27).mono ?_)
                rintro x Y28 ⟨rfl, hb'⟩
                replace hS := SlIn.below hS hb'
                replace hC := Below.trans hC (Below.mono hb' (Below.size hC))
                refine hK _ _ hC ?_
                clear hK K
                clear hb'
                refine twoC (i := 5) (j := 12) (by kernel_rfl) rfl rfl (by kernel_rfl) (fun K hK => ?_) (fun K hK => ?_)
                · skip
                  go_simp
                  refine callsIn_wide.2 ((htext Y28 hC).mono ?_)
                  rintro x Y29 ⟨rfl, hb'⟩
                  replace hS := SlIn.below hS hb'
                  replace hC := Below.trans hC (Below.mono hb' (Below.size hC))
                  refine hK _ _ hC ?_
                  clear hK K
                  clear hb'
                  refine twoC (i := 7) (j := 12) (by kernel_rfl) rfl rfl (by kernel_rfl) (fun K hK => ?_) (fun K hK => ?_)
                  · skip
                    go_simp
                    refine callsIn_wide.2 ((hfed2 Y29 (Lib.hid hS)).mono ?_)
                    rintro x Y30 ⟨C4, cc4, V4, rfl, HT4, hbh⟩
                    have hb' : Below Y29.heap.size Y29 Y30 := hbh.out
                    replace hC := Below.trans hC (Below.mono hb' (Below.size hC))
                    obtain ⟨V7, e7⟩ : ∃ V7, V7 = Y30 := ⟨_, rfl⟩
                    have hB7 : Below V7.heap.size V7 Y30 := by rw [e7]; exact Below.refl _ _
                    obtain ⟨B7, eB7⟩ : ∃ B7, B7 = Y29.heap.size := ⟨_, rfl⟩
                    rw [← e7, ← eB7] at HT4
                    refine hK _ _ hC ?_
                    clear hK K
                    clear e7 eB7 hS
                    clear hb'
                    refine takeC (i := 8) (v := .tuple #[.slice C4 m cc4, .agg #[.int .i64 0, .int .i64 0], .bool true]) rfl (by kernel_rfl) (by kernel_rfl) (by kernel_rfl) (by kernel_rfl) (fun _ _ _ h => h) hC (.inl ⟨by rfl, fun w hw => by go_simp⟩) ?_
                    refine takeC (i := 9) (v := .slice C4 m cc4) rfl (by kernel_rfl) (by kernel_rfl) (by kernel_rfl) (by kernel_rfl) (fun _ _ _ h => h) hC (.inl ⟨by rfl, fun w hw => by go_simp⟩) ?_
                    refine takeC (i := 10) (v := .agg #[.int .i64 0, .int .i64 0]) rfl (by kernel_rfl) (by kernel_rfl) (by kernel_rfl) (by kernel_rfl) (fun _ _ _ h => h) hC (.inl ⟨by rfl, fun w hw => by go_simp⟩) ?_
                    refine takeC (i := 11) (v := .bool true) rfl (by kernel_rfl) (by kernel_rfl) (by kernel_rfl) (by kernel_rfl) (fun _ _ _ h => h) hC (.inl ⟨by rfl, fun w hw => by go_simp⟩) ?_
                    refine onlyC (i := 12) (by kernel_rfl) rfl (by kernel_rfl) (fun K hK => ?_)
                    go_simp
                    obtain ⟨Y31, eV⟩ : ∃ Y31, Y31 = Y30.alloc (.cells #[.int .i64 0, .int .i64 0] 34) := ⟨_, rfl⟩
                    obtain ⟨kb, ek⟩ : ∃ kb, Y30.heap.size = kb := ⟨_, rfl⟩
                    have hb' : Below Y30.heap.size Y30 Y31 := by rw [eV]; exact up_alloc (Below.refl _ _) _
                    have hA : StB Y31 kb 34 #[.int .i64 0, .int .i64 0] := by rw [eV]; exact StB.made _ ek.symm _ _
                    have hkU : W3.heap.size ≤ kb := by rw [← ek]; exact Below.size hC
                    have hfar : kb < B7 ∨ V7.heap.size ≤ kb := .inr (by rw [← ek]; exact Below.size hB7)
                    rw [← eV, ek]
                    replace hB7 := hB7.trans (Below.mono hb' (Below.size hB7))
                    replace hC := Below.trans hC (Below.mono hb' (Below.size hC))
                    refine hK _ _ hC ?_
                    clear hK K
                    clear eV
                    clear ek
                    clear hb'
                    refine takeC (i := 13) (v := .slice C4 m cc4) rfl (by kernel_rfl) (by kernel_rfl) (by kernel_rfl) (by kernel_rfl) (fun _ _ _ h => h) hC (.inl ⟨by rfl, fun w hw => by go_simp⟩) ?_
                    refine onlyC (i := 14) (by kernel_rfl) rfl (by kernel_rfl) (fun K hK => ?_)
                    have c0 := StB.cell hA 0
                    have c1 := StB.cell hA 1
                    have f0 := StB.free hA 0
                    have f1 := StB.free hA 1
                    have c2 := StB.lt hA
                    go_simp
                    obtain ⟨Z, eZ⟩ : ∃ Z, Z = (Y31.setCell ⟨kb, 0, none⟩ (.int .i64 0)).setCell ⟨kb, 1, none⟩ (.int .i64 0) := ⟨_, rfl⟩
                    have hTz : Touch Y31 Z (fun k => k = kb) := by rw [eZ]; exact ((Touch.refl _ (fun k => k = kb)).then_set (.inl rfl) _).then_set (.inl rfl) _
                    have hAz : StB Z kb 34 #[.int .i64 0, .int .i64 0] := by rw [eZ]; exact (StB.set_ hA 0 (.int .i64 0)).set_ 1 (.int .i64 0)
                    have hCz : Below W3.heap.size W3 Z := by rw [eZ]; exact (Below.setCell hC (p := ⟨kb, 0, none⟩) hkU _).setCell (p := ⟨kb, 1, none⟩) hkU _
                    have hT7 : Touch V7 Z (fun k => k = kb) := (Touch.of_below hB7 _).trans (Sub.refl _ _) hTz
                    have hTab := HT4.out.far hfar hT7
                    rw [← eZ]
                    refine hK _ _ hCz ?_
                    clear hK K eZ c0 c1 c2 f0 f1 hTz
                    refine onlyC (i := 15) (by kernel_rfl) rfl (by kernel_rfl) (fun K hK => ?_)
                    go_simp
                    refine hK _ _ hCz ?_
                    clear hK K
                    refine doneC (by kernel_rfl) ?_
                    go_simp
                    go_wp2_with fail
                    go_meet
                    exact ⟨kb, C4, cc4, V4, rfl, rfl, rfl, Lib.hid hAz, Lib.hid hTab, Lib.hid hCz⟩
                  · skip
                    go_simp
                    obtain ⟨Y32, eV⟩ : ∃ Y32, Y32 = Y29.alloc (.cells #[.int .i64 0, .int .i64 0] 34) := ⟨_, rfl⟩
                    obtain ⟨kb, ek⟩ : ∃ kb, Y29.heap.size = kb := ⟨_, rfl⟩
                    have hb' : Below Y29.heap.size Y29 Y32 := by rw [eV]; exact up_alloc (Below.refl _ _) _
                    have hA : StB Y32 kb 34 #[.int .i64 0, .int .i64 0] := by rw [eV]; exact StB.made _ ek.symm _ _
                    have hkU : W3.heap.size ≤ kb := by rw [← ek]; exact Below.size hC
                    rw [← eV, ek]
                    replace hS := SlIn.below hS hb'
                    replace hC := Below.trans hC (Below.mono hb' (Below.size hC))
                    refine hK _ _ hC ?_
                    clear hK K
                    clear eV
                    clear ek
                    clear hb'
                    refine onlyC (i := 7) (by kernel_rfl) rfl (by kernel_rfl) (fun K hK => ?_)
                    go_simp
                    refine callsIn_wide.2 ((hfed2 Y32 (Lib.hid hS)).mono ?_)
                    rintro x Y33 ⟨C4, cc4, V4, rfl, HT4, hbh⟩
                    have hb' : Below Y32.heap.size Y32 Y33 := hbh.out
                    have hfar : kb < Y32.heap.size ∨ Y33.heap.size ≤ kb := .inl (StB.lt hA)
                    replace hA := StB.below hA hb'
                    replace hC := Below.trans hC (Below.mono hb' (Below.size hC))
                    obtain ⟨V7, e7⟩ : ∃ V7, V7 = Y33 := ⟨_, rfl⟩
                    have hB7 : Below V7.heap.size V7 Y33 := by rw [e7]; exact Below.refl _ _
                    obtain ⟨B7, eB7⟩ : ∃ B7, B7 = Y32.heap.size := ⟨_, rfl⟩
                    rw [← e7, ← eB7] at HT4
                    rw [← e7, ← eB7] at hfar
                    refine hK _ _ hC ?_
                    clear hK K
                    clear e7 eB7 hS
                    clear hb'
                    refine takeC (i := 8) (v := .tuple #[.slice C4 m cc4, .agg #[.int .i64 0, .int .i64 0], .bool true]) rfl (by kernel_rfl) (by kernel_rfl) (by kernel_rfl) (by kernel_rfl) (fun _ _ _ h => h) hC (.inl ⟨by rfl, fun w hw => by go_simp⟩) ?_
                    refine takeC (i := 9) (v := .slice C4 m cc4) rfl (by kernel_rfl) (by kernel_rfl) (by kernel_rfl) (by kernel_rfl) (fun _ _ _ h => h) hC (.inl ⟨by rfl, fun w hw => by go_simp⟩) ?_
                    refine takeC (i := 10) (v := .agg #[.int .i64 0, .int .i64 0]) rfl (by kernel_rfl) (by kernel_rfl) (by kernel_rfl) (by kernel_rfl) (fun _ _ _ h => h) hC (.inl ⟨by rfl, fun w hw => by go_simp⟩) ?_
                    refine takeC (i := 11) (v := .bool true) rfl (by kernel_rfl) (by kernel_rfl) (by kernel_rfl) (by kernel_rfl) (fun _ _ _ h => h) hC (.inl ⟨by rfl, fun w hw => by go_simp⟩) ?_
                    refine takeC (i := 13) (v := .slice C4 m cc4) rfl (by kernel_rfl) (by kernel_rfl) (by kernel_rfl) (by kernel_rfl) (fun _ _ _ h => h) hC (.inl ⟨by rfl, fun w hw => by go_simp⟩) ?_
                    refine onlyC (i := 14) (by kernel_rfl) rfl (by kernel_rfl) (fun K hK => ?_)
                    have c0 := StB.cell hA 0
                    have c1 := StB.cell hA 1
                    have f0 := StB.free hA 0
                    have f1 := StB.free hA 1
                    have c2 := StB.lt hA
                    go_simp
                    obtain ⟨Z, eZ⟩ : ∃ Z, Z = (Y33.setCell ⟨kb, 0, none⟩ (.int .i64 0)).setCell ⟨kb, 1, none⟩ (.int .i64 0) := ⟨_, rfl⟩
                    have hTz : Touch Y33 Z (fun k => k = kb) := by rw [eZ]; exact ((Touch.refl _ (fun k => k = kb)).then_set (.inl rfl) _).then_set (.inl rfl) _
                    have hAz : StB Z kb 34 #[.int .i64 0, .int .i64 0] := by rw [eZ]; exact (StB.set_ hA 0 (.int .i64 0)).set_ 1 (.int .i64 0)
                    have hCz : Below W3.heap.size W3 Z := by rw [eZ]; exact (Below.setCell hC (p := ⟨kb, 0, none⟩) hkU _).setCell (p := ⟨kb, 1, none⟩) hkU _
                    have hT7 : Touch V7 Z (fun k => k = kb) := (Touch.of_below hB7 _).trans (Sub.refl _ _) hTz
                    have hTab := HT4.out.far hfar hT7
                    rw [← eZ]
                    refine hK _ _ hCz ?_
                    clear hK K eZ c0 c1 c2 f0 f1 hTz
                    refine onlyC (i := 15) (by kernel_rfl) rfl (by kernel_rfl) (fun K hK => ?_)
                    go_simp
                    refine hK _ _ hCz ?_
                    clear hK K
                    refine doneC (by kernel_rfl) ?_
                    go_simp
                    go_wp2_with fail
                    go_meet
                    exact ⟨kb, C4, cc4, V4, rfl, rfl, rfl, Lib.hid hAz, Lib.hid hTab, Lib.hid hCz⟩
                · skip
                  go_simp
                  obtain ⟨Y34, eV⟩ : ∃ Y34, Y34 = Y28.alloc (.cells #[.int .i64 0, .int .i64 0] 34) := ⟨_, rfl⟩
                  obtain ⟨kb, ek⟩ : ∃ kb, Y28.heap.size = kb := ⟨_, rfl⟩
                  have hb' : Below Y28.heap.size Y28 Y34 := by rw [eV]; exact up_alloc (Below.refl _ _) _
                  have hA : StB Y34 kb 34 #[.int .i64 0, .int .i64 0] := by rw [eV]; exact StB.made _ ek.symm _ _
                  have hkU : W3.heap.size ≤ kb := by rw [← ek]; exact Below.size hC
                  rw [← eV, ek]
                  replace hS := SlIn.below hS hb'
                  replace hC := Below.trans hC (Below.mono hb' (Below.size hC))
                  refine hK _ _ hC ?_
                  clear hK K
                  clear eV
                  clear ek
                  clear hb'
                  refine onlyC (i := 5) (by kernel_rfl) rfl (by kernel_rfl) (fun K hK => ?_)
                  go_simp
                  refine callsIn_wide.2 ((htext Y34 hC).mono ?_)
                  rintro x Y35 ⟨rfl, hb'⟩
                  replace hS := SlIn.below hS hb'
                  replace hA := StB.below hA hb'
                  replace hC := Below.trans hC (Below.mono hb' (Below.size hC))
                  refine hK _ _ hC ?_
                  clear hK K
                  clear hb'
                  refine onlyC (i := 7) (by kernel_rfl) rfl (by kernel_rfl) (fun K hK => ?_)
                  go_simp
                  refine callsIn_wide.2 ((hfed2 Y35 (Lib.hid hS)).mono ?_)
                  rintro x Y36 ⟨C4, cc4, V4, rfl, HT4, hbh⟩
                  have hb' : Below Y35.heap.size Y35 Y36 := hbh.out
                  have hfar : kb < Y35.heap.size ∨ Y36.heap.size ≤ kb := .inl (StB.lt hA)
                  replace hA := StB.below hA hb'
                  replace hC := Below.trans hC (Below.mono hb' (Below.size hC))
                  obtain ⟨V7, e7⟩ : ∃ V7, V7 = Y36 := ⟨_, rfl⟩
                  have hB7 : Below V7.heap.size V7 Y36 := by rw [e7]; exact Below.refl _ _
                  obtain ⟨B7, eB7⟩ : ∃ B7, B7 = Y35.heap.size := ⟨_, rfl⟩
                  rw [← e7, ← eB7] at HT4
                  rw [← e7, ← eB7] at hfar
                  refine hK _ _ hC ?_
                  clear hK K
                  clear e7 eB7 hS
                  clear hb'
                  refine takeC (i := 8) (v := .tuple #[.slice C4 m cc4, .agg #[.int .i64 0, .int .i64 0], .bool true]) rfl (by kernel_rfl) (by kernel_rfl) (by kernel_rfl) (by kernel_rfl) (fun _ _ _ h => h) hC (.inl ⟨by rfl, fun w hw => by go_simp⟩) ?_
                  refine takeC (i := 9) (v := .slice C4 m cc4) rfl (by kernel_rfl) (by kernel_rfl) (by kernel_rfl) (by kernel_rfl) (fun _ _ _ h => h) hC (.inl ⟨by rfl, fun w hw => by go_simp⟩) ?_
                  refine takeC (i := 10) (v := .agg #[.int .i64 0, .int .i64 0]) rfl (by kernel_rfl) (by kernel_rfl) (by kernel_rfl) (by kernel_rfl) (fun _ _ _ h => h) hC (.inl ⟨by rfl, fun w hw => by go_simp⟩) ?_
                  refine takeC (i := 11) (v := .bool true) rfl (by kernel_rfl) (by kernel_rfl) (by kernel_rfl) (by kernel_rfl) (fun _ _ _ h => h) hC (.inl ⟨by rfl, fun w hw => by go_simp⟩) ?_
                  refine takeC (i := 13) (v := .slice C4 m cc4) rfl (by kernel_rfl) (by kernel_rfl) (by kernel_rfl) (by kernel_rfl) (fun _ _ _ h => h) hC (.inl ⟨by rfl, fun w hw => by go_simp⟩) ?_
                  refine onlyC (i := 14) (by kernel_rfl) rfl (by kernel_rfl) (fun K hK => ?_)
                  have c0 := StB.cell hA 0
                  have c1 := StB.cell hA 1
                  have f0 := StB.free hA 0
                  have f1 := StB.free hA 1
                  have c2 := StB.lt hA
                  go_simp
                  obtain ⟨Z, eZ⟩ : ∃ Z, Z = (Y36.setCell ⟨kb, 0, none⟩ (.int .i64 0)).setCell ⟨kb, 1, none⟩ (.int .i64 0) := ⟨_, rfl⟩
                  have hTz : Touch Y36 Z (fun k => k = kb) := by rw [eZ]; exact ((Touch.refl _ (fun k => k = kb)).then_set (.inl rfl) _).then_set (.inl rfl) _
                  have hAz : StB Z kb 34 #[.int .i64 0, .int .i64 0] := by rw [eZ]; exact (StB.set_ hA 0 (.int .i64 0)).set_ 1 (.int .i64 0)
                  have hCz : Below W3.heap.size W3 Z := by rw [eZ]; exact (Below.setCell hC (p := ⟨kb, 0, none⟩) hkU _).setCell (p := ⟨kb, 1, none⟩) hkU _
                  have hT7 : Touch V7 Z (fun k => k = kb) := (Touch.of_below hB7 _).trans (Sub.refl _ _) hTz
                  have hTab := HT4.out.far hfar hT7
                  rw [← eZ]
                  refine hK _ _ hCz ?_
                  clear hK K eZ c0 c1 c2 f0 f1 hTz
                  refine onlyC (i := 15) (by kernel_rfl) rfl (by kernel_rfl) (fun K hK => ?_)
                  go_simp
                  refine hK _ _ hCz ?_
                  clear hK K
                  refine doneC (by kernel_rfl) ?_
                  go_simp
                  go_wp2_with fail
                  go_meet
                  exact ⟨kb, C4, cc4, V4, rfl, rfl, rfl, Lib.hid hAz, Lib.hid hTab, Lib.hid hCz⟩
              · skip
                go_simp
                obtain ⟨Y37, eV⟩ : ∃ Y37, Y37 = Y27.alloc (.cells #[.int .i64 0, .int .i64 0] 34) := ⟨_, rfl⟩
                obtain ⟨kb, ek⟩ : ∃ kb, Y27.heap.size = kb := ⟨_, rfl⟩
                have hb' : Below Y27.heap.size Y27 Y37 := by rw [eV]; exact up_alloc (Below.refl _ _) _
                have hA : StB Y37 kb 34 #[.int .i64 0, .int .i64 0] := by rw [eV]; exact StB.made _ ek.symm _ _
                have hkU : W3.heap.size ≤ kb := by rw [← ek]; exact Below.size hC
                rw [← eV, ek]
                replace hS := SlIn.below hS hb'
                replace hC := Below.trans hC (Below.mono hb' (Below.size hC))
                refine hK _ _ hC ?_
                clear hK K
                clear eV
                clear ek
                clear hb'
                refine onlyC (i := 3) (by kernel_rfl) rfl (by kernel_rfl) (fun K hK => ?_)
                go_simp
                refine callsIn_wide.2 ((ref_any d' q' e' d0' d1' q0' q1' Y37).mono ?_)
                rintro x Y38 ⟨rfl, hb'⟩
                replace hS := SlIn.below hS hb'
                replace hA := StB.below hA hb'
                replace hC := Below.trans hC (Below.mono hb' (Below.size hC))
                refine hK _ _ hC ?_
                clear hK K
                clear hb'
                refine onlyC (i := 5) (by kernel_rfl) rfl (by kernel_rfl) (fun K hK => ?_)
                go_simp
                refine callsIn_wide.2 ((htext Y38 hC).mono ?_)
                rintro x Y39 ⟨rfl, hb'⟩
                replace hS := SlIn.below hS hb'
                replace hA := StB.below hA hb'
                replace hC := Below.trans hC (Below.mono hb' (Below.size hC))
                refine hK _ _ hC ?_
                clear hK K
                clear hb'
                refine onlyC (i := 7) (by kernel_rfl) rfl (by kernel_rfl) (fun K hK => ?_)
                go_simp
                refine callsIn_wide.2 ((hfed2 Y39 (Lib.hid hS)).mono ?_)
                rintro x Y40 ⟨C4, cc4, V4, rfl, HT4, hbh⟩
                have hb' : Below Y39.heap.size Y39 Y40 := hbh.out
                have hfar : kb < Y39.heap.size ∨ Y40.heap.size ≤ kb := .inl (StB.lt hA)
                replace hA := StB.below hA hb'
                replace hC := Below.trans hC (Below.mono hb' (Below.size hC))
                obtain ⟨V7, e7⟩ : ∃ V7, V7 = Y40 := ⟨_, rfl⟩
                have hB7 : Below V7.heap.size V7 Y40 := by rw [e7]; exact Below.refl _ _
                obtain ⟨B7, eB7⟩ : ∃ B7, B7 = Y39.heap.size := ⟨_, rfl⟩
                rw [← e7, ← eB7] at HT4
                rw [← e7, ← eB7] at hfar
                refine hK _ _ hC ?_
                clear hK K
                clear e7 eB7 hS
                clear hb'
                refine takeC (i := 8) (v := .tuple #[.slice C4 m cc4, .agg #[.int .i64 0, .int .i64 0], .bool true]) rfl (by kernel_rfl) (by kernel_rfl) (by kernel_rfl) (by kernel_rfl) (fun _ _ _ h => h) hC (.inl ⟨by rfl, fun w hw => by go_simp⟩) ?_
                refine takeC (i := 9) (v := .slice C4 m cc4) rfl (by kernel_rfl) (by kernel_rfl) (by kernel_rfl) (by kernel_rfl) (fun _ _ _ h => h) hC (.inl ⟨by rfl, fun w hw => by go_simp⟩) ?_
                refine takeC (i := 10) (v := .agg #[.int .i64 0, .int .i64 0]) rfl (by kernel_rfl) (by kernel_rfl) (by kernel_rfl) (by kernel_rfl) (fun _ _ _ h => h) hC (.inl ⟨by rfl, fun w hw => by go_simp⟩) ?_
                refine takeC (i := 11) (v := .bool true) rfl (by kernel_rfl) (by kernel_rfl) (by kernel_rfl) (by kernel_rfl) (fun _ _ _ h => h) hC (.inl ⟨by rfl, fun w hw => by go_simp⟩) ?_
                refine takeC (i := 13) (v := .slice C4 m cc4) rfl (by kernel_rfl) (by kernel_rfl) (by kernel_rfl) (by kernel_rfl) (fun _ _ _ h => h) hC (.inl ⟨by rfl, fun w hw => by go_simp⟩) ?_
                refine onlyC (i := 14) (by kernel_rfl) rfl (by kernel_rfl) (fun K hK => ?_)
                have c0 := StB.cell hA 0
                have c1 := StB.cell hA 1
                have f0 := StB.free hA 0
                have f1 := StB.free hA 1
                have c2 := StB.lt hA
                go_simp
                obtain ⟨Z, eZ⟩ : ∃ Z, Z = (Y40.setCell ⟨kb, 0, none⟩ (.int .i64 0)).setCell ⟨kb, 1, none⟩ (.int .i64 0) := ⟨_, rfl⟩
                have hTz : Touch Y40 Z (fun k => k = kb) := by rw [eZ]; exact ((Touch.refl _ (fun k => k = kb)).then_set (.inl rfl) _).then_set (.inl rfl) _
                have hAz : StB Z kb 34 #[.int .i64 0, .int .i64 0] := by rw [eZ]; exact (StB.set_ hA 0 (.int .i64 0)).set_ 1 (.int .i64 0)
                have hCz : Below W3.heap.size W3 Z := by rw [eZ]; exact (Below.setCell hC (p := ⟨kb, 0, none⟩) hkU _).setCell (p := ⟨kb, 1, none⟩) hkU _
                have hT7 : Touch V7 Z (fun k => k = kb) := (Touch.of_below hB7 _).trans (Sub.refl _ _) hTz
                have hTab := HT4.out.far hfar hT7
                rw [← eZ]
                refine hK _ _ hCz ?_
                clear hK K eZ c0 c1 c2 f0 f1 hTz
                refine onlyC (i := 15) (by kernel_rfl) rfl (by kernel_rfl) (fun K hK => ?_)
                go_simp
                refine hK _ _ hCz ?_
                clear hK K
                refine doneC (by kernel_rfl) ?_
                go_simp
                go_wp2_with fail
                go_meet
                exact ⟨kb, C4, cc4, V4, rfl, rfl, rfl, Lib.hid hAz, Lib.hid hTab, Lib.hid hCz⟩
            · skip
              go_simp
              obtain ⟨Y41, eV⟩ : ∃ Y41, Y41 = Y0.alloc (.cells #[.int .i64 0, .int .i64 0] 34) := ⟨_, rfl⟩
              obtain ⟨kb, ek⟩ : ∃ kb, Y0.heap.size = kb := ⟨_, rfl⟩
              have hb' : Below Y0.heap.size Y0 Y41 := by rw [eV]; exact up_alloc (Below.refl _ _) _
              have hA : StB Y41 kb 34 #[.int .i64 0, .int .i64 0] := by rw [eV]; exact StB.made _ ek.symm _ _
              have hkU : W3.heap.size ≤ kb := by rw [← ek]; exact Below.size hC
              rw [← eV, ek]
              replace hC := Below.trans hC (Below.mono hb' (Below.size hC))
              refine hK _ _ hC ?_
              clear hK K
              clear eV
              clear ek
              clear hb'
              refine twoC (i := 3) (j := 6) (by kernel_rfl) rfl rfl (by kernel_rfl) (fun K hK => ?_) (fun K hK => ?_)
              · skip
                go_simp
                refine callsIn_wide.2 ((ref_any d' q' e' d0' d1' q0' q1' Y41).mono ?_)
                rintro x Y42 ⟨rfl, hb'⟩
                replace hA := StB.below hA hb'
                replace hC := Below.trans hC (Below.mono hb' (Below.size hC))
                refine hK _ _ hC ?_
                clear hK K
                clear hb'
                refine twoC (i := 5) (j := 6) (by kernel_rfl) rfl rfl (by kernel_rfl) (fun K hK => ?_) (fun K hK => ?_)
                · skip
                  go_simp
                  refine callsIn_wide.2 ((htext Y42 hC).mono ?_)
                  rintro x Y43 ⟨rfl, hb'⟩
                  replace hA := StB.below hA hb'
                  replace hC := Below.trans hC (Below.mono hb' (Below.size hC))
                  refine hK _ _ hC ?_
                  clear hK K
                  clear hb'
                  refine onlyC (i := 6) (by kernel_rfl) rfl (by kernel_rfl) (fun K hK => ?_)
                  go_simp
                  obtain ⟨Y44, eV⟩ : ∃ Y44, Y44 = Y43.alloc (.cells #[.int .i64 1, .int .i64 5] 3) := ⟨_, rfl⟩
                  obtain ⟨sb, eb⟩ : ∃ sb, Y43.heap.size = sb := ⟨_, rfl⟩
                  have hb' : Below Y43.heap.size Y43 Y44 := by rw [eV]; exact up_alloc (Below.refl _ _) _
                  have hS : SlIn Y44 (some ⟨sb, 0, none⟩) 2 ([1, 5].map (Value.int .i64)) := by rw [eV, ← eb]; exact slIn_new2 _ _ _ _
                  rw [← eV, eb]
                  replace hA := StB.below hA hb'
                  replace hC := Below.trans hC (Below.mono hb' (Below.size hC))
                  refine hK _ _ hC ?_
                  clear hK K
                  clear eV
                  clear eb
                  clear hb'
                  refine onlyC (i := 7) (by kernel_rfl) rfl (by kernel_rfl) (fun K hK => ?_)
                  go_simp
                  refine callsIn_wide.2 ((hfed2 Y44 (Lib.hid hS)).mono ?_)
                  rintro x Y45 ⟨C4, cc4, V4, rfl, HT4, hbh⟩
                  have hb' : Below Y44.heap.size Y44 Y45 := hbh.out
                  have hfar : kb < Y44.heap.size ∨ Y45.heap.size ≤ kb := .inl (StB.lt hA)
                  replace hA := StB.below hA hb'
                  replace hC := Below.trans hC (Below.mono hb' (Below.size hC))
                  obtain ⟨V7, e7⟩ : ∃ V7, V7 = Y45 := ⟨_, rfl⟩
                  have hB7 : Below V7.heap.size V7 Y45 := by rw [e7]; exact Below.refl _ _
                  obtain ⟨B7, eB7⟩ : ∃ B7, B7 = Y44.heap.size := ⟨_, rfl⟩
                  rw [← e7, ← eB7] at HT4
                  rw [← e7, ← eB7] at hfar
                  refine hK _ _ hC ?_
                  clear hK K
                  clear e7 eB7 hS
                  clear hb'
                  refine takeC (i := 8) (v := .tuple #[.slice C4 m cc4, .agg #[.int .i64 0, .int .i64 0], .bool true]) rfl (by kernel_rfl) (by kernel_rfl) (by kernel_rfl) (by kernel_rfl) (fun _ _ _ h => h) hC (.inl ⟨by rfl, fun w hw => by go_simp⟩) ?_
                  refine takeC (i := 9) (v := .slice C4 m cc4) rfl (by kernel_rfl) (by kernel_rfl) (by kernel_rfl) (by kernel_rfl) (fun _ _ _ h => h) hC (.inl ⟨by rfl, fun w hw => by go_simp⟩) ?_
                  refine takeC (i := 10) (v := .agg #[.int .i64 0, .int .i64 0]) rfl (by kernel_rfl) (by kernel_rfl) (by kernel_rfl) (by kernel_rfl) (fun _ _ _ h => h) hC (.inl ⟨by rfl, fun w hw => by go_simp⟩) ?_
                  refine takeC (i := 11) (v := .bool true) rfl (by kernel_rfl) (by kernel_rfl) (by kernel_rfl) (by kernel_rfl) (fun _ _ _ h => h) hC (.inl ⟨by rfl, fun w hw => by go_simp⟩) ?_
                  refine takeC (i := 13) (v := .slice C4 m cc4) rfl (by kernel_rfl) (by kernel_rfl) (by kernel_rfl) (by kernel_rfl) (fun _ _ _ h => h) hC (.inl ⟨by rfl, fun w hw => by go_simp⟩) ?_
                  refine onlyC (i := 14) (by kernel_rfl) rfl (by kernel_rfl) (fun K hK => ?_)
                  have c0 := StB.cell hA 0
                  have c1 := StB.cell hA 1
                  have f0 := StB.free hA 0
                  have f1 := StB.free hA 1
                  have c2 := StB.lt hA
                  go_simp
                  obtain ⟨Z, eZ⟩ : ∃ Z, Z = (Y45.setCell ⟨kb, 0, none⟩ (.int .i64 0)).setCell ⟨kb, 1, none⟩ (.int .i64 0) := ⟨_, rfl⟩
                  have hTz : Touch Y45 Z (fun k => k = kb) := by rw [eZ]; exact ((Touch.refl _ (fun k => k = kb)).then_set (.inl rfl) _).then_set (.inl rfl) _
                  have hAz : StB Z kb 34 #[.int .i64 0, .int .i64 0] := by rw [eZ]; exact (StB.set_ hA 0 (.int .i64 0)).set_ 1 (.int .i64 0)
                  have hCz : Below W3.heap.size W3 Z := by rw [eZ]; exact (Below.setCell hC (p := ⟨kb, 0, none⟩) hkU _).setCell (p := ⟨kb, 1, none⟩) hkU _
                  have hT7 : Touch V7 Z (fun k => k = kb) := (Touch.of_below hB7 _).trans (Sub.refl _ _) hTz
                  have hTab := HT4.out.far hfar hT7
                  rw [← eZ]
                  refine hK _ _ hCz ?_
                  clear hK K eZ c0 c1 c2 f0 f1 hTz
                  refine onlyC (i := 15) (by kernel_rfl) rfl (by kernel_rfl) (fun K hK => ?_)
                  go_simp
                  refine hK _ _ hCz ?_
                  clear hK K
                  refine doneC (by kernel_rfl) ?_
                  go_simp
                  go_wp2_with fail
                  go_meet
                  exact ⟨kb, C4, cc4, V4, rfl, rfl, rfl, Lib.hid hAz, Lib.hid hTab, Lib.hid hCz⟩
                · skip
                  go_simp
                  obtain ⟨Y46, eV⟩ : ∃ Y46, Y46 = Y42.alloc (.cells #[.int .i64 1, .int .i64 5] 3) := ⟨_, rfl⟩
                  obtain ⟨sb, eb⟩ : ∃ sb, Y42.heap.size = sb := ⟨_, rfl⟩
                  have hb' : Below Y42.heap.size Y42 Y46 := by rw [eV]; exact up_alloc (Below.refl _ _) _
                  have hS : SlIn Y46 (some ⟨sb, 0, none⟩) 2 ([1, 5].map (Value.int .i64)) := by rw [eV, ← eb]; exact slIn_new2 _ _ _ _
                  rw [← eV, eb]
                  replace hA := StB.below hA hb'
                  replace hC := Below.trans hC (Below.mono hb' (Below.size hC))
                  refine hK _ _ hC ?_
                  clear hK K
                  clear eV
                  clear eb
                  clear hb'
                  refine onlyC (i := 5) (by kernel_rfl) rfl (by kernel_rfl) (fun K hK => ?_)
                  go_simp
                  refine callsIn_wide.2 ((htext Y46 hC).mono ?_)
                  rintro x Y47 ⟨rfl, hb'⟩
                  replace hS := SlIn.below hS hb'
                  replace hA := StB.below hA hb'
                  replace hC := Below.trans hC (Below.mono hb' (Below.size hC))
                  refine hK _ _ hC ?_
                  clear hK K
                  clear hb'
                  refine onlyC (i := 7) (by kernel_rfl) rfl (by kernel_rfl) (fun K hK => ?_)
                  go_simp
                  refine callsIn_wide.2 ((hfed2 Y47 (Lib.hid hS)).mono ?_)
                  rintro x Y48 ⟨C4, cc4, V4, rfl, HT4, hbh⟩
                  have hb' : Below Y47.heap.size Y47 Y48 := hbh.out
                  have hfar : kb < Y47.heap.size ∨ Y48.heap.size ≤ kb := .inl (StB.lt hA)
                  replace hA := StB.below hA hb'
                  replace hC := Below.trans hC (Below.mono hb' (Below.size hC))
                  obtain ⟨V7, e7⟩ : ∃ V7, V7 = Y48 := ⟨_, rfl⟩
                  have hB7 : Below V7.heap.size V7 Y48 := by rw [e7]; exact Below.refl _ _
                  obtain ⟨B7, eB7⟩ : ∃ B7, B7 = Y47.heap.size := ⟨_, rfl⟩
                  rw [← e7, ← eB7] at HT4
                  rw [← e7, ← eB7] at hfar
                  refine hK _ _ hC ?_
                  clear hK K
                  clear e7 eB7 hS
                  clear hb'
                  refine takeC (i := 8) (v := .tuple #[.slice C4 m cc4, .agg #[.int .i64 0, .int .i64 0], .bool true]) rfl (by kernel_rfl) (by kernel_rfl) (by kernel_rfl) (by kernel_rfl) (fun _ _ _ h => h) hC (.inl ⟨by rfl, fun w hw => by go_simp⟩) ?_
                  refine takeC (i := 9) (v := .slice C4 m cc4) rfl (by kernel_rfl) (by kernel_rfl) (by kernel_rfl) (by kernel_rfl) (fun _ _ _ h => h) hC (.inl ⟨by rfl, fun w hw => by go_simp⟩) ?_
                  refine takeC (i := 10) (v := .agg #[.int .i64 0, .int .i64 0]) rfl (by kernel_rfl) (by kernel_rfl) (by kernel_rfl) (by kernel_rfl) (fun _ _ _ h => h) hC (.inl ⟨by rfl, fun w hw => by go_simp⟩) ?_
                  refine takeC (i := 11) (v := .bool true) rfl (by kernel_rfl) (by kernel_rfl) (by kernel_rfl) (by kernel_rfl) (fun _ _ _ h => h) hC (.inl ⟨by rfl, fun w hw => by go_simp⟩) ?_
                  refine takeC (i := 13) (v := .slice C4 m cc4) rfl (by kernel_rfl) (by kernel_rfl) (by kernel_rfl) (by kernel_rfl) (fun _ _ _ h => h) hC (.inl ⟨by rfl, fun w hw => by go_simp⟩) ?_
                  refine onlyC (i := 14) (by kernel_rfl) rfl (by kernel_rfl) (fun K hK => ?_)
                  have c0 := StB.cell hA 0
                  have c1 := StB.cell hA 1
                  have f0 := StB.free hA 0
                  have f1 := StB.free hA 1
                  have c2 := StB.lt hA
                  go_simp
                  obtain ⟨Z, eZ⟩ : ∃ Z, Z = (Y48.setCell ⟨kb, 0, none⟩ (.int .i64 0)).setCell ⟨kb, 1, none⟩ (.int .i64 0) := ⟨_, rfl⟩
                  have hTz : Touch Y48 Z (fun k => k = kb) := by rw [eZ]; exact ((Touch.refl _ (fun k => k = kb)).then_set (.inl rfl) _).then_set (.inl rfl) _
                  have hAz : StB Z kb 34 #[.int .i64 0, .int .i64 0] := by rw [eZ]; exact (StB.set_ hA 0 (.int .i64 0)).set_ 1 (.int .i64 0)
                  have hCz : Below W3.heap.size W3 Z := by rw [eZ]; exact (Below.setCell hC (p := ⟨kb, 0, none⟩) hkU _).setCell (p := ⟨kb, 1, none⟩) hkU _
                  have hT7 : Touch V7 Z (fun k => k = kb) := (Touch.of_below hB7 _).trans (Sub.refl _ _) hTz
                  have hTab := HT4.out.far hfar hT7
                  rw [← eZ]
                  refine hK _ _ hCz ?_
                  clear hK K eZ c0 c1 c2 f0 f1 hTz
                  refine onlyC (i := 15) (by kernel_rfl) rfl (by kernel_rfl) (fun K hK => ?_)
                  go_simp
                  refine hK _ _ hCz ?_
                  clear hK K
                  refine doneC (by kernel_rfl) ?_
                  go_simp
                  go_wp2_with fail
                  go_meet
                  exact ⟨kb, C4, cc4, V4, rfl, rfl, rfl, Lib.hid hAz, Lib.hid hTab, Lib.hid hCz⟩
              · skip
                go_simp
                obtain ⟨Y49, eV⟩ : ∃ Y49, Y49 = Y41.alloc (.cells #[.int .i64 1, .int .i64 5] 3) := ⟨_, rfl⟩
                obtain ⟨sb, eb⟩ : ∃ sb, Y41.heap.size = sb := ⟨_, rfl⟩
                have hb' : Below Y41.heap.size Y41 Y49 := by rw [eV]; exact up_alloc (Below.refl _ _) _
                have hS : SlIn Y49 (some ⟨sb, 0, none⟩) 2 ([1, 5].map (Value.int .i64)) := by rw [eV, ← eb]; exact slIn_new2 _ _ _ _
                rw [← eV, eb]
                replace hA := StB.below hA hb'
                replace hC := Below.trans hC (Below.mono hb' (Below.size hC))
                refine hK _ _ hC ?_
                clear hK K
                clear eV
                clear eb
                clear hb'
                refine onlyC (i := 3) (by kernel_rfl) rfl (by kernel_rfl) (fun K hK => ?_)
                go_simp
                refine callsIn_wide.2 ((ref_any d' q' e' d0' d1' q0' q1' Y49).mono ?_)
                rintro x Y50 ⟨rfl, hb'⟩
                replace hS := SlIn.below hS hb'
                replace hA := StB.below hA hb'
                replace hC := Below.trans hC (Below.mono hb' (Below.size hC))
                refine hK _ _ hC ?_
                clear hK K
                clear hb'
                refine onlyC (i := 5) (by kernel_rfl) rfl (by kernel_rfl) (fun K hK => ?_)
                go_simp
                refine callsIn_wide.2 ((htext Y50 hC).mono ?_)
                rintro x Y51 ⟨rfl, hb'⟩
                replace hS := SlIn.below hS hb'
                replace hA := StB.below hA hb'
                replace hC := Below.trans hC (Below.mono hb' (Below.size hC))
                refine hK _ _ hC ?_
                clear hK K
                clear hb'
                refine onlyC (i := 7) (by kernel_rfl) rfl (by kernel_rfl) (fun K hK => ?_)
                go_simp
                refine callsIn_wide.2 ((hfed2 Y51 (Lib.hid hS)).mono ?_)
                rintro x Y52 ⟨C4, cc4, V4, rfl, HT4, hbh⟩
                have hb' : Below Y51.heap.size Y51 Y52 := hbh.out
                have hfar : kb < Y51.heap.size ∨ Y52.heap.size ≤ kb := .inl (StB.lt hA)
                replace hA := StB.below hA hb'
                replace hC := Below.trans hC (Below.mono hb' (Below.size hC))
                obtain ⟨V7, e7⟩ : ∃ V7, V7 = Y52 := ⟨_, rfl⟩
                have hB7 : Below V7.heap.size V7 Y52 := by rw [e7]; exact Below.refl _ _
                obtain ⟨B7, eB7⟩ : ∃ B7, B7 = Y51.heap.size := ⟨_, rfl⟩
                rw [← e7, ← eB7] at HT4
                rw [← e7, ← eB7] at hfar
                refine hK _ _ hC ?_
                clear hK K
                clear e7 eB7 hS
                clear hb'
                refine takeC (i := 8) (v := .tuple #[.slice C4 m cc4, .agg #[.int .i64 0, .int .i64 0], .bool true]) rfl (by kernel_rfl) (by kernel_rfl) (by kernel_rfl) (by kernel_rfl) (fun _ _ _ h => h) hC (.inl ⟨by rfl, fun w hw => by go_simp⟩) ?_
                refine takeC (i := 9) (v := .slice C4 m cc4) rfl (by kernel_rfl) (by kernel_rfl) (by kernel_rfl) (by kernel_rfl) (fun _ _ _ h => h) hC (.inl ⟨by rfl, fun w hw => by go_simp⟩) ?_
                refine takeC (i := 10) (v := .agg #[.int .i64 0, .int .i64 0]) rfl (by kernel_rfl) (by kernel_rfl) (by kernel_rfl) (by kernel_rfl) (fun _ _ _ h => h) hC (.inl ⟨by rfl, fun w hw => by go_simp⟩) ?_
                refine takeC (i := 11) (v := .bool true) rfl (by kernel_rfl) (by kernel_rfl) (by kernel_rfl) (by kernel_rfl) (fun _ _ _ h => h) hC (.inl ⟨by rfl, fun w hw => by go_simp⟩) ?_
                refine takeC (i := 13) (v := .slice C4 m cc4) rfl (by kernel_rfl) (by kernel_rfl) (by kernel_rfl) (by kernel_rfl) (fun _ _ _ h => h) hC (.inl ⟨by rfl, fun w hw => by go_simp⟩) ?_
                refine onlyC (i := 14) (by kernel_rfl) rfl (by kernel_rfl) (fun K hK => ?_)
                have c0 := StB.cell hA 0
                have c1 := StB.cell hA 1
                have f0 := StB.free hA 0
                have f1 := StB.free hA 1
                have c2 := StB.lt hA
                go_simp
                obtain ⟨Z, eZ⟩ : ∃ Z, Z = (Y52.setCell ⟨kb, 0, none⟩ (.int .i64 0)).setCell ⟨kb, 1, none⟩ (.int .i64 0) := ⟨_, rfl⟩
                have hTz : Touch Y52 Z (fun k => k = kb) := by rw [eZ]; exact ((Touch.refl _ (fun k => k = kb)).then_set (.inl rfl) _).then_set (.inl rfl) _
                have hAz : StB Z kb 34 #[.int .i64 0, .int .i64 0] := by rw [eZ]; exact (StB.set_ hA 0 (.int .i64 0)).set_ 1 (.int .i64 0)
                have hCz : Below W3.heap.size W3 Z := by rw [eZ]; exact (Below.setCell hC (p := ⟨kb, 0, none⟩) hkU _).setCell (p := ⟨kb, 1, none⟩) hkU _
                have hT7 : Touch V7 Z (fun k => k = kb) := (Touch.of_below hB7 _).trans (Sub.refl _ _) hTz
                have hTab := HT4.out.far hfar hT7
                rw [← eZ]
                refine hK _ _ hCz ?_
                clear hK K eZ c0 c1 c2 f0 f1 hTz
                refine onlyC (i := 15) (by kernel_rfl) rfl (by kernel_rfl) (fun K hK => ?_)
                go_simp
                refine hK _ _ hCz ?_
                clear hK K
                refine doneC (by kernel_rfl) ?_
                go_simp
                go_wp2_with fail
                go_meet
                exact ⟨kb, C4, cc4, V4, rfl, rfl, rfl, Lib.hid hAz, Lib.hid hTab, Lib.hid hCz⟩
-- END GEN
          case rest =>
            obtain ⟨kb, C4, cc4, V4, rfl, rfl, rfl, HA4, HT4, HB4⟩ := hcut
            obtain ⟨W4, hW4⟩ : ∃ W4, W4 = wc := ⟨_, rfl⟩
            subst hW4
            obtain ⟨b0, b1, b2⟩ := deal2 HA4.out
            have hsame := sameTab_any C C4 m m cc cc4 V_ V4 rs rs W4 (Lib.hid (HT3.out.below HB4.out)) HT4 (by omega) HWD true (Lib.hid (by simp))
            have hfe := flt_eq 0 0 0 0
            rw [show (((0 : Int) == 0) && ((0 : Int) == 0)) = true from rfl] at hfe
            have HBE := Lib.hid (HB3.out.trans (HB4.out.mono HB3.out.size))
            go_wp2_with (first
              | (go_at_call 13; with_reducible refine (above hsame).mono ?_; rintro x _ ⟨rfl, y4, rfl⟩)
              | (go_at_call 8; with_reducible refine (above (HAW.out _)).mono ?_; rintro x _ ⟨rfl, y, rfl⟩))
            go_ret
            exact ⟨rfl, (by (repeat (first | exact HBE.out | refine up_onto ?_ _ | refine up_alloc ?_ _)))⟩
  · have g1 : decide (300 < s.size) = true := decide_eq_true (by omega)
    go_enter Try.func6, Try.ntmps6
    go_upto_region 1 with fail
    rw [← hU]
    clear hU
    go_wp2_with (go_at_call 8; with_reducible refine (above (HAW.out _)).mono ?_; rintro x _ ⟨rfl, y, rfl⟩)
    go_ret
    exact ⟨rfl, (by (repeat (first | exact HBU.out | refine up_onto ?_ _ | refine up_alloc ?_ _)))⟩
end Go.Proofs.Ytoeanbfemgmgnaa

/- Layer 6: the contract of the document's reader of a quoted field. -/
import Derived.Test.YtigoonokiihdgaaDoorRxd
namespace Go.Proofs.YtigoonokiihdgaaDoor
open Go.ChangeShapes Go.WideShapes Go.ChangeAt Go.RowKit
set_option linter.unusedVariables false
set_option linter.unusedSimpArgs false

theorem qGo_no {q lf : Int} {f : List Int} {k : Nat} {b : Int} {l : List Int} (hb : b ≠ q) (hl : (f.length : Int) = lf) : qGo q lf f k (b :: l) = ⟨7, f, k, []⟩ := by
  cases l with
  | nil => rw [qGo, if_neg hb, if_pos hl]
  | cons c r => rw [qGo, if_neg hb, if_pos hl]
theorem qGo_go {q lf : Int} {f : List Int} {k : Nat} {b : Int} {l : List Int} (hb : b ≠ q) (hl : ¬ (f.length : Int) = lf) : qGo q lf f k (b :: l) = qGo q lf (f ++ [b]) (k + 1) l := by
  cases l with
  | nil => simp [qGo, hb, hl]
  | cons c r => rw [qGo, if_neg hb, if_neg hl]

set_option maxHeartbeats 12800000 in
set_option maxRecDepth 100000 in
theorem quoted_any6 (g : Nat) (r : Rd) (hi : r.i ≤ r.s.size) (hs : r.s.size ≤ 980) (h0 : Hid (r.k = 0)) (w : World) (h : Hid (RB w g r)) (F : Fld) (hF : Hid (behind r.d (qGo r.q r.lf [] r.i ((bl r.s).drop r.i)) = F)) :
    Calls Tryd.prog 62 #[.pointer (some ⟨g, 0, none⟩)] w (FieldOut g r F w) := by
  have hs1 : r.s.size ≤ 1000 := by omega
  go_enter Tryd.func62, Tryd.ntmps62
  go_wp2_with fail
  go_loopw [4] (fun f wr => ∃ (k : Nat) (l0 : List Int), k ≤ r.s.size ∧ l0.length ≤ k ∧ f = .string (toBA l0) ∧ Hid (behind r.d (qGo r.q r.lf l0 k ((bl r.s).drop k)) = F) ∧ Hid (Only g { r with i := k } w wr)) (fun f _ => r.s.size - strLen f)
  case atStart => exact ⟨r.i, [], hi, Nat.zero_le _, rfl, hF, Lib.hid (Only.refl h.out)⟩
  case round =>
    obtain ⟨k, l0, hk, hl0, rfl, HE, HO⟩ := hrel
    have HR := Lib.hid (show RB wr g { r with i := k } from HO.out.1)
    obtain ⟨hg, kd, kq, _, _, _, _, _, k7, k8, _⟩ := HR.out.cells
    dsimp only at kd kq k7 k8
    by_cases hlt : k < r.s.size
    · obtain ⟨b, rest, hbr⟩ : ∃ b rest, (bl r.s).drop k = b :: rest := ⟨_, _, bl_drop r.s k hlt⟩
      obtain ⟨hget, hdr, _⟩ := get_drop hbr
      have HG := Lib.hid hget
      have HD := Lib.hid hdr
      have hdk : (k == r.s.size) = false := by rw [beq_eq_false_iff_ne]; omega
      have hdk' : ((k : Int) == (r.s.size : Int)) = false := by rw [beq_eq_false_iff_ne]; omega
      have VQ := Lib.hid (isB_drop hbr r.q)
      have HB := Lib.hid hbr
      clear hbr hget hdr
      by_cases hbq : b = r.q
      · have UQ := Lib.hid (VQ.out.trans (show (b == r.q) = true by simpa using hbq))
        have HBQ := Lib.hid hbq
        clear hbq
        by_cases hlt2 : k + 1 < r.s.size
        · -- a byte behind the quote
          obtain ⟨c, rest2, hcr⟩ : ∃ c rest2, (bl r.s).drop (k + 1) = c :: rest2 := ⟨_, _, bl_drop r.s (k + 1) hlt2⟩
          obtain ⟨hget2, hdr2, _⟩ := get_drop hcr
          have HG2 := Lib.hid hget2
          have HD2 := Lib.hid hdr2
          have hc' : ((r.s[k + 1].toNat : Nat) : Int) = c := by
            have := hget2; rw [rbl_get r.s (k + 1) hlt2] at this; exact Option.some.inj this
          have hix : ∀ V, (Instr.index 9 (.string r.s) (.int .i64 ((k : Int) + 1))).run Tryd.prog V = .ok (.int .u8 c) V := fun V => by rw [← hc']; exact run_index_at (P := Tryd.prog) 9 r.s (k + 1) ((k : Int) + 1) (by omega) hlt2 Tryd.underlying9 V
          have hcw : IntKind.i64.wrap c = c := by rw [← hc']; have h9 := byte_lo r.s[k + 1]; have h8 := byte_hi r.s[k + 1]; exact IntWalk.i64_in _ (by omega)
          have e1 : IntKind.i64.wrap ((k : Int) + 1) = (k : Int) + 1 := IntWalk.i64_in _ (by omega)
          have hn1 : ((k : Int) + 1 == (r.s.size : Int)) = false := by rw [beq_eq_false_iff_ne]; omega
          have HREST := Lib.hid (show rest = c :: rest2 by rw [← HD.out, hcr])
          have V1 := Lib.hid (isB_drop hcr r.d)
          have V2 := Lib.hid (isB_drop hcr 10)
          have V3 := Lib.hid (isB_drop hcr 13)
          clear hcr hget2 hdr2 hc'
          by_cases hcq : c = r.q
          · have hcb : (c != r.q) = false := by simp [hcq]
            have HCQ := Lib.hid hcq
            clear hcq
            by_cases hlf : (l0.length : Int) = r.lf
            · have HLF := Lib.hid hlf
              have hF7 := Lib.hid (show F = ⟨7, l0, k + 1, []⟩ by rw [← HE.out, HB.out, HREST.out, qGo, if_pos HBQ.out, if_pos HCQ.out, if_pos hlf]; rfl)
              clear hlf
              go_wp2_with fail
              refine wp_region_onto (by kernel_rfl) (by kernel_rfl) ?_
              repeat (go_big_quiet_step (fail))
              refine wpQuiet_nil ?_
              intro _ hw'
              obtain ⟨y1, hw''⟩ := hw'
              subst hw''
              have HR1 := Lib.hid (HR.out.below (onto_below wr y1))
              have HO1 := Lib.hid (HO.out.below (onto_below wr y1))
              obtain ⟨hg1, _, kq1, _, _, _, _, _, k71, k81, _⟩ := HR1.out.cells
              dsimp only at kq1 k71 k81
              go_wp2_with fail
              refine (above (is_any g { r with i := k } r.q true UQ hs1 _ HR1)).mono ?_
              rintro x _ ⟨rfl, y2, rfl⟩
              have HR2 := Lib.hid (HR1.out.below (onto_below _ y2))
              have HO2 := Lib.hid (HO1.out.below (onto_below _ y2))
              go_wp2_with fail
              refine wp_region_onto (by kernel_rfl) (by kernel_rfl) ?_
              repeat (go_big_quiet_step (fail))
              refine wpQuiet_nil ?_
              intro _ hw'
              obtain ⟨y3, hw''⟩ := hw'
              subst hw''
              have HR3 := Lib.hid (HR2.out.below (onto_below _ y3))
              have HO3 := Lib.hid (HO2.out.below (onto_below _ y3))
              have HRN := HR3
              have HON := HO3
              go_wp2_with fail
              refine (add_no6 g { r with i := k } l0 (k + 1) HLF h0 (by omega) _ HRN).mono ?_
              rintro x w3 ⟨rfl, ho⟩
              have HO4 := Lib.hid (HON.out.trans ho)
              clear ho
              go_wp2_with fail
              go_ret2
              refine ⟨toBA l0, false, k, rfl, ?_, ?_⟩
              · rw [hF7.out]; intro h; cases h
              · rw [hF7.out]; intro _; exact ⟨rfl, HO4.out⟩
            · have HLF := Lib.hid hlf
              have hE2 := Lib.hid (show behind r.d (qGo r.q r.lf (l0 ++ [c]) (k + 2) ((bl r.s).drop (k + 2))) = F by rw [← HE.out, HB.out, HREST.out, HD2.out]; conv => rhs; rw [qGo, if_pos HBQ.out, if_pos HCQ.out, if_neg hlf])
              clear hlf
              go_wp2_with fail
              refine wp_region_onto (by kernel_rfl) (by kernel_rfl) ?_
              repeat (go_big_quiet_step (fail))
              refine wpQuiet_nil ?_
              intro _ hw'
              obtain ⟨y1, hw''⟩ := hw'
              subst hw''
              have HR1 := Lib.hid (HR.out.below (onto_below wr y1))
              have HO1 := Lib.hid (HO.out.below (onto_below wr y1))
              obtain ⟨hg1, _, kq1, _, _, _, _, _, k71, k81, _⟩ := HR1.out.cells
              dsimp only at kq1 k71 k81
              go_wp2_with fail
              refine (above (is_any g { r with i := k } r.q true UQ hs1 _ HR1)).mono ?_
              rintro x _ ⟨rfl, y2, rfl⟩
              have HR2 := Lib.hid (HR1.out.below (onto_below _ y2))
              have HO2 := Lib.hid (HO1.out.below (onto_below _ y2))
              go_wp2_with fail
              refine wp_region_onto (by kernel_rfl) (by kernel_rfl) ?_
              repeat (go_big_quiet_step (fail))
              refine wpQuiet_nil ?_
              intro _ hw'
              obtain ⟨y3, hw''⟩ := hw'
              subst hw''
              have HR3 := Lib.hid (HR2.out.below (onto_below _ y3))
              have HO3 := Lib.hid (HO2.out.below (onto_below _ y3))
              have HRN := HR3
              have HON := HO3
              have hfz := HR.out.free 8
              go_wp2_with fail
              refine (add_yes6 g { r with i := k } l0 (k + 1) c HG2 HLF (by omega) hs1 _ HRN).mono ?_
              rintro x _ ⟨rfl, rfl⟩
              go_wp2_with fail
              have ho4 := HON.out.trans (HRN.out.set8 (k + 2))
              have hcast : ((k + 2 : Nat) : Int) = (k : Int) + 1 + 1 := by omega
              rw [hcast] at ho4
              have HO4 := Lib.hid ho4
              clear ho4 hcast
              go_roundw
              case rel => exact ⟨k + 2, l0 ++ [c], by omega, by simp; omega, rfl, hE2, HO4⟩
              case measure => simp [strLen, toBA_size]; omega
          · have hcb : (c != r.q) = true := by simpa using hcq
            have HCQ := Lib.hid hcq
            have HQ0 := Lib.hid (show F = behind r.d ⟨0, l0, k + 1, c :: rest2⟩ by rw [← HE.out, HB.out, HREST.out, qGo, if_pos HBQ.out, if_neg hcq])
            clear hcq
            cases hst : stops r.d c
            · have hs3 : (c == r.d) = false ∧ (c == 10) = false ∧ (c == 13) = false := by simpa [stops] using hst
              have U1 := Lib.hid (V1.out.trans hs3.1)
              have U2 := Lib.hid (V2.out.trans hs3.2.1)
              have U3 := Lib.hid (V3.out.trans hs3.2.2)
              have hF0 := Lib.hid (show F = ⟨5, l0, k + 1, []⟩ by rw [HQ0.out]; simp [behind, hst])
              have hdx : decide (k + 1 < r.s.size) = true := by simpa using hlt2
              have hdx' : decide ((k : Int) + 1 < (r.s.size : Int)) = true := by rw [decide_eq_true_eq]; omega
              clear V1 V2 V3 hs3 hst
              go_wp2_with fail
              refine wp_region_onto (by kernel_rfl) (by kernel_rfl) ?_
              repeat (go_big_quiet_step (fail))
              refine wpQuiet_nil ?_
              intro _ hw'
              obtain ⟨y1, hw''⟩ := hw'
              subst hw''
              have HR1 := Lib.hid (HR.out.below (onto_below wr y1))
              have HO1 := Lib.hid (HO.out.below (onto_below wr y1))
              obtain ⟨hg1, _, kq1, _, _, _, _, _, k71, k81, _⟩ := HR1.out.cells
              dsimp only at kq1 k71 k81
              go_wp2_with fail
              refine (above (is_any g { r with i := k } r.q true UQ hs1 _ HR1)).mono ?_
              rintro x _ ⟨rfl, y2, rfl⟩
              have HR2 := Lib.hid (HR1.out.below (onto_below _ y2))
              have HO2 := Lib.hid (HO1.out.below (onto_below _ y2))
              go_wp2_with fail
              refine wp_region_onto (by kernel_rfl) (by kernel_rfl) ?_
              repeat (go_big_quiet_step (fail))
              refine wpQuiet_nil ?_
              intro _ hw'
              obtain ⟨y3, hw''⟩ := hw'
              subst hw''
              have HR3 := Lib.hid (HR2.out.below (onto_below _ y3))
              have HO3 := Lib.hid (HO2.out.below (onto_below _ y3))
              have hfz := HR.out.free 8
              have hcast : ((k + 1 : Nat) : Int) = (k : Int) + 1 := by omega
              have ho4 := HO3.out.trans (HR3.out.set8 (k + 1))
              rw [hcast] at ho4
              clear hcast
              go_upto_region 14 with fail
              obtain ⟨X, hX⟩ : ∃ X, X = (onto wr ((y1.up y2).up y3)).setCell ⟨g, 8, none⟩ (.int .i64 ((k : Int) + 1)) := ⟨_, rfl⟩
              have ho5 : Only g { r with i := k + 1 } w X := by rw [hX]; exact ho4
              rw [← hX]
              clear hX ho4
              have HOX := Lib.hid ho5
              have HX := Lib.hid (show RB X g { r with i := k + 1 } from ho5.1)
              clear ho5
              obtain ⟨hgx, kdx, _, _, _, _, _, _, k7x, k8x, _⟩ := HX.out.cells
              dsimp only at kdx k7x k8x
              go_wp2_with fail
              refine wp_region_onto (by kernel_rfl) (by kernel_rfl) ?_
              repeat (go_big_quiet_step (first | (go_at_call 49; with_reducible exact calls_onto (is_any g { r with i := k + 1 } r.d false U1 hs1 _ (Lib.hid (HX.out.below (onto_below X _))))) | (go_at_call 49; with_reducible exact calls_onto (is_any g { r with i := k + 1 } 10 false U2 hs1 _ (Lib.hid (HX.out.below (onto_below X _))))) | (go_at_call 49; with_reducible exact calls_onto (is_any g { r with i := k + 1 } 13 false U3 hs1 _ (Lib.hid (HX.out.below (onto_below X _)))))))
              refine wpQuiet_nil ?_
              intro _ hw'
              obtain ⟨y9, hw''⟩ := hw'
              subst hw''
              have HR9 := Lib.hid (HX.out.below (onto_below X y9))
              have HO9 := Lib.hid (HOX.out.below (onto_below X y9))
              obtain ⟨hg9, _, _, _, _, _, _, _, _, k89, _⟩ := HR9.out.cells
              dsimp only at k89
              go_wp2_with fail
              refine (wrong_any g { r with i := k + 1 } 5 (k + 1) h0 _ HR9).mono ?_
              rintro x w9 ⟨rfl, ho⟩
              have HO10 := Lib.hid (HO9.out.trans ho)
              clear ho
              go_wp2_with fail
              go_ret2
              refine ⟨toBA l0, false, k + 1, rfl, ?_, ?_⟩
              · rw [hF0.out]; intro h; cases h
              · rw [hF0.out]; intro _; exact ⟨rfl, HO10.out⟩
            · have hF0 := Lib.hid (show F = ⟨0, l0, k + 1, c :: rest2⟩ by rw [HQ0.out]; simp [behind, hst])
              have hdx : decide (k + 1 < r.s.size) = true := by simpa using hlt2
              have hdx' : decide ((k : Int) + 1 < (r.s.size : Int)) = true := by rw [decide_eq_true_eq]; omega
              have hc : (c == r.d) = true ∨ ((c == r.d) = false ∧ (c == 10) = true) ∨ ((c == r.d) = false ∧ (c == 10) = false ∧ (c == 13) = true) := by
                unfold stops at hst
                cases h1 : (c == r.d) <;> cases h2 : (c == 10) <;> simp_all
              rcases hc with c1 | ⟨c1, c2⟩ | ⟨c1, c2, c3⟩
              · have U1 := Lib.hid (V1.out.trans c1)
                clear V1 V2 V3 c1 hst
                go_wp2_with fail
                refine wp_region_onto (by kernel_rfl) (by kernel_rfl) ?_
                repeat (go_big_quiet_step (fail))
                refine wpQuiet_nil ?_
                intro _ hw'
                obtain ⟨y1, hw''⟩ := hw'
                subst hw''
                have HR1 := Lib.hid (HR.out.below (onto_below wr y1))
                have HO1 := Lib.hid (HO.out.below (onto_below wr y1))
                obtain ⟨hg1, _, kq1, _, _, _, _, _, k71, k81, _⟩ := HR1.out.cells
                dsimp only at kq1 k71 k81
                go_wp2_with fail
                refine (above (is_any g { r with i := k } r.q true UQ hs1 _ HR1)).mono ?_
                rintro x _ ⟨rfl, y2, rfl⟩
                have HR2 := Lib.hid (HR1.out.below (onto_below _ y2))
                have HO2 := Lib.hid (HO1.out.below (onto_below _ y2))
                go_wp2_with fail
                refine wp_region_onto (by kernel_rfl) (by kernel_rfl) ?_
                repeat (go_big_quiet_step (fail))
                refine wpQuiet_nil ?_
                intro _ hw'
                obtain ⟨y3, hw''⟩ := hw'
                subst hw''
                have HR3 := Lib.hid (HR2.out.below (onto_below _ y3))
                have HO3 := Lib.hid (HO2.out.below (onto_below _ y3))
                have hfz := HR.out.free 8
                have hcast : ((k + 1 : Nat) : Int) = (k : Int) + 1 := by omega
                have ho4 := HO3.out.trans (HR3.out.set8 (k + 1))
                rw [hcast] at ho4
                clear hcast
                go_upto_region 14 with fail
                obtain ⟨X, hX⟩ : ∃ X, X = (onto wr ((y1.up y2).up y3)).setCell ⟨g, 8, none⟩ (.int .i64 ((k : Int) + 1)) := ⟨_, rfl⟩
                have ho5 : Only g { r with i := k + 1 } w X := by rw [hX]; exact ho4
                rw [← hX]
                clear hX ho4
                have HOX := Lib.hid ho5
                have HX := Lib.hid (show RB X g { r with i := k + 1 } from ho5.1)
                clear ho5
                obtain ⟨hgx, kdx, _, _, _, _, _, _, k7x, k8x, _⟩ := HX.out.cells
                dsimp only at kdx k7x k8x
                go_wp2_with fail
                refine wp_region_onto (by kernel_rfl) (by kernel_rfl) ?_
                repeat (go_big_quiet_step ((go_at_call 49; with_reducible exact calls_onto (is_any g { r with i := k + 1 } r.d true U1 hs1 _ (Lib.hid (HX.out.below (onto_below X _)))))))
                refine wpQuiet_nil ?_
                intro _ hw'
                obtain ⟨y9, hw''⟩ := hw'
                subst hw''
                have HO9 := Lib.hid (HOX.out.below (onto_below X y9))
                go_wp2_with fail
                go_ret2
                refine ⟨toBA l0, true, k + 1, rfl, ?_, ?_⟩
                · rw [hF0.out]; intro _; exact ⟨rfl, rfl, HO9.out⟩
                · rw [hF0.out]; intro h; exact absurd rfl h
              · have U1 := Lib.hid (V1.out.trans c1)
                have U2 := Lib.hid (V2.out.trans c2)
                clear V1 V2 V3 c1 c2 hst
                go_wp2_with fail
                refine wp_region_onto (by kernel_rfl) (by kernel_rfl) ?_
                repeat (go_big_quiet_step (fail))
                refine wpQuiet_nil ?_
                intro _ hw'
                obtain ⟨y1, hw''⟩ := hw'
                subst hw''
                have HR1 := Lib.hid (HR.out.below (onto_below wr y1))
                have HO1 := Lib.hid (HO.out.below (onto_below wr y1))
                obtain ⟨hg1, _, kq1, _, _, _, _, _, k71, k81, _⟩ := HR1.out.cells
                dsimp only at kq1 k71 k81
                go_wp2_with fail
                refine (above (is_any g { r with i := k } r.q true UQ hs1 _ HR1)).mono ?_
                rintro x _ ⟨rfl, y2, rfl⟩
                have HR2 := Lib.hid (HR1.out.below (onto_below _ y2))
                have HO2 := Lib.hid (HO1.out.below (onto_below _ y2))
                go_wp2_with fail
                refine wp_region_onto (by kernel_rfl) (by kernel_rfl) ?_
                repeat (go_big_quiet_step (fail))
                refine wpQuiet_nil ?_
                intro _ hw'
                obtain ⟨y3, hw''⟩ := hw'
                subst hw''
                have HR3 := Lib.hid (HR2.out.below (onto_below _ y3))
                have HO3 := Lib.hid (HO2.out.below (onto_below _ y3))
                have hfz := HR.out.free 8
                have hcast : ((k + 1 : Nat) : Int) = (k : Int) + 1 := by omega
                have ho4 := HO3.out.trans (HR3.out.set8 (k + 1))
                rw [hcast] at ho4
                clear hcast
                go_upto_region 14 with fail
                obtain ⟨X, hX⟩ : ∃ X, X = (onto wr ((y1.up y2).up y3)).setCell ⟨g, 8, none⟩ (.int .i64 ((k : Int) + 1)) := ⟨_, rfl⟩
                have ho5 : Only g { r with i := k + 1 } w X := by rw [hX]; exact ho4
                rw [← hX]
                clear hX ho4
                have HOX := Lib.hid ho5
                have HX := Lib.hid (show RB X g { r with i := k + 1 } from ho5.1)
                clear ho5
                obtain ⟨hgx, kdx, _, _, _, _, _, _, k7x, k8x, _⟩ := HX.out.cells
                dsimp only at kdx k7x k8x
                go_wp2_with fail
                refine wp_region_onto (by kernel_rfl) (by kernel_rfl) ?_
                repeat (go_big_quiet_step (first | (go_at_call 49; with_reducible exact calls_onto (is_any g { r with i := k + 1 } r.d false U1 hs1 _ (Lib.hid (HX.out.below (onto_below X _))))) | (go_at_call 49; with_reducible exact calls_onto (is_any g { r with i := k + 1 } 10 true U2 hs1 _ (Lib.hid (HX.out.below (onto_below X _)))))))
                refine wpQuiet_nil ?_
                intro _ hw'
                obtain ⟨y9, hw''⟩ := hw'
                subst hw''
                have HO9 := Lib.hid (HOX.out.below (onto_below X y9))
                go_wp2_with fail
                go_ret2
                refine ⟨toBA l0, true, k + 1, rfl, ?_, ?_⟩
                · rw [hF0.out]; intro _; exact ⟨rfl, rfl, HO9.out⟩
                · rw [hF0.out]; intro h; exact absurd rfl h
              · have U1 := Lib.hid (V1.out.trans c1)
                have U2 := Lib.hid (V2.out.trans c2)
                have U3 := Lib.hid (V3.out.trans c3)
                clear V1 V2 V3 c1 c2 c3 hst
                go_wp2_with fail
                refine wp_region_onto (by kernel_rfl) (by kernel_rfl) ?_
                repeat (go_big_quiet_step (fail))
                refine wpQuiet_nil ?_
                intro _ hw'
                obtain ⟨y1, hw''⟩ := hw'
                subst hw''
                have HR1 := Lib.hid (HR.out.below (onto_below wr y1))
                have HO1 := Lib.hid (HO.out.below (onto_below wr y1))
                obtain ⟨hg1, _, kq1, _, _, _, _, _, k71, k81, _⟩ := HR1.out.cells
                dsimp only at kq1 k71 k81
                go_wp2_with fail
                refine (above (is_any g { r with i := k } r.q true UQ hs1 _ HR1)).mono ?_
                rintro x _ ⟨rfl, y2, rfl⟩
                have HR2 := Lib.hid (HR1.out.below (onto_below _ y2))
                have HO2 := Lib.hid (HO1.out.below (onto_below _ y2))
                go_wp2_with fail
                refine wp_region_onto (by kernel_rfl) (by kernel_rfl) ?_
                repeat (go_big_quiet_step (fail))
                refine wpQuiet_nil ?_
                intro _ hw'
                obtain ⟨y3, hw''⟩ := hw'
                subst hw''
                have HR3 := Lib.hid (HR2.out.below (onto_below _ y3))
                have HO3 := Lib.hid (HO2.out.below (onto_below _ y3))
                have hfz := HR.out.free 8
                have hcast : ((k + 1 : Nat) : Int) = (k : Int) + 1 := by omega
                have ho4 := HO3.out.trans (HR3.out.set8 (k + 1))
                rw [hcast] at ho4
                clear hcast
                go_upto_region 14 with fail
                obtain ⟨X, hX⟩ : ∃ X, X = (onto wr ((y1.up y2).up y3)).setCell ⟨g, 8, none⟩ (.int .i64 ((k : Int) + 1)) := ⟨_, rfl⟩
                have ho5 : Only g { r with i := k + 1 } w X := by rw [hX]; exact ho4
                rw [← hX]
                clear hX ho4
                have HOX := Lib.hid ho5
                have HX := Lib.hid (show RB X g { r with i := k + 1 } from ho5.1)
                clear ho5
                obtain ⟨hgx, kdx, _, _, _, _, _, _, k7x, k8x, _⟩ := HX.out.cells
                dsimp only at kdx k7x k8x
                go_wp2_with fail
                refine wp_region_onto (by kernel_rfl) (by kernel_rfl) ?_
                repeat (go_big_quiet_step (first | (go_at_call 49; with_reducible exact calls_onto (is_any g { r with i := k + 1 } r.d false U1 hs1 _ (Lib.hid (HX.out.below (onto_below X _))))) | (go_at_call 49; with_reducible exact calls_onto (is_any g { r with i := k + 1 } 10 false U2 hs1 _ (Lib.hid (HX.out.below (onto_below X _))))) | (go_at_call 49; with_reducible exact calls_onto (is_any g { r with i := k + 1 } 13 true U3 hs1 _ (Lib.hid (HX.out.below (onto_below X _)))))))
                refine wpQuiet_nil ?_
                intro _ hw'
                obtain ⟨y9, hw''⟩ := hw'
                subst hw''
                have HO9 := Lib.hid (HOX.out.below (onto_below X y9))
                go_wp2_with fail
                go_ret2
                refine ⟨toBA l0, true, k + 1, rfl, ?_, ?_⟩
                · rw [hF0.out]; intro _; exact ⟨rfl, rfl, HO9.out⟩
                · rw [hF0.out]; intro h; exact absurd rfl h
        · -- the quote is the last byte
          have hrest : rest = [] := by rw [← HD.out]; exact bl_end r.s (k + 1) (by omega)
          have hF0 := Lib.hid (show F = ⟨0, l0, k + 1, []⟩ by rw [← HE.out, HB.out, hrest, qGo, if_pos HBQ.out]; rfl)
          have e1 : IntKind.i64.wrap ((k : Int) + 1) = (k : Int) + 1 := IntWalk.i64_in _ (by omega)
          have hn1 : ((k : Int) + 1 == (r.s.size : Int)) = true := by rw [beq_iff_eq]; omega
          have hdx : decide (k + 1 < r.s.size) = false := by simpa using hlt2
          have hdx' : decide ((k : Int) + 1 < (r.s.size : Int)) = false := by rw [decide_eq_false_iff_not]; omega
          clear hrest
          go_wp2_with fail
          refine wp_region_onto (by kernel_rfl) (by kernel_rfl) ?_
          repeat (go_big_quiet_step (fail))
          refine wpQuiet_nil ?_
          intro _ hw'
          obtain ⟨y1, hw''⟩ := hw'
          subst hw''
          have HR1 := Lib.hid (HR.out.below (onto_below wr y1))
          have HO1 := Lib.hid (HO.out.below (onto_below wr y1))
          obtain ⟨hg1, _, kq1, _, _, _, _, _, k71, k81, _⟩ := HR1.out.cells
          dsimp only at kq1 k71 k81
          go_wp2_with fail
          refine (above (is_any g { r with i := k } r.q true UQ hs1 _ HR1)).mono ?_
          rintro x _ ⟨rfl, y2, rfl⟩
          have HR2 := Lib.hid (HR1.out.below (onto_below _ y2))
          have HO2 := Lib.hid (HO1.out.below (onto_below _ y2))
          go_wp2_with fail
          refine wp_region_onto (by kernel_rfl) (by kernel_rfl) ?_
          repeat (go_big_quiet_step (fail))
          refine wpQuiet_nil ?_
          intro _ hw'
          obtain ⟨y3, hw''⟩ := hw'
          subst hw''
          have HR3 := Lib.hid (HR2.out.below (onto_below _ y3))
          have HO3 := Lib.hid (HO2.out.below (onto_below _ y3))
          have hfz := HR.out.free 8
          have hcast : ((k + 1 : Nat) : Int) = (k : Int) + 1 := by omega
          have ho4 := HO3.out.trans (HR3.out.set8 (k + 1))
          rw [hcast] at ho4
          clear hcast
          go_upto_region 14 with fail
          obtain ⟨X, hX⟩ : ∃ X, X = (onto wr ((y1.up y2).up y3)).setCell ⟨g, 8, none⟩ (.int .i64 ((k : Int) + 1)) := ⟨_, rfl⟩
          have ho5 : Only g { r with i := k + 1 } w X := by rw [hX]; exact ho4
          rw [← hX]
          clear hX ho4
          have HOX := Lib.hid ho5
          have HX := Lib.hid (show RB X g { r with i := k + 1 } from ho5.1)
          clear ho5
          obtain ⟨hgx, kdx, _, _, _, _, _, _, k7x, k8x, _⟩ := HX.out.cells
          dsimp only at kdx k7x k8x
          go_wp2_with fail
          refine wp_region_onto (by kernel_rfl) (by kernel_rfl) ?_
          repeat (go_big_quiet_step (fail))
          refine wpQuiet_nil ?_
          intro _ hw'
          obtain ⟨y9, hw''⟩ := hw'
          subst hw''
          have HO9 := Lib.hid (HOX.out.below (onto_below X y9))
          go_wp2_with fail
          go_ret2
          refine ⟨toBA l0, true, k + 1, rfl, ?_, ?_⟩
          · rw [hF0.out]; intro _; exact ⟨rfl, rfl, HO9.out⟩
          · rw [hF0.out]; intro h; exact absurd rfl h
      · have UQ := Lib.hid (VQ.out.trans (show (b == r.q) = false by simpa using hbq))
        have HNQ := Lib.hid hbq
        clear hbq
        by_cases hlf : (l0.length : Int) = r.lf
        · have HLF := Lib.hid hlf
          have hF7 := Lib.hid (show F = ⟨7, l0, k, []⟩ by rw [← HE.out, HB.out, qGo_no HNQ.out hlf]; rfl)
          clear hlf
          go_wp2_with fail
          refine wp_region_onto (by kernel_rfl) (by kernel_rfl) ?_
          repeat (go_big_quiet_step (fail))
          refine wpQuiet_nil ?_
          intro _ hw'
          obtain ⟨y1, hw''⟩ := hw'
          subst hw''
          have HR1 := Lib.hid (HR.out.below (onto_below wr y1))
          have HO1 := Lib.hid (HO.out.below (onto_below wr y1))
          obtain ⟨hg1, _, kq1, _, _, _, _, _, k71, k81, _⟩ := HR1.out.cells
          dsimp only at kq1 k71 k81
          go_wp2_with fail
          refine (above (is_any g { r with i := k } r.q false UQ hs1 _ HR1)).mono ?_
          rintro x _ ⟨rfl, y2, rfl⟩
          have HR2 := Lib.hid (HR1.out.below (onto_below _ y2))
          have HO2 := Lib.hid (HO1.out.below (onto_below _ y2))
          have HRN := HR2
          have HON := HO2
          go_wp2_with fail
          refine (add_no6 g { r with i := k } l0 (k) HLF h0 (by omega) _ HRN).mono ?_
          rintro x w3 ⟨rfl, ho⟩
          have HO4 := Lib.hid (HON.out.trans ho)
          clear ho
          go_wp2_with fail
          go_ret2
          refine ⟨toBA l0, false, k, rfl, ?_, ?_⟩
          · rw [hF7.out]; intro h; cases h
          · rw [hF7.out]; intro _; exact ⟨rfl, HO4.out⟩
        · have HLF := Lib.hid hlf
          have hE2 := Lib.hid (show behind r.d (qGo r.q r.lf (l0 ++ [b]) (k + 1) ((bl r.s).drop (k + 1))) = F by rw [← HE.out, HB.out, HD.out, qGo_go HNQ.out hlf])
          clear hlf
          go_wp2_with fail
          refine wp_region_onto (by kernel_rfl) (by kernel_rfl) ?_
          repeat (go_big_quiet_step (fail))
          refine wpQuiet_nil ?_
          intro _ hw'
          obtain ⟨y1, hw''⟩ := hw'
          subst hw''
          have HR1 := Lib.hid (HR.out.below (onto_below wr y1))
          have HO1 := Lib.hid (HO.out.below (onto_below wr y1))
          obtain ⟨hg1, _, kq1, _, _, _, _, _, k71, k81, _⟩ := HR1.out.cells
          dsimp only at kq1 k71 k81
          go_wp2_with fail
          refine (above (is_any g { r with i := k } r.q false UQ hs1 _ HR1)).mono ?_
          rintro x _ ⟨rfl, y2, rfl⟩
          have HR2 := Lib.hid (HR1.out.below (onto_below _ y2))
          have HO2 := Lib.hid (HO1.out.below (onto_below _ y2))
          have HRN := HR2
          have HON := HO2
          have hfz := HR.out.free 8
          go_wp2_with fail
          refine (add_yes6 g { r with i := k } l0 (k) b HG HLF (by omega) hs1 _ HRN).mono ?_
          rintro x _ ⟨rfl, rfl⟩
          go_wp2_with fail
          have ho4 := HON.out.trans (HRN.out.set8 (k + 1))
          have hcast : ((k + 1 : Nat) : Int) = (k : Int) + 1 := by omega
          rw [hcast] at ho4
          have HO4 := Lib.hid ho4
          clear ho4 hcast
          go_roundw
          case rel => exact ⟨k + 1, l0 ++ [b], by omega, by simp; omega, rfl, hE2, HO4⟩
          case measure => simp [strLen, toBA_size]; omega
    · obtain rfl : k = r.s.size := by omega
      have hdk : (r.s.size == r.s.size) = true := by simp
      have hF0 := Lib.hid (show F = ⟨11, l0, r.s.size, []⟩ by rw [← HE.out, bl_end r.s _ (Nat.le_refl _), qGo]; rfl)
      clear hlt
      go_wp2_with fail
      refine wp_region_onto (by kernel_rfl) (by kernel_rfl) ?_
      repeat (go_big_quiet_step (fail))
      refine wpQuiet_nil ?_
      intro _ hw'
      obtain ⟨y1, hw''⟩ := hw'
      subst hw''
      have HR1 := Lib.hid (HR.out.below (onto_below wr y1))
      have HO1 := Lib.hid (HO.out.below (onto_below wr y1))
      go_wp2_with fail
      refine (wrong_any g { r with i := r.s.size } 11 r.s.size h0 _ HR1).mono ?_
      rintro x w3 ⟨rfl, ho⟩
      have HO4 := Lib.hid (HO1.out.trans ho)
      clear ho
      go_wp2_with fail
      go_ret2
      refine ⟨toBA l0, false, r.s.size, rfl, ?_, ?_⟩
      · rw [hF0.out]; intro h; cases h
      · rw [hF0.out]; intro _; exact ⟨rfl, HO4.out⟩
end Go.Proofs.YtigoonokiihdgaaDoor

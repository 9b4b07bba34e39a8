/- Layer 12: the walk of TopChunks over the program's reader. -/
import Derived.Test.YtoeanbfemgmgnaaTrd
import Derived.Laws.StructEq
namespace Go.Proofs.Ytoeanbfemgmgnaa
open Go.ChangeShapes Go.WideShapes Go.ChangeAt Go.RowKit
set_option linter.unusedVariables false
set_option linter.unusedSimpArgs false

theorem flt_eq (a b c d : Int) (w : World) : (binOp .eql 34 (.agg #[.int .i64 a, .int .i64 b]) (.agg #[.int .i64 c, .int .i64 d])).run Try.prog w = .ok (.bool ((a == c) && (b == d))) w := by
  have hp : Try.prog.stoodInHeld 34 = false := by kernel_rfl
  simp [run_eql_struct, run_equalIn_agg, Program.fieldsOf, Try.underlying34, hp, Op.eqFields, go_sem]
  by_cases h1 : a = c <;> by_cases h2 : b = d <;> simp [h1, h2]
theorem deal2 {w : World} {g : Nat} {t : TypeId} {a b : Value} (h : StB w g t #[a, b]) : w.cell? ⟨g, 0, none⟩ = some a ∧ w.cell? ⟨g, 1, none⟩ = some b ∧ g < w.heap.size := ⟨h.cell 0, h.cell 1, h.lt⟩

set_option maxRecDepth 100000 in
set_option maxHeartbeats 6400000 in
theorem topChunks_walk {RB : World → Addr → RdS → (Nat → Prop) → Prop} {kf : RdS → Int × Int} {cf of : RdS → Int} (H : Hid (PR RB kf cf of)) (hAl : Hid AliveSays) (d q e lf ls lr : Int) (un : Bool) (s : ByteArray) (P : Option Addr) (n c : Nat) (ps : List Int) (P2 : Option Addr) (n2 c2 : Nat) (ps2 : List Int) (w : World) (hd : (Lit.int .u8 d).wf = true) (hq : (Lit.int .u8 q).wf = true) (hs : s.size ≤ maxLen) (hnc : n ≤ c) (hcm : c ≤ maxLen) (hp : SlIn w P n (ps.map (Value.int .i64))) (hnc2 : n2 ≤ c2) (hcm2 : c2 ≤ maxLen) (hp2 : SlIn w P2 n2 (ps2.map (Value.int .i64))) :
    Calls Try.prog 4 #[.agg #[.int .u8 d, .int .u8 q, .int .i64 e, .int .i64 lf, .int .i64 ls, .int .i64 lr, .bool un], .string s, .agg #[.slice P n c, .slice P2 n2 c2]] w fun x w' => x = .returned (.bool true) ∧ Below w.heap.size w w' := by
  obtain ⟨d0, d1⟩ := bounds_u8 hd
  obtain ⟨q0, q1⟩ := bounds_u8 hq
  have hs0 : s.size ≤ 9223372036854775807 := hs
  have hn9 : n ≤ 9223372036854775807 := by unfold maxLen at hcm; omega
  have hn92 : n2 ≤ 9223372036854775807 := by unfold maxLen at hcm2; omega
  have HAW := Lib.hid (show ∀ w : World, Calls Try.prog 8 #[] w fun x w' => x = .returned (.bool true) ∧ Below w.heap.size w w' from fun w => hAl.out w)
  obtain ⟨v, hv⟩ : ∃ v, (rightB d q e && (withinB lf && (withinB ls && withinB lr))) = v := ⟨_, rfl⟩
  have HV := Lib.hid hv
  have HP := Lib.hid hp
  have HP2 := Lib.hid hp2
  clear hd hq hAl hp hp2
  by_cases hgo : s.size ≤ 300 ∧ n ≤ 100 ∧ n2 ≤ 100 ∧ v = true
  · obtain ⟨h300, h100, h1002, rfl⟩ := hgo
    have g2 : decide (100 < n) = false := decide_eq_false (by omega)
    have g3 : decide (100 < n2) = false := decide_eq_false (by omega)
    have g1 : decide (300 < s.size) = false := decide_eq_false (by omega)
    have HOK := Lib.hid (at_ok (un := un) d0 d1 q0 q1 hv)
    obtain ⟨rs, hrs⟩ : ∃ rs, (RdS.at_ d q e lf ls lr un s true 0).rs = rs := ⟨_, rfl⟩
    obtain ⟨K, A, hK⟩ : ∃ K A, (RdS.at_ d q e lf ls lr un s true 0).K = (K, A) := ⟨_, _, rfl⟩
    obtain ⟨m, hm⟩ : ∃ m, rs.length = m := ⟨_, rfl⟩
    have hwd := (HOK.out s true 0).wide
    have hfw := (HOK.out s true 0).few
    rw [hrs] at hwd hfw
    have HWD := Lib.hid (show ∀ x ∈ rs, x.length ≤ 1000000 from fun x hx => by have h1 := hwd x hx; have h2 : (RdS.at_ d q e lf ls lr un s true 0).x = s := rfl; rw [h2] at h1; omega)
    have hm9 : m ≤ 301 := by have h2 : (RdS.at_ d q e lf ls lr un s true 0).x = s := rfl; rw [h2, hm] at hfw; omega
    have HRS := Lib.hid hrs
    have HKA := Lib.hid hK
    have HM := Lib.hid hm
    clear hv hwd hfw hrs hK hm
    obtain ⟨g, hg⟩ : ∃ g, w.heap.size = g := ⟨_, rfl⟩
    obtain ⟨U, hU⟩ : ∃ U, U = (w.alloc (.cells #[.int .u8 d, .int .u8 q, .int .i64 e, .int .i64 lf, .int .i64 ls, .int .i64 lr, .bool un] 27)).alloc (.cells #[.slice P n c, .slice P2 n2 c2] 48) := ⟨_, rfl⟩
    have HBU := Lib.hid (show Below w.heap.size w U by rw [hU]; exact up_alloc (up_alloc (Below.refl _ w) _) _)
    have HXU := Lib.hid (show StB U g 27 #[.int .u8 d, .int .u8 q, .int .i64 e, .int .i64 lf, .int .i64 ls, .int .i64 lr, .bool un] by rw [hU]; exact (StB.made w hg.symm _ _).below (up_alloc (Below.refl _ _) _))
    have HZU := Lib.hid (show StB U (g + 1) 48 #[.slice P n c, .slice P2 n2 c2] by rw [hU]; exact StB.made _ (by simp; omega) _ _)
    go_enter Try.func4, Try.ntmps4
    go_upto_region 1 with fail
    rw [← hU]
    obtain ⟨k0, k1, k2, k3, k4, k5, k6, k7⟩ := way7 HXU.out
    obtain ⟨j0, j1, j2⟩ := deal2 HZU.out
    clear hU
    go_upto_region 3 with (go_at_call 7; with_reducible refine (above (right12_is d q e lf ls lr un d0 d1 q0 q1 _ HV _)).mono ?_; rintro x _ ⟨rfl, y, rfl⟩)
    generalize hy4 : onto U _ = W1
    have HB1 := Lib.hid (show Below w.heap.size w W1 by rw [← hy4]; exact up_onto' HBU.out _)
    have HX1 := Lib.hid (show StB W1 g 27 #[.int .u8 d, .int .u8 q, .int .i64 e, .int .i64 lf, .int .i64 ls, .int .i64 lr, .bool un] by rw [← hy4]; exact HXU.out.below (onto_below _ _))
    have HZ1 := Lib.hid (show StB W1 (g + 1) 48 #[.slice P n c, .slice P2 n2 c2] by rw [← hy4]; exact HZU.out.below (onto_below _ _))
    clear hy4 k0 k1 k2 k3 k4 k5 k6 k7 j0 j1 j2
    obtain ⟨k0, k1, k2, k3, k4, k5, k6, k7⟩ := way7 HX1.out
    obtain ⟨j0, j1, j2⟩ := deal2 HZ1.out
    have hfed := fed_any H d q e lf ls lr un s (Lib.hid (HOK.out s true 0)) (by omega) ps P n c h100 W1 (Lib.hid (HP.out.below HB1.out)) rs K A m HRS HKA HM
    go_wp2_with fail
    refine hfed.mono ?_
    rintro x W2 ⟨C, cc, V, rfl, HT2, hb2⟩
    have HB2 := Lib.hid (HB1.out.trans (hb2.out.mono HB1.out.size))
    have HX2 := Lib.hid (HX1.out.below hb2.out)
    have HZ2 := Lib.hid (HZ1.out.below hb2.out)
    clear hfed k0 k1 k2 k3 k4 k5 k6 k7 j0 j1 j2 hb2
    go_upto_region 4 with fail
    generalize hy5 : W2.alloc (.cells #[.int .i64 K, .int .i64 A] 34) = W3
    obtain ⟨fb, hfb⟩ : ∃ fb, W2.heap.size = fb := ⟨_, rfl⟩
    have hb3 : Below W2.heap.size W2 W3 := by rw [← hy5]; exact up_alloc (Below.refl _ _) _
    have HF3 := Lib.hid (show StB W3 fb 34 #[.int .i64 K, .int .i64 A] by rw [← hy5]; exact StB.made _ hfb.symm _ _)
    have HB3 := Lib.hid (HB2.out.trans (hb3.mono HB2.out.size))
    have HX3 := Lib.hid (HX2.out.below hb3)
    have HZ3 := Lib.hid (HZ2.out.below hb3)
    have HT3 := Lib.hid (HT2.out.below hb3)
    rw [hfb]
    clear hy5 hb3 hfb HB2 HX2 HT2 HZ2
    obtain ⟨k0, k1, k2, k3, k4, k5, k6, k7⟩ := way7 HX3.out
    obtain ⟨j0, j1, j2⟩ := deal2 HZ3.out
    have hfed := fed_any H d q e lf ls lr un s (Lib.hid (HOK.out s true 0)) (by omega) ps2 P2 n2 c2 h1002 W3 (Lib.hid (HP2.out.below HB3.out)) rs K A m HRS HKA HM
    go_wp2_with fail
    refine hfed.mono ?_
    rintro x W4 ⟨C4, cc4, V4, rfl, HT4, hb4⟩
    have HB4 := Lib.hid (HB3.out.trans (hb4.out.mono HB3.out.size))
    have HF4 := Lib.hid (HF3.out.below hb4.out)
    have HT34 := Lib.hid (HT3.out.below hb4.out)
    clear hfed k0 k1 k2 k3 k4 k5 k6 k7 j0 j1 j2 hb4 HX3 HZ3 HT3 HF3 HB3
    go_upto_region 5 with fail
    generalize hy6 : W4.alloc (.cells #[.int .i64 K, .int .i64 A] 34) = W5
    obtain ⟨fc, hfc⟩ : ∃ fc, W4.heap.size = fc := ⟨_, rfl⟩
    have hb5 : Below W4.heap.size W4 W5 := by rw [← hy6]; exact up_alloc (Below.refl _ _) _
    have HF5 := Lib.hid (show StB W5 fc 34 #[.int .i64 K, .int .i64 A] by rw [← hy6]; exact StB.made _ hfc.symm _ _)
    have HFB5 := Lib.hid (HF4.out.below hb5)
    have HB5 := Lib.hid (HB4.out.trans (hb5.mono HB4.out.size))
    have HTA := Lib.hid (HT34.out.below hb5)
    have HTB := Lib.hid (HT4.out.below hb5)
    rw [hfc]
    clear hy6 hb5 hfc HB4 HF4 HT34 HT4
    obtain ⟨a0, a1, a2⟩ := deal2 HFB5.out
    obtain ⟨b0, b1, b2⟩ := deal2 HF5.out
    have hsame := sameTab_any C C4 m m cc cc4 V V4 rs rs W5 (Lib.hid HTA.out) (Lib.hid HTB.out) (by omega) HWD true (Lib.hid (by simp))
    have hfe := flt_eq K A K A
    have hKK : ((K == K) && (A == A)) = true := by simp
    rw [hKK] at hfe
    go_wp2_with (first
      | (go_at_call 13; with_reducible refine (above hsame).mono ?_; rintro x _ ⟨rfl, y4, rfl⟩)
      | (go_at_call 8; with_reducible refine (above (HAW.out _)).mono ?_; rintro x _ ⟨rfl, y, rfl⟩))
    go_ret
    exact ⟨rfl, (by (repeat (first | exact HB5.out | refine up_onto ?_ _ | refine up_alloc ?_ _)))⟩
  · obtain ⟨g, hg⟩ : ∃ g, w.heap.size = g := ⟨_, rfl⟩
    obtain ⟨U, hU⟩ : ∃ U, U = (w.alloc (.cells #[.int .u8 d, .int .u8 q, .int .i64 e, .int .i64 lf, .int .i64 ls, .int .i64 lr, .bool un] 27)).alloc (.cells #[.slice P n c, .slice P2 n2 c2] 48) := ⟨_, rfl⟩
    have HBU := Lib.hid (show Below w.heap.size w U by rw [hU]; exact up_alloc (up_alloc (Below.refl _ w) _) _)
    have HXU := Lib.hid (show StB U g 27 #[.int .u8 d, .int .u8 q, .int .i64 e, .int .i64 lf, .int .i64 ls, .int .i64 lr, .bool un] by rw [hU]; exact (StB.made w hg.symm _ _).below (up_alloc (Below.refl _ _) _))
    have HZU := Lib.hid (show StB U (g + 1) 48 #[.slice P n c, .slice P2 n2 c2] by rw [hU]; exact StB.made _ (by simp; omega) _ _)
    obtain ⟨k0, k1, k2, k3, k4, k5, k6, k7⟩ := way7 HXU.out
    obtain ⟨j0, j1, j2⟩ := deal2 HZU.out
    by_cases h1 : s.size ≤ 300
    · have g1 : decide (300 < s.size) = false := decide_eq_false (by omega)
      by_cases h2 : n ≤ 100
      · have g2 : decide (100 < n) = false := decide_eq_false (by omega)
        by_cases h3 : n2 ≤ 100
        · have g3 : decide (100 < n2) = false := decide_eq_false (by omega)
          cases v
          · go_enter Try.func4, Try.ntmps4
            go_upto_region 1 with fail
            rw [← hU]
            clear hU
            go_wp2_with (first
              | (go_at_call 7; with_reducible refine (above (right12_is d q e lf ls lr un d0 d1 q0 q1 _ HV _)).mono ?_; rintro x _ ⟨rfl, y, rfl⟩)
              | (go_at_call 8; with_reducible refine (above (HAW.out _)).mono ?_; rintro x _ ⟨rfl, y, rfl⟩))
            go_ret
            exact ⟨rfl, (by (repeat (first | exact HBU.out | refine up_onto ?_ _ | refine up_alloc ?_ _)))⟩
          · exact absurd ⟨h1, h2, h3, rfl⟩ hgo
        · have g3 : decide (100 < n2) = true := decide_eq_true (by omega)
          go_enter Try.func4, Try.ntmps4
          go_upto_region 1 with fail
          rw [← hU]
          clear hU
          go_wp2_with (go_at_call 8; with_reducible refine (above (HAW.out _)).mono ?_; rintro x _ ⟨rfl, y, rfl⟩)
          go_ret
          exact ⟨rfl, (by (repeat (first | exact HBU.out | refine up_onto ?_ _ | refine up_alloc ?_ _)))⟩
      · have g2 : decide (100 < n) = true := decide_eq_true (by omega)
        go_enter Try.func4, Try.ntmps4
        go_upto_region 1 with fail
        rw [← hU]
        clear hU
        go_wp2_with (go_at_call 8; with_reducible refine (above (HAW.out _)).mono ?_; rintro x _ ⟨rfl, y, rfl⟩)
        go_ret
        exact ⟨rfl, (by (repeat (first | exact HBU.out | refine up_onto ?_ _ | refine up_alloc ?_ _)))⟩
    · have g1 : decide (300 < s.size) = true := decide_eq_true (by omega)
      go_enter Try.func4, Try.ntmps4
      go_upto_region 1 with fail
      rw [← hU]
      clear hU
      go_wp2_with (go_at_call 8; with_reducible refine (above (HAW.out _)).mono ?_; rintro x _ ⟨rfl, y, rfl⟩)
      go_ret
      exact ⟨rfl, (by (repeat (first | exact HBU.out | refine up_onto ?_ _ | refine up_alloc ?_ _)))⟩
end Go.Proofs.Ytoeanbfemgmgnaa

/- Layer 12: the walk of TopReads over the program's reader. -/
import Derived.Test.YtoeanbfemgmgnaaTrc
namespace Go.Proofs.Ytoeanbfemgmgnaa
open Go.ChangeShapes Go.WideShapes Go.ChangeAt Go.RowKit
set_option linter.unusedVariables false
set_option linter.unusedSimpArgs false

theorem at_ok {d q e lf ls lr : Int} {un : Bool} (d0 : 0 ≤ d) (d1 : d ≤ 255) (q0 : 0 ≤ q) (q1 : q ≤ 255) (h : (rightB d q e && (withinB lf && (withinB ls && withinB lr))) = true) (x : ByteArray) (cl : Bool) (n : Nat) : (RdS.at_ d q e lf ls lr un x cl n).Ok := by
  rw [Bool.and_eq_true] at h
  exact ⟨d0, d1, q0, q1, h.1, h.2⟩
theorem way7 {w : World} {g : Nat} {t : TypeId} {a b c d e f k : Value} (h : StB w g t #[a, b, c, d, e, f, k]) : w.cell? ⟨g, 0, none⟩ = some a ∧ w.cell? ⟨g, 1, none⟩ = some b ∧ w.cell? ⟨g, 2, none⟩ = some c ∧ w.cell? ⟨g, 3, none⟩ = some d ∧ w.cell? ⟨g, 4, none⟩ = some e ∧ w.cell? ⟨g, 5, none⟩ = some f ∧ w.cell? ⟨g, 6, none⟩ = some k ∧ g < w.heap.size :=
  ⟨h.cell 0, h.cell 1, h.cell 2, h.cell 3, h.cell 4, h.cell 5, h.cell 6, h.lt⟩

set_option maxRecDepth 100000 in
set_option maxHeartbeats 6400000 in
theorem topReads_walk {RB : World → Addr → RdS → (Nat → Prop) → Prop} {kf : RdS → Int × Int} {cf of : RdS → Int} (H : Hid (PR RB kf cf of)) (hAl : Hid AliveSays) (d q e lf ls lr : Int) (un : Bool) (s : ByteArray) (P : Option Addr) (n c : Nat) (ps : List Int) (w : World) (hd : (Lit.int .u8 d).wf = true) (hq : (Lit.int .u8 q).wf = true) (hs : s.size ≤ maxLen) (hnc : n ≤ c) (hcm : c ≤ maxLen) (hp : SlIn w P n (ps.map (Value.int .i64))) :
    Calls Try.prog 3 #[.agg #[.int .u8 d, .int .u8 q, .int .i64 e, .int .i64 lf, .int .i64 ls, .int .i64 lr, .bool un], .string s, .slice P n c] w fun x w' => x = .returned (.bool true) ∧ Below w.heap.size w w' := by
  obtain ⟨d0, d1⟩ := bounds_u8 hd
  obtain ⟨q0, q1⟩ := bounds_u8 hq
  have hs0 : s.size ≤ 9223372036854775807 := hs
  have hn9 : n ≤ 9223372036854775807 := by unfold maxLen at hcm; omega
  have HAW := Lib.hid (show ∀ w : World, Calls Try.prog 8 #[] w fun x w' => x = .returned (.bool true) ∧ Below w.heap.size w w' from fun w => hAl.out w)
  obtain ⟨v, hv⟩ : ∃ v, (rightB d q e && (withinB lf && (withinB ls && withinB lr))) = v := ⟨_, rfl⟩
  have HV := Lib.hid hv
  have HP := Lib.hid hp
  clear hd hq hAl hp
  by_cases h300 : s.size ≤ 300
  · by_cases h100 : n ≤ 100
    · have g2 : decide (100 < n) = false := decide_eq_false (by omega)
      cases v
      · clear hv
        go_enter Try.func3, Try.ntmps3
        go_wp2_with (first
          | (go_at_call 7; with_reducible refine (above (right12_is d q e lf ls lr un d0 d1 q0 q1 _ HV _)).mono ?_; rintro x _ ⟨rfl, y, rfl⟩)
          | (go_at_call 8; with_reducible refine (above (HAW.out _)).mono ?_; rintro x _ ⟨rfl, y, rfl⟩))
        go_ret
        exact ⟨rfl, (by (repeat (first | exact Below.refl _ _ | refine up_onto ?_ _ | refine up_alloc ?_ _)))⟩
      · have HOK := Lib.hid (at_ok (un := un) d0 d1 q0 q1 hv)
        obtain ⟨rs, hrs⟩ : ∃ rs, (RdS.at_ d q e lf ls lr un s true 0).rs = rs := ⟨_, rfl⟩
        obtain ⟨K, A, hK⟩ : ∃ K A, (RdS.at_ d q e lf ls lr un s true 0).K = (K, A) := ⟨_, _, rfl⟩
        obtain ⟨m, hm⟩ : ∃ m, rs.length = m := ⟨_, rfl⟩
        obtain ⟨t1, t2, t3⟩ := (HOK.out s true 0).told 981 (show s.size < 981 by omega)
        have HG := Lib.hid (((HOK.out s true 0).got 981 (show s.size < 981 by omega)).mono (show s.size ≤ 980 by omega))
        have hwd := (HOK.out s true 0).wide
        have hfw := (HOK.out s true 0).few
        rw [hrs] at t1 hwd hfw
        rw [hK] at t2 t3
        have HWD := Lib.hid (show ∀ x ∈ rs, x.length ≤ 1000000 from fun x hx => by have h1 := hwd x hx; have h2 : (RdS.at_ d q e lf ls lr un s true 0).x = s := rfl; rw [h2] at h1; omega)
        have hm9 : m ≤ 301 := by have h2 : (RdS.at_ d q e lf ls lr un s true 0).x = s := rfl; rw [h2, hm] at hfw; omega
        have hmk : (⟨lf, ls, lr, decide (bit un = 1), [], [], 0, 0, 0, 0⟩ : Mk) = mk0 lf ls lr un := by rw [bit_is]; rfl
        obtain ⟨bu, hbu⟩ : ∃ bu, bit un = bu := ⟨_, rfl⟩
        have hpar := fun (W : World) => refParse_any d q e lf ls lr (bit un) s (by omega) (bit_01 un) 981 _ (Lib.hid (congrArg (fun m => rdGo d q e 981 m 0 (bomStrip (bl s))) hmk)) (by omega) HG rs K A (Lib.hid t1.symm) (Lib.hid t2.symm) (Lib.hid t3.symm) W
        rw [hbu] at hpar
        have HPAR := Lib.hid hpar
        have HBU := Lib.hid hbu
        have HRS := Lib.hid hrs
        have HKA := Lib.hid hK
        have HM := Lib.hid hm
        clear hv t1 t2 t3 hwd hfw hmk hbu hpar hrs hK hm
        go_enter Try.func3, Try.ntmps3
        go_upto_region 3 with (go_at_call 7; with_reducible refine (above (right12_is d q e lf ls lr un d0 d1 q0 q1 _ HV _)).mono ?_; rintro x _ ⟨rfl, y, rfl⟩)
        generalize hy4 : onto (w.alloc (.cells #[.int .u8 d, .int .u8 q, .int .i64 e, .int .i64 lf, .int .i64 ls, .int .i64 lr, .bool un] 27)) _ = W1
        have HB1 := Lib.hid (show Below w.heap.size w W1 by rw [← hy4]; exact up_onto (up_alloc (Below.refl _ _) _) _)
        obtain ⟨g, hg⟩ : ∃ g, w.heap.size = g := ⟨_, rfl⟩
        have HX1 := Lib.hid (show StB W1 g 27 #[.int .u8 d, .int .u8 q, .int .i64 e, .int .i64 lf, .int .i64 ls, .int .i64 lr, .bool un] by rw [← hy4]; exact (StB.made _ hg.symm _ _).below (onto_below _ _))
        have hl : w.heap.size ≤ W1.heap.size := HB1.out.size
        rw [hg]
        have HGW := Lib.hid hg
        clear hy4 hg
        obtain ⟨k0, k1, k2, k3, k4, k5, k6, k7⟩ := way7 HX1.out
        have hfed := fed_any H d q e lf ls lr un s (Lib.hid (HOK.out s true 0)) (by omega) ps P n c h100 W1 (Lib.hid (HP.out.below HB1.out)) rs K A m HRS HKA HM
        go_wp2_with fail
        refine hfed.mono ?_
        rintro x W2 ⟨C, cc, V, rfl, HT2, hb2⟩
        have HB2 := Lib.hid (HB1.out.trans (hb2.out.mono HB1.out.size))
        have HX2 := Lib.hid (HX1.out.below hb2.out)
        clear hfed k0 k1 k2 k3 k4 k5 k6 k7 hb2 hl
        go_upto_region 4 with fail
        generalize hy5 : W2.alloc (.cells #[.int .i64 K, .int .i64 A] 34) = W3
        obtain ⟨fb, hfb⟩ : ∃ fb, W2.heap.size = fb := ⟨_, rfl⟩
        have hb3 : Below W2.heap.size W2 W3 := by rw [← hy5]; exact up_alloc (Below.refl _ _) _
        have HF3 := Lib.hid (show StB W3 fb 34 #[.int .i64 K, .int .i64 A] by rw [← hy5]; exact StB.made _ hfb.symm _ _)
        have HB3 := Lib.hid (HB2.out.trans (hb3.mono HB2.out.size))
        have HX3 := Lib.hid (HX2.out.below hb3)
        have HT3 := Lib.hid (HT2.out.below hb3)
        rw [hfb]
        clear hy5 hb3 hfb HB2 HX2 HT2
        have f0 : ∀ z, (onto W3 z).cell? ⟨g, 0, none⟩ = some (.int .u8 d) := fun z => mem_cell (onto_below W3 z) (HX3.out.cell 0)
        have f1 : ∀ z, (onto W3 z).cell? ⟨g, 1, none⟩ = some (.int .u8 q) := fun z => mem_cell (onto_below W3 z) (HX3.out.cell 1)
        have f2 : ∀ z, (onto W3 z).cell? ⟨g, 2, none⟩ = some (.int .i64 e) := fun z => mem_cell (onto_below W3 z) (HX3.out.cell 2)
        have f3 : ∀ z, (onto W3 z).cell? ⟨g, 3, none⟩ = some (.int .i64 lf) := fun z => mem_cell (onto_below W3 z) (HX3.out.cell 3)
        have f4 : ∀ z, (onto W3 z).cell? ⟨g, 4, none⟩ = some (.int .i64 ls) := fun z => mem_cell (onto_below W3 z) (HX3.out.cell 4)
        have f5 : ∀ z, (onto W3 z).cell? ⟨g, 5, none⟩ = some (.int .i64 lr) := fun z => mem_cell (onto_below W3 z) (HX3.out.cell 5)
        have f6 : ∀ z, (onto W3 z).cell? ⟨g, 6, none⟩ = some (.bool un) := fun z => mem_cell (onto_below W3 z) (HX3.out.cell 6)
        refine one_in_the_middle 7 (by kernel_rfl) (by kernel_rfl) rfl ?_
        simp only [List.take_succ_cons, List.take_zero, List.drop_succ_cons, List.drop_zero]
        repeat (go_big_quiet_step (first
          | (with_reducible exact calls_onto (ref_any d q e d0 d1 q0 q1 _))
          | (with_reducible exact calls_onto (refLimits_is lf ls lr un _ HBU _))))
        refine wpQuiet_nil ?_
        intro _ hw'
        obtain ⟨x4, hw''⟩ := hw'
        subst hw''
        intro KK hKK
        refine ⟨by rfl, ?_⟩
        unfold Oper.wp
        go_simp
        refine (HPAR.out _).mono ?_
        rintro x w2 ⟨C2, c2, V2, rfl, HT4, hb4⟩
        rw [HM.out]
        have HB4 := Lib.hid (HB3.out.trans ((up_onto' (Below.refl _ W3) x4).trans (hb4.out.mono (onto_size W3 x4)) |>.mono HB3.out.size))
        have HT34 := Lib.hid (HT3.out.below ((up_onto' (Below.refl _ W3) x4).trans (hb4.out.mono (onto_size W3 x4))))
        have HF4 := Lib.hid (HF3.out.below ((up_onto' (Below.refl _ W3) x4).trans (hb4.out.mono (onto_size W3 x4))))
        have HT4' := Lib.hid (show TabIn w2 C2 m V2 rs by have := HT4.out; rw [HM.out] at this; exact this)
        clear hb4 f0 f1 f2 f3 f4 f5 f6 HT4 HF3 HX3 HT3 HB3
        refine hKK _ _ ?_
        clear hKK KK
        repeat (go_big_quiet_step (fail))
        refine wpQuiet_nil ?_
        intro _ hw'
        obtain ⟨x5, hw''⟩ := hw'
        subst hw''
        have z0 : w2.cell? ⟨fb, 0, none⟩ = some (.int .i64 K) := HF4.out.cell 0
        have z1 : w2.cell? ⟨fb, 1, none⟩ = some (.int .i64 A) := HF4.out.cell 1
        have zl : fb < w2.heap.size := HF4.out.lt
        have hsame := sameTab_any C C2 m m cc c2 V V2 rs rs (onto w2 x5) (Lib.hid (HT34.out.below (onto_below w2 x5))) (Lib.hid (HT4'.out.below (onto_below w2 x5))) (by omega) HWD true (Lib.hid (by simp))
        go_wp2_with (first
          | (go_at_call 13; with_reducible refine (above hsame).mono ?_; rintro x _ ⟨rfl, y4, rfl⟩)
          | (go_at_call 8; with_reducible refine (above (HAW.out _)).mono ?_; rintro x _ ⟨rfl, y, rfl⟩))
        go_ret
        exact ⟨rfl, (by (repeat (first | exact HB4.out | refine up_onto ?_ _ | refine up_alloc ?_ _)))⟩
    · have g2 : decide (100 < n) = true := decide_eq_true (by omega)
      go_enter Try.func3, Try.ntmps3
      go_wp2_with (go_at_call 8; with_reducible refine (above (HAW.out _)).mono ?_; rintro x _ ⟨rfl, y, rfl⟩)
      go_ret
      exact ⟨rfl, (by (repeat (first | exact Below.refl _ _ | refine up_onto ?_ _ | refine up_alloc ?_ _)))⟩
  · go_enter Try.func3, Try.ntmps3
    go_wp2_with (go_at_call 8; with_reducible refine (above (HAW.out _)).mono ?_; rintro x _ ⟨rfl, y, rfl⟩)
    go_ret
    exact ⟨rfl, (by (repeat (first | exact Below.refl _ _ | refine up_onto ?_ _ | refine up_alloc ?_ _)))⟩
end Go.Proofs.Ytoeanbfemgmgnaa

/- Layer 9: the walk of QuoteBack over the program's contracts. -/
import Derived.Test.YtngdmkhinebbdaaDoorQnd
import Derived.Test.YtngdmkhinebbdaaDoorNds
import Derived.Test.YtngdmkhinebbdaaDoorPqb
namespace Go.Proofs.YtngdmkhinebbdaaDoor
open Go.ChangeShapes Go.WideShapes Go.ChangeAt Go.RowKit
set_option linter.unusedVariables false
set_option linter.unusedSimpArgs false

set_option maxRecDepth 100000 in
set_option maxHeartbeats 3200000 in
theorem quoteBack_walk (hQ : Hid QuotedSays) (hWr : Hid WrittenSays) (hU : Hid UnquoteSays) (hAw : Hid AwakeSays9) (d q e : Int) (s : ByteArray) (x : Int) (w : World) (hm : Hid (MaxInt w)) (hd : (Lit.int .u8 d).wf = true) (hq : (Lit.int .u8 q).wf = true) (_ : (Lit.int .i64 e).wf = true) (hs : s.size ≤ maxLen) (hx : (Lit.int .u8 x).wf = true) :
    Calls Tryd.prog 5 #[.agg #[.int .u8 d, .int .u8 q, .int .i64 e], .string s, .int .u8 x] w fun x w' => x = .returned (.bool true) ∧ Below w.heap.size w w' := by
  obtain ⟨d0, d1⟩ := bounds_u8 hd
  obtain ⟨q0, q1⟩ := bounds_u8 hq
  have hs0 : s.size ≤ 9223372036854775807 := hs
  have HAW := Lib.hid (show ∀ w : World, MaxInt w → Calls Tryd.prog 9 #[] w fun x w' => x = .returned (.bool true) ∧ Below w.heap.size w w' from fun w h => hAw.out w h)
  obtain ⟨v, hv⟩ : ∃ v, rightB d q e = v := ⟨_, rfl⟩
  have HR := Lib.hid (show rightR d q e = v by rw [right_eq d q e d0 q0]; exact hv)
  obtain ⟨al, hal⟩ : ∃ al, (bits BinOp.and IntKind.u8 x 1 == 1) = al := ⟨_, rfl⟩
  obtain ⟨fi, hfi⟩ : ∃ fi, (bits BinOp.and IntKind.u8 x 2 == 2) = fi := ⟨_, rfl⟩
  clear hd hq hx hAw
  by_cases h200 : s.size ≤ 200
  · cases v
    · clear hv
      go_enter Tryd.func5, Tryd.ntmps5
      go_wp2_with (first
        | (go_at_call 8; with_reducible refine (above (ref_any d q e d0 d1 q0 q1 _)).mono ?_; rintro x _ ⟨rfl, y, rfl⟩)
        | (go_at_call 7; with_reducible refine (above (refRight_is d q e _ HR _)).mono ?_; rintro x _ ⟨rfl, y, rfl⟩)
        | (go_at_call 9; with_reducible refine (above (HAW.out _ (hm.out.up (by (repeat (first | exact Below.refl _ _ | refine up_onto ?_ _ | refine up_alloc ?_ _)))))).mono ?_; rintro x _ ⟨rfl, y, rfl⟩))
      go_ret
      exact ⟨rfl, (by (repeat (first | exact Below.refl _ _ | refine up_onto ?_ _ | refine up_alloc ?_ _)))⟩
    · obtain ⟨O, hO⟩ : ∃ O, quoO q s = O := ⟨_, rfl⟩
      obtain ⟨P, hP⟩ : ∃ P, wriO d q s al fi = P := ⟨_, rfl⟩
      obtain ⟨k1, hk1⟩ := unqO_wriO (d := d) q0 q1 s al fi
      have hOs : O.size ≤ 402 := by rw [← hO]; have := quoO_size q0 q1 s; omega
      have hPs : P.size ≤ 402 := by rw [← hP]; have := wriO_size q0 q1 d s al fi; omega
      have HQ := Lib.hid (fun w => hQ.out d q e s w d0 d1 q0 q1 hv (by omega))
      have HW := Lib.hid (fun w => hWr.out d q e s al fi w d0 d1 q0 q1 hv (by omega))
      have hu1 := unqO_quoO (d := d) q0 q1 s
      rw [hO] at HQ hu1
      rw [hP] at HW hk1
      have HU1 := Lib.hid (fun w h => hU.out d q e O s 1 0 w d0 d1 q0 q1 hv (by omega) hu1 h)
      have HU2 := Lib.hid (fun w h => hU.out d q e P s k1 0 w d0 d1 q0 q1 hv (by omega) hk1 h)
      obtain ⟨ib, hib⟩ : ∃ ib, (k1 == 1) = ib := ⟨_, rfl⟩
      rw [hib] at HU2
      rw [show ((1 : Int) == 1) = true from rfl] at HU1
      obtain ⟨u, hu⟩ : ∃ u, utWhole (bl s) = u := ⟨_, rfl⟩
      have HUW := Lib.hid hu
      have HV := Lib.hid hv
      have HO := Lib.hid (show bl O = quoL q (bl s) by rw [← hO]; exact bl_quoO q0 q1 s)
      have eS : (s.toList == s.toList) = true := by simp
      clear hv hO hP hk1 hu1 hib hu
      go_enter Tryd.func5, Tryd.ntmps5
      go_upto_region 3 with (first
        | (go_at_call 8; with_reducible refine (above (ref_any d q e d0 d1 q0 q1 _)).mono ?_; rintro x _ ⟨rfl, y, rfl⟩)
        | (go_at_call 7; with_reducible refine (above (refRight_is d q e _ HR _)).mono ?_; rintro x _ ⟨rfl, y, rfl⟩))
      generalize hy4 : onto (w.alloc (.cells #[.int .u8 d, .int .u8 q, .int .i64 e] 23)) _ = W1
      have HB1 := Lib.hid (show Below w.heap.size w W1 by rw [← hy4]; exact up_onto (up_alloc (Below.refl _ _) _) _)
      have HD1 := Lib.hid (show StB W1 w.heap.size 23 #[.int .u8 d, .int .u8 q, .int .i64 e] by rw [← hy4]; exact (StB.made _ rfl _ _).below (onto_below _ _))
      clear hy4
      have f0 : ∀ z, (onto W1 z).cell? ⟨w.heap.size, 0, none⟩ = some (.int .u8 d) := fun z => mem_cell (onto_below W1 z) (HD1.out.cell 0)
      have f1 : ∀ z, (onto W1 z).cell? ⟨w.heap.size, 1, none⟩ = some (.int .u8 q) := fun z => mem_cell (onto_below W1 z) (HD1.out.cell 1)
      have f2 : ∀ z, (onto W1 z).cell? ⟨w.heap.size, 2, none⟩ = some (.int .i64 e) := fun z => mem_cell (onto_below W1 z) (HD1.out.cell 2)
      have fm : ∀ z, MaxInt (onto W1 z) := fun z => hm.out.up (up_onto HB1.out z)
      refine wp_region_onto (by kernel_rfl) (by kernel_rfl) ?_
      repeat (go_big_quiet_step (first
        | (with_reducible exact calls_onto (HW.out _))
        | (with_reducible exact calls_onto (HU2.out _ (fm _)))))
      refine wpQuiet_nil ?_
      intro _ hw'
      obtain ⟨x1, hw''⟩ := hw'
      subst hw''
      go_upto_region 4 with fail
      obtain ⟨W2, hW2⟩ : ∃ W2, onto W1 x1 = W2 := ⟨_, rfl⟩
      have hb2 : Below W1.heap.size W1 W2 := by rw [← hW2]; exact onto_below _ _
      have HB2 := Lib.hid (HB1.out.trans (hb2.mono HB1.out.size))
      have HD2 := Lib.hid (HD1.out.below hb2)
      rw [hW2]
      clear hW2 hb2 f0 f1 f2 fm HB1 HD1
      have f0 : ∀ z, (onto W2 z).cell? ⟨w.heap.size, 0, none⟩ = some (.int .u8 d) := fun z => mem_cell (onto_below W2 z) (HD2.out.cell 0)
      have f1 : ∀ z, (onto W2 z).cell? ⟨w.heap.size, 1, none⟩ = some (.int .u8 q) := fun z => mem_cell (onto_below W2 z) (HD2.out.cell 1)
      have f2 : ∀ z, (onto W2 z).cell? ⟨w.heap.size, 2, none⟩ = some (.int .i64 e) := fun z => mem_cell (onto_below W2 z) (HD2.out.cell 2)
      have fm : ∀ z, MaxInt (onto W2 z) := fun z => hm.out.up (up_onto HB2.out z)
      refine wp_region_onto (by kernel_rfl) (by kernel_rfl) ?_
      repeat (go_big_quiet_step (first
        | (with_reducible exact calls_onto (HQ.out _))
        | (with_reducible exact calls_onto (HU1.out _ (fm _)))))
      refine wpQuiet_nil ?_
      intro _ hw'
      obtain ⟨x3, hw''⟩ := hw'
      subst hw''
      by_cases hus : u < s.size
      · have hus' : decide (u < s.size) = true := by simpa using hus
        go_wp2_with (first
          | (go_at_call 18; with_reducible refine (above (refWhole_is s hs u HUW _)).mono ?_; rintro x _ ⟨rfl, y, rfl⟩)
          | (go_at_call 9; with_reducible refine (above (HAW.out _ (hm.out.up (by (repeat (first | exact HB2.out | refine up_onto ?_ _ | refine up_alloc ?_ _)))))).mono ?_; rintro x _ ⟨rfl, y, rfl⟩))
        go_ret
        exact ⟨rfl, (by (repeat (first | exact HB2.out | refine up_onto ?_ _ | refine up_alloc ?_ _)))⟩
      · have hus' : decide (u < s.size) = false := decide_eq_false (by omega)
        have hnd := quo_read (right_dia HV.out) (by have := right_bytes HV.out; omega) (right_ends HV.out) s 2147483648 (by omega) (by omega) (by
            have h1 := (utWhole_spec (bl s).length (bl s) (Nat.le_refl _)).1
            rw [bl_length] at h1 ⊢
            rw [HUW.out] at h1 ⊢
            omega) 981 (by omega) (bl O) HO.out
        have HRS := Lib.hid (show whRs (wideG d q e O) (bl O) = [[s]] from hnd.1)
        have HKK := Lib.hid (show (whKA (wideG d q e O) (bl O)).1 = 0 from hnd.2)
        have hOs9 : O.size ≤ 980 := by omega
        clear hnd hus
        go_upto_region 10 with (go_at_call 18; with_reducible refine (above (refWhole_is s hs u HUW _)).mono ?_; rintro x _ ⟨rfl, y, rfl⟩)
        generalize hy5 : onto W2 _ = W3
        have hb3 : Below W2.heap.size W2 W3 := by rw [← hy5]; exact onto_below _ _
        have HB3 := Lib.hid (HB2.out.trans (hb3.mono HB2.out.size))
        have HD3 := Lib.hid (HD2.out.below hb3)
        clear hy5 hb3 f0 f1 f2 fm HB2 HD2
        obtain ⟨W, hW⟩ : ∃ W, W3.alloc (.cells #[.int .i64 2147483648, .int .i64 2147483648, .int .i64 2147483648, .int .i64 0] 44) = W := ⟨_, rfl⟩
        obtain ⟨lb, hlb⟩ : ∃ lb, W3.heap.size = lb := ⟨_, rfl⟩
        have hb4 : Below W3.heap.size W3 W := by rw [← hW]; exact up_alloc (Below.refl _ _) _
        have HB4 := Lib.hid (show Below w.heap.size w W from HB3.out.trans (hb4.mono HB3.out.size))
        have HD4 := HD3.out.below hb4
        have HL2 : StB W lb 44 #[.int .i64 2147483648, .int .i64 2147483648, .int .i64 2147483648, .int .i64 0] := by rw [← hW]; exact StB.made _ hlb.symm _ _
        rw [hW, hlb]
        clear hW hlb hb4 HB3 HD3
        have f0 : ∀ z, (onto W z).cell? ⟨w.heap.size, 0, none⟩ = some (.int .u8 d) := fun z => mem_cell (onto_below W z) (HD4.cell 0)
        have f1 : ∀ z, (onto W z).cell? ⟨w.heap.size, 1, none⟩ = some (.int .u8 q) := fun z => mem_cell (onto_below W z) (HD4.cell 1)
        have f2 : ∀ z, (onto W z).cell? ⟨w.heap.size, 2, none⟩ = some (.int .i64 e) := fun z => mem_cell (onto_below W z) (HD4.cell 2)
        have f3 : ∀ z, (onto W z).cell? ⟨lb, 0, none⟩ = some (.int .i64 2147483648) := fun z => mem_cell (onto_below W z) (HL2.cell 0)
        have f4 : ∀ z, (onto W z).cell? ⟨lb, 1, none⟩ = some (.int .i64 2147483648) := fun z => mem_cell (onto_below W z) (HL2.cell 1)
        have f5 : ∀ z, (onto W z).cell? ⟨lb, 2, none⟩ = some (.int .i64 2147483648) := fun z => mem_cell (onto_below W z) (HL2.cell 2)
        have f6 : ∀ z, (onto W z).cell? ⟨lb, 3, none⟩ = some (.int .i64 0) := fun z => mem_cell (onto_below W z) (HL2.cell 3)
        clear HD4 HL2
        refine one_in_the_middle 6 (by kernel_rfl) (by kernel_rfl) rfl ?_
        simp only [List.take_succ_cons, List.take_zero, List.drop_succ_cons, List.drop_zero]
        repeat (go_big_quiet_step (first
          | (with_reducible exact calls_onto (ref_any d q e d0 d1 q0 q1 _))
          | (with_reducible exact calls_onto (HQ.out _))))
        refine wpQuiet_nil ?_
        intro _ hw'
        obtain ⟨x4, hw''⟩ := hw'
        subst hw''
        intro KK hKK
        refine ⟨by rfl, ?_⟩
        unfold Oper.wp
        go_simp
        refine (wideParse_is d q e HV.out O hOs9 [[s]] 0 1 HRS HKK (Lib.hid rfl) _).mono ?_
        rintro x w2 ⟨C, cc, AA, V, rfl, HX, hy5⟩
        have hbx : Below W.heap.size W w2 := by
          obtain ⟨y5, rfl⟩ := hy5
          exact up_onto (onto_below _ _) _
        have HB5 := Lib.hid (show Below w.heap.size w w2 from HB4.out.trans (hbx.mono HB4.out.size))
        clear hy5 hbx f0 f1 f2 f3 f4 f5 f6
        refine hKK _ _ ?_
        clear hKK KK
        repeat (go_big_quiet_step (fail))
        refine wpQuiet_nil ?_
        intro _ hw'
        obtain ⟨x5, hw''⟩ := hw'
        subst hw''
        obtain ⟨B, b, hv0, hr0⟩ := HX.out.2.2 0 [s] rfl
        obtain ⟨a, rfl, hca⟩ := HX.out.1.at_ hv0
        have za : ∀ z, (onto w2 z).cell? a = some (.slice B 1 b) := fun z => (show a.add 0 = a from by cases a; rfl) ▸ (mem_cell (onto_below w2 z) hca)
        have HR0 := Lib.hid (show SlIn w2 B 1 (strs [s]) from hr0)
        clear hr0 hv0 hca
        go_wp2_with (first
          | (go_at_call 20; with_reducible refine (same_lit B 1 b [s] s (onto w2 x5) (Lib.hid (HR0.out.below (onto_below w2 x5))) true (Lib.hid (decide_eq_true rfl))).mono ?_; rintro x w4 ⟨rfl, hb4⟩; obtain ⟨y4, rfl⟩ := onto_of hb4)
          | (go_at_call 9; with_reducible refine (above (HAW.out _ (hm.out.up (by (repeat (first | exact HB5.out | refine up_onto ?_ _ | refine up_alloc ?_ _)))))).mono ?_; rintro x _ ⟨rfl, y, rfl⟩))
        go_ret
        exact ⟨rfl, (by (repeat (first | exact HB5.out | refine up_onto ?_ _ | refine up_alloc ?_ _)))⟩
  · go_enter Tryd.func5, Tryd.ntmps5
    go_wp2_with (go_at_call 9; with_reducible refine (above (HAW.out _ (hm.out.up (by (repeat (first | exact Below.refl _ _ | refine up_onto ?_ _ | refine up_alloc ?_ _)))))).mono ?_; rintro x _ ⟨rfl, y, rfl⟩)
    go_ret
    exact ⟨rfl, (by (repeat (first | exact Below.refl _ _ | refine up_onto ?_ _ | refine up_alloc ?_ _)))⟩
end Go.Proofs.YtngdmkhinebbdaaDoor

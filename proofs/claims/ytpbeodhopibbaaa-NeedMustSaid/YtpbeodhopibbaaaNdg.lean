/- Layer 8: the walk of the statement NeedMust over the program's contracts. -/
import Derived.Test.YtpbeodhopibbaaaNdf
import Derived.Test.YtpbeodhopibbaaaNdx
namespace Go.Proofs.Ytpbeodhopibbaaa
open Go.ChangeShapes Go.WideShapes Go.ChangeAt Go.RowKit
set_option linter.unusedVariables false
set_option linter.unusedSimpArgs false

set_option maxRecDepth 100000 in
set_option maxHeartbeats 1600000 in
theorem needMust_walk (hNeed : Hid NeedSays) (hAw : Hid AwakeSays8) (d q e : Int) (s : ByteArray) (w : World) (hd : (Lit.int .u8 d).wf = true) (hq : (Lit.int .u8 q).wf = true) (_ : (Lit.int .i64 e).wf = true) (hs : s.size ≤ maxLen) :
    Calls Try.prog 6 #[.agg #[.int .u8 d, .int .u8 q, .int .i64 e], .string s] w fun x w' => x = .returned (.bool true) ∧ Below w.heap.size w w' := by
  obtain ⟨d0, d1⟩ := bounds_u8 hd
  obtain ⟨q0, q1⟩ := bounds_u8 hq
  have hs0 : s.size ≤ 9223372036854775807 := hs
  have HAW := Lib.hid (show ∀ w : World, Calls Try.prog 9 #[] w fun x w' => x = .returned (.bool true) ∧ Below w.heap.size w w' from fun w => hAw.out w)
  obtain ⟨v, hv⟩ : ∃ v, rightB d q e = v := ⟨_, rfl⟩
  have HR := Lib.hid (show rightR d q e = v by rw [right_eq d q e d0 q0]; exact hv)
  obtain ⟨u, hu⟩ : ∃ u, utWhole (bl s) = u := ⟨_, rfl⟩
  have HU := Lib.hid hu
  obtain ⟨nb, hnb⟩ : ∃ nb, needB d q s true true = nb := ⟨_, rfl⟩
  have HNB := Lib.hid hnb
  have hAwE : ∀ W : World, Below w.heap.size w W → True := fun _ _ => trivial
  clear hd hq hu hAw hAwE
  by_cases h200 : s.size ≤ 200
  · cases v
    · clear hv
      go_enter Try.func6, Try.ntmps6
      go_wp2_with (first
        | (go_at_call 8; with_reducible refine (above (ref_any d q e d0 d1 q0 q1 _)).mono ?_; rintro x _ ⟨rfl, y, rfl⟩)
        | (go_at_call 7; with_reducible refine (above (refRight_is d q e _ HR _)).mono ?_; rintro x _ ⟨rfl, y, rfl⟩)
        | (go_at_call 9; with_reducible refine (above (HAW.out _)).mono ?_; rintro x _ ⟨rfl, y, rfl⟩))
      go_ret
      exact ⟨rfl, (by (repeat (first | exact Below.refl _ _ | refine up_onto ?_ _ | refine up_alloc ?_ _)))⟩
    · by_cases hus : u < s.size
      · have hus' : decide (u < s.size) = true := by simpa using hus
        clear hv
        go_enter Try.func6, Try.ntmps6
        go_wp2_with (first
          | (go_at_call 8; with_reducible refine (above (ref_any d q e d0 d1 q0 q1 _)).mono ?_; rintro x _ ⟨rfl, y, rfl⟩)
          | (go_at_call 7; with_reducible refine (above (refRight_is d q e _ HR _)).mono ?_; rintro x _ ⟨rfl, y, rfl⟩)
          | (go_at_call 16; with_reducible refine (above (refWhole_is s hs u HU _)).mono ?_; rintro x _ ⟨rfl, y, rfl⟩)
          | (go_at_call 9; with_reducible refine (above (HAW.out _)).mono ?_; rintro x _ ⟨rfl, y, rfl⟩))
        go_ret
        exact ⟨rfl, (by (repeat (first | exact Below.refl _ _ | refine up_onto ?_ _ | refine up_alloc ?_ _)))⟩
      · have hus' : decide (u < s.size) = false := decide_eq_false (by omega)
        have HN := Lib.hid (fun w => hNeed.out d q e s true true w d0 d1 q0 q1 hv (by omega))
        rw [hnb] at HN
        have HV := Lib.hid hv
        clear hv hus hnb
        cases nb
        · go_enter Try.func6, Try.ntmps6
          go_wp2_with (first
            | (go_at_call 8; with_reducible refine (above (ref_any d q e d0 d1 q0 q1 _)).mono ?_; rintro x _ ⟨rfl, y, rfl⟩)
            | (go_at_call 7; with_reducible refine (above (refRight_is d q e _ HR _)).mono ?_; rintro x _ ⟨rfl, y, rfl⟩)
            | (go_at_call 16; with_reducible refine (above (refWhole_is s hs u HU _)).mono ?_; rintro x _ ⟨rfl, y, rfl⟩)
            | (go_at_call 13; with_reducible refine (above (HN.out _)).mono ?_; rintro x _ ⟨rfl, y, rfl⟩)
            | (go_at_call 9; with_reducible refine (above (HAW.out _)).mono ?_; rintro x _ ⟨rfl, y, rfl⟩))
          go_ret
          exact ⟨rfl, (by (repeat (first | exact Below.refl _ _ | refine up_onto ?_ _ | refine up_alloc ?_ _)))⟩
        · obtain ⟨E, hE⟩ : ∃ E, endO e = E := ⟨_, rfl⟩
          have HE := Lib.hid hE
          have e2 : E.size ≤ 2 := by
            rw [← bl_length, ← hE, bl_endO]; exact endL_len e
          have HT := Lib.hid (show bl (s ++ E) = bl s ++ endL e by rw [bl_append, ← hE, bl_endO])
          have hts : (s ++ E).size ≤ 900 := by rw [ByteArray.size_append]; omega
          obtain ⟨T, hT⟩ : ∃ T, s ++ E = T := ⟨_, rfl⟩
          rw [hT] at HT hts
          obtain ⟨rs, hrs⟩ : ∃ rs, whRs (wideG d q e T) (bl T) = rs := ⟨_, rfl⟩
          obtain ⟨K, hK⟩ : ∃ K, (whKA (wideG d q e T) (bl T)).1 = K := ⟨_, rfl⟩
          obtain ⟨m, hm⟩ : ∃ m, rs.length = m := ⟨_, rfl⟩
          have HRS := Lib.hid hrs
          have HK := Lib.hid hK
          have HM := Lib.hid hm
          have HTT := Lib.hid hT
          have hno := Lib.hid (show K = 0 → rs = [[s]] → False from fun h1 h2 => nd_must (right_dia HV.out) s _ rfl 901 (bl T) HT.out (whyN_must HNB.out) (hK.trans h1) (hrs.trans h2))
          clear hE hT hrs hK hm
          go_enter Try.func6, Try.ntmps6
          go_upto_region 4 with (first
            | (go_at_call 8; with_reducible refine (above (ref_any d q e d0 d1 q0 q1 _)).mono ?_; rintro x _ ⟨rfl, y, rfl⟩)
            | (go_at_call 7; with_reducible refine (above (refRight_is d q e _ HR _)).mono ?_; rintro x _ ⟨rfl, y, rfl⟩)
            | (go_at_call 16; with_reducible refine (above (refWhole_is s hs u HU _)).mono ?_; rintro x _ ⟨rfl, y, rfl⟩)
            | (go_at_call 13; with_reducible refine (above (HN.out _)).mono ?_; rintro x _ ⟨rfl, y, rfl⟩)
            | (go_at_call 9; with_reducible refine (above (HAW.out _)).mono ?_; rintro x _ ⟨rfl, y, rfl⟩))
          generalize hy4 : onto (w.alloc (.cells #[.int .u8 d, .int .u8 q, .int .i64 e] 23)) _ = W1
          have HB1 := Lib.hid (show Below w.heap.size w W1 by rw [← hy4]; exact up_onto (up_alloc (Below.refl _ _) _) _)
          have HD1 := Lib.hid (show StB W1 w.heap.size 23 #[.int .u8 d, .int .u8 q, .int .i64 e] by rw [← hy4]; exact (StB.made _ rfl _ _).below (onto_below _ _))
          clear hy4
          obtain ⟨W, hW⟩ : ∃ W, W1.alloc (.cells #[.int .i64 2147483648, .int .i64 2147483648, .int .i64 2147483648, .int .i64 0] 42) = W := ⟨_, rfl⟩
          obtain ⟨lb, hlb⟩ : ∃ lb, W1.heap.size = lb := ⟨_, rfl⟩
          have hb2 : Below W1.heap.size W1 W := by rw [← hW]; exact up_alloc (Below.refl _ _) _
          have HB2 := Lib.hid (show Below w.heap.size w W from HB1.out.trans (hb2.mono HB1.out.size))
          have HD2 := HD1.out.below hb2
          have HL2 : StB W lb 42 #[.int .i64 2147483648, .int .i64 2147483648, .int .i64 2147483648, .int .i64 0] := by rw [← hW]; exact StB.made _ hlb.symm _ _
          rw [hW, hlb]
          clear hW hlb hb2 HB1 HD1
          have f0 : ∀ z, (onto W z).cell? ⟨w.heap.size, 0, none⟩ = some (.int .u8 d) := fun z => mem_cell (onto_below W z) (HD2.cell 0)
          have f1 : ∀ z, (onto W z).cell? ⟨w.heap.size, 1, none⟩ = some (.int .u8 q) := fun z => mem_cell (onto_below W z) (HD2.cell 1)
          have f2 : ∀ z, (onto W z).cell? ⟨w.heap.size, 2, none⟩ = some (.int .i64 e) := fun z => mem_cell (onto_below W z) (HD2.cell 2)
          have f3 : ∀ z, (onto W z).cell? ⟨lb, 0, none⟩ = some (.int .i64 2147483648) := fun z => mem_cell (onto_below W z) (HL2.cell 0)
          have f4 : ∀ z, (onto W z).cell? ⟨lb, 1, none⟩ = some (.int .i64 2147483648) := fun z => mem_cell (onto_below W z) (HL2.cell 1)
          have f5 : ∀ z, (onto W z).cell? ⟨lb, 2, none⟩ = some (.int .i64 2147483648) := fun z => mem_cell (onto_below W z) (HL2.cell 2)
          have f6 : ∀ z, (onto W z).cell? ⟨lb, 3, none⟩ = some (.int .i64 0) := fun z => mem_cell (onto_below W z) (HL2.cell 3)
          clear HD2 HL2
          refine one_in_the_middle 8 (by kernel_rfl) (by kernel_rfl) rfl ?_
          simp only [List.take_succ_cons, List.take_zero, List.drop_succ_cons, List.drop_zero]
          repeat (go_big_quiet_step (first
            | (with_reducible exact calls_onto (ref_any d q e d0 d1 q0 q1 _))
            | (with_reducible exact calls_onto (refEnd_is d q e E HE _))))
          have hTT := HTT.out
          rw [hTT]
          clear hTT
          refine wpQuiet_nil ?_
          intro _ hw'
          obtain ⟨x1, hw''⟩ := hw'
          subst hw''
          intro KK hKK
          refine ⟨by rfl, ?_⟩
          unfold Oper.wp
          go_simp
          refine (wideParse_is d q e HV.out T hts rs K m HRS HK HM _).mono ?_
          rintro x w2 ⟨C, c, A, V, rfl, HX, hy5⟩
          have HB3 := Lib.hid (show Below w.heap.size w w2 by
            obtain ⟨y5, rfl⟩ := hy5
            exact up_onto (up_onto HB2.out _) _)
          clear hy5 f0 f1 f2 f3 f4 f5 f6
          refine hKK _ _ ?_
          clear hKK KK
          repeat (go_big_quiet_step (fail))
          refine wpQuiet_nil ?_
          intro _ hw'
          obtain ⟨x3, hw''⟩ := hw'
          subst hw''
          have nn := HM.out
          obtain ⟨vk, hvk⟩ : ∃ v, (K == 0) = v := ⟨_, rfl⟩
          obtain ⟨vm, hvm⟩ : ∃ v, ((m : Int) == 1) = v := ⟨_, rfl⟩
          clear nn
          cases vk
          · go_wp2_with (go_at_call 9; with_reducible refine (above (HAW.out _)).mono ?_; rintro x _ ⟨rfl, y, rfl⟩)
            go_ret
            exact ⟨rfl, (by (repeat (first | exact HB3.out | refine up_onto ?_ _ | refine up_alloc ?_ _)))⟩
          · cases vm
            · go_wp2_with (go_at_call 9; with_reducible refine (above (HAW.out _)).mono ?_; rintro x _ ⟨rfl, y, rfl⟩)
              go_ret
              exact ⟨rfl, (by (repeat (first | exact HB3.out | refine up_onto ?_ _ | refine up_alloc ?_ _)))⟩
            · obtain rfl : m = 1 := by have : (m : Int) = 1 := by simpa using hvm
                                       omega
              obtain ⟨l0, hl0⟩ : ∃ l0, rs = [l0] := by
                have := HM.out
                match rs, this with
                | [l0], _ => exact ⟨l0, rfl⟩
              subst hl0
              obtain ⟨B, b, hv0, hr0⟩ := HX.out.2.2 0 l0 rfl
              obtain ⟨a, rfl, hca⟩ := HX.out.1.at_ hv0
              have za : ∀ z, (onto w2 z).cell? a = some (.slice B l0.length b) := fun z => (show a.add 0 = a from by cases a; rfl) ▸ (mem_cell (onto_below w2 z) hca)
              have HR0 := Lib.hid hr0
              have HK0 := Lib.hid (show K = 0 by simpa using hvk)
              obtain ⟨n0, hn0⟩ : ∃ n0, l0.length = n0 := ⟨_, rfl⟩
              have HN0 := Lib.hid hn0
              rw [hn0] at za HR0
              clear hr0 hv0 hca hn0
              have HF := Lib.hid (show decide (l0 = [s]) = false by
                refine decide_eq_false fun h => hno.out HK0.out ?_
                rw [h])
              go_wp2_with (first
                | (go_at_call 19; with_reducible refine (same_lit B n0 b l0 s (onto w2 x3) (Lib.hid (HR0.out.below (onto_below w2 x3))) false HF).mono ?_; rintro x w4 ⟨rfl, hb4⟩; obtain ⟨y4, rfl⟩ := onto_of hb4)
                | (go_at_call 9; with_reducible refine (above (HAW.out _)).mono ?_; rintro x _ ⟨rfl, y, rfl⟩))
              go_ret
              exact ⟨rfl, (by (repeat (first | exact HB3.out | refine up_onto ?_ _ | refine up_alloc ?_ _)))⟩
  · go_enter Try.func6, Try.ntmps6
    go_wp2_with (go_at_call 9; with_reducible refine (above (HAW.out _)).mono ?_; rintro x _ ⟨rfl, y, rfl⟩)
    go_ret
    exact ⟨rfl, (by (repeat (first | exact Below.refl _ _ | refine up_onto ?_ _ | refine up_alloc ?_ _)))⟩
end Go.Proofs.Ytpbeodhopibbaaa

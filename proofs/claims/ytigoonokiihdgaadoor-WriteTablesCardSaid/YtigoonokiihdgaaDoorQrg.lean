/- Layer 10: the walk of WriteReads. -/
import Derived.Test.YtigoonokiihdgaaDoorQrf
import Derived.Test.YtigoonokiihdgaaDoorQre
namespace Go.Proofs.YtigoonokiihdgaaDoor
open Go.ChangeShapes Go.WideShapes Go.ChangeAt Go.RowKit
set_option linter.unusedVariables false
set_option linter.unusedSimpArgs false

set_option maxRecDepth 100000 in
set_option maxHeartbeats 3200000 in
theorem writeReads_walk (hTable : Hid TableSays) (hAw : Hid AwakeSays10) (d q e : Int) (A : Option Addr) (n c : Nat) (V : List Value) (t : List (List ByteArray)) (w : World) (hd : (Lit.int .u8 d).wf = true) (hq : (Lit.int .u8 q).wf = true) (_ : (Lit.int .i64 e).wf = true) (hnc : n ≤ c) (hcm : c ≤ maxLen) (hin : TabIn w A n V t) (hok : Sizes t) :
    Calls Tryd.prog 5 #[.agg #[.int .u8 d, .int .u8 q, .int .i64 e], .slice A n c] w fun x w' => x = .returned (.bool true) ∧ Below w.heap.size w w' := by
  obtain ⟨d0, d1⟩ := bounds_u8 hd
  obtain ⟨q0, q1⟩ := bounds_u8 hq
  have HAW := Lib.hid (show ∀ w : World, Calls Tryd.prog 8 #[] w fun x w' => x = .returned (.bool true) ∧ Below w.heap.size w w' from fun w => hAw.out w)
  have HLN := Lib.hid hin.len
  have hn9 : n ≤ 9223372036854775807 := by unfold maxLen at hcm; omega
  obtain ⟨u, hu⟩ : ∃ u, greatB 20 40 400 t = u := ⟨_, rfl⟩
  have HI := Lib.hid hin
  have HK := Lib.hid hok
  obtain ⟨U, hU⟩ : ∃ U, U = w.alloc (.cells #[.int .u8 d, .int .u8 q, .int .i64 e] 23) := ⟨_, rfl⟩
  have HBU := Lib.hid (show Below w.heap.size w U by rw [hU]; exact up_alloc (Below.refl _ w) _)
  have HXU := Lib.hid (show StB U w.heap.size 23 #[.int .u8 d, .int .u8 q, .int .i64 e] by rw [hU]; exact StB.new _ _ _)
  have HG := Lib.hid (show Calls Tryd.prog 7 #[.slice A n c, .int .i64 20, .int .i64 40, .int .i64 400] U fun x w' => x = .returned (.bool u) ∧ Below U.heap.size U w' from
    great_is A n c V t 20 40 400 (by omega) (by omega) (by omega) u (Lib.hid hu) U (Lib.hid (HI.out.below HBU.out)) HK hn9)
  clear hd hq hin hok hnc hAw
  cases u
  · have hg := great_no hu
    have hn20 : n ≤ 20 := by have := HLN.out; omega
    have HGR := Lib.hid hg
    clear hu hg
    have hln := Lib.hid (fun (W : World) (hb : Below U.heap.size U W) => hTable.out d q e t A n c V W d0 d1 q0 q1 (by omega) (by have := HGR.out; omega) (by have := HGR.out; omega) (Lib.hid (HI.out.below (HBU.out.trans (hb.mono HBU.out.size)))) HK)
    obtain ⟨M, hM⟩ : ∃ M, tabE d q e t = M := ⟨_, rfl⟩
    obtain ⟨T, hT⟩ : ∃ T, tabS d q e t = T := ⟨_, rfl⟩
    obtain ⟨N, hN⟩ : ∃ N, tabN d q e t = N := ⟨_, rfl⟩
    rw [hM, hT, hN] at hln
    by_cases hM0 : M = 0
    · have hz := tabE_zero (hM.trans hM0)
      have hTb : bl T = textN d q e t (frontN t) := by
        rw [← hT]; unfold tabS; rw [hM, if_pos hM0]; exact bl_textO d0 d1 q0 q1 e t
      have hTs : T.size ≤ 980 := by
        rw [← hT]; unfold tabS; rw [hM, if_pos hM0]
        have := textO_size (e := e) d0 d1 q0 q1 t
        have := HGR.out; omega
      have hread := text_read hz.1 t hz.2 (by have := HGR.out; omega) (by have := HGR.out; omega) (by have := HGR.out; omega) T hTb
      have hpar := Lib.hid (fun (W : World) => wideParse_is d q e hz.1 T hTs t 0 n (Lib.hid hread.1) (Lib.hid hread.2) HLN W)
      have hMn : (M != 0) = false := by simp [hM0]
      have HF := Lib.hid (show ∀ x ∈ t, x.length ≤ 1000000 from fun x hx => by have := fldN_mem hx; have := HGR.out; omega)
      have hsame := Lib.hid (fun (W : World) (C : Option Addr) (cc : Nat) (V2 : List Value) (h1 : Hid (TabIn W C n V2 t)) (h2 : Hid (TabIn W A n V t)) => sameTab_any C A n n cc c V2 V t t W h1 h2 (by omega) HF true (Lib.hid (by simp)))
      clear hM hT hN hTb hread hz hTs
      go_enter Tryd.func5, Tryd.ntmps5
      go_wp2_with fail
      rw [← hU]
      clear hU
      refine HG.out.mono ?_
      rintro x U1 ⟨rfl, hb1⟩
      have hl1 := hln.out U1 hb1
      obtain ⟨k0, k1, k2, k3⟩ := dia3' (HXU.out.below hb1)
      have HB1 := Lib.hid (HBU.out.trans (hb1.mono HBU.out.size))
      clear hb1
      go_wp2_with (first
        | (go_at_call 14; with_reducible refine (above hl1).mono ?_; rintro x _ ⟨rfl, y1, rfl⟩)
        | (go_at_call 11; with_reducible refine (above (ref_any d q e d0 d1 q0 q1 _)).mono ?_; rintro x _ ⟨rfl, y2, rfl⟩)
        | (go_at_call 20; with_reducible refine (above (wide10_any _)).mono ?_; rintro x _ ⟨rfl, y3, rfl⟩))
      obtain ⟨U2, hU2⟩ : ∃ U2, U2 = onto U1 ((y1.up y2).up y3) := ⟨_, rfl⟩
      have HB2 := Lib.hid (show Below w.heap.size w U2 by rw [hU2]; exact up_onto' HB1.out _)
      rw [← hU2]
      clear hU2 hl1
      refine (hpar.out U2).mono ?_
      rintro x U3 ⟨C, cc, AT, V2, rfl, HT2, y4, rfl⟩
      obtain ⟨U3, hU3⟩ : ∃ U3, U3 = onto U2 y4 := ⟨_, rfl⟩
      have HB3 := Lib.hid (show Below w.heap.size w U3 by rw [hU3]; exact up_onto' HB2.out _)
      rw [← hU3] at HT2
      rw [← hU3]
      clear hU3
      have hs3 := hsame.out U3 C cc V2 (Lib.hid HT2.out) (Lib.hid (HI.out.below HB3.out))
      go_wp2_with (first
        | (go_at_call 21; with_reducible refine (above hs3).mono ?_; rintro x _ ⟨rfl, y5, rfl⟩)
        | (go_at_call 8; with_reducible refine (above (HAW.out _)).mono ?_; rintro x _ ⟨rfl, y6, rfl⟩))
      all_goals go_ret
      all_goals exact ⟨rfl, up_onto' HB3.out _⟩
    · have hMn : (M != 0) = true := by simpa using hM0
      clear hM hT hN hM0
      go_enter Tryd.func5, Tryd.ntmps5
      go_wp2_with fail
      rw [← hU]
      clear hU
      refine HG.out.mono ?_
      rintro x U1 ⟨rfl, hb1⟩
      have hl1 := hln.out U1 hb1
      obtain ⟨k0, k1, k2, k3⟩ := dia3' (HXU.out.below hb1)
      have HB1 := Lib.hid (HBU.out.trans (hb1.mono HBU.out.size))
      clear hb1
      go_wp2_with (first
        | (go_at_call 14; with_reducible refine (above hl1).mono ?_; rintro x _ ⟨rfl, y1, rfl⟩)
        | (go_at_call 8; with_reducible refine (above (HAW.out _)).mono ?_; rintro x _ ⟨rfl, y6, rfl⟩))
      all_goals go_ret
      all_goals exact ⟨rfl, up_onto' HB1.out _⟩
  · go_enter Tryd.func5, Tryd.ntmps5
    go_wp2_with fail
    rw [← hU]
    clear hU
    refine HG.out.mono ?_
    rintro x U1 ⟨rfl, hb1⟩
    have HB1 := Lib.hid (HBU.out.trans (hb1.mono HBU.out.size))
    clear hb1
    go_wp2_with (go_at_call 8; with_reducible refine (above (HAW.out _)).mono ?_; rintro x _ ⟨rfl, y4, rfl⟩)
    go_ret
    exact ⟨rfl, up_onto' HB1.out _⟩
end Go.Proofs.YtigoonokiihdgaaDoor

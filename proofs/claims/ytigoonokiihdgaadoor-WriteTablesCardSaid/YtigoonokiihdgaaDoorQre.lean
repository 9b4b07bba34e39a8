/- Layer 10: what the program's Line, Table, Size answer (premises); the walk of WriteLines over these. -/
import Derived.Test.YtigoonokiihdgaaDoorQrl
namespace Go.Proofs.YtigoonokiihdgaaDoor
open Go.ChangeShapes Go.WideShapes Go.ChangeAt Go.RowKit
set_option linter.unusedVariables false
set_option linter.unusedSimpArgs false

def TableSays : Prop := ∀ (d q e : Int) (t : List (List ByteArray)) (A : Option Addr) (n c : Nat) (V : List Value) (w : World), 0 ≤ d → d ≤ 255 → 0 ≤ q → q ≤ 255 → n ≤ 1000 → fldN t ≤ 1000 → bytN t ≤ 1000 → Hid (TabIn w A n V t) → Hid (Sizes t) →
  Calls Tryd.prog 14 #[.agg #[.int .u8 d, .int .u8 q, .int .i64 e], .slice A n c] w fun x w' => x = .returned (.tuple #[.string (tabS d q e t), .int .i64 (tabN d q e t), .int .i64 (tabE d q e t)]) ∧ Below w.heap.size w w'
def AwakeSays10 : Prop := ∀ w : World, Calls Tryd.prog 8 #[] w fun x w' => x = .returned (.bool true) ∧ Below w.heap.size w w'
theorem wide10_any (w : World) : Calls Tryd.prog 20 #[] w fun x w' => x = .returned (.agg #[.int .i64 2147483648, .int .i64 2147483648, .int .i64 2147483648, .int .i64 0]) ∧ Below w.heap.size w w' := by
  go_enter Tryd.func20, Tryd.ntmps20
  go_wp2_with fail
  refine bodyPost_ret (v := .agg #[.int .i64 2147483648, .int .i64 2147483648, .int .i64 2147483648, .int .i64 0]) (by simp [results, Tryd.results20, go_sem]) rfl ⟨rfl, ?_⟩
  repeat (first | exact up_alloc (Below.refl _ w) _ | exact Below.refl _ _ | refine up_set ?_ (by simp) _ | refine up_alloc ?_ _)
set_option maxRecDepth 100000 in
set_option maxHeartbeats 3200000 in
theorem writeLines_walk (hLine : Hid LineSays) (hAw : Hid AwakeSays10) (d q e : Int) (A : Option Addr) (n c : Nat) (l : List ByteArray) (fi : Bool) (w : World) (hd : (Lit.int .u8 d).wf = true) (hq : (Lit.int .u8 q).wf = true) (_ : (Lit.int .i64 e).wf = true) (hnc : n ≤ c) (hcm : c ≤ maxLen) (hin : SlIn w A n (strs l)) (hok : ∀ x ∈ l, x.size ≤ 140737488351232) :
    Calls Tryd.prog 3 #[.agg #[.int .u8 d, .int .u8 q, .int .i64 e], .slice A n c, .bool fi] w fun x w' => x = .returned (.bool true) ∧ Below w.heap.size w w' := by
  obtain ⟨d0, d1⟩ := bounds_u8 hd
  obtain ⟨q0, q1⟩ := bounds_u8 hq
  have HAW := Lib.hid (show ∀ w : World, Calls Tryd.prog 8 #[] w fun x w' => x = .returned (.bool true) ∧ Below w.heap.size w w' from fun w => hAw.out w)
  have HLN := Lib.hid hin.lenS
  have hnm : n ≤ maxLen := by omega
  have hn9 : n ≤ 9223372036854775807 := by unfold maxLen at hnm; omega
  obtain ⟨v, hv⟩ : ∃ v, rightB d q e = v := ⟨_, rfl⟩
  have HR := Lib.hid (show rightR d q e = v by rw [right_eq d q e d0 q0]; exact hv)
  obtain ⟨u, hu⟩ : ∃ u, greatB 1 20 400 [l] = u := ⟨_, rfl⟩
  have HI := Lib.hid hin
  have HK := Lib.hid hok
  obtain ⟨U, hU⟩ : ∃ U, U = (w.alloc (.cells #[.int .u8 d, .int .u8 q, .int .i64 e] 23)).alloc (.cells #[.slice A n c] 24) := ⟨_, rfl⟩
  have HBU := Lib.hid (show Below w.heap.size w U by rw [hU]; exact up_alloc (up_alloc (Below.refl _ w) _) _)
  have hcU : U.cell? ⟨w.heap.size + 1, 0, none⟩ = some (.slice A n c) := by rw [hU]; exact stb_one (h := 0) (by simp) _ _
  have HXU := Lib.hid (show StB U w.heap.size 23 #[.int .u8 d, .int .u8 q, .int .i64 e] by rw [hU]; exact (StB.new _ _ _).alloc _)
  have HG := Lib.hid (show Calls Tryd.prog 7 #[.slice (some ⟨w.heap.size + 1, 0, none⟩) 1 1, .int .i64 1, .int .i64 20, .int .i64 400] U fun x w' => x = .returned (.bool u) ∧ Below U.heap.size U w' from
    great_is (some ⟨w.heap.size + 1, 0, none⟩) 1 1 [.slice A n c] [l] 1 20 400 (by omega) (by omega) (by omega) u (Lib.hid hu) U (Lib.hid (TabIn.one (HI.out.below HBU.out) HLN.out hcU)) (Lib.hid (sizes_one (by rw [HLN.out]; exact hnm) hok)) (by omega))
  clear hd hq hin hok hnc hcm hAw hcU
  cases u
  · have h20 : n ≤ 20 ∧ lenL l ≤ 400 := by
      rw [great_one] at hu
      simp only [Bool.or_eq_false_iff, decide_eq_false_iff_not] at hu
      have := HLN.out
      omega
    have hn20 := h20.1
    have HSM := Lib.hid h20.2
    clear h20 hu
    have hln := Lib.hid (fun (W : World) (hb : Below U.heap.size U W) => hLine.out d q e l A n c fi W d0 d1 q0 q1 (by omega) (by have := HSM.out; omega) (Lib.hid (HI.out.below (HBU.out.trans (hb.mono HBU.out.size)))))
    cases v
    · have HE : lineE d q e l = 1 := by unfold lineE; rw [hv]; rfl
      have HS : lineS d q e fi l = ⟨#[]⟩ := by unfold lineS; rw [HE]; rfl
      rw [HE, HS] at hln
      clear HE HS hv
      go_enter Tryd.func3, Tryd.ntmps3
      go_wp2_with fail
      rw [← hU]
      clear hU
      refine HG.out.mono ?_
      rintro x U1 ⟨rfl, hb1⟩
      have hl1 := hln.out U1 hb1
      obtain ⟨k0, k1, k2, k3⟩ := dia3' (HXU.out.below hb1)
      have HB1 := Lib.hid (HBU.out.trans (hb1.mono HBU.out.size))
      clear hb1
      go_wp2_with (first
        | (go_at_call 9; with_reducible refine (above hl1).mono ?_; rintro x _ ⟨rfl, y1, rfl⟩)
        | (go_at_call 11; with_reducible refine (above (ref_any d q e d0 d1 q0 q1 _)).mono ?_; rintro x _ ⟨rfl, y2, rfl⟩)
        | (go_at_call 10; with_reducible refine (above (refRight_is d q e _ HR _)).mono ?_; rintro x _ ⟨rfl, y3, rfl⟩)
        | (go_at_call 8; with_reducible refine (above (HAW.out _)).mono ?_; rintro x _ ⟨rfl, y4, rfl⟩))
      all_goals go_ret
      all_goals exact ⟨rfl, up_onto' HB1.out _⟩
    · obtain ⟨M, hM⟩ : ∃ M, mayN l = M := ⟨_, rfl⟩
      have HM := Lib.hid hM
      by_cases hM0 : M = 0
      · subst hM0
        obtain ⟨T, hT⟩ : ∃ T, lineO d q e fi l = T := ⟨_, rfl⟩
        have HTB := Lib.hid (show bl T = lineN d q e fi l by rw [← hT]; exact bl_lineO d0 d1 q0 q1 e _ l)
        have HE : lineE d q e l = 0 := by unfold lineE; rw [hv, hM]; rfl
        have HS : lineS d q e fi l = T := by unfold lineS; rw [HE, ← hT]; rfl
        rw [HE, HS] at hln
        have hTT : (T.toList == T.toList) = true := by simp
        clear HE HS hv hM hT
        cases fi
        all_goals
          go_enter Tryd.func3, Tryd.ntmps3
          go_wp2_with fail
          rw [← hU]
          clear hU
          refine HG.out.mono ?_
          rintro x U1 ⟨rfl, hb1⟩
          have hl1 := hln.out U1 hb1
          have hmay := fun (y : Above U1) => may_is A n c l hn9 0 HM (onto U1 y) (Lib.hid (HI.out.below ((HBU.out.trans (hb1.mono HBU.out.size)).trans ((onto_below U1 y).mono (Nat.le_trans HBU.out.size hb1.size))))) HK
          have hl2 := fun (y : Above U1) => line_any d q e d0 d1 q0 q1 A n c l _ (by omega) (by have := HSM.out; omega) (onto U1 y) (Lib.hid (HI.out.below ((HBU.out.trans (hb1.mono HBU.out.size)).trans ((onto_below U1 y).mono (Nat.le_trans HBU.out.size hb1.size))))) T HTB
          simp only [show numB true = 1 from rfl, show numB false = 0 from rfl] at hl2
          obtain ⟨k0, k1, k2, k3⟩ := dia3' (HXU.out.below hb1)
          have HB1 := Lib.hid (HBU.out.trans (hb1.mono HBU.out.size))
          clear hb1
          go_wp2_with (first
        | (go_at_call 9; with_reducible refine (above hl1).mono ?_; rintro x _ ⟨rfl, y1, rfl⟩)
        | (go_at_call 11; with_reducible refine (above (ref_any d q e d0 d1 q0 q1 _)).mono ?_; rintro x _ ⟨rfl, y2, rfl⟩)
        | (go_at_call 10; with_reducible refine (above (refRight_is d q e _ HR _)).mono ?_; rintro x _ ⟨rfl, y3, rfl⟩)
        | (go_at_call 12; with_reducible refine (above (hmay _)).mono ?_; rintro x _ ⟨rfl, y5, rfl⟩)
        | (go_at_call 13; with_reducible refine (above (hl2 _)).mono ?_; rintro x _ ⟨rfl, y6, rfl⟩)
        | (go_at_call 8; with_reducible refine (above (HAW.out _)).mono ?_; rintro x _ ⟨rfl, y4, rfl⟩))
          all_goals go_ret
          all_goals exact ⟨rfl, up_onto' HB1.out _⟩
      · have HE : lineE d q e l = M := by unfold lineE; rw [hv, hM]; rfl
        have HS : lineS d q e fi l = ⟨#[]⟩ := by unfold lineS; rw [HE, if_neg hM0]
        rw [HE, HS] at hln
        have hMn : (M != 0) = true := by simpa using hM0
        have hMM : (M == M) = true := by simp
        clear HE HS hv hM hM0
        go_enter Tryd.func3, Tryd.ntmps3
        go_wp2_with fail
        rw [← hU]
        clear hU
        refine HG.out.mono ?_
        rintro x U1 ⟨rfl, hb1⟩
        have hl1 := hln.out U1 hb1
        have hmay := fun (y : Above U1) => may_is A n c l hn9 M HM (onto U1 y) (Lib.hid (HI.out.below ((HBU.out.trans (hb1.mono HBU.out.size)).trans ((onto_below U1 y).mono (Nat.le_trans HBU.out.size hb1.size))))) HK
        obtain ⟨k0, k1, k2, k3⟩ := dia3' (HXU.out.below hb1)
        have HB1 := Lib.hid (HBU.out.trans (hb1.mono HBU.out.size))
        clear hb1
        go_wp2_with (first
        | (go_at_call 9; with_reducible refine (above hl1).mono ?_; rintro x _ ⟨rfl, y1, rfl⟩)
        | (go_at_call 11; with_reducible refine (above (ref_any d q e d0 d1 q0 q1 _)).mono ?_; rintro x _ ⟨rfl, y2, rfl⟩)
        | (go_at_call 10; with_reducible refine (above (refRight_is d q e _ HR _)).mono ?_; rintro x _ ⟨rfl, y3, rfl⟩)
        | (go_at_call 12; with_reducible refine (above (hmay _)).mono ?_; rintro x _ ⟨rfl, y5, rfl⟩)
        | (go_at_call 8; with_reducible refine (above (HAW.out _)).mono ?_; rintro x _ ⟨rfl, y4, rfl⟩))
        all_goals go_ret
        all_goals exact ⟨rfl, up_onto' HB1.out _⟩
  · go_enter Tryd.func3, Tryd.ntmps3
    go_wp2_with fail
    rw [← hU]
    clear hU
    refine HG.out.mono ?_
    rintro x U1 ⟨rfl, hb1⟩
    have HB1 := Lib.hid (HBU.out.trans (hb1.mono HBU.out.size))
    clear hb1
    go_wp2_with (go_at_call 8; with_reducible refine (above (HAW.out _)).mono ?_; rintro x _ ⟨rfl, y4, rfl⟩)
    go_ret
    exact ⟨rfl, up_onto' HB1.out _⟩
end Go.Proofs.YtigoonokiihdgaaDoor

/- Layer 4: the contract of the document's own Step where no byte is out of place. -/
import Derived.Test.YtpnjpcknlmpaiaaSce
import Derived.Test.YtpnjpcknlmpaiaaKit7
import Derived.Deep.CutBlock
namespace Go.Proofs.Ytpnjpcknlmpaiaa
open Go.ChangeShapes Go.WideShapes Go.ChangeAt Go.RowKit
set_option linter.unusedVariables false
set_option linter.unusedSimpArgs false
set_option linter.unnecessarySimpa false

def RowSays (r : Res) (b X0 X1 X2 X3 X4 X5 X6 : Int) : Prop :=
  bitI r.ev.bg = X0 ∧ bitI r.ev.ad = X1 ∧ bitI r.ev.fi = X2 ∧ bitI r.ev.li = X3 ∧ bitI r.ev.re = X4 ∧ r.n = X5 ∧ r.k = X6 ∧ r.ev.b = if (X1 == 1) = true then b else 0
/-- The document's short words, one behind the other from block G on. -/
def Tabs (w : World) (G : Nat) : Prop :=
  StB w G 56 #[.int .i64 0, .int .i64 0, .int .i64 0, .int .i64 0, .int .i64 0, .int .i64 0, .int .i64 0] ∧ StB w (G + 2) 56 #[.int .i64 0, .int .i64 1, .int .i64 0, .int .i64 0, .int .i64 0, .int .i64 3, .int .i64 0] ∧ StB w (G + 3) 56 #[.int .i64 0, .int .i64 0, .int .i64 1, .int .i64 0, .int .i64 0, .int .i64 1, .int .i64 0] ∧ StB w (G + 4) 56 #[.int .i64 0, .int .i64 0, .int .i64 0, .int .i64 1, .int .i64 0, .int .i64 5, .int .i64 0] ∧ StB w (G + 5) 56 #[.int .i64 0, .int .i64 0, .int .i64 0, .int .i64 1, .int .i64 1, .int .i64 0, .int .i64 0] ∧ StB w (G + 6) 56 #[.int .i64 0, .int .i64 1, .int .i64 0, .int .i64 0, .int .i64 0, .int .i64 2, .int .i64 0] ∧ StB w (G + 7) 56 #[.int .i64 0, .int .i64 0, .int .i64 0, .int .i64 0, .int .i64 0, .int .i64 0, .int .i64 6] ∧ StB w (G + 1) 57 #[.int .i64 0, .int .i64 0, .int .i64 0, .int .i64 0, .int .i64 0, .int .i64 0, .int .i64 0, .int .i64 0, .int .i64 0, .int .i64 0, .int .i64 0, .int .i64 0, .int .i64 0, .int .i64 0, .int .i64 0, .int .i64 0, .int .i64 0, .int .i64 0, .int .i64 0, .int .i64 0, .int .i64 0, .int .i64 0, .int .i64 0, .int .i64 0, .int .i64 0, .int .i64 0, .int .i64 0, .int .i64 0, .int .i64 0, .int .i64 0, .int .i64 0, .int .i64 0, .int .i64 0, .int .i64 0, .int .i64 0]


set_option maxHeartbeats 40000000 in
set_option maxRecDepth 100000 in
theorem refStep_in (d q e s b c : Int) (h0 : 0 ≤ s) (h6 : s ≤ 6) (hk : Kind5 d q b c) (x1 x2 x3 x4 x5 x6 : Bool) (e1 : (s != 3) = x1) (e2 : decide (s < 5) = x2) (e3 : (c == 2) = x3) (e4 : (e == 1) = x4) (e5 : (c == 3) = x5) (e6 : (e == 2) = x6)
    (ho : (x1 && (x2 && ((x3 && x4) || (x5 && x6)))) = false) (w : World) : Calls Try.prog 11 #[.agg #[.int .i64 d, .int .i64 q, .int .i64 e], .int .i64 s, .int .i64 b] w fun x w' =>
    x = .returned (.tuple #[.agg #[.int .i64 (bitI (stepR d q e s b).ev.bg), .int .i64 (bitI (stepR d q e s b).ev.ad), .int .i64 (bitI (stepR d q e s b).ev.fi), .int .i64 (bitI (stepR d q e s b).ev.li), .int .i64 (bitI (stepR d q e s b).ev.re), .int .i64 (stepR d q e s b).ev.b], .int .i64 (stepR d q e s b).n, .int .i64 (stepR d q e s b).k]) ∧ Below w.heap.size w w' := by
  have K := Lib.hid hk
  have HO := Lib.hid ho
  have hi57 : (Try.prog.info? 57).map (·.size) = some 35 := by kernel_rfl
  have hi56 : (Try.prog.info? 56).map (·.size) = some 7 := by kernel_rfl
  have HI57 := Lib.hid hi57
  have HI56 := Lib.hid hi56
  clear hk ho hi57 hi56
  go_enter Try.func11, Try.ntmps11
  go_upto_region 1 with fail
  go_wp2_with fail
  refine (column_any d q _ b _ K _).mono ?_
  rintro x w1 ⟨rfl, hb⟩
  obtain ⟨hc, hf⟩ := bcell hb
  have hs : w.heap.size + 1 < w1.heap.size := by have := hb.size; simp at this; omega
  have O1 := Lib.hid (up_call0 (up_alloc (up_alloc (Below.refl _ _) _) _) hb)
  have m0 : w1.cell? ⟨w.heap.size + 1, 0, none⟩ = some (.int .i64 0) := (hc _ _ (by simp)).trans (by simp [go_sem])
  have m1 : w1.cell? ⟨w.heap.size + 1, 1, none⟩ = some (.int .i64 0) := (hc _ _ (by simp)).trans (by simp [go_sem])
  have m2 : w1.cell? ⟨w.heap.size + 1, 2, none⟩ = some (.int .i64 0) := (hc _ _ (by simp)).trans (by simp [go_sem])
  have m3 : w1.cell? ⟨w.heap.size + 1, 3, none⟩ = some (.int .i64 0) := (hc _ _ (by simp)).trans (by simp [go_sem])
  have m4 : w1.cell? ⟨w.heap.size + 1, 4, none⟩ = some (.int .i64 0) := (hc _ _ (by simp)).trans (by simp [go_sem])
  have m5 : w1.cell? ⟨w.heap.size + 1, 5, none⟩ = some (.int .i64 0) := (hc _ _ (by simp)).trans (by simp [go_sem])
  have f0 : w1.frozen? ⟨w.heap.size + 1, 0, none⟩ = false := (hf _ _ (by simp)).trans (by simp [go_sem])
  have f1 : w1.frozen? ⟨w.heap.size + 1, 1, none⟩ = false := (hf _ _ (by simp)).trans (by simp [go_sem])
  have f2 : w1.frozen? ⟨w.heap.size + 1, 2, none⟩ = false := (hf _ _ (by simp)).trans (by simp [go_sem])
  have f3 : w1.frozen? ⟨w.heap.size + 1, 3, none⟩ = false := (hf _ _ (by simp)).trans (by simp [go_sem])
  have f4 : w1.frozen? ⟨w.heap.size + 1, 4, none⟩ = false := (hf _ _ (by simp)).trans (by simp [go_sem])
  have f5 : w1.frozen? ⟨w.heap.size + 1, 5, none⟩ = false := (hf _ _ (by simp)).trans (by simp [go_sem])
  have M2 := Lib.hid ((hc w.heap.size 2 (by simp; try omega)).trans (by simp [go_sem] : _ = some (Value.int .i64 e)))
  clear hb
  go_upto_region 2 with fail
  go_cut [46] (fun s46 wx => s46 = .bool false ∧ wx = w1)
  case first =>
    have m2 := M2.out
    cases x1
    · go_wp2_with fail
      go_meet
      exact ⟨rfl, rfl⟩
    · cases x2
      · go_wp2_with fail
        go_meet
        exact ⟨rfl, rfl⟩
      · cases x3 <;> cases x5 <;> cases x4 <;> cases x6
        all_goals first
          | (exfalso; exact absurd HO.out (by decide))
          | (clear HO; go_wp2_with fail; go_meet; exact ⟨rfl, rfl⟩)
  case rest =>
    obtain ⟨rfl, hw⟩ := hcut
    replace hw := hw.symm
    subst hw
    have hcs : s = 0 ∨ s = 1 ∨ s = 2 ∨ s = 3 ∨ s = 4 ∨ s = 5 ∨ s = 6 := by omega
    have HOO : Hid ((s = 0 ∨ s = 1 ∨ s = 2 ∨ s = 4) → oopB e b = false) := Lib.hid (by
      intro h
      have k1 : x1 = true := by rw [← e1]; rcases h with rfl | rfl | rfl | rfl <;> decide
      have k2 : x2 = true := by rw [← e2]; rcases h with rfl | rfl | rfl | rfl <;> decide
      have k3 := HO.out
      rw [k1, k2, ← e3, ← e4, ← e5, ← e6] at k3
      rcases K.out with ⟨g1, g2, g3, g4, rfl⟩ | ⟨g1, g2, g3, g4, rfl⟩ | ⟨g1, g2, g3, g4, rfl⟩ | ⟨g1, g2, g3, g4, rfl⟩ | ⟨g1, g2, g3, g4, rfl⟩ <;> first | (simp [oopB, g3, g4]; done) | (simpa [oopB, g3, g4] using k3))
    have HCS := Lib.hid hcs
    clear e1 e2 e3 e4 e5 e6 HO h0 h6 hcs M2 hc hf
    go_upto_region 11 with ((with_reducible refine wpList_store_last ?a1 57 (.tmp 11) (.tmp 54) ?a2 ?gg ?a3 ?a4 ?cc ?a5 ?a6 ?a7 ?a8 ?a9); (case a2 => rfl); (case a1 => rfl); (case a3 => rfl); (case a4 => simp); (case a5 => rfl); (case a6 => exact HI57.out); (case a7 => rfl); (case a8 => rfl))
    go_cut [10, 11, 12, 13, 14, 15, 16, 17] (fun s10 s11 s12 s13 s14 s15 s16 s17 wx => ∃ G : Nat, s10 = .pointer (some ⟨G, 0, none⟩) ∧ s11 = .pointer (some ⟨G + 1, 0, none⟩) ∧ s12 = .pointer (some ⟨G + 2, 0, none⟩) ∧ s13 = .pointer (some ⟨G + 3, 0, none⟩) ∧ s14 = .pointer (some ⟨G + 4, 0, none⟩) ∧ s15 = .pointer (some ⟨G + 5, 0, none⟩) ∧ s16 = .pointer (some ⟨G + 6, 0, none⟩) ∧ s17 = .pointer (some ⟨G + 7, 0, none⟩) ∧ w1.heap.size ≤ G ∧ Hid (Below w1.heap.size w1 wx) ∧ Hid (Tabs wx G))
    case first =>
      go_wp2_with fail
      go_meet
      refine ⟨w1.heap.size, rfl, rfl, rfl, rfl, rfl, rfl, rfl, rfl, Nat.le_refl _, Lib.hid ?_, Lib.hid ⟨?_, ?_, ?_, ?_, ?_, ?_, ?_, ?_⟩⟩
      · (repeat (first | (with_reducible exact Below.refl _ _) | with_reducible refine up_alloc ?_ _))
      all_goals (repeat (first | (with_reducible refine StB.made _ ?_ _ _; simp; done) | with_reducible refine StB.alloc ?_ _))
    case rest =>
      obtain ⟨G, rfl, rfl, rfl, rfl, rfl, rfl, rfl, rfl, hG, HB, HT⟩ := hcut
      obtain ⟨z, rfl⟩ := onto_of HB.out
      clear HB
      obtain ⟨t10, t12, t13, t14, t15, t16, t17, t11⟩ := HT.out
      have S10 := Lib.hid t10
      have S11 := Lib.hid t11
      have S12 := Lib.hid t12
      have S13 := Lib.hid t13
      have S14 := Lib.hid t14
      have S15 := Lib.hid t15
      have S16 := Lib.hid t16
      have S17 := Lib.hid t17
      clear t10 t11 t12 t13 t14 t15 t16 t17 HT
      go_upto_block 0 with fail
      go_cut [11] (fun s11 wx => s11 = .pointer (some ⟨G + 1, 0, none⟩) ∧ ∃ X0 X1 X2 X3 X4 X5 X6 : Int, Hid (Below w1.heap.size w1 wx) ∧ Hid (wx.rangeAt (G + 1) (c.toNat * 7) [.int .i64 X0, .int .i64 X1, .int .i64 X2, .int .i64 X3, .int .i64 X4, .int .i64 X5, .int .i64 X6]) ∧ Hid (RowSays (stepR d q e s b) b X0 X1 X2 X3 X4 X5 X6))
      case first =>
        rcases HCS.out with rfl | rfl | rfl | rfl | rfl | rfl | rfl
        · have hG1 : G + 1 ≠ G := by omega
          have l10_0 : (onto w1 z).cell? ⟨G, 0, none⟩ = some (.int .i64 0) := (S10.out.cell 0).trans rfl
          have l10_1 : (onto w1 z).cell? ⟨G, 1, none⟩ = some (.int .i64 0) := (S10.out.cell 1).trans rfl
          have l10_2 : (onto w1 z).cell? ⟨G, 2, none⟩ = some (.int .i64 0) := (S10.out.cell 2).trans rfl
          have l10_3 : (onto w1 z).cell? ⟨G, 3, none⟩ = some (.int .i64 0) := (S10.out.cell 3).trans rfl
          have l10_4 : (onto w1 z).cell? ⟨G, 4, none⟩ = some (.int .i64 0) := (S10.out.cell 4).trans rfl
          have l10_5 : (onto w1 z).cell? ⟨G, 5, none⟩ = some (.int .i64 0) := (S10.out.cell 5).trans rfl
          have l10_6 : (onto w1 z).cell? ⟨G, 6, none⟩ = some (.int .i64 0) := (S10.out.cell 6).trans rfl
          go_wp2_with ((with_reducible show wpList _ _ _ _ _ _); refine wpList_store_stb S11.out rfl 57 (.tmp 11) _ rfl rfl _ rfl HI57.out rfl rfl ?_)
          go_meet
          have hkk := K.out
          rcases hkk with ⟨g1, g2, g3, g4, rfl⟩ | ⟨g1, g2, g3, g4, rfl⟩ | ⟨g1, g2, g3, g4, rfl⟩ | ⟨g1, g2, g3, g4, rfl⟩ | ⟨g1, g2, g3, g4, rfl⟩
          · refine ⟨rfl, 1, 0, 0, 0, 0, 3, 0, Lib.hid (below_row (onto_below w1 z) (by omega) _), Lib.hid ((S11.out.row _).range _ _ rfl), Lib.hid ?_⟩
            have f1 := beq_t g1
            have f2 := beq_f g2
            have f3 := beq_f g3
            have f4 := beq_f g4
            have o := HOO.out (by simp)
            simp [RowSays, stepR, aheadR, firstR, bareR, quotedR, closingR, feedR, parE, parN, parB, evAdd, ev0, evRec, bitI, f1, f2, f3, f4, g1, g2, g3, g4, o]
          · refine ⟨rfl, 1, 0, 1, 0, 0, 1, 0, Lib.hid (below_row (onto_below w1 z) (by omega) _), Lib.hid ((S11.out.row _).range _ _ rfl), Lib.hid ?_⟩
            have f1 := beq_f g1
            have f2 := beq_t g2
            have f3 := beq_f g3
            have f4 := beq_f g4
            have o := HOO.out (by simp)
            simp [RowSays, stepR, aheadR, firstR, bareR, quotedR, closingR, feedR, parE, parN, parB, evAdd, ev0, evRec, bitI, f1, f2, f3, f4, g1, g2, g3, g4, o]
          · refine ⟨rfl, 0, 0, 0, 0, 0, 6, 0, Lib.hid (below_row (onto_below w1 z) (by omega) _), Lib.hid ((S11.out.row _).range _ _ rfl), Lib.hid ?_⟩
            have f1 := beq_f g1
            have f2 := beq_f g2
            have f3 := beq_t g3
            have f4 := beq_f g4
            have o := HOO.out (by simp)
            simp [RowSays, stepR, aheadR, firstR, bareR, quotedR, closingR, feedR, parE, parN, parB, evAdd, ev0, evRec, bitI, f1, f2, f3, f4, g1, g2, g3, g4, o]
          · refine ⟨rfl, 0, 0, 0, 0, 0, 0, 0, Lib.hid (below_row (onto_below w1 z) (by omega) _), Lib.hid ((S11.out.row _).range _ _ rfl), Lib.hid ?_⟩
            have f1 := beq_f g1
            have f2 := beq_f g2
            have f3 := beq_f g3
            have f4 := beq_t g4
            have o := HOO.out (by simp)
            simp [RowSays, stepR, aheadR, firstR, bareR, quotedR, closingR, feedR, parE, parN, parB, evAdd, ev0, evRec, bitI, f1, f2, f3, f4, g1, g2, g3, g4, o]
          · refine ⟨rfl, 1, 1, 0, 0, 0, 2, 0, Lib.hid (below_row (onto_below w1 z) (by omega) _), Lib.hid ((S11.out.row _).range _ _ rfl), Lib.hid ?_⟩
            have f1 := beq_f g1
            have f2 := beq_f g2
            have f3 := beq_f g3
            have f4 := beq_f g4
            have o := HOO.out (by simp)
            simp [RowSays, stepR, aheadR, firstR, bareR, quotedR, closingR, feedR, parE, parN, parB, evAdd, ev0, evRec, bitI, f1, f2, f3, f4, g1, g2, g3, g4, o]
        · have hG1 : G + 1 ≠ G := by omega
          have l13_0 : (onto w1 z).cell? ⟨G + 3, 0, none⟩ = some (.int .i64 0) := (S13.out.cell 0).trans rfl
          have l13_1 : (onto w1 z).cell? ⟨G + 3, 1, none⟩ = some (.int .i64 0) := (S13.out.cell 1).trans rfl
          have l13_2 : (onto w1 z).cell? ⟨G + 3, 2, none⟩ = some (.int .i64 1) := (S13.out.cell 2).trans rfl
          have l13_3 : (onto w1 z).cell? ⟨G + 3, 3, none⟩ = some (.int .i64 0) := (S13.out.cell 3).trans rfl
          have l13_4 : (onto w1 z).cell? ⟨G + 3, 4, none⟩ = some (.int .i64 0) := (S13.out.cell 4).trans rfl
          have l13_5 : (onto w1 z).cell? ⟨G + 3, 5, none⟩ = some (.int .i64 1) := (S13.out.cell 5).trans rfl
          have l13_6 : (onto w1 z).cell? ⟨G + 3, 6, none⟩ = some (.int .i64 0) := (S13.out.cell 6).trans rfl
          have l14_0 : (onto w1 z).cell? ⟨G + 4, 0, none⟩ = some (.int .i64 0) := (S14.out.cell 0).trans rfl
          have l14_1 : (onto w1 z).cell? ⟨G + 4, 1, none⟩ = some (.int .i64 0) := (S14.out.cell 1).trans rfl
          have l14_2 : (onto w1 z).cell? ⟨G + 4, 2, none⟩ = some (.int .i64 0) := (S14.out.cell 2).trans rfl
          have l14_3 : (onto w1 z).cell? ⟨G + 4, 3, none⟩ = some (.int .i64 1) := (S14.out.cell 3).trans rfl
          have l14_4 : (onto w1 z).cell? ⟨G + 4, 4, none⟩ = some (.int .i64 0) := (S14.out.cell 4).trans rfl
          have l14_5 : (onto w1 z).cell? ⟨G + 4, 5, none⟩ = some (.int .i64 5) := (S14.out.cell 5).trans rfl
          have l14_6 : (onto w1 z).cell? ⟨G + 4, 6, none⟩ = some (.int .i64 0) := (S14.out.cell 6).trans rfl
          have l15_0 : (onto w1 z).cell? ⟨G + 5, 0, none⟩ = some (.int .i64 0) := (S15.out.cell 0).trans rfl
          have l15_1 : (onto w1 z).cell? ⟨G + 5, 1, none⟩ = some (.int .i64 0) := (S15.out.cell 1).trans rfl
          have l15_2 : (onto w1 z).cell? ⟨G + 5, 2, none⟩ = some (.int .i64 0) := (S15.out.cell 2).trans rfl
          have l15_3 : (onto w1 z).cell? ⟨G + 5, 3, none⟩ = some (.int .i64 1) := (S15.out.cell 3).trans rfl
          have l15_4 : (onto w1 z).cell? ⟨G + 5, 4, none⟩ = some (.int .i64 1) := (S15.out.cell 4).trans rfl
          have l15_5 : (onto w1 z).cell? ⟨G + 5, 5, none⟩ = some (.int .i64 0) := (S15.out.cell 5).trans rfl
          have l15_6 : (onto w1 z).cell? ⟨G + 5, 6, none⟩ = some (.int .i64 0) := (S15.out.cell 6).trans rfl
          have l16_0 : (onto w1 z).cell? ⟨G + 6, 0, none⟩ = some (.int .i64 0) := (S16.out.cell 0).trans rfl
          have l16_1 : (onto w1 z).cell? ⟨G + 6, 1, none⟩ = some (.int .i64 1) := (S16.out.cell 1).trans rfl
          have l16_2 : (onto w1 z).cell? ⟨G + 6, 2, none⟩ = some (.int .i64 0) := (S16.out.cell 2).trans rfl
          have l16_3 : (onto w1 z).cell? ⟨G + 6, 3, none⟩ = some (.int .i64 0) := (S16.out.cell 3).trans rfl
          have l16_4 : (onto w1 z).cell? ⟨G + 6, 4, none⟩ = some (.int .i64 0) := (S16.out.cell 4).trans rfl
          have l16_5 : (onto w1 z).cell? ⟨G + 6, 5, none⟩ = some (.int .i64 2) := (S16.out.cell 5).trans rfl
          have l16_6 : (onto w1 z).cell? ⟨G + 6, 6, none⟩ = some (.int .i64 0) := (S16.out.cell 6).trans rfl
          go_wp2_with ((with_reducible show wpList _ _ _ _ _ _); refine wpList_store_stb S11.out rfl 57 (.tmp 11) _ rfl rfl _ rfl HI57.out rfl rfl ?_)
          go_meet
          have hkk := K.out
          rcases hkk with ⟨g1, g2, g3, g4, rfl⟩ | ⟨g1, g2, g3, g4, rfl⟩ | ⟨g1, g2, g3, g4, rfl⟩ | ⟨g1, g2, g3, g4, rfl⟩ | ⟨g1, g2, g3, g4, rfl⟩
          · refine ⟨rfl, 0, 0, 0, 0, 0, 3, 0, Lib.hid (below_row (onto_below w1 z) (by omega) _), Lib.hid ((S11.out.row _).range _ _ rfl), Lib.hid ?_⟩
            have f1 := beq_t g1
            have f2 := beq_f g2
            have f3 := beq_f g3
            have f4 := beq_f g4
            have o := HOO.out (by simp)
            simp [RowSays, stepR, aheadR, firstR, bareR, quotedR, closingR, feedR, parE, parN, parB, evAdd, ev0, evRec, bitI, f1, f2, f3, f4, g1, g2, g3, g4, o]
          · refine ⟨rfl, 0, 0, 1, 0, 0, 1, 0, Lib.hid (below_row (onto_below w1 z) (by omega) _), Lib.hid ((S11.out.row _).range _ _ rfl), Lib.hid ?_⟩
            have f1 := beq_f g1
            have f2 := beq_t g2
            have f3 := beq_f g3
            have f4 := beq_f g4
            have o := HOO.out (by simp)
            simp [RowSays, stepR, aheadR, firstR, bareR, quotedR, closingR, feedR, parE, parN, parB, evAdd, ev0, evRec, bitI, f1, f2, f3, f4, g1, g2, g3, g4, o]
          · refine ⟨rfl, 0, 0, 0, 1, 0, 5, 0, Lib.hid (below_row (onto_below w1 z) (by omega) _), Lib.hid ((S11.out.row _).range _ _ rfl), Lib.hid ?_⟩
            have f1 := beq_f g1
            have f2 := beq_f g2
            have f3 := beq_t g3
            have f4 := beq_f g4
            have o := HOO.out (by simp)
            simp [RowSays, stepR, aheadR, firstR, bareR, quotedR, closingR, feedR, parE, parN, parB, evAdd, ev0, evRec, bitI, f1, f2, f3, f4, g1, g2, g3, g4, o]
          · refine ⟨rfl, 0, 0, 0, 1, 1, 0, 0, Lib.hid (below_row (onto_below w1 z) (by omega) _), Lib.hid ((S11.out.row _).range _ _ rfl), Lib.hid ?_⟩
            have f1 := beq_f g1
            have f2 := beq_f g2
            have f3 := beq_f g3
            have f4 := beq_t g4
            have o := HOO.out (by simp)
            simp [RowSays, stepR, aheadR, firstR, bareR, quotedR, closingR, feedR, parE, parN, parB, evAdd, ev0, evRec, bitI, f1, f2, f3, f4, g1, g2, g3, g4, o]
          · refine ⟨rfl, 0, 1, 0, 0, 0, 2, 0, Lib.hid (below_row (onto_below w1 z) (by omega) _), Lib.hid ((S11.out.row _).range _ _ rfl), Lib.hid ?_⟩
            have f1 := beq_f g1
            have f2 := beq_f g2
            have f3 := beq_f g3
            have f4 := beq_f g4
            have o := HOO.out (by simp)
            simp [RowSays, stepR, aheadR, firstR, bareR, quotedR, closingR, feedR, parE, parN, parB, evAdd, ev0, evRec, bitI, f1, f2, f3, f4, g1, g2, g3, g4, o]
        · have hG1 : G + 1 ≠ G := by omega
          have l13_0 : (onto w1 z).cell? ⟨G + 3, 0, none⟩ = some (.int .i64 0) := (S13.out.cell 0).trans rfl
          have l13_1 : (onto w1 z).cell? ⟨G + 3, 1, none⟩ = some (.int .i64 0) := (S13.out.cell 1).trans rfl
          have l13_2 : (onto w1 z).cell? ⟨G + 3, 2, none⟩ = some (.int .i64 1) := (S13.out.cell 2).trans rfl
          have l13_3 : (onto w1 z).cell? ⟨G + 3, 3, none⟩ = some (.int .i64 0) := (S13.out.cell 3).trans rfl
          have l13_4 : (onto w1 z).cell? ⟨G + 3, 4, none⟩ = some (.int .i64 0) := (S13.out.cell 4).trans rfl
          have l13_5 : (onto w1 z).cell? ⟨G + 3, 5, none⟩ = some (.int .i64 1) := (S13.out.cell 5).trans rfl
          have l13_6 : (onto w1 z).cell? ⟨G + 3, 6, none⟩ = some (.int .i64 0) := (S13.out.cell 6).trans rfl
          have l14_0 : (onto w1 z).cell? ⟨G + 4, 0, none⟩ = some (.int .i64 0) := (S14.out.cell 0).trans rfl
          have l14_1 : (onto w1 z).cell? ⟨G + 4, 1, none⟩ = some (.int .i64 0) := (S14.out.cell 1).trans rfl
          have l14_2 : (onto w1 z).cell? ⟨G + 4, 2, none⟩ = some (.int .i64 0) := (S14.out.cell 2).trans rfl
          have l14_3 : (onto w1 z).cell? ⟨G + 4, 3, none⟩ = some (.int .i64 1) := (S14.out.cell 3).trans rfl
          have l14_4 : (onto w1 z).cell? ⟨G + 4, 4, none⟩ = some (.int .i64 0) := (S14.out.cell 4).trans rfl
          have l14_5 : (onto w1 z).cell? ⟨G + 4, 5, none⟩ = some (.int .i64 5) := (S14.out.cell 5).trans rfl
          have l14_6 : (onto w1 z).cell? ⟨G + 4, 6, none⟩ = some (.int .i64 0) := (S14.out.cell 6).trans rfl
          have l15_0 : (onto w1 z).cell? ⟨G + 5, 0, none⟩ = some (.int .i64 0) := (S15.out.cell 0).trans rfl
          have l15_1 : (onto w1 z).cell? ⟨G + 5, 1, none⟩ = some (.int .i64 0) := (S15.out.cell 1).trans rfl
          have l15_2 : (onto w1 z).cell? ⟨G + 5, 2, none⟩ = some (.int .i64 0) := (S15.out.cell 2).trans rfl
          have l15_3 : (onto w1 z).cell? ⟨G + 5, 3, none⟩ = some (.int .i64 1) := (S15.out.cell 3).trans rfl
          have l15_4 : (onto w1 z).cell? ⟨G + 5, 4, none⟩ = some (.int .i64 1) := (S15.out.cell 4).trans rfl
          have l15_5 : (onto w1 z).cell? ⟨G + 5, 5, none⟩ = some (.int .i64 0) := (S15.out.cell 5).trans rfl
          have l15_6 : (onto w1 z).cell? ⟨G + 5, 6, none⟩ = some (.int .i64 0) := (S15.out.cell 6).trans rfl
          have l16_0 : (onto w1 z).cell? ⟨G + 6, 0, none⟩ = some (.int .i64 0) := (S16.out.cell 0).trans rfl
          have l16_1 : (onto w1 z).cell? ⟨G + 6, 1, none⟩ = some (.int .i64 1) := (S16.out.cell 1).trans rfl
          have l16_2 : (onto w1 z).cell? ⟨G + 6, 2, none⟩ = some (.int .i64 0) := (S16.out.cell 2).trans rfl
          have l16_3 : (onto w1 z).cell? ⟨G + 6, 3, none⟩ = some (.int .i64 0) := (S16.out.cell 3).trans rfl
          have l16_4 : (onto w1 z).cell? ⟨G + 6, 4, none⟩ = some (.int .i64 0) := (S16.out.cell 4).trans rfl
          have l16_5 : (onto w1 z).cell? ⟨G + 6, 5, none⟩ = some (.int .i64 2) := (S16.out.cell 5).trans rfl
          have l16_6 : (onto w1 z).cell? ⟨G + 6, 6, none⟩ = some (.int .i64 0) := (S16.out.cell 6).trans rfl
          go_wp2_with ((with_reducible show wpList _ _ _ _ _ _); refine wpList_store_stb S11.out rfl 57 (.tmp 11) _ rfl rfl _ rfl HI57.out rfl rfl ?_)
          go_meet
          have hkk := K.out
          rcases hkk with ⟨g1, g2, g3, g4, rfl⟩ | ⟨g1, g2, g3, g4, rfl⟩ | ⟨g1, g2, g3, g4, rfl⟩ | ⟨g1, g2, g3, g4, rfl⟩ | ⟨g1, g2, g3, g4, rfl⟩
          · refine ⟨rfl, 0, 0, 0, 0, 0, 0, 4, Lib.hid (below_row (onto_below w1 z) (by omega) _), Lib.hid ((S11.out.row _).range _ _ rfl), Lib.hid ?_⟩
            have f1 := beq_t g1
            have f2 := beq_f g2
            have f3 := beq_f g3
            have f4 := beq_f g4
            have o := HOO.out (by simp)
            simp [RowSays, stepR, aheadR, firstR, bareR, quotedR, closingR, feedR, parE, parN, parB, evAdd, ev0, evRec, bitI, f1, f2, f3, f4, g1, g2, g3, g4, o]
          · refine ⟨rfl, 0, 0, 1, 0, 0, 1, 0, Lib.hid (below_row (onto_below w1 z) (by omega) _), Lib.hid ((S11.out.row _).range _ _ rfl), Lib.hid ?_⟩
            have f1 := beq_f g1
            have f2 := beq_t g2
            have f3 := beq_f g3
            have f4 := beq_f g4
            have o := HOO.out (by simp)
            simp [RowSays, stepR, aheadR, firstR, bareR, quotedR, closingR, feedR, parE, parN, parB, evAdd, ev0, evRec, bitI, f1, f2, f3, f4, g1, g2, g3, g4, o]
          · refine ⟨rfl, 0, 0, 0, 1, 0, 5, 0, Lib.hid (below_row (onto_below w1 z) (by omega) _), Lib.hid ((S11.out.row _).range _ _ rfl), Lib.hid ?_⟩
            have f1 := beq_f g1
            have f2 := beq_f g2
            have f3 := beq_t g3
            have f4 := beq_f g4
            have o := HOO.out (by simp)
            simp [RowSays, stepR, aheadR, firstR, bareR, quotedR, closingR, feedR, parE, parN, parB, evAdd, ev0, evRec, bitI, f1, f2, f3, f4, g1, g2, g3, g4, o]
          · refine ⟨rfl, 0, 0, 0, 1, 1, 0, 0, Lib.hid (below_row (onto_below w1 z) (by omega) _), Lib.hid ((S11.out.row _).range _ _ rfl), Lib.hid ?_⟩
            have f1 := beq_f g1
            have f2 := beq_f g2
            have f3 := beq_f g3
            have f4 := beq_t g4
            have o := HOO.out (by simp)
            simp [RowSays, stepR, aheadR, firstR, bareR, quotedR, closingR, feedR, parE, parN, parB, evAdd, ev0, evRec, bitI, f1, f2, f3, f4, g1, g2, g3, g4, o]
          · refine ⟨rfl, 0, 1, 0, 0, 0, 2, 0, Lib.hid (below_row (onto_below w1 z) (by omega) _), Lib.hid ((S11.out.row _).range _ _ rfl), Lib.hid ?_⟩
            have f1 := beq_f g1
            have f2 := beq_f g2
            have f3 := beq_f g3
            have f4 := beq_f g4
            have o := HOO.out (by simp)
            simp [RowSays, stepR, aheadR, firstR, bareR, quotedR, closingR, feedR, parE, parN, parB, evAdd, ev0, evRec, bitI, f1, f2, f3, f4, g1, g2, g3, g4, o]
        · have hG1 : G + 1 ≠ G := by omega
          have l12_0 : (onto w1 z).cell? ⟨G + 2, 0, none⟩ = some (.int .i64 0) := (S12.out.cell 0).trans rfl
          have l12_1 : (onto w1 z).cell? ⟨G + 2, 1, none⟩ = some (.int .i64 1) := (S12.out.cell 1).trans rfl
          have l12_2 : (onto w1 z).cell? ⟨G + 2, 2, none⟩ = some (.int .i64 0) := (S12.out.cell 2).trans rfl
          have l12_3 : (onto w1 z).cell? ⟨G + 2, 3, none⟩ = some (.int .i64 0) := (S12.out.cell 3).trans rfl
          have l12_4 : (onto w1 z).cell? ⟨G + 2, 4, none⟩ = some (.int .i64 0) := (S12.out.cell 4).trans rfl
          have l12_5 : (onto w1 z).cell? ⟨G + 2, 5, none⟩ = some (.int .i64 3) := (S12.out.cell 5).trans rfl
          have l12_6 : (onto w1 z).cell? ⟨G + 2, 6, none⟩ = some (.int .i64 0) := (S12.out.cell 6).trans rfl
          go_wp2_with ((with_reducible show wpList _ _ _ _ _ _); refine wpList_store_stb S11.out rfl 57 (.tmp 11) _ rfl rfl _ rfl HI57.out rfl rfl ?_)
          go_meet
          have hkk := K.out
          rcases hkk with ⟨g1, g2, g3, g4, rfl⟩ | ⟨g1, g2, g3, g4, rfl⟩ | ⟨g1, g2, g3, g4, rfl⟩ | ⟨g1, g2, g3, g4, rfl⟩ | ⟨g1, g2, g3, g4, rfl⟩
          · refine ⟨rfl, 0, 0, 0, 0, 0, 4, 0, Lib.hid (below_row (onto_below w1 z) (by omega) _), Lib.hid ((S11.out.row _).range _ _ rfl), Lib.hid ?_⟩
            have f1 := beq_t g1
            have f2 := beq_f g2
            have f3 := beq_f g3
            have f4 := beq_f g4
            simp [RowSays, stepR, aheadR, firstR, bareR, quotedR, closingR, feedR, parE, parN, parB, evAdd, ev0, evRec, bitI, f1, f2, f3, f4, g1, g2, g3, g4]
          · refine ⟨rfl, 0, 1, 0, 0, 0, 3, 0, Lib.hid (below_row (onto_below w1 z) (by omega) _), Lib.hid ((S11.out.row _).range _ _ rfl), Lib.hid ?_⟩
            have f1 := beq_f g1
            have f2 := beq_t g2
            have f3 := beq_f g3
            have f4 := beq_f g4
            simp [RowSays, stepR, aheadR, firstR, bareR, quotedR, closingR, feedR, parE, parN, parB, evAdd, ev0, evRec, bitI, f1, f2, f3, f4, g1, g2, g3, g4]
          · refine ⟨rfl, 0, 1, 0, 0, 0, 3, 0, Lib.hid (below_row (onto_below w1 z) (by omega) _), Lib.hid ((S11.out.row _).range _ _ rfl), Lib.hid ?_⟩
            have f1 := beq_f g1
            have f2 := beq_f g2
            have f3 := beq_t g3
            have f4 := beq_f g4
            simp [RowSays, stepR, aheadR, firstR, bareR, quotedR, closingR, feedR, parE, parN, parB, evAdd, ev0, evRec, bitI, f1, f2, f3, f4, g1, g2, g3, g4]
          · refine ⟨rfl, 0, 1, 0, 0, 0, 3, 0, Lib.hid (below_row (onto_below w1 z) (by omega) _), Lib.hid ((S11.out.row _).range _ _ rfl), Lib.hid ?_⟩
            have f1 := beq_f g1
            have f2 := beq_f g2
            have f3 := beq_f g3
            have f4 := beq_t g4
            simp [RowSays, stepR, aheadR, firstR, bareR, quotedR, closingR, feedR, parE, parN, parB, evAdd, ev0, evRec, bitI, f1, f2, f3, f4, g1, g2, g3, g4]
          · refine ⟨rfl, 0, 1, 0, 0, 0, 3, 0, Lib.hid (below_row (onto_below w1 z) (by omega) _), Lib.hid ((S11.out.row _).range _ _ rfl), Lib.hid ?_⟩
            have f1 := beq_f g1
            have f2 := beq_f g2
            have f3 := beq_f g3
            have f4 := beq_f g4
            simp [RowSays, stepR, aheadR, firstR, bareR, quotedR, closingR, feedR, parE, parN, parB, evAdd, ev0, evRec, bitI, f1, f2, f3, f4, g1, g2, g3, g4]
        · have hG1 : G + 1 ≠ G := by omega
          have l12_0 : (onto w1 z).cell? ⟨G + 2, 0, none⟩ = some (.int .i64 0) := (S12.out.cell 0).trans rfl
          have l12_1 : (onto w1 z).cell? ⟨G + 2, 1, none⟩ = some (.int .i64 1) := (S12.out.cell 1).trans rfl
          have l12_2 : (onto w1 z).cell? ⟨G + 2, 2, none⟩ = some (.int .i64 0) := (S12.out.cell 2).trans rfl
          have l12_3 : (onto w1 z).cell? ⟨G + 2, 3, none⟩ = some (.int .i64 0) := (S12.out.cell 3).trans rfl
          have l12_4 : (onto w1 z).cell? ⟨G + 2, 4, none⟩ = some (.int .i64 0) := (S12.out.cell 4).trans rfl
          have l12_5 : (onto w1 z).cell? ⟨G + 2, 5, none⟩ = some (.int .i64 3) := (S12.out.cell 5).trans rfl
          have l12_6 : (onto w1 z).cell? ⟨G + 2, 6, none⟩ = some (.int .i64 0) := (S12.out.cell 6).trans rfl
          have l13_0 : (onto w1 z).cell? ⟨G + 3, 0, none⟩ = some (.int .i64 0) := (S13.out.cell 0).trans rfl
          have l13_1 : (onto w1 z).cell? ⟨G + 3, 1, none⟩ = some (.int .i64 0) := (S13.out.cell 1).trans rfl
          have l13_2 : (onto w1 z).cell? ⟨G + 3, 2, none⟩ = some (.int .i64 1) := (S13.out.cell 2).trans rfl
          have l13_3 : (onto w1 z).cell? ⟨G + 3, 3, none⟩ = some (.int .i64 0) := (S13.out.cell 3).trans rfl
          have l13_4 : (onto w1 z).cell? ⟨G + 3, 4, none⟩ = some (.int .i64 0) := (S13.out.cell 4).trans rfl
          have l13_5 : (onto w1 z).cell? ⟨G + 3, 5, none⟩ = some (.int .i64 1) := (S13.out.cell 5).trans rfl
          have l13_6 : (onto w1 z).cell? ⟨G + 3, 6, none⟩ = some (.int .i64 0) := (S13.out.cell 6).trans rfl
          have l14_0 : (onto w1 z).cell? ⟨G + 4, 0, none⟩ = some (.int .i64 0) := (S14.out.cell 0).trans rfl
          have l14_1 : (onto w1 z).cell? ⟨G + 4, 1, none⟩ = some (.int .i64 0) := (S14.out.cell 1).trans rfl
          have l14_2 : (onto w1 z).cell? ⟨G + 4, 2, none⟩ = some (.int .i64 0) := (S14.out.cell 2).trans rfl
          have l14_3 : (onto w1 z).cell? ⟨G + 4, 3, none⟩ = some (.int .i64 1) := (S14.out.cell 3).trans rfl
          have l14_4 : (onto w1 z).cell? ⟨G + 4, 4, none⟩ = some (.int .i64 0) := (S14.out.cell 4).trans rfl
          have l14_5 : (onto w1 z).cell? ⟨G + 4, 5, none⟩ = some (.int .i64 5) := (S14.out.cell 5).trans rfl
          have l14_6 : (onto w1 z).cell? ⟨G + 4, 6, none⟩ = some (.int .i64 0) := (S14.out.cell 6).trans rfl
          have l15_0 : (onto w1 z).cell? ⟨G + 5, 0, none⟩ = some (.int .i64 0) := (S15.out.cell 0).trans rfl
          have l15_1 : (onto w1 z).cell? ⟨G + 5, 1, none⟩ = some (.int .i64 0) := (S15.out.cell 1).trans rfl
          have l15_2 : (onto w1 z).cell? ⟨G + 5, 2, none⟩ = some (.int .i64 0) := (S15.out.cell 2).trans rfl
          have l15_3 : (onto w1 z).cell? ⟨G + 5, 3, none⟩ = some (.int .i64 1) := (S15.out.cell 3).trans rfl
          have l15_4 : (onto w1 z).cell? ⟨G + 5, 4, none⟩ = some (.int .i64 1) := (S15.out.cell 4).trans rfl
          have l15_5 : (onto w1 z).cell? ⟨G + 5, 5, none⟩ = some (.int .i64 0) := (S15.out.cell 5).trans rfl
          have l15_6 : (onto w1 z).cell? ⟨G + 5, 6, none⟩ = some (.int .i64 0) := (S15.out.cell 6).trans rfl
          go_wp2_with ((with_reducible show wpList _ _ _ _ _ _); refine wpList_store_stb S11.out rfl 57 (.tmp 11) _ rfl rfl _ rfl HI57.out rfl rfl ?_)
          go_meet
          have hkk := K.out
          rcases hkk with ⟨g1, g2, g3, g4, rfl⟩ | ⟨g1, g2, g3, g4, rfl⟩ | ⟨g1, g2, g3, g4, rfl⟩ | ⟨g1, g2, g3, g4, rfl⟩ | ⟨g1, g2, g3, g4, rfl⟩
          · refine ⟨rfl, 0, 1, 0, 0, 0, 3, 0, Lib.hid (below_row (onto_below w1 z) (by omega) _), Lib.hid ((S11.out.row _).range _ _ rfl), Lib.hid ?_⟩
            have f1 := beq_t g1
            have f2 := beq_f g2
            have f3 := beq_f g3
            have f4 := beq_f g4
            have o := HOO.out (by simp)
            simp [RowSays, stepR, aheadR, firstR, bareR, quotedR, closingR, feedR, parE, parN, parB, evAdd, ev0, evRec, bitI, f1, f2, f3, f4, g1, g2, g3, g4, o]
          · refine ⟨rfl, 0, 0, 1, 0, 0, 1, 0, Lib.hid (below_row (onto_below w1 z) (by omega) _), Lib.hid ((S11.out.row _).range _ _ rfl), Lib.hid ?_⟩
            have f1 := beq_f g1
            have f2 := beq_t g2
            have f3 := beq_f g3
            have f4 := beq_f g4
            have o := HOO.out (by simp)
            simp [RowSays, stepR, aheadR, firstR, bareR, quotedR, closingR, feedR, parE, parN, parB, evAdd, ev0, evRec, bitI, f1, f2, f3, f4, g1, g2, g3, g4, o]
          · refine ⟨rfl, 0, 0, 0, 1, 0, 5, 0, Lib.hid (below_row (onto_below w1 z) (by omega) _), Lib.hid ((S11.out.row _).range _ _ rfl), Lib.hid ?_⟩
            have f1 := beq_f g1
            have f2 := beq_f g2
            have f3 := beq_t g3
            have f4 := beq_f g4
            have o := HOO.out (by simp)
            simp [RowSays, stepR, aheadR, firstR, bareR, quotedR, closingR, feedR, parE, parN, parB, evAdd, ev0, evRec, bitI, f1, f2, f3, f4, g1, g2, g3, g4, o]
          · refine ⟨rfl, 0, 0, 0, 1, 1, 0, 0, Lib.hid (below_row (onto_below w1 z) (by omega) _), Lib.hid ((S11.out.row _).range _ _ rfl), Lib.hid ?_⟩
            have f1 := beq_f g1
            have f2 := beq_f g2
            have f3 := beq_f g3
            have f4 := beq_t g4
            have o := HOO.out (by simp)
            simp [RowSays, stepR, aheadR, firstR, bareR, quotedR, closingR, feedR, parE, parN, parB, evAdd, ev0, evRec, bitI, f1, f2, f3, f4, g1, g2, g3, g4, o]
          · refine ⟨rfl, 0, 0, 0, 0, 0, 0, 5, Lib.hid (below_row (onto_below w1 z) (by omega) _), Lib.hid ((S11.out.row _).range _ _ rfl), Lib.hid ?_⟩
            have f1 := beq_f g1
            have f2 := beq_f g2
            have f3 := beq_f g3
            have f4 := beq_f g4
            have o := HOO.out (by simp)
            simp [RowSays, stepR, aheadR, firstR, bareR, quotedR, closingR, feedR, parE, parN, parB, evAdd, ev0, evRec, bitI, f1, f2, f3, f4, g1, g2, g3, g4, o]
        · have hG1 : G + 1 ≠ G := by omega
          have l17_0 : (onto w1 z).cell? ⟨G + 7, 0, none⟩ = some (.int .i64 0) := (S17.out.cell 0).trans rfl
          have l17_1 : (onto w1 z).cell? ⟨G + 7, 1, none⟩ = some (.int .i64 0) := (S17.out.cell 1).trans rfl
          have l17_2 : (onto w1 z).cell? ⟨G + 7, 2, none⟩ = some (.int .i64 0) := (S17.out.cell 2).trans rfl
          have l17_3 : (onto w1 z).cell? ⟨G + 7, 3, none⟩ = some (.int .i64 0) := (S17.out.cell 3).trans rfl
          have l17_4 : (onto w1 z).cell? ⟨G + 7, 4, none⟩ = some (.int .i64 0) := (S17.out.cell 4).trans rfl
          have l17_5 : (onto w1 z).cell? ⟨G + 7, 5, none⟩ = some (.int .i64 0) := (S17.out.cell 5).trans rfl
          have l17_6 : (onto w1 z).cell? ⟨G + 7, 6, none⟩ = some (.int .i64 6) := (S17.out.cell 6).trans rfl
          go_wp2_with ((with_reducible show wpList _ _ _ _ _ _); refine wpList_store_stb S11.out rfl 57 (.tmp 11) _ rfl rfl _ rfl HI57.out rfl rfl ?_)
          go_meet
          have hkk := K.out
          rcases hkk with ⟨g1, g2, g3, g4, rfl⟩ | ⟨g1, g2, g3, g4, rfl⟩ | ⟨g1, g2, g3, g4, rfl⟩ | ⟨g1, g2, g3, g4, rfl⟩ | ⟨g1, g2, g3, g4, rfl⟩
          · refine ⟨rfl, 0, 0, 0, 0, 0, 0, 6, Lib.hid (below_row (onto_below w1 z) (by omega) _), Lib.hid ((S11.out.row _).range _ _ rfl), Lib.hid ?_⟩
            have f1 := beq_t g1
            have f2 := beq_f g2
            have f3 := beq_f g3
            have f4 := beq_f g4
            simp [RowSays, stepR, aheadR, firstR, bareR, quotedR, closingR, feedR, parE, parN, parB, evAdd, ev0, evRec, bitI, f1, f2, f3, f4, g1, g2, g3, g4]
          · refine ⟨rfl, 0, 0, 0, 0, 0, 0, 6, Lib.hid (below_row (onto_below w1 z) (by omega) _), Lib.hid ((S11.out.row _).range _ _ rfl), Lib.hid ?_⟩
            have f1 := beq_f g1
            have f2 := beq_t g2
            have f3 := beq_f g3
            have f4 := beq_f g4
            simp [RowSays, stepR, aheadR, firstR, bareR, quotedR, closingR, feedR, parE, parN, parB, evAdd, ev0, evRec, bitI, f1, f2, f3, f4, g1, g2, g3, g4]
          · refine ⟨rfl, 0, 0, 0, 0, 0, 0, 6, Lib.hid (below_row (onto_below w1 z) (by omega) _), Lib.hid ((S11.out.row _).range _ _ rfl), Lib.hid ?_⟩
            have f1 := beq_f g1
            have f2 := beq_f g2
            have f3 := beq_t g3
            have f4 := beq_f g4
            simp [RowSays, stepR, aheadR, firstR, bareR, quotedR, closingR, feedR, parE, parN, parB, evAdd, ev0, evRec, bitI, f1, f2, f3, f4, g1, g2, g3, g4]
          · refine ⟨rfl, 0, 0, 0, 0, 1, 0, 0, Lib.hid (below_row (onto_below w1 z) (by omega) _), Lib.hid ((S11.out.row _).range _ _ rfl), Lib.hid ?_⟩
            have f1 := beq_f g1
            have f2 := beq_f g2
            have f3 := beq_f g3
            have f4 := beq_t g4
            simp [RowSays, stepR, aheadR, firstR, bareR, quotedR, closingR, feedR, parE, parN, parB, evAdd, ev0, evRec, bitI, f1, f2, f3, f4, g1, g2, g3, g4]
          · refine ⟨rfl, 0, 0, 0, 0, 0, 0, 6, Lib.hid (below_row (onto_below w1 z) (by omega) _), Lib.hid ((S11.out.row _).range _ _ rfl), Lib.hid ?_⟩
            have f1 := beq_f g1
            have f2 := beq_f g2
            have f3 := beq_f g3
            have f4 := beq_f g4
            simp [RowSays, stepR, aheadR, firstR, bareR, quotedR, closingR, feedR, parE, parN, parB, evAdd, ev0, evRec, bitI, f1, f2, f3, f4, g1, g2, g3, g4]
        · have hG1 : G + 1 ≠ G := by omega
          have l17_0 : (onto w1 z).cell? ⟨G + 7, 0, none⟩ = some (.int .i64 0) := (S17.out.cell 0).trans rfl
          have l17_1 : (onto w1 z).cell? ⟨G + 7, 1, none⟩ = some (.int .i64 0) := (S17.out.cell 1).trans rfl
          have l17_2 : (onto w1 z).cell? ⟨G + 7, 2, none⟩ = some (.int .i64 0) := (S17.out.cell 2).trans rfl
          have l17_3 : (onto w1 z).cell? ⟨G + 7, 3, none⟩ = some (.int .i64 0) := (S17.out.cell 3).trans rfl
          have l17_4 : (onto w1 z).cell? ⟨G + 7, 4, none⟩ = some (.int .i64 0) := (S17.out.cell 4).trans rfl
          have l17_5 : (onto w1 z).cell? ⟨G + 7, 5, none⟩ = some (.int .i64 0) := (S17.out.cell 5).trans rfl
          have l17_6 : (onto w1 z).cell? ⟨G + 7, 6, none⟩ = some (.int .i64 6) := (S17.out.cell 6).trans rfl
          have l10_0 : (onto w1 z).cell? ⟨G, 0, none⟩ = some (.int .i64 0) := (S10.out.cell 0).trans rfl
          have l10_1 : (onto w1 z).cell? ⟨G, 1, none⟩ = some (.int .i64 0) := (S10.out.cell 1).trans rfl
          have l10_2 : (onto w1 z).cell? ⟨G, 2, none⟩ = some (.int .i64 0) := (S10.out.cell 2).trans rfl
          have l10_3 : (onto w1 z).cell? ⟨G, 3, none⟩ = some (.int .i64 0) := (S10.out.cell 3).trans rfl
          have l10_4 : (onto w1 z).cell? ⟨G, 4, none⟩ = some (.int .i64 0) := (S10.out.cell 4).trans rfl
          have l10_5 : (onto w1 z).cell? ⟨G, 5, none⟩ = some (.int .i64 0) := (S10.out.cell 5).trans rfl
          have l10_6 : (onto w1 z).cell? ⟨G, 6, none⟩ = some (.int .i64 0) := (S10.out.cell 6).trans rfl
          go_wp2_with ((with_reducible show wpList _ _ _ _ _ _); refine wpList_store_stb S11.out rfl 57 (.tmp 11) _ rfl rfl _ rfl HI57.out rfl rfl ?_)
          go_meet
          have hkk := K.out
          rcases hkk with ⟨g1, g2, g3, g4, rfl⟩ | ⟨g1, g2, g3, g4, rfl⟩ | ⟨g1, g2, g3, g4, rfl⟩ | ⟨g1, g2, g3, g4, rfl⟩ | ⟨g1, g2, g3, g4, rfl⟩
          · refine ⟨rfl, 0, 0, 0, 0, 0, 0, 6, Lib.hid (below_row (onto_below w1 z) (by omega) _), Lib.hid ((S11.out.row _).range _ _ rfl), Lib.hid ?_⟩
            have f1 := beq_t g1
            have f2 := beq_f g2
            have f3 := beq_f g3
            have f4 := beq_f g4
            simp [RowSays, stepR, aheadR, firstR, bareR, quotedR, closingR, feedR, parE, parN, parB, evAdd, ev0, evRec, bitI, f1, f2, f3, f4, g1, g2, g3, g4]
          · refine ⟨rfl, 0, 0, 0, 0, 0, 0, 6, Lib.hid (below_row (onto_below w1 z) (by omega) _), Lib.hid ((S11.out.row _).range _ _ rfl), Lib.hid ?_⟩
            have f1 := beq_f g1
            have f2 := beq_t g2
            have f3 := beq_f g3
            have f4 := beq_f g4
            simp [RowSays, stepR, aheadR, firstR, bareR, quotedR, closingR, feedR, parE, parN, parB, evAdd, ev0, evRec, bitI, f1, f2, f3, f4, g1, g2, g3, g4]
          · refine ⟨rfl, 0, 0, 0, 0, 0, 0, 6, Lib.hid (below_row (onto_below w1 z) (by omega) _), Lib.hid ((S11.out.row _).range _ _ rfl), Lib.hid ?_⟩
            have f1 := beq_f g1
            have f2 := beq_f g2
            have f3 := beq_t g3
            have f4 := beq_f g4
            simp [RowSays, stepR, aheadR, firstR, bareR, quotedR, closingR, feedR, parE, parN, parB, evAdd, ev0, evRec, bitI, f1, f2, f3, f4, g1, g2, g3, g4]
          · refine ⟨rfl, 0, 0, 0, 0, 0, 0, 0, Lib.hid (below_row (onto_below w1 z) (by omega) _), Lib.hid ((S11.out.row _).range _ _ rfl), Lib.hid ?_⟩
            have f1 := beq_f g1
            have f2 := beq_f g2
            have f3 := beq_f g3
            have f4 := beq_t g4
            simp [RowSays, stepR, aheadR, firstR, bareR, quotedR, closingR, feedR, parE, parN, parB, evAdd, ev0, evRec, bitI, f1, f2, f3, f4, g1, g2, g3, g4]
          · refine ⟨rfl, 0, 0, 0, 0, 0, 0, 6, Lib.hid (below_row (onto_below w1 z) (by omega) _), Lib.hid ((S11.out.row _).range _ _ rfl), Lib.hid ?_⟩
            have f1 := beq_f g1
            have f2 := beq_f g2
            have f3 := beq_f g3
            have f4 := beq_f g4
            simp [RowSays, stepR, aheadR, firstR, bareR, quotedR, closingR, feedR, parE, parN, parB, evAdd, ev0, evRec, bitI, f1, f2, f3, f4, g1, g2, g3, g4]
      case rest =>
        obtain ⟨rfl, X0, X1, X2, X3, X4, X5, X6, HBB, HRR, HSS⟩ := hcut
        have HBE := Lib.hid (O1.out.trans (HBB.out.mono O1.out.size))
        have hs2 : w.heap.size + 1 < wc.heap.size := Nat.lt_of_lt_of_le hs HBB.out.size
        replace m0 : wc.cell? ⟨w.heap.size + 1, 0, none⟩ = some (.int .i64 0) := (HBB.out.cell (p := ⟨w.heap.size + 1, 0, none⟩) hs).trans m0
        replace f0 : wc.frozen? ⟨w.heap.size + 1, 0, none⟩ = false := (HBB.out.frozen (p := ⟨w.heap.size + 1, 0, none⟩) hs).trans f0
        replace m1 : wc.cell? ⟨w.heap.size + 1, 1, none⟩ = some (.int .i64 0) := (HBB.out.cell (p := ⟨w.heap.size + 1, 1, none⟩) hs).trans m1
        replace f1 : wc.frozen? ⟨w.heap.size + 1, 1, none⟩ = false := (HBB.out.frozen (p := ⟨w.heap.size + 1, 1, none⟩) hs).trans f1
        replace m2 : wc.cell? ⟨w.heap.size + 1, 2, none⟩ = some (.int .i64 0) := (HBB.out.cell (p := ⟨w.heap.size + 1, 2, none⟩) hs).trans m2
        replace f2 : wc.frozen? ⟨w.heap.size + 1, 2, none⟩ = false := (HBB.out.frozen (p := ⟨w.heap.size + 1, 2, none⟩) hs).trans f2
        replace m3 : wc.cell? ⟨w.heap.size + 1, 3, none⟩ = some (.int .i64 0) := (HBB.out.cell (p := ⟨w.heap.size + 1, 3, none⟩) hs).trans m3
        replace f3 : wc.frozen? ⟨w.heap.size + 1, 3, none⟩ = false := (HBB.out.frozen (p := ⟨w.heap.size + 1, 3, none⟩) hs).trans f3
        replace m4 : wc.cell? ⟨w.heap.size + 1, 4, none⟩ = some (.int .i64 0) := (HBB.out.cell (p := ⟨w.heap.size + 1, 4, none⟩) hs).trans m4
        replace f4 : wc.frozen? ⟨w.heap.size + 1, 4, none⟩ = false := (HBB.out.frozen (p := ⟨w.heap.size + 1, 4, none⟩) hs).trans f4
        replace m5 : wc.cell? ⟨w.heap.size + 1, 5, none⟩ = some (.int .i64 0) := (HBB.out.cell (p := ⟨w.heap.size + 1, 5, none⟩) hs).trans m5
        replace f5 : wc.frozen? ⟨w.heap.size + 1, 5, none⟩ = false := (HBB.out.frozen (p := ⟨w.heap.size + 1, 5, none⟩) hs).trans f5
        have hb2 : ∀ a b, Below wc.heap.size wc ((wc.alloc a).alloc b) := fun a b => up_alloc (up_alloc (Below.refl _ _) _) _
        have p0 : ∀ a b, ((wc.alloc a).alloc b).cell? ⟨w.heap.size + 1, 0, none⟩ = some (.int .i64 0) := fun a b => ((hb2 a b).cell (p := ⟨w.heap.size + 1, 0, none⟩) hs2).trans m0
        have q0 : ∀ a b, ((wc.alloc a).alloc b).frozen? ⟨w.heap.size + 1, 0, none⟩ = false := fun a b => ((hb2 a b).frozen (p := ⟨w.heap.size + 1, 0, none⟩) hs2).trans f0
        have p1 : ∀ a b, ((wc.alloc a).alloc b).cell? ⟨w.heap.size + 1, 1, none⟩ = some (.int .i64 0) := fun a b => ((hb2 a b).cell (p := ⟨w.heap.size + 1, 1, none⟩) hs2).trans m1
        have q1 : ∀ a b, ((wc.alloc a).alloc b).frozen? ⟨w.heap.size + 1, 1, none⟩ = false := fun a b => ((hb2 a b).frozen (p := ⟨w.heap.size + 1, 1, none⟩) hs2).trans f1
        have p2 : ∀ a b, ((wc.alloc a).alloc b).cell? ⟨w.heap.size + 1, 2, none⟩ = some (.int .i64 0) := fun a b => ((hb2 a b).cell (p := ⟨w.heap.size + 1, 2, none⟩) hs2).trans m2
        have q2 : ∀ a b, ((wc.alloc a).alloc b).frozen? ⟨w.heap.size + 1, 2, none⟩ = false := fun a b => ((hb2 a b).frozen (p := ⟨w.heap.size + 1, 2, none⟩) hs2).trans f2
        have p3 : ∀ a b, ((wc.alloc a).alloc b).cell? ⟨w.heap.size + 1, 3, none⟩ = some (.int .i64 0) := fun a b => ((hb2 a b).cell (p := ⟨w.heap.size + 1, 3, none⟩) hs2).trans m3
        have q3 : ∀ a b, ((wc.alloc a).alloc b).frozen? ⟨w.heap.size + 1, 3, none⟩ = false := fun a b => ((hb2 a b).frozen (p := ⟨w.heap.size + 1, 3, none⟩) hs2).trans f3
        have p4 : ∀ a b, ((wc.alloc a).alloc b).cell? ⟨w.heap.size + 1, 4, none⟩ = some (.int .i64 0) := fun a b => ((hb2 a b).cell (p := ⟨w.heap.size + 1, 4, none⟩) hs2).trans m4
        have q4 : ∀ a b, ((wc.alloc a).alloc b).frozen? ⟨w.heap.size + 1, 4, none⟩ = false := fun a b => ((hb2 a b).frozen (p := ⟨w.heap.size + 1, 4, none⟩) hs2).trans f4
        have p5 : ∀ a b, ((wc.alloc a).alloc b).cell? ⟨w.heap.size + 1, 5, none⟩ = some (.int .i64 0) := fun a b => ((hb2 a b).cell (p := ⟨w.heap.size + 1, 5, none⟩) hs2).trans m5
        have q5 : ∀ a b, ((wc.alloc a).alloc b).frozen? ⟨w.heap.size + 1, 5, none⟩ = false := fun a b => ((hb2 a b).frozen (p := ⟨w.heap.size + 1, 5, none⟩) hs2).trans f5
        clear hb2
        clear HBB HOO HCS S10 S12 S13 S14 S15 S16 S17 S11
        have hcb : 0 ≤ c ∧ c ≤ 4 := by rcases K.out with ⟨_, _, _, _, rfl⟩ | ⟨_, _, _, _, rfl⟩ | ⟨_, _, _, _, rfl⟩ | ⟨_, _, _, _, rfl⟩ | ⟨_, _, _, _, rfl⟩ <;> decide
        obtain ⟨cn, rfl⟩ : ∃ cn : Nat, c = cn := ⟨c.toNat, by omega⟩
        have hcn : cn < 5 := by omega
        have hrr := HRR.out
        rw [Int.toNat_natCast] at hrr
        clear hcb K HRR
        have c0 : wc.cell? ⟨G + 1, cn * 7, none⟩ = some (.int .i64 X0) := hrr 0 _ rfl
        have c1 : wc.cell? ⟨G + 1, cn * 7 + 1, none⟩ = some (.int .i64 X1) := hrr 1 _ rfl
        have c2 : wc.cell? ⟨G + 1, cn * 7 + 2, none⟩ = some (.int .i64 X2) := hrr 2 _ rfl
        have c3 : wc.cell? ⟨G + 1, cn * 7 + 3, none⟩ = some (.int .i64 X3) := hrr 3 _ rfl
        have c4 : wc.cell? ⟨G + 1, cn * 7 + 4, none⟩ = some (.int .i64 X4) := hrr 4 _ rfl
        have c5 : wc.cell? ⟨G + 1, cn * 7 + 5, none⟩ = some (.int .i64 X5) := hrr 5 _ rfl
        have c6 : wc.cell? ⟨G + 1, cn * 7 + 6, none⟩ = some (.int .i64 X6) := hrr 6 _ rfl
        clear hrr
        have hb3 : ∀ a b, Below w.heap.size w ((wc.alloc a).alloc b) := fun a b => HBE.out.trans ((up_alloc (up_alloc (Below.refl wc.heap.size wc) a) b).mono HBE.out.size)
        have HB3 := Lib.hid hb3
        clear hb3
        go_upto_if 134 with fail
        obtain ⟨Y, hY⟩ : ∃ Y, Y = wc := ⟨_, rfl⟩
        subst hY
        go_cut [18, 19] (fun s18 s19 wx => ∃ (G2 : Nat) (B : Int), s18 = .pointer (some ⟨G2, 0, none⟩) ∧ s19 = .pointer (some ⟨G2 + 1, 0, none⟩) ∧ Hid (Below w.heap.size w wx) ∧ w.heap.size + 1 < G2 ∧ Hid (wx.cell? ⟨G2, 5, none⟩ = some (.int .i64 X5) ∧ wx.cell? ⟨G2, 6, none⟩ = some (.int .i64 X6)) ∧
          Hid (wx.cell? ⟨G2 + 1, 0, none⟩ = some (.int .i64 X0) ∧ wx.cell? ⟨G2 + 1, 1, none⟩ = some (.int .i64 X1) ∧ wx.cell? ⟨G2 + 1, 2, none⟩ = some (.int .i64 X2) ∧ wx.cell? ⟨G2 + 1, 3, none⟩ = some (.int .i64 X3) ∧ wx.cell? ⟨G2 + 1, 4, none⟩ = some (.int .i64 X4) ∧ wx.cell? ⟨G2 + 1, 5, none⟩ = some (.int .i64 B)) ∧ Hid ((if (X1 == 1) = true then b else 0) = B) ∧
          Hid ((wx.cell? ⟨w.heap.size + 1, 0, none⟩ = some (.int .i64 0) ∧ wx.cell? ⟨w.heap.size + 1, 1, none⟩ = some (.int .i64 0) ∧ wx.cell? ⟨w.heap.size + 1, 2, none⟩ = some (.int .i64 0) ∧ wx.cell? ⟨w.heap.size + 1, 3, none⟩ = some (.int .i64 0) ∧ wx.cell? ⟨w.heap.size + 1, 4, none⟩ = some (.int .i64 0) ∧ wx.cell? ⟨w.heap.size + 1, 5, none⟩ = some (.int .i64 0)) ∧
            (wx.frozen? ⟨w.heap.size + 1, 0, none⟩ = false ∧ wx.frozen? ⟨w.heap.size + 1, 1, none⟩ = false ∧ wx.frozen? ⟨w.heap.size + 1, 2, none⟩ = false ∧ wx.frozen? ⟨w.heap.size + 1, 3, none⟩ = false ∧ wx.frozen? ⟨w.heap.size + 1, 4, none⟩ = false ∧ wx.frozen? ⟨w.heap.size + 1, 5, none⟩ = false)))
        case first =>
          cases hX : (X1 == 1)
          all_goals
            go_wp2_with fail
            go_meet
            first | (have gX := beq_t hX) | (have gX := beq_f hX)
            refine ⟨Y.heap.size, _, rfl, rfl, Lib.hid (HB3.out _ _), hs2, Lib.hid ⟨?_, ?_⟩, Lib.hid ⟨?_, ?_, ?_, ?_, ?_, ?_⟩, Lib.hid rfl, Lib.hid ⟨⟨p0 _ _, p1 _ _, p2 _ _, p3 _ _, p4 _ _, p5 _ _⟩, ⟨q0 _ _, q1 _ _, q2 _ _, q3 _ _, q4 _ _, q5 _ _⟩⟩⟩
            all_goals simp [go_sem, gX]
        case rest =>
          obtain ⟨G2, B, rfl, rfl, HBB2, hG2, H18, H19, HBV, HRES⟩ := hcut
          obtain ⟨h5, h6'⟩ := H18.out
          obtain ⟨k0, k1, k2, k3, k4, k5⟩ := H19.out
          obtain ⟨⟨n0, n1, n2, n3, n4, n5⟩, ⟨z0, z1, z2, z3, z4, z5⟩⟩ := HRES.out
          have hne1 : ¬ G2 = w.heap.size + 1 := by omega
          have hne2 : ¬ w.heap.size + 1 = G2 := by omega
          have hne3 : ¬ G2 + 1 = w.heap.size + 1 := by omega
          have hne4 : ¬ w.heap.size + 1 = G2 + 1 := by omega
          have hne5 : ¬ G2 = w.heap.size := by omega
          have hne6 : ¬ w.heap.size = G2 := by omega
          have HS2 := Lib.hid HSS.out
          clear p0 p1 p2 p3 p4 p5 q0 q1 q2 q3 q4 q5 c0 c1 c2 c3 c4 c5 c6 m0 m1 m2 m3 m4 m5 f0 f1 f2 f3 f4 f5 H18 H19 HRES HBE HB3 hs hs2 HI57 HI56 O1
          go_wp2_with fail
          go_region
          go_wp2_with fail
          obtain ⟨r0, r1, r2, r3, r4, r5, r6, r7⟩ := HS2.out
          rw [HBV.out] at r7
          have hbb := HBB2.out
          refine bodyPost_ret ?_ rfl ⟨rfl, ?_⟩
          · simp [results, Try.results11, go_sem, n0, n1, n2, n3, n4, n5, r0, r1, r2, r3, r4, r5, r6, r7]
          · (repeat (first | (with_reducible exact hbb) | with_reducible refine up_alloc ?_ _ | with_reducible refine up_drew ?_ | with_reducible refine up_set ?_ (by first | (simp; done) | (simp; omega)) _))
end Go.Proofs.Ytpnjpcknlmpaiaa

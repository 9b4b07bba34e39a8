/- Layer 10: the program's Line and Table. -/
import Derived.Test.YtaoncnlhilpgfaaDoorLwb
import Derived.Test.YtaoncnlhilpgfaaDoorQrl
namespace Go.Proofs.YtaoncnlhilpgfaaDoor
open Go.ChangeShapes Go.WideShapes Go.ChangeAt Go.RowKit
set_option linter.unusedVariables false
set_option linter.unusedSimpArgs false

set_option maxRecDepth 100000 in
set_option maxHeartbeats 1600000 in
theorem line_says : LineSays := by
  intro d q e r A n c fi w d0 d1 q0 q1 hn hsz hin
  have HSZ := Lib.hid hsz
  obtain ⟨W0, hW0⟩ : ∃ W0, W0 = w.alloc (.cells #[.int .u8 d, .int .u8 q, .int .i64 e] 23) := ⟨_, rfl⟩
  have HX0 := Lib.hid (show StB W0 w.heap.size 23 #[.int .u8 d, .int .u8 q, .int .i64 e] by rw [hW0]; exact StB.new _ _ _)
  have HB0 := Lib.hid (show Below w.heap.size w W0 by rw [hW0]; exact up_alloc (Below.refl _ w) _)
  have k0 : W0.cell? ⟨w.heap.size, 0, none⟩ = some (.int .u8 d) := HX0.out.cell 0
  have k1 : W0.cell? ⟨w.heap.size, 1, none⟩ = some (.int .u8 q) := HX0.out.cell 1
  have k2 : W0.cell? ⟨w.heap.size, 2, none⟩ = some (.int .i64 e) := HX0.out.cell 2
  cases hr : rightB d q e
  · have HE := Lib.hid (show lineE d q e r = 1 by unfold lineE; rw [hr]; rfl)
    have HS := Lib.hid (show lineS d q e fi r = ⟨#[]⟩ by unfold lineS; rw [HE.out]; rfl)
    have HC := Lib.hid (check_no d q e d0 d1 q0 q1 hr W0)
    rw [HE.out, HS.out]
    clear HE HS hr hsz
    go_enter Tryd.func28, Tryd.ntmps28
    go_wp2_with fail
    rw [← hW0]
    clear hW0
    refine (above HC.out).mono ?_
    rintro x _ ⟨rfl, y, rfl⟩
    go_wp2_with fail
    exact bodyPost_ret (v := .tuple #[.string ⟨#[]⟩, .int .i64 1]) (by simp [results, Tryd.results28, go_sem]) rfl ⟨rfl, up_onto' HB0.out y⟩
  · have HC := Lib.hid (check_yes d q e d0 d1 q0 q1 hr W0)
    have HR := Lib.hid hr
    obtain ⟨M, hM⟩ : ∃ M, mayN r = M := ⟨_, rfl⟩
    have HM := Lib.hid hM
    have HE := Lib.hid (show lineE d q e r = M by unfold lineE; rw [hr, ← hM]; rfl)
    have HOK := Lib.hid (show ∀ s ∈ r, s.size ≤ maxLen from fun x hx => by have := lenL_mem hx; have := HSZ.out; unfold maxLen; omega)
    have HWR := Lib.hid (fun (W : World) (hb : Below w.heap.size w W) => writable_any A n c r hn M HM W (Lib.hid (hin.out.below hb)) HOK)
    rw [HE.out]
    by_cases hM0 : M = 0
    · have HS := Lib.hid (show lineS d q e fi r = lineO d q e fi r by unfold lineS; rw [HE.out, if_pos hM0])
      have HLI := Lib.hid (fun (W : World) (hb : Below w.heap.size w W) => line_own d q e d0 d1 q0 q1 HR.out r A n c fi W hn HSZ.out (Lib.hid (hin.out.below hb)))
      obtain ⟨T, hT⟩ : ∃ T, lineO d q e fi r = T := ⟨_, rfl⟩
      rw [HS.out, hT]
      rw [hT] at HLI
      have hMb : (M != 0) = false := by simpa using hM0
      have hM00 : Value.int IntKind.i64 M = .int .i64 0 := by rw [hM0]
      have HM00 := Lib.hid hM0
      clear HS hT hM hr hsz hM0 hM00 HE
      go_enter Tryd.func28, Tryd.ntmps28
      go_wp2_with fail
      rw [← hW0]
      clear hW0
      refine HC.out.mono ?_
      rintro x W1 ⟨rfl, hb1⟩
      have HB1 := Lib.hid (HB0.out.trans (hb1.mono HB0.out.size))
      have HX1 := Lib.hid (HX0.out.below hb1)
      clear k0 k1 k2 hb1
      go_wp2_with fail
      refine (HWR.out W1 HB1.out).mono ?_
      rintro x W2 ⟨rfl, hb2⟩
      have HB2 := Lib.hid (HB1.out.trans (hb2.mono HB1.out.size))
      have HX2 := Lib.hid (HX1.out.below hb2)
      have k0 : W2.cell? ⟨w.heap.size, 0, none⟩ = some (.int .u8 d) := HX2.out.cell 0
      have k1 : W2.cell? ⟨w.heap.size, 1, none⟩ = some (.int .u8 q) := HX2.out.cell 1
      have k2 : W2.cell? ⟨w.heap.size, 2, none⟩ = some (.int .i64 e) := HX2.out.cell 2
      clear hb2
      go_wp2_with fail
      refine (above (HLI.out W2 HB2.out)).mono ?_
      rintro x _ ⟨rfl, y3, rfl⟩
      go_wp2_with fail
      exact bodyPost_ret (v := .tuple #[.string T, .int .i64 0]) (by simp [results, Tryd.results28, go_sem]) rfl ⟨by rw [HM00.out], up_onto' HB2.out y3⟩
    · have HS := Lib.hid (show lineS d q e fi r = ⟨#[]⟩ by unfold lineS; rw [HE.out, if_neg hM0])
      rw [HS.out]
      have hMb : (M != 0) = true := by simpa using hM0
      clear HS hM hr hsz hM0 HE
      go_enter Tryd.func28, Tryd.ntmps28
      go_wp2_with fail
      rw [← hW0]
      clear hW0
      refine HC.out.mono ?_
      rintro x W1 ⟨rfl, hb1⟩
      have HB1 := Lib.hid (HB0.out.trans (hb1.mono HB0.out.size))
      clear k0 k1 k2 hb1
      go_wp2_with fail
      refine (above (HWR.out W1 HB1.out)).mono ?_
      rintro x _ ⟨rfl, y2, rfl⟩
      go_wp2_with fail
      exact bodyPost_ret (v := .tuple #[.string ⟨#[]⟩, .int .i64 M]) (by simp [results, Tryd.results28, go_sem]) rfl ⟨rfl, up_onto' HB1.out y2⟩

end Go.Proofs.YtaoncnlhilpgfaaDoor

/- Layer 12: alive of the statements. -/
import Derived.Test.YtoeanbfemgmgnaaGreatDoorTrh
import Derived.Test.YtoeanbfemgmgnaaGreatDoorZv
namespace Go.Proofs.YtoeanbfemgmgnaaGreatDoor
open Go.ChangeShapes Go.WideShapes Go.ChangeAt Go.RowKit
set_option linter.unusedVariables false
set_option linter.unusedSimpArgs false

theorem al_par : parW 44 34 1 9 9 9 false ⟨#[97, 44, 34, 98, 34, 10]⟩ = ⟨[[⟨#[97]⟩, ⟨#[98]⟩]], 0, 0⟩ := by kernel_rfl
set_option maxHeartbeats 3200000 in
theorem alive_any : AliveSays := fun w => by
  have HE := Lib.hid al_par
  have hfe := fun w => flt_eq 0 0 0 0 w
  rw [show (((0 : Int) == 0) && ((0 : Int) == 0)) = true from rfl] at hfe
  go_enter Tryz.func7, Tryz.ntmps7
  go_wp2_with fail
  refine (parse_any (by decide) (by omega) (by omega) (by omega) (by omega) _ HE w).mono ?_
  rintro x w1 ⟨C, c, V, rfl, HX, HB⟩
  go_upto_region 2 with fail
  obtain ⟨A, a, hva, hra⟩ := HX.out.2.2 0 _ rfl
  obtain ⟨ca, rfl, hca⟩ := HX.out.1.at_ hva
  obtain ⟨W2, hW2⟩ : ∃ W2, w1.alloc (.cells #[.int .i64 0, .int .i64 0] 45) = W2 := ⟨_, rfl⟩
  have HB2 := Lib.hid (show Below w.heap.size w W2 by rw [← hW2]; exact up_alloc HB.out _)
  have hb12 : Below w1.heap.size w1 W2 := by rw [← hW2]; exact up_alloc (Below.refl _ w1) _
  have x0 : W2.cell? ⟨w1.heap.size, 0, none⟩ = some (.int .i64 0) := by rw [← hW2]; simp [go_sem]
  have x1 : W2.cell? ⟨w1.heap.size, 1, none⟩ = some (.int .i64 0) := by rw [← hW2]; simp [go_sem]
  have za := mem_cell hb12 hca
  have za' : W2.cell? ca = some (.slice A 2 a) := by have := za; simpa [Addr.add] using this
  obtain ⟨da, rfl, hda⟩ := (hra.below hb12).at_ (show (strs [(⟨#[97]⟩ : ByteArray), ⟨#[98]⟩])[1]? = some (.string ⟨#[98]⟩) from rfl)
  have hda' : W2.cell? { block := da.block, off := da.off + 1 } = some (.string ⟨#[98]⟩) := hda
  rw [hW2]
  clear hW2 hva hra hca HX HB hb12
  go_wp2_with fail
  go_ret
  exact ⟨rfl, HB2.out⟩
end Go.Proofs.YtoeanbfemgmgnaaGreatDoor

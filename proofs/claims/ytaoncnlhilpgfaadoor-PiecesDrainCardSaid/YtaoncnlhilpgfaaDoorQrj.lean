/- Layer 10: what the program's Lines and Size answer (premises); the walk of WriteTables. -/
import Derived.Test.YtaoncnlhilpgfaaDoorQrf
import Derived.Test.YtaoncnlhilpgfaaDoorQrl
import Derived.Test.YtaoncnlhilpgfaaDoorZk
import Derived.Deep.DeepCutAuto
import Derived.Deep.CutRange
import Derived.Deep.CutBlock
namespace Go.Proofs.YtaoncnlhilpgfaaDoor
open Go.ChangeShapes Go.WideShapes Go.ChangeAt Go.RowKit
set_option linter.unusedVariables false
set_option linter.unusedSimpArgs false
attribute [local go_sem] Oper.semAt_some

theorem end_box {w W : World} {rb D : Nat} (y : Above W) (HRW : Hid (StB W rb 4 #[.bool false])) (HKD : Hid (W.heap[D]? = some (.deferred (some [])))) (HDN : Hid (D ≠ rb)) (HDW : Hid (w.heap.size ≤ D)) (HRB : Hid (w.heap.size ≤ rb)) (HBW : Hid (Below w.heap.size w W)) :
    ((onto W y).setCell ⟨rb, 0, none⟩ (.bool true)).heap[D]? = some (.deferred (some [])) ∧ (((onto W y).setCell ⟨rb, 0, none⟩ (.bool true)).putObj D (.deferred none)).cell? ⟨rb, 0, none⟩ = some (.bool true) ∧
    Below w.heap.size w (((onto W y).setCell ⟨rb, 0, none⟩ (.bool true)).putObj D (.deferred none)) := by
  have T1 := (Touch.of_below (onto_below W y) (fun k => k = rb)).then_set (p := ⟨rb, 0, none⟩) (.inl rfl) (.bool true)
  have hK' := (T1.block D (Array.getElem?_eq_some_iff.1 HKD.out).1 HDN.out).trans HKD.out
  have s8 := (HRW.out.below (onto_below W y)).set_ 0 (.bool true)
  have s9 := s8.touch (Touch.putObj _ D (.deferred none)) (fun e => HDN.out e.symm)
  have hb1 := HBW.out.trans (T1.below HBW.out.size (fun k hk => by have : k = rb := hk; have := HRB.out; omega))
  have hb2 := hb1.trans ((Touch.putObj ((onto W y).setCell ⟨rb, 0, none⟩ (.bool true)) D (.deferred none)).below hb1.size (fun k hk => by have : k = D := hk; have := HDW.out; omega))
  exact ⟨hK', s9.cell 0, hb2⟩

end Go.Proofs.YtaoncnlhilpgfaaDoor

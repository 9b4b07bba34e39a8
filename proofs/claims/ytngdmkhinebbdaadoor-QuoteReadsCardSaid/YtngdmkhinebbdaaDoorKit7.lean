/- Words over any program: a whole row (array) by value, out of and into a block whose cells are known (StB), one operation at a time. No condition. -/
import Derived.Test.YtngdmkhinebbdaaDoorKit4
import Derived.Deep.WholeRow
import Derived.Deep.MidRow
namespace Go.Proofs.YtngdmkhinebbdaaDoor
open Go.RowKit
set_option linter.unusedVariables false

section
variable {P : Program} {w w' : World} {g : Nat} {t : TypeId} {cs : Array Value}
theorem StB.range (h : StB w g t cs) (o : Nat) (l : List Value) (hl : (cs.toList.drop o).take l.length = l) : w.rangeAt g o l := fun j v hv => by
  rw [h.cell]
  have hj : j < l.length := (List.getElem?_eq_some_iff.1 hv).1
  rw [← hl, List.getElem?_take_of_lt hj, List.getElem?_drop] at hv
  simpa using hv
theorem StB.row (h : StB w g t cs) (c' : Array Value) : StB (w.setRow g c') g t c' := setRow_heap w g cs c' t (0, 0) h
theorem StB.rowOff (h : StB w g t cs) {k : Nat} (hk : k ≠ g) (c' : Array Value) : StB (w.setRow k c') g t cs := by
  unfold StB at h ⊢
  simp only [World.setRow, Array.getElem?_modify]
  rw [if_neg hk]; exact h
theorem StB.alloc (h : StB w g t cs) (o : Obj) : StB (w.alloc o) g t cs := h.below ((Below.refl _ _).alloc (Nat.le_refl _) o)
theorem StB.made {g : Nat} (w : World) (hg : g = w.heap.size) (t : TypeId) (cs : Array Value) : StB (w.alloc (.cells cs t)) g t cs := by rw [hg]; exact StB.new w t cs
theorem below_row {B : Nat} {a w : World} (h : Below B a w) {k : Nat} (hk : B ≤ k) (c' : Array Value) : Below B a (w.setRow k c') :=
  ⟨h.os, h.tape, h.output, by simpa [World.setRow] using h.size, fun j hj => by
    rw [← h.block j hj]
    simp only [World.setRow, Array.getElem?_modify]
    rw [if_neg (by omega)]⟩
theorem wpList_load_stb (h : StB w g t cs) {ops : Array Oper} {rest : List Oper} {op : Oper} {a : Act} {Q : Exit → Act → World → Prop} (hgd : op.guard = none) (ty : TypeId) (x : Operand) (ho : op.op = .load ty x)
    (hx : a.eval x = .pointer (some ⟨g, 0, none⟩)) (d : TypeDesc) (hu : P.underlying ty = some d) (hd : d.isRow = true) (hi : (P.info? ty).map (·.size) = some cs.size)
    (hk : wpList P ops Q rest (a.put op.dst (.agg cs)) w) : wpList P ops Q (op :: rest) a w :=
  wpList_load_mid hgd ty x ho g 0 hx cs.toList d (h.range 0 cs.toList (by rw [List.drop_zero]; exact List.take_length)) hu hd (by simpa using hi) (by simpa using hk)
theorem wpList_store_stb (h : StB w g t cs) {ops : Array Oper} {rest : List Oper} {op : Oper} {a : Act} {Q : Exit → Act → World → Prop} (hgd : op.guard = none) (ty : TypeId) (x y : Operand) (ho : op.op = .store ty x y)
    (hx : a.eval x = .pointer (some ⟨g, 0, none⟩)) (cells : Array Value) (hy : a.eval y = .agg cells) (hi : (P.info? ty).map (·.size) = some cells.size) (hold : cs.size = cells.size) (h1 : cells.toList.all (·.oneCell') = true)
    (hk : wpList P ops Q rest (a.put op.dst undef) (w.setRow g cells)) : wpList P ops Q (op :: rest) a w :=
  wpList_plain hgd fun _ hK => wp_store_row ty x y ho g cells hx hy t cs h hi hold (by rw [← Array.all_toList]; exact h1) (hK _ _ hk)
theorem wpList_store_last {V : World} {c : Array Value} {ops : Array Oper} {rest : List Oper} {op : Oper} {a : Act} {Q : Exit → Act → World → Prop} (hgd : op.guard = none) (ty : TypeId) (x y : Operand) (ho : op.op = .store ty x y)
    (g : Nat) (hx : a.eval x = .pointer (some ⟨g, 0, none⟩)) (hg : g = V.heap.size) (cells : Array Value) (hy : a.eval y = .agg cells) (hi : (P.info? ty).map (·.size) = some cells.size) (hold : c.size = cells.size) (h1 : cells.toList.all (·.oneCell') = true)
    (hk : wpList P ops Q rest (a.put op.dst undef) (V.alloc (.cells cells t))) : wpList P ops Q (op :: rest) a (V.alloc (.cells c t)) := by
  subst hg
  refine wpList_store_stb (StB.new V t c) hgd ty x y ho hx cells hy hi hold h1 ?_
  rw [World.setRow_alloc_new]; exact hk
end
end Go.Proofs.YtngdmkhinebbdaaDoor

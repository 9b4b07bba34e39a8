/- Helpers: what lay in memory lies there behind a call that leaves all that was there as it was. Over any program. -/
import Derived.Test.YtghlacpjnehdfaaKit
namespace Go.Proofs.Ytghlacpjnehdfaa
open Go.RowKit
theorem up_call0 {w U V : World} (h : Below w.heap.size w U) (hb : Below U.heap.size U V) : Below w.heap.size w V := h.trans (hb.mono h.size)
theorem up_call {w U V : World} {o : Obj} (h : Below w.heap.size w U) (hb : Below (U.alloc o).heap.size (U.alloc o) V) : Below w.heap.size w V := up_call0 (up_alloc h o) hb
theorem cell_alloc {U : World} {o : Obj} {a : Addr} {v : Value} (h : U.cell? a = some v) : (U.alloc o).cell? a = some v := (World.cell?_alloc_lt U o a (lt_of_cell h)).trans h
theorem frozen_alloc {U : World} {o : Obj} {a : Addr} (h : a.block < U.heap.size) (hf : U.frozen? a = false) : (U.alloc o).frozen? a = false :=
  (((Below.refl U.heap.size U).alloc (Nat.le_refl _) o).frozen h).trans hf
/-- What lay there lies there behind one new block and a call. -/
theorem mem_call {U V : World} {o : Obj} (hb : Below (U.alloc o).heap.size (U.alloc o) V) {a : Addr} {v : Value} (h : U.cell? a = some v) (hf : U.frozen? a = false) : V.cell? a = some v ∧ V.frozen? a = false :=
  mem_up hb (cell_alloc h) (frozen_alloc (lt_of_cell h) hf)
theorem new_call {U V : World} {C : Array Value} {t : TypeId} (hb : Below (U.alloc (.cells C t)).heap.size (U.alloc (.cells C t)) V) (i : Nat) {v : Value} (h : C[i]? = some v) : V.cell? ⟨U.heap.size, i, none⟩ = some v :=
  (hb.cell (p := ⟨U.heap.size, i, none⟩) (by simp)).trans ((World.cell?_alloc_mark U C t (0, 0) i).trans h)
theorem size_call {U V : World} {o : Obj} (hb : Below (U.alloc o).heap.size (U.alloc o) V) : U.heap.size < V.heap.size := by have := hb.size; simp at this; omega
end Go.Proofs.Ytghlacpjnehdfaa

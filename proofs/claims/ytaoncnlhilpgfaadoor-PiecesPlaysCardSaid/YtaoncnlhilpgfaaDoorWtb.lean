/- Layer 11: the program's writer: where it lies, New, Put, Take, Close, Ready, Count, Total, Closed. -/
import Derived.Test.YtaoncnlhilpgfaaDoorWta
import Derived.Test.YtaoncnlhilpgfaaDoorWrf
import Derived.Test.YtaoncnlhilpgfaaDoorLwc
namespace Go.Proofs.YtaoncnlhilpgfaaDoor
open Go.ChangeShapes Go.WideShapes Go.ChangeAt Go.RowKit
set_option linter.unusedVariables false
set_option linter.unusedSimpArgs false

/-- Where the program's writer lies: its cells in block g, what there is in a slice. -/
def WBx (w : World) (p : Addr) (x : Wr1) (S : Nat → Prop) : Prop :=
  ∃ (g : Nat) (A : Option Addr) (m c k : Nat), p = ⟨g, 0, none⟩ ∧ Hid (StB w g 62 (wcs x.d x.q x.e A m c k x.ct x.S.size x.cl)) ∧ Hid (SlAt w 5 A m c (u8s (bl x.rest))) ∧ k ≤ m ∧ m = x.S.size - x.tk ∧ Hid (rightB x.d x.q x.e = true) ∧ x.tk ≤ x.S.size ∧ Hid (S g ∧ (∀ j, blkOf A = some j → S j) ∧ Lies w S)
theorem bl_rest (x : Wr1) : bl x.rest = (bl x.S).drop x.tk := by
  unfold Wr1.rest
  rw [bl_mid, List.take_of_length_le (by rw [List.length_drop, bl_length]; omega)]
theorem wbx_lies {w : World} {p : Addr} {x : Wr1} {S : Nat → Prop} (h : WBx w p x S) : Lies w S := by
  obtain ⟨g, A, m, c, k, _, _, _, _, _, _, _, h⟩ := h
  exact h.out.2.2
theorem wbx_keep {w w' : World} {p : Addr} {x : Wr1} {S S' : Nat → Prop} (h : WBx w p x S) (ht : Touch w w' S') (hS : ∀ k, S k → ¬ S' k) : WBx w' p x S := by
  obtain ⟨g, A, m, c, k, h1, h2, h3, h4, h5, h6, h7, h8⟩ := h
  exact ⟨g, A, m, c, k, h1, Lib.hid (h2.out.touch ht (hS _ h8.out.1)), Lib.hid (h3.out.touch ht (fun j hj => hS j (h8.out.2.1 j hj))), h4, h5, h6, h7, Lib.hid ⟨h8.out.1, h8.out.2.1, h8.out.2.2.later ht.size⟩⟩

set_option maxRecDepth 100000 in
set_option maxHeartbeats 800000 in
theorem new_yes_pc (d q e : Int) (w : World) (d0 : 0 ≤ d) (d1 : d ≤ 255) (q0 : 0 ≤ q) (q1 : q ≤ 255) (hr : rightB d q e = true) : Calls Tryd.prog 9 #[.agg #[.int .u8 d, .int .u8 q, .int .i64 e]] w fun y w' =>
    ∃ p S, y = .returned (.tuple #[.pointer (some p), .int .i64 0]) ∧ Hid (WBx w' p (Wr1.new d q e) S) ∧ Hid (∀ k, S k → w.heap.size ≤ k) ∧ Hid (Below w.heap.size w w') := by
  obtain ⟨W0, hW0⟩ : ∃ W0, W0 = w.alloc (.cells #[.int .u8 d, .int .u8 q, .int .i64 e] 23) := ⟨_, rfl⟩
  have HX0 := Lib.hid (show StB W0 w.heap.size 23 #[.int .u8 d, .int .u8 q, .int .i64 e] by rw [hW0]; exact StB.new _ _ _)
  have HB0 := Lib.hid (show Below w.heap.size w W0 by rw [hW0]; exact up_alloc (Below.refl _ w) _)
  have k0 : W0.cell? ⟨w.heap.size, 0, none⟩ = some (.int .u8 d) := HX0.out.cell 0
  have k1 : W0.cell? ⟨w.heap.size, 1, none⟩ = some (.int .u8 q) := HX0.out.cell 1
  have k2 : W0.cell? ⟨w.heap.size, 2, none⟩ = some (.int .i64 e) := HX0.out.cell 2
  have HC := Lib.hid (check_yes d q e d0 d1 q0 q1 hr W0)
  have HR := Lib.hid hr
  clear hr
  go_enter Tryd.func9, Tryd.ntmps9
  go_wp2_with fail
  rw [← hW0]
  clear hW0
  refine HC.out.mono ?_
  rintro x W1 ⟨rfl, hb1⟩
  have HB1 := Lib.hid (HB0.out.trans (hb1.mono HB0.out.size))
  have HX1 := Lib.hid (HX0.out.below hb1)
  clear hb1 k0 k1 k2
  have k0 : W1.cell? ⟨w.heap.size, 0, none⟩ = some (.int .u8 d) := HX1.out.cell 0
  have k1 : W1.cell? ⟨w.heap.size, 1, none⟩ = some (.int .u8 q) := HX1.out.cell 1
  have k2 : W1.cell? ⟨w.heap.size, 2, none⟩ = some (.int .i64 e) := HX1.out.cell 2
  go_wp2_with fail
  refine bodyPost_ret (v := .tuple #[.pointer (some ⟨W1.heap.size, 0, none⟩), .int .i64 0]) (by simp [results, Tryd.results9, go_sem]) rfl ?_
  obtain ⟨W2, hW2⟩ : ∃ W2, W2 = W1.alloc (.cells (wcs d q e none 0 0 ((0 : Nat) : Int) ((0 : Nat) : Int) ((0 : Nat) : Int) false) 62) := ⟨_, rfl⟩
  have hst : StB W2 W1.heap.size 62 (wcs d q e none 0 0 ((0 : Nat) : Int) ((0 : Nat) : Int) ((0 : Nat) : Int) false) := by rw [hW2]; exact StB.new _ _ _
  have hbl : Below w.heap.size w W2 := by rw [hW2]; exact up_alloc HB1.out _
  have hli : Lies W2 (fun j => j = W1.heap.size) := fun j hj => by
    have hj' : j = W1.heap.size := hj
    rw [hj', hW2]; simp
  have hwb : WBx W2 ⟨W1.heap.size, 0, none⟩ (Wr1.new d q e) (fun j => j = W1.heap.size) :=
    ⟨W1.heap.size, none, 0, 0, 0, rfl, Lib.hid hst, Lib.hid (SlAt.nothing _ _), Nat.le_refl _, rfl, Lib.hid HR.out, Nat.le_refl _, Lib.hid ⟨rfl, fun j hj => (by cases hj), hli⟩⟩
  rw [hW2] at hwb hbl
  exact ⟨⟨W1.heap.size, 0, none⟩, fun j => j = W1.heap.size, rfl, Lib.hid hwb, Lib.hid (fun k hk => by
    have hk' : k = W1.heap.size := hk
    rw [hk']; exact HB1.out.size), Lib.hid hbl⟩

set_option maxRecDepth 100000 in
set_option maxHeartbeats 800000 in
theorem new_no_pc (d q e : Int) (w : World) (d0 : 0 ≤ d) (d1 : d ≤ 255) (q0 : 0 ≤ q) (q1 : q ≤ 255) (hr : rightB d q e = false) : Calls Tryd.prog 9 #[.agg #[.int .u8 d, .int .u8 q, .int .i64 e]] w fun y w' =>
    y = .returned (.tuple #[.pointer none, .int .i64 1]) ∧ Below w.heap.size w w' := by
  obtain ⟨W0, hW0⟩ : ∃ W0, W0 = w.alloc (.cells #[.int .u8 d, .int .u8 q, .int .i64 e] 23) := ⟨_, rfl⟩
  have HX0 := Lib.hid (show StB W0 w.heap.size 23 #[.int .u8 d, .int .u8 q, .int .i64 e] by rw [hW0]; exact StB.new _ _ _)
  have HB0 := Lib.hid (show Below w.heap.size w W0 by rw [hW0]; exact up_alloc (Below.refl _ w) _)
  have k0 : W0.cell? ⟨w.heap.size, 0, none⟩ = some (.int .u8 d) := HX0.out.cell 0
  have k1 : W0.cell? ⟨w.heap.size, 1, none⟩ = some (.int .u8 q) := HX0.out.cell 1
  have k2 : W0.cell? ⟨w.heap.size, 2, none⟩ = some (.int .i64 e) := HX0.out.cell 2
  have HC := Lib.hid (check_no d q e d0 d1 q0 q1 hr W0)
  clear hr
  go_enter Tryd.func9, Tryd.ntmps9
  go_wp2_with fail
  rw [← hW0]
  clear hW0
  refine (above HC.out).mono ?_
  rintro x _ ⟨rfl, y, rfl⟩
  go_wp2_with fail
  exact bodyPost_ret (v := .tuple #[.pointer none, .int .i64 1]) (by simp [results, Tryd.results9, go_sem]) rfl ⟨rfl, up_onto' HB0.out y⟩

section
variable {w : World} {p : Addr} {x : Wr1} {S : Nat → Prop}
set_option maxRecDepth 100000 in
theorem ready_pc (h : Hid (WBx w p x S)) : Calls Tryd.prog 17 #[.pointer (some p)] w fun y w' => y = .returned (.int .i64 ((x.S.size : Int) - (x.tk : Int))) ∧ Below w.heap.size w w' := by
  obtain ⟨g, A, m, c, k, rfl, h2, h3, h4, h5, h6, h7, h8⟩ := h.out
  rw [show ((x.S.size : Int) - (x.tk : Int)) = (m : Int) by omega]
  have c3 : w.cell? ⟨g, 3, none⟩ = some (.slice A m c) := h2.out.cell 3
  have dl := h2.out.lt
  clear h5
  go_enter Tryd.func17, Tryd.ntmps17
  go_wp2_with fail
  go_ret
  exact ⟨rfl, Below.refl _ _⟩
set_option maxRecDepth 100000 in
theorem count_pc (h : Hid (WBx w p x S)) : Calls Tryd.prog 18 #[.pointer (some p)] w fun y w' => y = .returned (.int .i64 x.ct) ∧ Below w.heap.size w w' := by
  obtain ⟨g, A, m, c, k, rfl, h2, h3, h4, h5, h6, h7, h8⟩ := h.out
  have c5 : w.cell? ⟨g, 5, none⟩ = some (.int .i64 x.ct) := h2.out.cell 5
  have dl := h2.out.lt
  clear h5
  go_enter Tryd.func18, Tryd.ntmps18
  go_wp2_with fail
  go_ret
  exact ⟨rfl, Below.refl _ _⟩
set_option maxRecDepth 100000 in
theorem total_pc (h : Hid (WBx w p x S)) : Calls Tryd.prog 19 #[.pointer (some p)] w fun y w' => y = .returned (.int .i64 x.S.size) ∧ Below w.heap.size w w' := by
  obtain ⟨g, A, m, c, k, rfl, h2, h3, h4, h5, h6, h7, h8⟩ := h.out
  have c6 : w.cell? ⟨g, 6, none⟩ = some (.int .i64 x.S.size) := h2.out.cell 6
  have dl := h2.out.lt
  clear h5
  go_enter Tryd.func19, Tryd.ntmps19
  go_wp2_with fail
  go_ret
  exact ⟨rfl, Below.refl _ _⟩
set_option maxRecDepth 100000 in
theorem closed_pc (h : Hid (WBx w p x S)) : Calls Tryd.prog 20 #[.pointer (some p)] w fun y w' => y = .returned (.bool x.cl) ∧ Below w.heap.size w w' := by
  obtain ⟨g, A, m, c, k, rfl, h2, h3, h4, h5, h6, h7, h8⟩ := h.out
  have c7 : w.cell? ⟨g, 7, none⟩ = some (.bool x.cl) := h2.out.cell 7
  have dl := h2.out.lt
  clear h5
  go_enter Tryd.func20, Tryd.ntmps20
  go_wp2_with fail
  go_ret
  exact ⟨rfl, Below.refl _ _⟩

set_option maxRecDepth 100000 in
theorem close_pc (h : Hid (WBx w p x S)) : Calls Tryd.prog 16 #[.pointer (some p)] w fun y w' => y = .returned (.tuple #[]) ∧ ∃ S', Hid (WBx w' p x.shut S') ∧ Hid (Touch w w' S) ∧ Hid (Sub w S' S) := by
  obtain ⟨g, A, m, c, k, rfl, h2, h3, h4, h5, h6, h7, h8⟩ := h.out
  have c7 : w.cell? ⟨g, 7, none⟩ = some (.bool x.cl) := h2.out.cell 7
  have f7 := h2.out.free 7
  have dl := h2.out.lt
  have HS := Lib.hid (h2.out.set_ 7 (.bool true))
  have hun := slAt_unlike h3.out h2.out (by decide)
  have HT := Lib.hid ((Touch.refl w S).then_set (p := ⟨g, 7, none⟩) (.inl h8.out.1) (.bool true))
  have HA := Lib.hid (h3.out.touch ((Touch.refl w (fun j => j = g)).then_set (p := ⟨g, 7, none⟩) (.inl rfl) (.bool true)) (fun j hj => hun j hj))
  have H5 := Lib.hid h5
  clear h5 hun
  go_enter Tryd.func16, Tryd.ntmps16
  go_wp2_with fail
  go_end0
  exact ⟨rfl, S, Lib.hid ⟨g, A, m, c, k, rfl, HS, HA, h4, H5.out, h6, h7, Lib.hid ⟨h8.out.1, h8.out.2.1, h8.out.2.2.later HT.out.size⟩⟩, HT, Lib.hid (Sub.refl _ _)⟩
end
end Go.Proofs.YtaoncnlhilpgfaaDoor

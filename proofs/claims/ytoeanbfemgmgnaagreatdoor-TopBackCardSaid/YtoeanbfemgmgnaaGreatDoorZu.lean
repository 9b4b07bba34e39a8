/- Layer 11: the program's writer: own, drop. Layer 11: the program's writer: where it lies, New, Put, Take, Close, Ready, Count, Total, Closed. Layer 11: the program's writer: Put, Take. -/
import Derived.Test.YtoeanbfemgmgnaaGreatDoorWrb
import Derived.Test.YtoeanbfemgmgnaaGreatDoorZk
import Derived.Test.YtoeanbfemgmgnaaGreatDoorWrf
import Derived.Test.YtoeanbfemgmgnaaGreatDoorZl
namespace Go.Proofs.YtoeanbfemgmgnaaGreatDoor
open Go.ChangeShapes Go.WideShapes Go.ChangeAt Go.RowKit
set_option linter.unusedVariables false
set_option linter.unusedSimpArgs false

theorem infoB11 : (Tryz.prog.info? 5).map (fun i => (i.zero, i.size, i.bytes)) = some (some (.int .u8 0), 1, 1) := by kernel_rfl
/-- The program's writer, its cells. -/
def wcs (d q e : Int) (A : Option Addr) (m c : Nat) (k ct sz : Int) (cl : Bool) : Array Value := #[.int .u8 d, .int .u8 q, .int .i64 e, .slice A m c, .int .i64 k, .int .i64 ct, .int .i64 sz, .bool cl]
theorem slAt_unlike {w : World} {e T : TypeId} {A : Option Addr} {n c g : Nat} {xs : List Value} {cs : Array Value} (h : SlAt w e A n c xs) (hs : StB w g T cs) (he : e ≠ T) : ∀ k, blkOf A = some k → k ≠ g := by
  intro k hk hkg
  rcases h.2.2.2 with ⟨rfl, _⟩ | ⟨q, off, cur, fz, rfl, hg, _⟩
  · cases hk
  · have : q = k := by simpa [blkOf] using hk
    subst this hkg
    unfold StB at hs
    rw [hs] at hg
    injection hg with hg
    injection hg with _ h2 _
    exact he h2.symm

set_option maxRecDepth 100000 in
set_option maxHeartbeats 800000 in
theorem own_pc (A : Option Addr) (n c : Nat) (l : List Int) (w : World) (hn : n ≤ 2000000) (hs : Hid (SlIn w A n (u8s l))) :
    Calls Tryz.prog 22 #[.slice A n c] w fun y w' => ∃ O c', y = .returned (.slice O n c') ∧ Hid (SlOwn w' w.heap.size 5 O n c' (u8s l)) ∧ Below w.heap.size w w' := by
  obtain ⟨i0, hi, hz0, hz1, hz2⟩ := info_parts infoB11
  have Hi := Lib.hid hi
  have Hz0 := Lib.hid hz0
  have Hz1 := Lib.hid hz1
  have Hz2 := Lib.hid hz2
  clear hi hz0 hz1 hz2
  go_enter Tryz.func22, Tryz.ntmps22
  go_wp2_with (at_builtin; refine wpList_append_sl _ rfl (.const (.slice none 0 0)) (.tmp 3) 42 rfl 5 i0 (.int .u8 0) 1 Tryz.underlying42 Hi.out Hz0.out Hz1.out Hz2.out rfl w.heap.size none 0 0 [] rfl (SlOwn.nothing _ _ _) A n c (u8s l) rfl hs.out u8s_one (by unfold maxLen; omega) (by omega) (Nat.le_refl _) ?_; intro O c' w' ho hg hor)
  rw [List.nil_append, Nat.zero_add] at ho
  go_ret
  exact ⟨O, c', rfl, Lib.hid ho, ⟨hg.os, hg.tape, hg.output, hg.size, fun k hk => hg.block k hk (by simp [blkOf])⟩⟩

/-- What drop leaves. -/
def DropOut (d q e : Int) (g : Nat) (A : Option Addr) (m N : Nat) (ct sz : Int) (cl : Bool) (l : List Int) (w : World) (y : Ending) (w' : World) : Prop :=
  y = .returned (.tuple #[]) ∧ ∃ (A' : Option Addr) (c' k' : Nat), k' ≤ m - N ∧ Hid (StB w' g 59 (wcs d q e A' (m - N) c' k' ct sz cl)) ∧ Hid (SlAt w' 5 A' (m - N) c' (u8s (l.drop N))) ∧ Hid (Touch w w' (fun j => j = g)) ∧ Hid (∀ j, blkOf A' = some j → blkOf A = some j ∨ w.heap.size ≤ j)
set_option maxRecDepth 100000 in
set_option maxHeartbeats 1600000 in
theorem drop_pc (d q e : Int) (g : Nat) (A : Option Addr) (m c k N : Nat) (ct sz : Int) (cl : Bool) (l : List Int) (w : World) (hm : m ≤ 1000000) (hk : k ≤ m) (hN : N ≤ m) (hst : Hid (StB w g 59 (wcs d q e A m c k ct sz cl))) (hs : Hid (SlAt w 5 A m c (u8s l))) :
    Calls Tryz.prog 23 #[.pointer (some ⟨g, 0, none⟩), .int .i64 N] w (DropOut d q e g A m N ct sz cl l w) := by
  have g0 := hst.out.lt
  have c3 : w.cell? ⟨g, 3, none⟩ = some (.slice A m c) := hst.out.cell 3
  have c4 : w.cell? ⟨g, 4, none⟩ = some (.int .i64 k) := hst.out.cell 4
  have f3 := hst.out.free 3
  have f4 := hst.out.free 4
  have hmc : m ≤ c := hs.out.2.1
  obtain ⟨A1, hA1⟩ : ∃ A1, (if c = N then A else A.map (·.add N)) = A1 := ⟨_, rfl⟩
  obtain ⟨hcut, hblk⟩ := hs.out.cut hN
  rw [hA1] at hcut hblk
  have HCUT := Lib.hid hcut
  have HBLK := Lib.hid hblk
  clear hcut hblk
  go_enter Tryz.func23, Tryz.ntmps23
  go_upto_region 2 with fail
  obtain ⟨W, hW⟩ : ∃ W, W = (w.setCell ⟨g, 3, none⟩ (.slice A1 (m - N) (c - N))).setCell ⟨g, 4, none⟩ (.int .i64 ((k : Int) + (N : Int))) := ⟨_, rfl⟩
  have HSW := Lib.hid (show StB W g 59 (wcs d q e A1 (m - N) (c - N) ((k + N : Nat) : Int) ct sz cl) by rw [hW]; exact (hst.out.set_ 3 _).set_ 4 _)
  have HTW := Lib.hid (show Touch w W (fun j => j = g) by rw [hW]; exact ((Touch.refl w (fun j => j = g)).then_set (p := ⟨g, 3, none⟩) (.inl rfl) _).then_set (p := ⟨g, 4, none⟩) (.inl rfl) _)
  have HAW := Lib.hid (HCUT.out.touch HTW.out (fun j hj => slAt_unlike hs.out hst.out (by decide) j (HBLK.out j hj)))
  rw [← hW]
  obtain ⟨k2, hk2⟩ : ∃ k2, k + N = k2 := ⟨_, rfl⟩
  rw [show (k : Int) + (N : Int) = (k2 : Int) by rw [← hk2]; rfl]
  rw [hk2] at HSW
  obtain ⟨m2, hm2⟩ : ∃ m2, m - N = m2 := ⟨_, rfl⟩
  obtain ⟨c2, hc2⟩ : ∃ c2, c - N = c2 := ⟨_, rfl⟩
  rw [hm2, hc2] at HSW HAW ⊢
  have HM2 := Lib.hid hm2
  have hm2b : m2 ≤ 1000000 := by omega
  clear hW c3 c4 f3 f4 hA1 hk2 hm2 hc2
  have d3 : W.cell? ⟨g, 3, none⟩ = some (.slice A1 m2 c2) := HSW.out.cell 3
  have d4 : W.cell? ⟨g, 4, none⟩ = some (.int .i64 k2) := HSW.out.cell 4
  have dl := HSW.out.lt
  by_cases hge : (m2 : Int) ≤ (k2 : Int)
  · have hbool : decide ((k2 : Int) ≥ (m2 : Int)) = true := decide_eq_true hge
    refine wp_region_onto (by kernel_rfl) (by kernel_rfl) ?_
    repeat (go_big_quiet_step (fail))
    refine wpQuiet_nil ?_
    intro _ hw'
    obtain ⟨z1, hw''⟩ := hw'
    subst hw''
    obtain ⟨W1, hW1⟩ : ∃ W1, W1 = onto W z1 := ⟨_, rfl⟩
    have HBW := Lib.hid (show Below W.heap.size W W1 by rw [hW1]; exact onto_below W z1)
    rw [← hW1]
    have HS1 := Lib.hid (HSW.out.below HBW.out)
    have HA1 := Lib.hid (HAW.out.below HBW.out)
    have HT1 := Lib.hid (HTW.out.then_below HBW.out)
    clear hW1 d3 d4 dl
    have d3 : W1.cell? ⟨g, 3, none⟩ = some (.slice A1 m2 c2) := HS1.out.cell 3
    have dl := HS1.out.lt
    have hl' : List.drop N (u8s l) = u8s (l.drop N) := by unfold u8s; rw [List.map_drop]
    rw [hl'] at HA1
    have HOWN := Lib.hid (own_pc A1 m2 c2 (l.drop N) W1 (by omega) (Lib.hid HA1.out.toIn))
    clear hl' hbool hge
    go_wp2_with fail
    refine HOWN.out.mono ?_
    rintro y W2 ⟨O, c3, rfl, HO, hb2⟩
    have HB2 := Lib.hid hb2
    have HS2 := Lib.hid (HS1.out.below hb2)
    have HT2 := Lib.hid (HT1.out.then_below hb2)
    clear HOWN d3 dl hb2
    have f3 := HS2.out.free 3
    have f4 := HS2.out.free 4
    have e3 : W2.cell? ⟨g, 3, none⟩ = some (.slice A1 m2 c2) := HS2.out.cell 3
    have e4 : W2.cell? ⟨g, 4, none⟩ = some (.int .i64 k2) := HS2.out.cell 4
    have dl := HS2.out.lt
    have hs3 := (HS2.out.set_ 3 (.slice O m2 c3)).set_ 4 (.int .i64 0)
    have HS3 := Lib.hid (show StB ((W2.setCell ⟨g, 3, none⟩ (.slice O m2 c3)).setCell ⟨g, 4, none⟩ (.int .i64 0)) g 59 (wcs d q e O m2 c3 ((0 : Nat) : Int) ct sz cl) from hs3)
    have HT3 := Lib.hid ((HT2.out.then_set (p := ⟨g, 3, none⟩) (.inl rfl) (.slice O m2 c3)).then_set (p := ⟨g, 4, none⟩) (.inl rfl) (.int .i64 0))
    have hun := slAt_unlike HO.out.toAt HS2.out (by decide)
    have HO3 := Lib.hid ((HO.out.toAt.touch (((Touch.refl W2 (fun j => j = g)).then_set (p := ⟨g, 3, none⟩) (.inl rfl) (.slice O m2 c3)).then_set (p := ⟨g, 4, none⟩) (.inl rfl) (.int .i64 0)) (fun j hj => hun j hj)))
    have HOB := Lib.hid (show ∀ j, blkOf O = some j → w.heap.size ≤ j from fun j hj => Nat.le_trans HT1.out.size (HO.out.blk j hj).1)
    clear hs3 hun
    go_wp2_with fail
    go_end0
    exact ⟨rfl, O, c3, 0, Nat.zero_le _, by rw [HM2.out]; exact HS3, by rw [HM2.out]; exact HO3, HT3, Lib.hid (fun j hj => .inr (HOB.out j hj))⟩
  · have hbool : decide ((k2 : Int) ≥ (m2 : Int)) = false := decide_eq_false hge
    refine wp_region_onto (by kernel_rfl) (by kernel_rfl) ?_
    repeat (go_big_quiet_step (fail))
    refine wpQuiet_nil ?_
    intro _ hw'
    obtain ⟨z1, hw''⟩ := hw'
    subst hw''
    have HBW := Lib.hid (onto_below W z1)
    have hkm : k2 ≤ m2 := by omega
    have hl' : List.drop N (u8s l) = u8s (l.drop N) := by unfold u8s; rw [List.map_drop]
    rw [hl'] at HAW
    clear hge
    go_wp2_with fail
    go_end0
    exact ⟨rfl, A1, c2, k2, by rw [HM2.out]; exact hkm, by rw [HM2.out]; exact Lib.hid (HSW.out.below HBW.out), by rw [HM2.out]; exact Lib.hid (HAW.out.below HBW.out), Lib.hid (HTW.out.then_below HBW.out), Lib.hid (fun j hj => .inl (HBLK.out j hj))⟩
end Go.Proofs.YtoeanbfemgmgnaaGreatDoor

namespace Go.Proofs.YtoeanbfemgmgnaaGreatDoor
open Go.ChangeShapes Go.WideShapes Go.ChangeAt Go.RowKit
set_option linter.unusedVariables false
set_option linter.unusedSimpArgs false

/-- Where the program's writer lies: its cells in block g, what there is in a slice. -/
def WBx (w : World) (p : Addr) (x : Wr1) (S : Nat → Prop) : Prop :=
  ∃ (g : Nat) (A : Option Addr) (m c k : Nat), p = ⟨g, 0, none⟩ ∧ Hid (StB w g 59 (wcs x.d x.q x.e A m c k x.ct x.S.size x.cl)) ∧ Hid (SlAt w 5 A m c (u8s (bl x.rest))) ∧ k ≤ m ∧ m = x.S.size - x.tk ∧ Hid (rightB x.d x.q x.e = true) ∧ x.tk ≤ x.S.size ∧ Hid (S g ∧ (∀ j, blkOf A = some j → S j) ∧ Lies w S)
theorem bl_rest (x : Wr1) : bl x.rest = (bl x.S).drop x.tk := by
  unfold Wr1.rest
  rw [bl_mid, List.take_of_length_le (by rw [List.length_drop, bl_length]; omega)]
theorem wbx_lies {w : World} {p : Addr} {x : Wr1} {S : Nat → Prop} (h : WBx w p x S) : Lies w S := by
  obtain ⟨g, A, m, c, k, _, _, _, _, _, _, _, h⟩ := h
  exact h.out.2.2
theorem wbx_keep {w w' : World} {p : Addr} {x : Wr1} {S S' : Nat → Prop} (h : WBx w p x S) (ht : Touch w w' S') (hS : ∀ k, S k → ¬ S' k) : WBx w' p x S := by
  obtain ⟨g, A, m, c, k, h1, h2, h3, h4, h5, h6, h7, h8⟩ := h
  exact ⟨g, A, m, c, k, h1, Lib.hid (h2.out.touch ht (hS _ h8.out.1)), Lib.hid (h3.out.touch ht (fun j hj => hS j (h8.out.2.1 j hj))), h4, h5, h6, h7, Lib.hid ⟨h8.out.1, h8.out.2.1, h8.out.2.2.later ht.size⟩⟩

set_option maxRecDepth 100000 in
set_option maxHeartbeats 800000 in
theorem new_yes_pc (d q e : Int) (w : World) (d0 : 0 ≤ d) (d1 : d ≤ 255) (q0 : 0 ≤ q) (q1 : q ≤ 255) (hr : rightB d q e = true) : Calls Tryz.prog 8 #[.agg #[.int .u8 d, .int .u8 q, .int .i64 e]] w fun y w' =>
    ∃ p S, y = .returned (.tuple #[.pointer (some p), .int .i64 0]) ∧ Hid (WBx w' p (Wr1.new d q e) S) ∧ Hid (∀ k, S k → w.heap.size ≤ k) ∧ Hid (Below w.heap.size w w') := by
  obtain ⟨W0, hW0⟩ : ∃ W0, W0 = w.alloc (.cells #[.int .u8 d, .int .u8 q, .int .i64 e] 23) := ⟨_, rfl⟩
  have HX0 := Lib.hid (show StB W0 w.heap.size 23 #[.int .u8 d, .int .u8 q, .int .i64 e] by rw [hW0]; exact StB.new _ _ _)
  have HB0 := Lib.hid (show Below w.heap.size w W0 by rw [hW0]; exact up_alloc (Below.refl _ w) _)
  have k0 : W0.cell? ⟨w.heap.size, 0, none⟩ = some (.int .u8 d) := HX0.out.cell 0
  have k1 : W0.cell? ⟨w.heap.size, 1, none⟩ = some (.int .u8 q) := HX0.out.cell 1
  have k2 : W0.cell? ⟨w.heap.size, 2, none⟩ = some (.int .i64 e) := HX0.out.cell 2
  have HC := Lib.hid (check_yes d q e d0 d1 q0 q1 hr W0)
  have HR := Lib.hid hr
  clear hr
  go_enter Tryz.func8, Tryz.ntmps8
  go_wp2_with fail
  rw [← hW0]
  clear hW0
  refine HC.out.mono ?_
  rintro x W1 ⟨rfl, hb1⟩
  have HB1 := Lib.hid (HB0.out.trans (hb1.mono HB0.out.size))
  have HX1 := Lib.hid (HX0.out.below hb1)
  clear hb1 k0 k1 k2
  have k0 : W1.cell? ⟨w.heap.size, 0, none⟩ = some (.int .u8 d) := HX1.out.cell 0
  have k1 : W1.cell? ⟨w.heap.size, 1, none⟩ = some (.int .u8 q) := HX1.out.cell 1
  have k2 : W1.cell? ⟨w.heap.size, 2, none⟩ = some (.int .i64 e) := HX1.out.cell 2
  go_wp2_with fail
  refine bodyPost_ret (v := .tuple #[.pointer (some ⟨W1.heap.size, 0, none⟩), .int .i64 0]) (by simp [results, Tryz.results8, go_sem]) rfl ?_
  obtain ⟨W2, hW2⟩ : ∃ W2, W2 = W1.alloc (.cells (wcs d q e none 0 0 ((0 : Nat) : Int) ((0 : Nat) : Int) ((0 : Nat) : Int) false) 59) := ⟨_, rfl⟩
  have hst : StB W2 W1.heap.size 59 (wcs d q e none 0 0 ((0 : Nat) : Int) ((0 : Nat) : Int) ((0 : Nat) : Int) false) := by rw [hW2]; exact StB.new _ _ _
  have hbl : Below w.heap.size w W2 := by rw [hW2]; exact up_alloc HB1.out _
  have hli : Lies W2 (fun j => j = W1.heap.size) := fun j hj => by
    have hj' : j = W1.heap.size := hj
    rw [hj', hW2]; simp
  have hwb : WBx W2 ⟨W1.heap.size, 0, none⟩ (Wr1.new d q e) (fun j => j = W1.heap.size) :=
    ⟨W1.heap.size, none, 0, 0, 0, rfl, Lib.hid hst, Lib.hid (SlAt.nothing _ _), Nat.le_refl _, rfl, Lib.hid HR.out, Nat.le_refl _, Lib.hid ⟨rfl, fun j hj => (by cases hj), hli⟩⟩
  rw [hW2] at hwb hbl
  exact ⟨⟨W1.heap.size, 0, none⟩, fun j => j = W1.heap.size, rfl, Lib.hid hwb, Lib.hid (fun k hk => by
    have hk' : k = W1.heap.size := hk
    rw [hk']; exact HB1.out.size), Lib.hid hbl⟩

set_option maxRecDepth 100000 in
set_option maxHeartbeats 800000 in
theorem new_no_pc (d q e : Int) (w : World) (d0 : 0 ≤ d) (d1 : d ≤ 255) (q0 : 0 ≤ q) (q1 : q ≤ 255) (hr : rightB d q e = false) : Calls Tryz.prog 8 #[.agg #[.int .u8 d, .int .u8 q, .int .i64 e]] w fun y w' =>
    y = .returned (.tuple #[.pointer none, .int .i64 1]) ∧ Below w.heap.size w w' := by
  obtain ⟨W0, hW0⟩ : ∃ W0, W0 = w.alloc (.cells #[.int .u8 d, .int .u8 q, .int .i64 e] 23) := ⟨_, rfl⟩
  have HX0 := Lib.hid (show StB W0 w.heap.size 23 #[.int .u8 d, .int .u8 q, .int .i64 e] by rw [hW0]; exact StB.new _ _ _)
  have HB0 := Lib.hid (show Below w.heap.size w W0 by rw [hW0]; exact up_alloc (Below.refl _ w) _)
  have k0 : W0.cell? ⟨w.heap.size, 0, none⟩ = some (.int .u8 d) := HX0.out.cell 0
  have k1 : W0.cell? ⟨w.heap.size, 1, none⟩ = some (.int .u8 q) := HX0.out.cell 1
  have k2 : W0.cell? ⟨w.heap.size, 2, none⟩ = some (.int .i64 e) := HX0.out.cell 2
  have HC := Lib.hid (check_no d q e d0 d1 q0 q1 hr W0)
  clear hr
  go_enter Tryz.func8, Tryz.ntmps8
  go_wp2_with fail
  rw [← hW0]
  clear hW0
  refine (above HC.out).mono ?_
  rintro x _ ⟨rfl, y, rfl⟩
  go_wp2_with fail
  exact bodyPost_ret (v := .tuple #[.pointer none, .int .i64 1]) (by simp [results, Tryz.results8, go_sem]) rfl ⟨rfl, up_onto' HB0.out y⟩

section
variable {w : World} {p : Addr} {x : Wr1} {S : Nat → Prop}
set_option maxRecDepth 100000 in
theorem ready_pc (h : Hid (WBx w p x S)) : Calls Tryz.prog 12 #[.pointer (some p)] w fun y w' => y = .returned (.int .i64 ((x.S.size : Int) - (x.tk : Int))) ∧ Below w.heap.size w w' := by
  obtain ⟨g, A, m, c, k, rfl, h2, h3, h4, h5, h6, h7, h8⟩ := h.out
  rw [show ((x.S.size : Int) - (x.tk : Int)) = (m : Int) by omega]
  have c3 : w.cell? ⟨g, 3, none⟩ = some (.slice A m c) := h2.out.cell 3
  have dl := h2.out.lt
  clear h5
  go_enter Tryz.func12, Tryz.ntmps12
  go_wp2_with fail
  go_ret
  exact ⟨rfl, Below.refl _ _⟩
set_option maxRecDepth 100000 in
theorem close_pc (h : Hid (WBx w p x S)) : Calls Tryz.prog 11 #[.pointer (some p)] w fun y w' => y = .returned (.tuple #[]) ∧ ∃ S', Hid (WBx w' p x.shut S') ∧ Hid (Touch w w' S) ∧ Hid (Sub w S' S) := by
  obtain ⟨g, A, m, c, k, rfl, h2, h3, h4, h5, h6, h7, h8⟩ := h.out
  have c7 : w.cell? ⟨g, 7, none⟩ = some (.bool x.cl) := h2.out.cell 7
  have f7 := h2.out.free 7
  have dl := h2.out.lt
  have HS := Lib.hid (h2.out.set_ 7 (.bool true))
  have hun := slAt_unlike h3.out h2.out (by decide)
  have HT := Lib.hid ((Touch.refl w S).then_set (p := ⟨g, 7, none⟩) (.inl h8.out.1) (.bool true))
  have HA := Lib.hid (h3.out.touch ((Touch.refl w (fun j => j = g)).then_set (p := ⟨g, 7, none⟩) (.inl rfl) (.bool true)) (fun j hj => hun j hj))
  have H5 := Lib.hid h5
  clear h5 hun
  go_enter Tryz.func11, Tryz.ntmps11
  go_wp2_with fail
  go_end0
  exact ⟨rfl, S, Lib.hid ⟨g, A, m, c, k, rfl, HS, HA, h4, H5.out, h6, h7, Lib.hid ⟨h8.out.1, h8.out.2.1, h8.out.2.2.later HT.out.size⟩⟩, HT, Lib.hid (Sub.refl _ _)⟩
end
end Go.Proofs.YtoeanbfemgmgnaaGreatDoor

namespace Go.Proofs.YtoeanbfemgmgnaaGreatDoor
open Go.ChangeShapes Go.WideShapes Go.ChangeAt Go.RowKit
set_option linter.unusedVariables false
set_option linter.unusedSimpArgs false

theorem rest_put {x : Wr1} (T : ByteArray) (h : x.tk ≤ x.S.size) : bl (Wr1.rest { x with S := x.S ++ T, ct := x.ct + 1 }) = bl x.rest ++ bl T := by
  rw [bl_rest, bl_rest]
  show (bl (x.S ++ T)).drop x.tk = _
  rw [bl_append, List.drop_append_of_le_length (by rw [bl_length]; exact h)]
theorem rest_take (x : Wr1) (n : Int) : bl (x.take n).rest = (bl x.rest).drop (x.tkN n) := by
  rw [bl_rest, bl_rest, List.drop_drop]
  rfl
theorem got_rest (x : Wr1) (n : Int) : bl (x.got n) = (bl x.rest).take (x.tkN n) := by
  unfold Wr1.got
  rw [bl_rest, bl_mid, Nat.add_sub_cancel_left]

set_option maxRecDepth 100000 in
set_option maxHeartbeats 1600000 in
theorem put_pc (x : Wr1) (p : Addr) (S : Nat → Prop) (A : Option Addr) (n c : Nat) (r : List ByteArray) (w : World) (hx : x.Ok) (hS : x.S.size ≤ 1000000) (hct : x.ct ≤ 1000000) (hn : n ≤ 1000) (hl : lenL r ≤ 1000) (hW : Hid (WBx w p x S)) (hin : Hid (SlIn w A n (strs r))) :
    Calls Tryz.prog 10 #[.pointer (some p), .slice A n c] w fun y w' => y = .returned (.int .i64 (x.putE r)) ∧ ∃ S', Hid (WBx w' p (x.put r) S') ∧ Hid (Touch w w' S) ∧ Hid (Sub w S' S) := by
  obtain ⟨g, B, m, cb, k, rfl, h2, h3, h4, h5, h6, h7, h8⟩ := hW.out
  have c7 : w.cell? ⟨g, 7, none⟩ = some (.bool x.cl) := h2.out.cell 7
  have dl := h2.out.lt
  have HL := Lib.hid hin.out.lenS
  have H5 := Lib.hid h5
  obtain ⟨cl, hcl⟩ : ∃ cl, x.cl = cl := ⟨_, rfl⟩
  rw [hcl] at c7
  cases cl
  · have c0 : w.cell? ⟨g, 0, none⟩ = some (.int .u8 x.d) := h2.out.cell 0
    have c1 : w.cell? ⟨g, 1, none⟩ = some (.int .u8 x.q) := h2.out.cell 1
    have c2 : w.cell? ⟨g, 2, none⟩ = some (.int .i64 x.e) := h2.out.cell 2
    have c5 : w.cell? ⟨g, 5, none⟩ = some (.int .i64 x.ct) := h2.out.cell 5
    obtain ⟨M, hM⟩ : ∃ M, mayN r = M := ⟨_, rfl⟩
    have HE := Lib.hid (show x.putE r = M by unfold Wr1.putE; rw [hcl, hM]; rfl)
    obtain ⟨zf, hzf⟩ : ∃ zf, ((x.ct : Int) == 0) = zf := ⟨_, rfl⟩
    have hzd : decide (x.ct = 0) = zf := by rw [← hzf, Bool.eq_iff_iff]; simp
    have HLE := Lib.hid (show lineE x.d x.q x.e r = M by unfold lineE; rw [h6.out, ← hM]; rfl)
    obtain ⟨T, hT⟩ : ∃ T, lineS x.d x.q x.e zf r = T := ⟨_, rfl⟩
    have HLI := Lib.hid (fun (W : World) (hb : Below w.heap.size w W) => line_says x.d x.q x.e r A n c zf W hx.d0 hx.d1 hx.q0 hx.q1 hn hl (Lib.hid (hin.out.below hb)))
    rw [HLE.out, hT] at HLI
    have zl := fun (z : Above w) => calls_onto (HLI.out (onto w z) (onto_below w z))
    have z0 : ∀ z, (onto w z).cell? ⟨g, 0, none⟩ = some (.int .u8 x.d) := fun z => mem_cell (onto_below w z) c0
    have z1 : ∀ z, (onto w z).cell? ⟨g, 1, none⟩ = some (.int .u8 x.q) := fun z => mem_cell (onto_below w z) c1
    have z2 : ∀ z, (onto w z).cell? ⟨g, 2, none⟩ = some (.int .i64 x.e) := fun z => mem_cell (onto_below w z) c2
    have z5 : ∀ z, (onto w z).cell? ⟨g, 5, none⟩ = some (.int .i64 x.ct) := fun z => mem_cell (onto_below w z) c5
    have zg : ∀ z : Above w, g < (onto w z).heap.size := fun z => Nat.lt_of_lt_of_le dl (onto_below w z).size
    have HOK := Lib.hid hx
    have HCL := Lib.hid hcl
    have HTT := Lib.hid hT
    have HZ := Lib.hid hzd
    have hm2 : m ≤ 1000000 := by omega
    have HSZ := Lib.hid hS
    by_cases hM0 : M = 0
    · have hMb : (M != 0) = false := by simpa using hM0
      have HP := Lib.hid (show x.put r = { x with S := x.S ++ T, ct := x.ct + 1 } by
        unfold Wr1.put
        rw [HE.out, if_pos hM0, ← hT, ← hzd]
        unfold lineS
        rw [HLE.out, if_pos hM0]
        rfl)
      have HTS := Lib.hid (show T.size ≤ 10000 by
        rw [← hT, ← hzd]
        unfold lineS
        rw [HLE.out, if_pos hM0]
        exact lnO_size hx r (by rw [HL.out]; exact hn) hl)
      have HM0 := Lib.hid hM0
      obtain ⟨i0, hi, hz0, hz1, hz2⟩ := info_parts infoB11
      have Hi := Lib.hid hi
      have Hz0 := Lib.hid hz0
      have Hz1 := Lib.hid hz1
      have Hz2 := Lib.hid hz2
      clear hi hz0 hz1 hz2 hM hT hcl hzd h5 hM0 hS
      go_enter Tryz.func10, Tryz.ntmps10
      go_upto_region 3 with fail
      refine wp_region_onto (by kernel_rfl) (by kernel_rfl) ?_
      repeat (go_big_quiet_step ((go_at_call 21; with_reducible exact zl _)))
      refine wpQuiet_nil ?_
      intro _ hw'
      obtain ⟨y1, hw''⟩ := hw'
      subst hw''
      obtain ⟨W, hW'⟩ : ∃ W, W = onto w y1 := ⟨_, rfl⟩
      have HB := Lib.hid (show Below w.heap.size w W by rw [hW']; exact onto_below w y1)
      rw [← hW']
      clear hW' z0 z1 z2 z5 zg zl c0 c1 c2 c5 c7 dl
      have HS1 := Lib.hid (h2.out.below HB.out)
      have HA1 := Lib.hid (h3.out.below HB.out)
      have c3 : W.cell? ⟨g, 3, none⟩ = some (.slice B m cb) := HS1.out.cell 3
      have dl := HS1.out.lt
      have HUN := Lib.hid (slAt_unlike HA1.out HS1.out (by decide))
      go_wp2_with (at_builtin; refine wpList_append_at _ rfl (.tmp 32) (.tmp 33) 42 9 rfl 5 i0 (.int .u8 0) 1 Tryz.underlying42 Tryz.underlying9 Hi.out Hz0.out Hz1.out Hz2.out rfl B m cb (bl x.rest) rfl HA1.out T rfl (by have := HTS.out; unfold maxLen; omega) (by have := HTS.out; omega) ?_; intro B' cb' W2 ho hg hor; have HS2 := Lib.hid (HS1.out.grown hg (fun e => HUN.out g e.symm rfl)); have HO := Lib.hid ho; have HGR := Lib.hid hg; have HOR := Lib.hid hor; clear ho hg hor c3 dl; have c3 : W2.cell? ⟨g, 3, none⟩ = some (.slice B m cb) := HS2.out.cell 3; have c5 : W2.cell? ⟨g, 5, none⟩ = some (.int .i64 x.ct) := HS2.out.cell 5; have c6 : W2.cell? ⟨g, 6, none⟩ = some (.int .i64 x.S.size) := HS2.out.cell 6; have f3 := HS2.out.free 3; have f5 := HS2.out.free 5; have f6 := HS2.out.free 6; have dl := HS2.out.lt; have q1 := HSZ.out; have q2 := HTS.out)
      go_ret
      rw [HE.out, HM0.out]
      obtain ⟨W3, hW3⟩ : ∃ W3, W3 = ((W2.setCell ⟨g, 3, none⟩ (.slice B' (m + T.size) cb')).setCell ⟨g, 5, none⟩ (.int .i64 ((x.ct : Int) + 1))).setCell ⟨g, 6, none⟩ (.int .i64 ((x.S.size : Int) + (T.size : Int))) := ⟨_, rfl⟩
      rw [← hW3]
      have HS3 : StB W3 g 59 (wcs x.d x.q x.e B' (m + T.size) cb' k ((x.ct + 1 : Nat) : Int) (((x.S ++ T).size : Nat) : Int) x.cl) := by
        rw [hW3, ByteArray.size_append]
        exact ((HS2.out.set_ 3 _).set_ 5 _).set_ 6 _
      have ht2 : Touch W2 W3 (fun j => j = g) := by
        rw [hW3]
        exact (((Touch.refl W2 (fun j => j = g)).then_set (p := ⟨g, 3, none⟩) (.inl rfl) _).then_set (p := ⟨g, 5, none⟩) (.inl rfl) _).then_set (p := ⟨g, 6, none⟩) (.inl rfl) _
      have hun2 := slAt_unlike HO.out HS2.out (by decide)
      have ho3 := HO.out.touch ht2 (fun j hj => hun2 j hj)
      rw [← rest_put T h7] at ho3
      have htw : Touch w W2 S := (Touch.of_below HB.out S).trans (Sub.refl _ _) (Touch.of_grown HGR.out (fun j hj => h8.out.2.1 j hj))
      have hta : Touch w W3 S := htw.trans (Sub.refl _ _) (ht2.mono (fun j hj => by
        have hj' : j = g := hj
        rw [hj']; exact h8.out.1))
      have hblk : ∀ j, blkOf B' = some j → S j ∨ w.heap.size ≤ j := fun j hj => by
        rcases HOR.out with h | h
        · rw [h] at hj; exact .inl (h8.out.2.1 j hj)
        · rw [h] at hj; injection hj with hj; right; rw [← hj]; exact HB.out.size
      refine ⟨rfl, fun j => j = g ∨ blkOf B' = some j, Lib.hid ?_, Lib.hid hta, Lib.hid (fun j hj => ?_)⟩
      · rw [HP.out]
        refine ⟨g, B', m + T.size, cb', k, rfl, Lib.hid HS3, Lib.hid ho3, by omega, ?_, h6, ?_, Lib.hid ⟨.inl rfl, fun j hj => .inr hj, fun j hj => ?_⟩⟩
        · show m + T.size = (x.S ++ T).size - x.tk
          rw [ByteArray.size_append, H5.out]; omega
        · show x.tk ≤ (x.S ++ T).size
          rw [ByteArray.size_append]; omega
        · rcases hj with hj | hj
          · rw [hj]; exact HS3.lt
          · exact ho3.blk j hj
      · rcases hj with hj | hj
        · rw [hj]; exact .inl h8.out.1
        · exact hblk j hj
    · have hMb : (M != 0) = true := by simpa using hM0
      have HP := Lib.hid (show x.put r = x by unfold Wr1.put; rw [HE.out, if_neg hM0])
      clear hM hT hcl hzd h5 hM0 hS
      go_enter Tryz.func10, Tryz.ntmps10
      go_upto_region 3 with fail
      refine wp_region_onto (by kernel_rfl) (by kernel_rfl) ?_
      repeat (go_big_quiet_step ((go_at_call 21; with_reducible exact zl _)))
      refine wpQuiet_nil ?_
      intro _ hw'
      obtain ⟨y1, hw''⟩ := hw'
      subst hw''
      have HB := Lib.hid (onto_below w y1)
      clear z0 z1 z2 z5 zg zl c0 c1 c2 c5 c7 dl
      go_wp2_with fail
      go_ret
      exact ⟨by rw [HE.out]; rfl, S, Lib.hid (by rw [HP.out]; exact wbx_keep hW.out (Touch.of_below HB.out (fun _ => False)) (fun _ _ h => h)), Lib.hid (Touch.of_below HB.out S), Lib.hid (Sub.refl _ _)⟩
  · have HE := Lib.hid (show x.putE r = 24 by unfold Wr1.putE; rw [hcl]; rfl)
    have HP := Lib.hid (show x.put r = x by unfold Wr1.put; rw [HE.out, if_neg (by decide)])
    clear h5 hcl
    go_enter Tryz.func10, Tryz.ntmps10
    go_wp2_with fail
    go_ret
    exact ⟨by rw [HE.out]; rfl, S, Lib.hid (by rw [HP.out]; exact hW.out), Lib.hid (Touch.refl _ _), Lib.hid (Sub.refl _ _)⟩

set_option maxRecDepth 100000 in
set_option maxHeartbeats 1600000 in
theorem take_pc (x : Wr1) (p : Addr) (S : Nat → Prop) (n : Int) (w : World) (hS : x.S.size ≤ 1000000) (hn0 : -9223372036854775808 ≤ n) (hn1 : n ≤ 9223372036854775807) (hW : Hid (WBx w p x S)) :
    Calls Tryz.prog 13 #[.pointer (some p), .int .i64 n] w fun y w' => ∃ (O : Option Addr) (m c : Nat) (S' : Nat → Prop), y = .returned (.slice O m c) ∧ m = (x.got n).size ∧ Hid (SlOwn w' w.heap.size 5 O m c (u8s (bl (x.got n)))) ∧ Hid (∀ k, blkOf O = some k → ¬ S' k) ∧
      Hid (WBx w' p (x.take n) S') ∧ Hid (Touch w w' S) ∧ Hid (Sub w S' S) := by
  obtain ⟨g, B, m, cb, k, rfl, h2, h3, h4, h5, h6, h7, h8⟩ := hW.out
  obtain ⟨N, hN⟩ : ∃ N, x.tkN n = N := ⟨_, rfl⟩
  have hNm : N ≤ m := by rw [← hN, h5]; exact Nat.min_le_right _ _
  have hNd : (N : Int) = min (max n 0) (m : Int) := by
    have h1 : N = min n.toNat m := by rw [← hN, h5]; rfl
    omega
  have c3 : w.cell? ⟨g, 3, none⟩ = some (.slice B m cb) := h2.out.cell 3
  have dl := h2.out.lt
  have hmc : m ≤ cb := h3.out.2.1
  have hm9 : m ≤ 1000000 := by omega
  have HTK := Lib.hid (h3.out.toIn.take hNm)
  have H5 := Lib.hid h5
  clear h5
  have hsl := Lib.hid hNd
  go_enter Tryz.func13, Tryz.ntmps13
  go_upto_region 2 with fail
  rw [← hNd]
  clear hNd
  have HOWN := Lib.hid (own_pc B N cb ((bl x.rest).take N) w (by omega) (Lib.hid (by
    have h := HTK.out
    rw [show List.take N (u8s (bl x.rest)) = u8s ((bl x.rest).take N) by unfold u8s; rw [List.map_take]] at h
    exact h)))
  go_wp2_with fail
  refine HOWN.out.mono ?_
  rintro y W1 ⟨O, cO, rfl, HO, hb1⟩
  have HB1 := Lib.hid hb1
  have HS1 := Lib.hid (h2.out.below hb1)
  have HA1 := Lib.hid (h3.out.below hb1)
  have HDR := Lib.hid (drop_pc x.d x.q x.e g B m cb k N x.ct x.S.size x.cl (bl x.rest) W1 (by omega) h4 hNm HS1 HA1)
  clear HOWN c3 dl hb1
  go_wp2_with fail
  refine HDR.out.mono ?_
  rintro y W2 ⟨rfl, A', c', k', hk', HS2, HA2, HT2, HBL⟩
  clear HDR
  go_wp2_with fail
  go_ret
  have hgo := got_rest x n
  rw [hN] at hgo
  have hre := rest_take x n
  rw [hN] at hre
  have hO2 := HO.out.touch HT2.out (fun j hj e => HO.out.unlike_st HS1.out (by decide) j hj e)
  have hgs : N = (x.got n).size := by
    rw [← bl_length, hgo, List.length_take]
    have := h3.out.1
    rw [u8s_length] at this
    omega
  have htw : Touch w W2 S := (Touch.of_below HB1.out S).trans (Sub.refl _ _) (HT2.out.mono (fun j hj => by
    have hj' : j = g := hj
    rw [hj']; exact h8.out.1))
  have hnb : ∀ j, blkOf O = some j → ¬ (j = g ∨ blkOf A' = some j) := fun j hj h => by
    rcases h with h | h
    · exact HO.out.unlike_st HS1.out (by decide) j hj h
    · have hlo := HO.out.blk j hj
      rcases HBL.out j h with h | h
      · have := h3.out.blk j h; omega
      · omega
  refine ⟨O, N, cO, fun j => j = g ∨ blkOf A' = some j, rfl, hgs, Lib.hid ?_, Lib.hid hnb, Lib.hid ?_, Lib.hid htw, Lib.hid (fun j hj => ?_)⟩
  · rw [hgo]; exact hO2
  · refine ⟨g, A', m - N, c', k', rfl, Lib.hid ?_, Lib.hid ?_, hk', ?_, h6, ?_, Lib.hid ⟨.inl rfl, fun j hj => .inr hj, fun j hj => ?_⟩⟩
    · exact HS2.out
    · rw [hre]; exact HA2.out
    · show m - N = x.S.size - (x.tk + x.tkN n)
      rw [hN, H5.out]; omega
    · show x.tk + x.tkN n ≤ x.S.size
      have := H5.out
      rw [hN]; omega
    · rcases hj with hj | hj
      · rw [hj]; exact HS2.out.lt
      · exact HA2.out.blk j hj
  · rcases hj with hj | hj
    · rw [hj]; exact .inl h8.out.1
    · rcases HBL.out j hj with h | h
      · exact .inl (h8.out.2.1 j h)
      · exact .inr (Nat.le_trans HB1.out.size h)

theorem pw_says : PW WBx :=
  { lies := wbx_lies, keep := wbx_keep
    new_yes := fun d q e w d0 d1 q0 q1 hr => new_yes_pc d q e w d0 d1 q0 q1 hr
    new_no := fun d q e w d0 d1 q0 q1 hr => new_no_pc d q e w d0 d1 q0 q1 hr
    put := fun x p S A n c r w hx hS hct hn hl hW hin => put_pc x p S A n c r w hx hS hct hn hl hW hin
    take := fun x p S n w _ hS h0 h1 hW => take_pc x p S n w hS h0 h1 hW
    close := fun x p S w h => close_pc h
    ready := fun x p S w h => ready_pc h
  }
end Go.Proofs.YtoeanbfemgmgnaaGreatDoor

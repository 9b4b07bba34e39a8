/- Layer 6: the walker behind its pointer; contracts of its step and end. Layer 6: the contract of the walker's pass. Layer 6: what one pass comes to (Pas), and mchU said by it; the contract of pass, of a byte and of the end. -/
import Derived.Test.YtoeanbfemgmgnaaGreatDoorZs
import Derived.Test.YtoeanbfemgmgnaaGreatDoorCua
import Derived.Test.YtoeanbfemgmgnaaGreatDoorCfa
import Derived.Deep.DeepCutAuto
import Derived.Deep.CutBlock
import Derived.Deep.RegionWith
import Derived.Test.YtoeanbfemgmgnaaGreatDoorZp
namespace Go.Proofs.YtoeanbfemgmgnaaGreatDoor
open Go.ChangeShapes Go.WideShapes Go.ChangeAt Go.RowKit
set_option linter.unusedVariables false
set_option linter.unusedSimpArgs false

/-- A walker's cells: its dialect, its two states, its maker. -/
def wkArr (d q e u t : Int) (g : Nat) : Array Value := #[.int .u8 d, .int .u8 q, .int .i64 e, .int .i64 u, .int .i64 t, .pointer (some ⟨g, 0, none⟩)]
def StepOut (p : Nat) (d q e u t : Int) (g : Nat) (bg ad fi li re : Bool) (pb k : Int) (w : World) (x : Ending) (w' : World) : Prop :=
  x = .returned (.tuple #[.agg #[.bool bg, .bool ad, .bool fi, .bool li, .bool re, .int .u8 pb], .int .i64 k]) ∧ Hid (StB w' p 128 (wkArr d q e u t g)) ∧ Hid (Touch w w' (fun k => k = p))
theorem StepOut.of_below {p : Nat} {d q e u t : Int} {g : Nat} {w w' : World} (h : Hid (StB w p 128 (wkArr d q e u t g))) (hb : Below w.heap.size w w') :
    Hid (StB w' p 128 (wkArr d q e u t g)) ∧ Hid (Touch w w' (fun k => k = p)) := ⟨Lib.hid (h.out.below hb), Lib.hid (Touch.of_below hb _)⟩

set_option maxHeartbeats 800000 in
theorem step_no (p : Nat) (d q e u t b : Int) (g : Nat) (w : World) (h : Hid (StB w p 128 (wkArr d q e u t g))) (b0 : 0 ≤ b) (b1 : b ≤ 255) (ho : Hid (utOk u b = false)) :
    Calls Tryz.prog 85 #[.pointer (some ⟨p, 0, none⟩), .int .u8 b] w (StepOut p d q e u t g false false false false false 0 3 w) := by
  have hp := h.out.lt
  have c3 : w.cell? ⟨p, 3, none⟩ = some (.int .i64 u) := h.out.cell 3
  obtain ⟨n, hn⟩ : ∃ n, utNx u b = n := ⟨_, rfl⟩
  have HN := Lib.hid hn
  clear hn
  go_enter Tryz.func85, Tryz.ntmps85
  go_wp2_with (go_at_call 77; ((with_reducible refine (utStep_is u b n false b0 b1 HN ho _).mono ?_); rintro x w' ⟨rfl, rfl⟩))
  refine bodyPost_ret (v := .tuple #[.agg #[.bool false, .bool false, .bool false, .bool false, .bool false, .int .u8 0], .int .i64 3]) ?_ rfl ⟨rfl, StepOut.of_below h ?_⟩
  · simp [results, Tryz.results85, go_sem]
  · (repeat (first | (with_reducible exact Below.refl _ _) | with_reducible refine up_alloc ?_ _ | with_reducible refine up_onto ?_ _ | with_reducible refine up_drew ?_ | with_reducible refine up_set ?_ (by first | (simp; done) | (simp; omega)) _))

/-- An event's box, made and written. -/
theorem ev_join {W V : World} {g : Nat} {n k : Int} {a0 a1 a2 a3 a4 a5 u0 u1 u2 u3 u4 u5 : Value} (hb : Below W.heap.size W V) (h : StB V g 142 #[a0, a1, a2, a3, a4, a5]) (hg : W.heap.size ≤ g) :
    ∃ gg : Nat, Value.pointer (some ⟨g, 0, none⟩) = .pointer (some ⟨gg, 0, none⟩) ∧ Value.int .i64 n = .int .i64 n ∧ Value.int .i64 k = .int .i64 k ∧
      Hid (Below W.heap.size W ((((((V.setCell ⟨g, 0, none⟩ u0).setCell ⟨g, 1, none⟩ u1).setCell ⟨g, 2, none⟩ u2).setCell ⟨g, 3, none⟩ u3).setCell ⟨g, 4, none⟩ u4).setCell ⟨g, 5, none⟩ u5)) ∧
      Hid (StB ((((((V.setCell ⟨g, 0, none⟩ u0).setCell ⟨g, 1, none⟩ u1).setCell ⟨g, 2, none⟩ u2).setCell ⟨g, 3, none⟩ u3).setCell ⟨g, 4, none⟩ u4).setCell ⟨g, 5, none⟩ u5) gg 142 #[u0, u1, u2, u3, u4, u5] ∧ W.heap.size ≤ gg) := by
  have S6 := (((((h.set_ 0 u0).set_ 1 u1).set_ 2 u2).set_ 3 u3).set_ 4 u4).set_ 5 u5
  have b1 := hb.setCell (p := ⟨g, 0, none⟩) hg u0
  have b2 := b1.setCell (p := ⟨g, 1, none⟩) hg u1
  have b3 := b2.setCell (p := ⟨g, 2, none⟩) hg u2
  have b4 := b3.setCell (p := ⟨g, 3, none⟩) hg u3
  have b5 := b4.setCell (p := ⟨g, 4, none⟩) hg u4
  have b6 := b5.setCell (p := ⟨g, 5, none⟩) hg u5
  exact ⟨g, rfl, rfl, rfl, Lib.hid b6, Lib.hid ⟨S6, hg⟩⟩
theorem size_drew_onto (W : World) (yy : Above W.drew) : W.heap.size ≤ (onto W.drew yy).heap.size := (onto_below W.drew yy).size
theorem below_drew_onto (W : World) (yy : Above W.drew) : Below W.heap.size W (onto W.drew yy) := up_onto (show Below W.heap.size W W.drew from (Below.refl _ W).drew) yy
theorem below_alloc_drew (W : World) (o : Obj) (yy : Above (W.alloc o).drew) : Below W.heap.size W (onto (W.alloc o).drew yy) := up_onto (show Below W.heap.size W (W.alloc o).drew from (up_alloc (Below.refl _ W) _).drew) yy
theorem stb_alloc_drew (W : World) (t : TypeId) (cs : Array Value) (yy : Above (W.alloc (.cells cs t)).drew) : StB (onto (W.alloc (.cells cs t)).drew yy) W.heap.size t cs := StB.below (show StB (W.alloc _).drew _ _ _ from StB.new W _ _) (onto_below _ yy)

set_option maxHeartbeats 1600000 in
theorem step_yes (p : Nat) (d q e u t b : Int) (g : Nat) (w : World) (h : Hid (StB w p 128 (wkArr d q e u t g))) (b0 : 0 ≤ b) (b1 : b ≤ 255) (t0 : 0 ≤ t) (t6 : t ≤ 6) (n : Int) (hn : Hid (utNx u b = n)) (ho : Hid (utOk u b = true))
    (bg ad fi li re : Bool) (pb tn k : Int) (hv : Hid (stepR d q e t b = ⟨⟨bg, ad, fi, li, re, pb⟩, tn, k⟩)) :
    Calls Tryz.prog 85 #[.pointer (some ⟨p, 0, none⟩), .int .u8 b] w (StepOut p d q e n tn g bg ad fi li re pb k w) := by
  obtain ⟨W, hW⟩ : ∃ W, W = w.alloc (.cells #[.bool false, .bool false, .bool false, .bool false, .bool false, .int .u8 0] 142) := ⟨_, rfl⟩
  have hp := h.out.lt
  have w3 : w.cell? ⟨p, 3, none⟩ = some (.int .i64 u) := h.out.cell 3
  have hz : W.heap.size = w.heap.size + 1 := by rw [hW]; simp
  have HS := Lib.hid (show StB W p 128 (wkArr d q e u t g) by rw [hW]; exact h.out.alloc _)
  have HE := Lib.hid (show StB W w.heap.size 142 #[.bool false, .bool false, .bool false, .bool false, .bool false, .int .u8 0] by rw [hW]; exact StB.new _ _ _)
  have HB := Lib.hid (show Below w.heap.size w W by rw [hW]; exact up_alloc (Below.refl _ _) _)
  have hpW : p < W.heap.size := by omega
  have c0 : W.cell? ⟨p, 0, none⟩ = some (.int .u8 d) := HS.out.cell 0
  have c1 : W.cell? ⟨p, 1, none⟩ = some (.int .u8 q) := HS.out.cell 1
  have c2 : W.cell? ⟨p, 2, none⟩ = some (.int .i64 e) := HS.out.cell 2
  have c3 : W.cell? ⟨p, 3, none⟩ = some (.int .i64 u) := HS.out.cell 3
  have c4 : W.cell? ⟨p, 4, none⟩ = some (.int .i64 t) := HS.out.cell 4
  go_enter Tryz.func85, Tryz.ntmps85
  go_upto_region 4 with (go_at_call 77; ((with_reducible refine (utStep_is u b n true b0 b1 hn ho _).mono ?_); rintro x w' ⟨rfl, rfl⟩))
  rw [← hW]
  have HZ := Lib.hid hz
  clear hW w3 hz
  go_cut [8, 9, 10] (fun s8 s9 s10 wx => ∃ gg : Nat, s8 = .pointer (some ⟨gg, 0, none⟩) ∧ s9 = .int .i64 tn ∧ s10 = .int .i64 k ∧ Hid (Below W.heap.size W wx) ∧ Hid (StB wx gg 142 #[.bool bg, .bool ad, .bool fi, .bool li, .bool re, .int .u8 pb] ∧ W.heap.size ≤ gg))
  case first =>
    go_region_with (first | (go_at_call 78; ((with_reducible refine (above (step_is d q e t b t0 t6 _ _ _ _ _ _ _ _ hv _)).mono ?_); rintro x _ ⟨rfl, yy, rfl⟩)))
    all_goals (go_wp2_with fail; go_meet)
    all_goals first
      | with_reducible exact ⟨_, rfl, rfl, rfl, Lib.hid (up_alloc (below_drew_onto W yy) _), Lib.hid ⟨StB.new _ _ _, size_drew_onto W yy⟩⟩
      | with_reducible exact ev_join (below_alloc_drew W _ yy) (stb_alloc_drew W _ _ yy) (Nat.le_refl _)
  case rest =>
    obtain ⟨gg, rfl, rfl, rfl, HBW, HG⟩ := hcut
    obtain ⟨V, hV⟩ : ∃ V, V = wc := ⟨_, rfl⟩
    subst hV
    obtain ⟨r, hr⟩ : ∃ r, w.heap.size = r := ⟨_, rfl⟩
    rw [hr] at HZ HE HB hp ⊢
    have HP := Lib.hid (HS.out.below HBW.out)
    have HR := Lib.hid (HE.out.below HBW.out)
    have HGG := Lib.hid HG.out.1
    have n1 : ¬ p = r := by omega
    have n2 : ¬ r = p := by omega
    have n3 : ¬ gg = p := by have := HG.out.2; omega
    have n4 : ¬ p = gg := by omega
    have n5 : ¬ gg = r := by have := HG.out.2; have := HZ.out; omega
    have n6 : ¬ r = gg := by omega
    have pl : p < V.heap.size := HP.out.lt
    have rl : r < V.heap.size := HR.out.lt
    have gl : gg < V.heap.size := HGG.out.lt
    have m0 : V.cell? ⟨gg, 0, none⟩ = some (.bool bg) := HGG.out.cell 0
    have m1 : V.cell? ⟨gg, 1, none⟩ = some (.bool ad) := HGG.out.cell 1
    have m2 : V.cell? ⟨gg, 2, none⟩ = some (.bool fi) := HGG.out.cell 2
    have m3 : V.cell? ⟨gg, 3, none⟩ = some (.bool li) := HGG.out.cell 3
    have m4 : V.cell? ⟨gg, 4, none⟩ = some (.bool re) := HGG.out.cell 4
    have m5 : V.cell? ⟨gg, 5, none⟩ = some (.int .u8 pb) := HGG.out.cell 5
    have p3 : V.cell? ⟨p, 3, none⟩ = some (.int .i64 u) := HP.out.cell 3
    have p4 : V.cell? ⟨p, 4, none⟩ = some (.int .i64 t) := HP.out.cell 4
    have q3 := HP.out.free 3
    have q4 := HP.out.free 4
    have r0 : V.cell? ⟨r, 0, none⟩ = some (.bool false) := HR.out.cell 0
    have r1 : V.cell? ⟨r, 1, none⟩ = some (.bool false) := HR.out.cell 1
    have r2 : V.cell? ⟨r, 2, none⟩ = some (.bool false) := HR.out.cell 2
    have r3 : V.cell? ⟨r, 3, none⟩ = some (.bool false) := HR.out.cell 3
    have r4 : V.cell? ⟨r, 4, none⟩ = some (.bool false) := HR.out.cell 4
    have r5 : V.cell? ⟨r, 5, none⟩ = some (.int .u8 0) := HR.out.cell 5
    have f0 := HR.out.free 0
    have f1 := HR.out.free 1
    have f2 := HR.out.free 2
    have f3 := HR.out.free 3
    have f4 := HR.out.free 4
    have f5 := HR.out.free 5
    clear c0 c1 c2 c3 c4
    go_wp2_with fail
    have SP := ((((((((HP.out.set_ 3 (.int .i64 n)).set_ 4 (.int .i64 tn)).far (p := ⟨r, 0, none⟩) n1 (.bool bg)).far (p := ⟨r, 1, none⟩) n1 (.bool ad)).far (p := ⟨r, 2, none⟩) n1 (.bool fi)).far (p := ⟨r, 3, none⟩) n1 (.bool li)).far (p := ⟨r, 4, none⟩) n1 (.bool re)).far (p := ⟨r, 5, none⟩) n1 (.int .u8 pb))
    have SR := ((((((((HR.out.far (p := ⟨p, 3, none⟩) n2 (.int .i64 n)).far (p := ⟨p, 4, none⟩) n2 (.int .i64 tn)).set_ 0 (.bool bg)).set_ 1 (.bool ad)).set_ 2 (.bool fi)).set_ 3 (.bool li)).set_ 4 (.bool re)).set_ 5 (.int .u8 pb))
    have hb : Below w.heap.size w V := by rw [hr]; exact HB.out.trans (HBW.out.mono (by have := HZ.out; omega))
    have T1 := (Touch.of_below hb (fun k => k = p)).then_set (p := ⟨p, 3, none⟩) (.inl rfl) (.int .i64 n)
    have T2 := T1.then_set (p := ⟨p, 4, none⟩) (.inl rfl) (.int .i64 tn)
    have hrr : w.heap.size ≤ r := by omega
    have T3 := T2.then_set (p := ⟨r, 0, none⟩) (.inr hrr) (.bool bg)
    have T4 := T3.then_set (p := ⟨r, 1, none⟩) (.inr hrr) (.bool ad)
    have T5 := T4.then_set (p := ⟨r, 2, none⟩) (.inr hrr) (.bool fi)
    have T6 := T5.then_set (p := ⟨r, 3, none⟩) (.inr hrr) (.bool li)
    have T7 := T6.then_set (p := ⟨r, 4, none⟩) (.inr hrr) (.bool re)
    have T8 := T7.then_set (p := ⟨r, 5, none⟩) (.inr hrr) (.int .u8 pb)
    clear T1 T2 T3 T4 T5 T6 T7 hrr
    generalize (((((((V.setCell ⟨p, 3, none⟩ (.int .i64 n)).setCell ⟨p, 4, none⟩ (.int .i64 tn)).setCell ⟨r, 0, none⟩ (.bool bg)).setCell ⟨r, 1, none⟩ (.bool ad)).setCell ⟨r, 2, none⟩ (.bool fi)).setCell ⟨r, 3, none⟩ (.bool li)).setCell ⟨r, 4, none⟩ (.bool re)).setCell ⟨r, 5, none⟩ (.int .u8 pb) = V5 at SP SR T8 ⊢
    have w0 : V5.cell? ⟨r, 0, none⟩ = some (.bool bg) := SR.cell 0
    have w1 : V5.cell? ⟨r, 1, none⟩ = some (.bool ad) := SR.cell 1
    have w2 : V5.cell? ⟨r, 2, none⟩ = some (.bool fi) := SR.cell 2
    have w3 : V5.cell? ⟨r, 3, none⟩ = some (.bool li) := SR.cell 3
    have w4 : V5.cell? ⟨r, 4, none⟩ = some (.bool re) := SR.cell 4
    have w5 : V5.cell? ⟨r, 5, none⟩ = some (.int .u8 pb) := SR.cell 5
    refine bodyPost_ret (v := .tuple #[.agg #[.bool bg, .bool ad, .bool fi, .bool li, .bool re, .int .u8 pb], .int .i64 k]) ?_ rfl ⟨rfl, Lib.hid SP, Lib.hid T8⟩
    simp [results, Tryz.results85, go_sem, w0, w1, w2, w3, w4, w5]

set_option maxHeartbeats 800000 in
theorem end_no (p : Nat) (d q e u t : Int) (g : Nat) (w : World) (h : Hid (StB w p 128 (wkArr d q e u t g))) (hu : (u != 0) = true) :
    Calls Tryz.prog 86 #[.pointer (some ⟨p, 0, none⟩)] w (StepOut p d q e u t g false false false false false 0 12 w) := by
  have hp := h.out.lt
  have c3 : w.cell? ⟨p, 3, none⟩ = some (.int .i64 u) := h.out.cell 3
  go_enter Tryz.func86, Tryz.ntmps86
  go_wp2_with fail
  refine bodyPost_ret (v := .tuple #[.agg #[.bool false, .bool false, .bool false, .bool false, .bool false, .int .u8 0], .int .i64 12]) ?_ rfl ⟨rfl, StepOut.of_below h ?_⟩
  · simp [results, Tryz.results86, go_sem]
  · (repeat (first | (with_reducible exact Below.refl _ _) | with_reducible refine up_alloc ?_ _ | with_reducible refine up_onto ?_ _ | with_reducible refine up_drew ?_ | with_reducible refine up_set ?_ (by first | (simp; done) | (simp; omega)) _))
set_option maxHeartbeats 800000 in
theorem end_yes (p : Nat) (d q e t : Int) (g : Nat) (w : World) (h : Hid (StB w p 128 (wkArr d q e 0 t g))) (t0 : 0 ≤ t) (t6 : t ≤ 6) (bg ad fi li re : Bool) (pb k : Int) (hv : Hid (closeE t = ⟨bg, ad, fi, li, re, pb⟩)) (hk : Hid (closeK t = k)) :
    Calls Tryz.prog 86 #[.pointer (some ⟨p, 0, none⟩)] w (StepOut p d q e 0 t g bg ad fi li re pb k w) := by
  have hp := h.out.lt
  have c3 : w.cell? ⟨p, 3, none⟩ = some (.int .i64 0) := h.out.cell 3
  have c4 : w.cell? ⟨p, 4, none⟩ = some (.int .i64 t) := h.out.cell 4
  go_enter Tryz.func86, Tryz.ntmps86
  go_wp2_with (go_at_call 81; ((with_reducible refine (above (close_is t t0 t6 bg ad fi li re pb k hv hk _)).mono ?_); rintro x _ ⟨rfl, yy, rfl⟩))
  refine bodyPost_ret (v := .tuple #[.agg #[.bool bg, .bool ad, .bool fi, .bool li, .bool re, .int .u8 pb], .int .i64 k]) ?_ rfl ⟨rfl, StepOut.of_below h ?_⟩
  · simp [results, Tryz.results86, go_sem]
  · (repeat (first | (with_reducible exact Below.refl _ _) | with_reducible refine up_alloc ?_ _ | with_reducible refine up_onto ?_ _ | with_reducible refine up_drew ?_ | with_reducible refine up_set ?_ (by first | (simp; done) | (simp; omega)) _))
end Go.Proofs.YtoeanbfemgmgnaaGreatDoor

namespace Go.Proofs.YtoeanbfemgmgnaaGreatDoor
open Go.ChangeShapes Go.WideShapes Go.ChangeAt Go.RowKit
set_option linter.unusedVariables false
set_option linter.unusedSimpArgs false

/-- Block p is a walker; Z are the blocks that it, and its maker, alone have. -/
def WkB (w : World) (p : Nat) (d q e u t : Int) (m : Mk) (Z : Nat → Prop) : Prop :=
  ∃ g S, StB w p 128 (wkArr d q e u t g) ∧ MkB w g m S ∧ ¬ S p ∧ ∀ k, Z k ↔ (k = p ∨ S k)
theorem WkB.lt {w : World} {p : Nat} {d q e u t : Int} {m : Mk} {Z : Nat → Prop} (h : WkB w p d q e u t m Z) : ∀ k, Z k → k < w.heap.size := by
  obtain ⟨g, S, h1, h2, h3, h4⟩ := h
  intro k hk
  rcases (h4 k).1 hk with rfl | hk
  · exact h1.lt
  · exact h2.lt k hk
theorem WkB.touch {w w' : World} {p : Nat} {d q e u t : Int} {m : Mk} {Z T : Nat → Prop} (h : WkB w p d q e u t m Z) (k : Touch w w' T) (hd : ∀ j, Z j → ¬ T j) : WkB w' p d q e u t m Z := by
  obtain ⟨g, S, h1, h2, h3, h4⟩ := h
  exact ⟨g, S, h1.touch k (hd p ((h4 p).2 (.inl rfl))), h2.touch k fun j hj => hd j ((h4 j).2 (.inr hj)), h3, h4⟩
/-- What a pass answers: the record (l; told: there is one), the error, and what the walker turns to. -/
def PassOut (p : Nat) (d q e u t : Int) (m : Mk) (l : List ByteArray) (n : Nat) (told : Bool) (k : Int) (Z : Nat → Prop) (w : World) (x : Ending) (w' : World) : Prop :=
  ∃ A c, x = .returned (.tuple #[.slice A n c, .bool told, .int .i64 k]) ∧
    Hid (∃ Z', WkB w' p d q e u t m Z' ∧ Touch w w' Z ∧ Sub w Z' Z ∧ SlOwn w' 0 9 A l.length c (strs l) ∧ ∀ j, blkOf A = some j → ¬ Z' j ∧ (Z j ∨ w.heap.size ≤ j))

theorem take_at (g : Nat) (bg ad fi li re : Bool) (pb : Int) (s : Mk) (S : Nat → Prop) (N : Nat) (hN : N ≤ 100000) (ok : Hid (s.Ok N)) (b0 : 0 ≤ pb) (b1 : pb ≤ 255) (s' : Mk) (l : List ByteArray) (n : Nat) (t : Bool) (r : Int)
    (hs : Hid (mTake ⟨bg, ad, fi, li, re, pb⟩ s = s')) (hl : Hid (mRec ⟨bg, ad, fi, li, re, pb⟩ s = l)) (hn : Hid (l.length = n)) (ht : Hid (mTold ⟨bg, ad, fi, li, re, pb⟩ s = t)) (hr : Hid (s'.er = r)) (w : World) (h : Hid (MkB w g s S)) :
    Calls Tryz.prog 79 #[.pointer (some ⟨g, 0, none⟩), .agg #[.bool bg, .bool ad, .bool fi, .bool li, .bool re, .int .u8 pb]] w fun x w' => ∃ A c, x = .returned (.tuple #[.slice A n c, .bool t, .int .i64 r]) ∧ Hid (Handed A c l g s' S w w') :=
  take_is g ⟨bg, ad, fi, li, re, pb⟩ s S N hN ok b0 b1 s' l n t r hs hl hn ht hr w h

section
variable {p : Nat} {d q e u t u' t' : Int} {g : Nat} {bg ad fi li re : Bool} {pb kk : Int} {w : World}
/-- The event's box is written: the walker stays. -/
theorem box_set {w w1 : World} {r : Nat} {cs : Array Value} {S : Nat → Prop} {u0 u1 u2 u3 u4 u5 : Value} {ws : Array Value} (h : StB w1 p 128 ws) (ht : Touch w w1 S) (hr : StB w1 r 142 cs) (hw : w.heap.size ≤ r) (hpr : ¬ r = p) :
    StB ((((((w1.setCell ⟨r, 0, none⟩ u0).setCell ⟨r, 1, none⟩ u1).setCell ⟨r, 2, none⟩ u2).setCell ⟨r, 3, none⟩ u3).setCell ⟨r, 4, none⟩ u4).setCell ⟨r, 5, none⟩ u5) p 128 ws ∧
    Touch w ((((((w1.setCell ⟨r, 0, none⟩ u0).setCell ⟨r, 1, none⟩ u1).setCell ⟨r, 2, none⟩ u2).setCell ⟨r, 3, none⟩ u3).setCell ⟨r, 4, none⟩ u4).setCell ⟨r, 5, none⟩ u5) S := by
  have n1 : ¬ p = r := fun e => hpr e.symm
  have T1 := ht.then_set (p := ⟨r, 0, none⟩) (.inr hw) u0
  have T2 := T1.then_set (p := ⟨r, 1, none⟩) (.inr hw) u1
  have T3 := T2.then_set (p := ⟨r, 2, none⟩) (.inr hw) u2
  have T4 := T3.then_set (p := ⟨r, 3, none⟩) (.inr hw) u3
  have T5 := T4.then_set (p := ⟨r, 4, none⟩) (.inr hw) u4
  have T6 := T5.then_set (p := ⟨r, 5, none⟩) (.inr hw) u5
  exact ⟨(((((h.far (p := ⟨r, 0, none⟩) n1 u0).far (p := ⟨r, 1, none⟩) n1 u1).far (p := ⟨r, 2, none⟩) n1 u2).far (p := ⟨r, 3, none⟩) n1 u3).far (p := ⟨r, 4, none⟩) n1 u4).far (p := ⟨r, 5, none⟩) n1 u5, T6⟩
theorem box_touch (w1 : World) (r : Nat) (u0 u1 u2 u3 u4 u5 : Value) :
    Touch w1 ((((((w1.setCell ⟨r, 0, none⟩ u0).setCell ⟨r, 1, none⟩ u1).setCell ⟨r, 2, none⟩ u2).setCell ⟨r, 3, none⟩ u3).setCell ⟨r, 4, none⟩ u4).setCell ⟨r, 5, none⟩ u5) (fun k => k = r) := by
  have T1 := (Touch.refl w1 (fun k => k = r)).then_set (p := ⟨r, 0, none⟩) (.inl rfl) u0
  have T2 := T1.then_set (p := ⟨r, 1, none⟩) (.inl rfl) u1
  have T3 := T2.then_set (p := ⟨r, 2, none⟩) (.inl rfl) u2
  have T4 := T3.then_set (p := ⟨r, 3, none⟩) (.inl rfl) u3
  have T5 := T4.then_set (p := ⟨r, 4, none⟩) (.inl rfl) u4
  exact T5.then_set (p := ⟨r, 5, none⟩) (.inl rfl) u5
theorem box_stb {w1 : World} {r : Nat} {a0 a1 a2 a3 a4 a5 : Value} (h : StB w1 r 142 #[a0, a1, a2, a3, a4, a5]) (u0 u1 u2 u3 u4 u5 : Value) :
    StB ((((((w1.setCell ⟨r, 0, none⟩ u0).setCell ⟨r, 1, none⟩ u1).setCell ⟨r, 2, none⟩ u2).setCell ⟨r, 3, none⟩ u3).setCell ⟨r, 4, none⟩ u4).setCell ⟨r, 5, none⟩ u5) r 142 #[u0, u1, u2, u3, u4, u5] :=
  (((((h.set_ 0 u0).set_ 1 u1).set_ 2 u2).set_ 3 u3).set_ 4 u4).set_ 5 u5
theorem pass_end {w V w3 : World} {m m' : Mk} {S : Nat → Prop} {A : Option Addr} {c : Nat} {l : List ByteArray} (hp : StB V p 128 (wkArr d q e u' t' g)) (ht : Touch w V (fun k => k = p)) (hm : MkB w g m S) (hpS : ¬ S p) (hh : Handed A c l g m' S V.drew w3) :
    ∃ Z', WkB w3 p d q e u' t' m' Z' ∧ Touch w w3 (fun k => k = p ∨ S k) ∧ Sub w Z' (fun k => k = p ∨ S k) ∧ SlOwn w3 0 9 A l.length c (strs l) ∧ ∀ j, blkOf A = some j → ¬ Z' j ∧ ((j = p ∨ S j) ∨ w.heap.size ≤ j) := by
  obtain ⟨o, S', m3, t3, b3, d3⟩ := hh
  have ht' : Touch w V.drew (fun k => k = p ∨ S k) := (ht.mono fun k hk => .inl hk).then_drew
  have sub : Sub w S (fun k => k = p ∨ S k) := fun k hk => .inl (.inr hk)
  have hz := ht.size
  have hpl : p < V.drew.heap.size := hp.lt
  have n1 : ¬ S' p := fun hs' => by
    rcases b3 p hs' with h1 | h1
    · exact hpS h1
    · omega
  have np : ∀ j, blkOf A = some j → j ≠ p := fun j hj e => by
    subst e
    rcases (d3 j hj).2 with h1 | h1
    · exact hpS h1
    · omega
  refine ⟨fun k => k = p ∨ S' k, ⟨g, S', StB.touch (w := V.drew) hp t3 hpS, m3, n1, fun k => Iff.rfl⟩, ht'.trans sub t3, ?_, o, fun j hj => ⟨?_, ?_⟩⟩
  · rintro k (hk | hk)
    · exact .inl (.inl hk)
    · rcases b3 k hk with h1 | h1
      · exact .inl (.inr h1)
      · exact .inr (Nat.le_trans hz h1)
  · rintro (h1 | h1)
    · exact np j hj h1
    · exact (d3 j hj).1 h1
  · rcases (d3 j hj).2 with h1 | h1
    · exact .inl (.inr h1)
    · exact .inr (Nat.le_trans hz h1)
set_option maxHeartbeats 1600000 in
theorem pass_bad (at_ : Nat) (s : ByteArray) (b : Int) (hs : s.size ≤ 1000000) (hlt : at_ < s.size) (hb : Hid (((s[at_].toNat : Nat) : Int) = b))
    (hst : ∀ V, Hid (StB V p 128 (wkArr d q e u t g)) → Calls Tryz.prog 85 #[.pointer (some ⟨p, 0, none⟩), .int .u8 b] V (StepOut p d q e u' t' g bg ad fi li re pb kk V)) (hk : (kk != 0) = true)
    (h : Hid (StB w p 128 (wkArr d q e u t g))) :
    Calls Tryz.prog 70 #[.pointer (some ⟨p, 0, none⟩), .string s, .int .i64 at_] w fun x w' => x = .returned (.tuple #[.slice none 0 0, .bool false, .int .i64 kk]) ∧ Hid (StB w' p 128 (wkArr d q e u' t' g) ∧ Touch w w' (fun k => k = p)) := by
  have hs1 : s.size ≤ 9223372036854775807 := by omega
  have hlt' : (at_ : Int) < s.size := by omega
  have hp := h.out.lt
  obtain ⟨r, hr⟩ : ∃ r, w.heap.size = r := ⟨_, rfl⟩
  go_enter Tryz.func70, Tryz.ntmps70
  go_wp2_with fail
  rw [hb.out]
  refine (hst _ (Lib.hid (h.out.alloc _))).mono ?_
  rintro x w1 ⟨rfl, HS1, HT1⟩
  have hpr : ¬ r = p := by omega
  have HR := Lib.hid (show StB w1 r 142 #[.bool false, .bool false, .bool false, .bool false, .bool false, .int .u8 0] from (StB.made w hr.symm _ _).touch HT1.out hpr)
  have HT := Lib.hid (show Touch w w1 (fun k => k = p) from (Touch.of_below (up_alloc (Below.refl _ w) _) _).trans (Sub.refl _ _) HT1.out)
  have rl := HR.out.lt
  have r0 : w1.cell? ⟨r, 0, none⟩ = some (.bool false) := HR.out.cell 0
  have r1 : w1.cell? ⟨r, 1, none⟩ = some (.bool false) := HR.out.cell 1
  have r2 : w1.cell? ⟨r, 2, none⟩ = some (.bool false) := HR.out.cell 2
  have r3 : w1.cell? ⟨r, 3, none⟩ = some (.bool false) := HR.out.cell 3
  have r4 : w1.cell? ⟨r, 4, none⟩ = some (.bool false) := HR.out.cell 4
  have r5 : w1.cell? ⟨r, 5, none⟩ = some (.int .u8 0) := HR.out.cell 5
  have f0 := HR.out.free 0
  have f1 := HR.out.free 1
  have f2 := HR.out.free 2
  have f3 := HR.out.free 3
  have f4 := HR.out.free 4
  have f5 := HR.out.free 5
  clear HT1
  go_wp2_with fail
  refine bodyPost_ret (v := .tuple #[.slice none 0 0, .bool false, .int .i64 kk]) (by simp [results, Tryz.results70, go_sem]) rfl ⟨rfl, Lib.hid ?_⟩
  exact box_set HS1.out HT.out HR.out (by omega) hpr
set_option maxHeartbeats 1600000 in
theorem pass_bad_end (s : ByteArray) (hs : s.size ≤ 1000000)
    (hst : ∀ V, Hid (StB V p 128 (wkArr d q e u t g)) → Calls Tryz.prog 86 #[.pointer (some ⟨p, 0, none⟩)] V (StepOut p d q e u' t' g bg ad fi li re pb kk V)) (hk : (kk != 0) = true)
    (h : Hid (StB w p 128 (wkArr d q e u t g))) :
    Calls Tryz.prog 70 #[.pointer (some ⟨p, 0, none⟩), .string s, .int .i64 s.size] w fun x w' => x = .returned (.tuple #[.slice none 0 0, .bool false, .int .i64 kk]) ∧ Hid (StB w' p 128 (wkArr d q e u' t' g) ∧ Touch w w' (fun k => k = p)) := by
  have hs1 : s.size ≤ 9223372036854775807 := by omega
  have hp := h.out.lt
  obtain ⟨r, hr⟩ : ∃ r, w.heap.size = r := ⟨_, rfl⟩
  go_enter Tryz.func70, Tryz.ntmps70
  go_wp2_with fail
  refine (hst _ (Lib.hid (h.out.alloc _))).mono ?_
  rintro x w1 ⟨rfl, HS1, HT1⟩
  have hpr : ¬ r = p := by omega
  have HR := Lib.hid (show StB w1 r 142 #[.bool false, .bool false, .bool false, .bool false, .bool false, .int .u8 0] from (StB.made w hr.symm _ _).touch HT1.out hpr)
  have HT := Lib.hid (show Touch w w1 (fun k => k = p) from (Touch.of_below (up_alloc (Below.refl _ w) _) _).trans (Sub.refl _ _) HT1.out)
  have rl := HR.out.lt
  have r0 : w1.cell? ⟨r, 0, none⟩ = some (.bool false) := HR.out.cell 0
  have r1 : w1.cell? ⟨r, 1, none⟩ = some (.bool false) := HR.out.cell 1
  have r2 : w1.cell? ⟨r, 2, none⟩ = some (.bool false) := HR.out.cell 2
  have r3 : w1.cell? ⟨r, 3, none⟩ = some (.bool false) := HR.out.cell 3
  have r4 : w1.cell? ⟨r, 4, none⟩ = some (.bool false) := HR.out.cell 4
  have r5 : w1.cell? ⟨r, 5, none⟩ = some (.int .u8 0) := HR.out.cell 5
  have f0 := HR.out.free 0
  have f1 := HR.out.free 1
  have f2 := HR.out.free 2
  have f3 := HR.out.free 3
  have f4 := HR.out.free 4
  have f5 := HR.out.free 5
  clear HT1
  go_wp2_with fail
  refine bodyPost_ret (v := .tuple #[.slice none 0 0, .bool false, .int .i64 kk]) (by simp [results, Tryz.results70, go_sem]) rfl ⟨rfl, Lib.hid ?_⟩
  exact box_set HS1.out HT.out HR.out (by omega) hpr
set_option maxHeartbeats 1600000 in
theorem pass_take (at_ : Nat) (s : ByteArray) (b : Int) (hs : s.size ≤ 1000000) (hlt : at_ < s.size) (hb : Hid (((s[at_].toNat : Nat) : Int) = b))
    (hst : ∀ V, Hid (StB V p 128 (wkArr d q e u t g)) → Calls Tryz.prog 85 #[.pointer (some ⟨p, 0, none⟩), .int .u8 b] V (StepOut p d q e u' t' g bg ad fi li re pb 0 V)) (b0 : 0 ≤ pb) (b1 : pb ≤ 255)
    (h : Hid (StB w p 128 (wkArr d q e u t g))) (m : Mk) (S : Nat → Prop) (N : Nat) (hN : N ≤ 100000) (ok : Hid (m.Ok N)) (hm : Hid (MkB w g m S)) (hpS : Hid (¬ S p)) (m' : Mk) (l : List ByteArray) (n : Nat) (told : Bool) (r' : Int)
    (hs' : Hid (mTake ⟨bg, ad, fi, li, re, pb⟩ m = m')) (hl : Hid (mRec ⟨bg, ad, fi, li, re, pb⟩ m = l)) (hn : Hid (l.length = n)) (ht : Hid (mTold ⟨bg, ad, fi, li, re, pb⟩ m = told)) (hr' : Hid (m'.er = r')) :
    Calls Tryz.prog 70 #[.pointer (some ⟨p, 0, none⟩), .string s, .int .i64 at_] w (PassOut p d q e u' t' m' l n told r' (fun k => k = p ∨ S k) w) := by
  have hs1 : s.size ≤ 9223372036854775807 := by omega
  have hlt' : (at_ : Int) < s.size := by omega
  have hp := h.out.lt
  obtain ⟨r, hr⟩ : ∃ r, w.heap.size = r := ⟨_, rfl⟩
  go_enter Tryz.func70, Tryz.ntmps70
  go_wp2_with fail
  rw [hb.out]
  refine (hst _ (Lib.hid (h.out.alloc _))).mono ?_
  rintro x w1 ⟨rfl, HS1, HT1⟩
  have hpr : ¬ r = p := by omega
  have HR := Lib.hid (show StB w1 r 142 #[.bool false, .bool false, .bool false, .bool false, .bool false, .int .u8 0] from (StB.made w hr.symm _ _).touch HT1.out hpr)
  have HT := Lib.hid (show Touch w w1 (fun k => k = p) from (Touch.of_below (up_alloc (Below.refl _ w) _) _).trans (Sub.refl _ _) HT1.out)
  have rl := HR.out.lt
  have r0 : w1.cell? ⟨r, 0, none⟩ = some (.bool false) := HR.out.cell 0
  have r1 : w1.cell? ⟨r, 1, none⟩ = some (.bool false) := HR.out.cell 1
  have r2 : w1.cell? ⟨r, 2, none⟩ = some (.bool false) := HR.out.cell 2
  have r3 : w1.cell? ⟨r, 3, none⟩ = some (.bool false) := HR.out.cell 3
  have r4 : w1.cell? ⟨r, 4, none⟩ = some (.bool false) := HR.out.cell 4
  have r5 : w1.cell? ⟨r, 5, none⟩ = some (.int .u8 0) := HR.out.cell 5
  have f0 := HR.out.free 0
  have f1 := HR.out.free 1
  have f2 := HR.out.free 2
  have f3 := HR.out.free 3
  have f4 := HR.out.free 4
  have f5 := HR.out.free 5
  have HM1 := Lib.hid (show MkB w1 g m S from (hm.out.below (up_alloc (Below.refl _ w) _)).touch HT1.out (fun j hj e => hpS.out (e ▸ hj)))
  go_wp2_with fail
  obtain ⟨SP, TT⟩ := box_set (u0 := .bool bg) (u1 := .bool ad) (u2 := .bool fi) (u3 := .bool li) (u4 := .bool re) (u5 := .int .u8 pb) HS1.out HT.out HR.out (by omega) hpr
  have SR := box_stb HR.out (.bool bg) (.bool ad) (.bool fi) (.bool li) (.bool re) (.int .u8 pb)
  have TR := box_touch w1 r (.bool bg) (.bool ad) (.bool fi) (.bool li) (.bool re) (.int .u8 pb)
  have MV := HM1.out.touch TR (fun j hj e => by have := hm.out.lt j hj; omega)
  clear r0 r1 r2 r3 r4 r5 f0 f1 f2 f3 f4 f5 rl TR HM1 HS1 HR HT1 HT
  generalize ((((((w1.setCell ⟨r, 0, none⟩ (.bool bg)).setCell ⟨r, 1, none⟩ (.bool ad)).setCell ⟨r, 2, none⟩ (.bool fi)).setCell ⟨r, 3, none⟩ (.bool li)).setCell ⟨r, 4, none⟩ (.bool re)).setCell ⟨r, 5, none⟩ (.int .u8 pb)) = V at SP TT SR MV ⊢
  have r0 : V.cell? ⟨r, 0, none⟩ = some (.bool bg) := SR.cell 0
  have r1 : V.cell? ⟨r, 1, none⟩ = some (.bool ad) := SR.cell 1
  have r2 : V.cell? ⟨r, 2, none⟩ = some (.bool fi) := SR.cell 2
  have r3 : V.cell? ⟨r, 3, none⟩ = some (.bool li) := SR.cell 3
  have r4 : V.cell? ⟨r, 4, none⟩ = some (.bool re) := SR.cell 4
  have r5 : V.cell? ⟨r, 5, none⟩ = some (.int .u8 pb) := SR.cell 5
  have p5 : V.cell? ⟨p, 5, none⟩ = some (.pointer (some ⟨g, 0, none⟩)) := SP.cell 5
  have HSP := Lib.hid SP
  have HTT := Lib.hid TT
  have HMV := Lib.hid (show MkB V.drew g m S from MV)
  clear SP TT SR MV
  go_region_with (first | (go_at_call 79; ((with_reducible refine (take_at g bg ad fi li re pb m S N hN ok b0 b1 m' l n told r' hs' hl hn ht hr' _ HMV).mono ?_); rintro x w3 ⟨A, c, rfl, HH⟩)))
  all_goals
    go_wp2_with fail
    refine bodyPost_ret (v := .tuple #[.slice A n c, .bool told, .int .i64 r']) (by simp [results, Tryz.results70, go_sem]) (by rfl) ⟨A, c, rfl, Lib.hid ?_⟩
    exact pass_end HSP.out HTT.out hm.out hpS.out HH.out
set_option maxHeartbeats 1600000 in
theorem pass_take_end (s : ByteArray) (hs : s.size ≤ 1000000)
    (hst : ∀ V, Hid (StB V p 128 (wkArr d q e u t g)) → Calls Tryz.prog 86 #[.pointer (some ⟨p, 0, none⟩)] V (StepOut p d q e u' t' g bg ad fi li re pb 0 V)) (b0 : 0 ≤ pb) (b1 : pb ≤ 255)
    (h : Hid (StB w p 128 (wkArr d q e u t g))) (m : Mk) (S : Nat → Prop) (N : Nat) (hN : N ≤ 100000) (ok : Hid (m.Ok N)) (hm : Hid (MkB w g m S)) (hpS : Hid (¬ S p)) (m' : Mk) (l : List ByteArray) (n : Nat) (told : Bool) (r' : Int)
    (hs' : Hid (mTake ⟨bg, ad, fi, li, re, pb⟩ m = m')) (hl : Hid (mRec ⟨bg, ad, fi, li, re, pb⟩ m = l)) (hn : Hid (l.length = n)) (ht : Hid (mTold ⟨bg, ad, fi, li, re, pb⟩ m = told)) (hr' : Hid (m'.er = r')) :
    Calls Tryz.prog 70 #[.pointer (some ⟨p, 0, none⟩), .string s, .int .i64 s.size] w (PassOut p d q e u' t' m' l n told r' (fun k => k = p ∨ S k) w) := by
  have hs1 : s.size ≤ 9223372036854775807 := by omega
  have hp := h.out.lt
  obtain ⟨r, hr⟩ : ∃ r, w.heap.size = r := ⟨_, rfl⟩
  go_enter Tryz.func70, Tryz.ntmps70
  go_wp2_with fail
  refine (hst _ (Lib.hid (h.out.alloc _))).mono ?_
  rintro x w1 ⟨rfl, HS1, HT1⟩
  have hpr : ¬ r = p := by omega
  have HR := Lib.hid (show StB w1 r 142 #[.bool false, .bool false, .bool false, .bool false, .bool false, .int .u8 0] from (StB.made w hr.symm _ _).touch HT1.out hpr)
  have HT := Lib.hid (show Touch w w1 (fun k => k = p) from (Touch.of_below (up_alloc (Below.refl _ w) _) _).trans (Sub.refl _ _) HT1.out)
  have rl := HR.out.lt
  have r0 : w1.cell? ⟨r, 0, none⟩ = some (.bool false) := HR.out.cell 0
  have r1 : w1.cell? ⟨r, 1, none⟩ = some (.bool false) := HR.out.cell 1
  have r2 : w1.cell? ⟨r, 2, none⟩ = some (.bool false) := HR.out.cell 2
  have r3 : w1.cell? ⟨r, 3, none⟩ = some (.bool false) := HR.out.cell 3
  have r4 : w1.cell? ⟨r, 4, none⟩ = some (.bool false) := HR.out.cell 4
  have r5 : w1.cell? ⟨r, 5, none⟩ = some (.int .u8 0) := HR.out.cell 5
  have f0 := HR.out.free 0
  have f1 := HR.out.free 1
  have f2 := HR.out.free 2
  have f3 := HR.out.free 3
  have f4 := HR.out.free 4
  have f5 := HR.out.free 5
  have HM1 := Lib.hid (show MkB w1 g m S from (hm.out.below (up_alloc (Below.refl _ w) _)).touch HT1.out (fun j hj e => hpS.out (e ▸ hj)))
  go_wp2_with fail
  obtain ⟨SP, TT⟩ := box_set (u0 := .bool bg) (u1 := .bool ad) (u2 := .bool fi) (u3 := .bool li) (u4 := .bool re) (u5 := .int .u8 pb) HS1.out HT.out HR.out (by omega) hpr
  have SR := box_stb HR.out (.bool bg) (.bool ad) (.bool fi) (.bool li) (.bool re) (.int .u8 pb)
  have TR := box_touch w1 r (.bool bg) (.bool ad) (.bool fi) (.bool li) (.bool re) (.int .u8 pb)
  have MV := HM1.out.touch TR (fun j hj e => by have := hm.out.lt j hj; omega)
  clear r0 r1 r2 r3 r4 r5 f0 f1 f2 f3 f4 f5 rl TR HM1 HS1 HR HT1 HT
  generalize ((((((w1.setCell ⟨r, 0, none⟩ (.bool bg)).setCell ⟨r, 1, none⟩ (.bool ad)).setCell ⟨r, 2, none⟩ (.bool fi)).setCell ⟨r, 3, none⟩ (.bool li)).setCell ⟨r, 4, none⟩ (.bool re)).setCell ⟨r, 5, none⟩ (.int .u8 pb)) = V at SP TT SR MV ⊢
  have r0 : V.cell? ⟨r, 0, none⟩ = some (.bool bg) := SR.cell 0
  have r1 : V.cell? ⟨r, 1, none⟩ = some (.bool ad) := SR.cell 1
  have r2 : V.cell? ⟨r, 2, none⟩ = some (.bool fi) := SR.cell 2
  have r3 : V.cell? ⟨r, 3, none⟩ = some (.bool li) := SR.cell 3
  have r4 : V.cell? ⟨r, 4, none⟩ = some (.bool re) := SR.cell 4
  have r5 : V.cell? ⟨r, 5, none⟩ = some (.int .u8 pb) := SR.cell 5
  have p5 : V.cell? ⟨p, 5, none⟩ = some (.pointer (some ⟨g, 0, none⟩)) := SP.cell 5
  have HSP := Lib.hid SP
  have HTT := Lib.hid TT
  have HMV := Lib.hid (show MkB V.drew g m S from MV)
  clear SP TT SR MV
  go_region_with (first | (go_at_call 79; ((with_reducible refine (take_at g bg ad fi li re pb m S N hN ok b0 b1 m' l n told r' hs' hl hn ht hr' _ HMV).mono ?_); rintro x w3 ⟨A, c, rfl, HH⟩)))
  all_goals
    go_wp2_with fail
    refine bodyPost_ret (v := .tuple #[.slice A n c, .bool told, .int .i64 r']) (by simp [results, Tryz.results70, go_sem]) (by rfl) ⟨A, c, rfl, Lib.hid ?_⟩
    exact pass_end HSP.out HTT.out hm.out hpS.out HH.out
end
end Go.Proofs.YtoeanbfemgmgnaaGreatDoor

namespace Go.Proofs.YtoeanbfemgmgnaaGreatDoor
open Go.ChangeShapes Go.WideShapes Go.ChangeAt Go.RowKit
set_option linter.unusedVariables false
set_option linter.unusedSimpArgs false

structure Pas where
  u : Int
  t : Int
  m : Mk
  l : List ByteArray
  told : Bool
  k : Int
def pasT (u t : Int) (ev : Ev) (m : Mk) : Pas := ⟨u, t, mTake ev m, mRec ev m, mTold ev m, (mTake ev m).er⟩
def pasB (d q e u t : Int) (m : Mk) (b : Int) : Pas :=
  if utOk u b = false then ⟨u, t, m, [], false, 3⟩
  else if (stepR d q e t b).k ≠ 0 then ⟨utNx u b, (stepR d q e t b).n, m, [], false, (stepR d q e t b).k⟩
  else pasT (utNx u b) (stepR d q e t b).n (stepR d q e t b).ev m
def pasE (u t : Int) (m : Mk) : Pas :=
  if u ≠ 0 then ⟨u, t, m, [], false, 12⟩ else if closeK t ≠ 0 then ⟨u, t, m, [], false, closeK t⟩ else pasT u t (closeE t) m
theorem mchU_cons {d q e u t : Int} {m : Mk} {i : Nat} {b : Int} {r : List Int} {v : Pas} (h : pasB d q e u t m b = v) :
    mchU d q e u t m i (b :: r) = if v.k ≠ 0 then ⟨[], v.k, i⟩ else if v.told = true then (mchU d q e v.u v.t v.m (i + 1) r).more v.l i else mchU d q e v.u v.t v.m (i + 1) r := by
  rw [mchU, ← h, pasB]
  by_cases h1 : utOk u b = false
  · rw [if_pos h1, if_pos h1, if_pos (by show (3 : Int) ≠ 0; omega)]
  · rw [if_neg h1, if_neg h1]
    by_cases h2 : (stepR d q e t b).k ≠ 0
    · rw [if_pos h2, if_pos h2, if_pos h2]
    · rw [if_neg h2, if_neg h2]; rfl
theorem mchU_nil {d q e u t : Int} {m : Mk} {i : Nat} {v : Pas} (h : pasE u t m = v) :
    mchU d q e u t m i [] = if v.k ≠ 0 then ⟨[], v.k, i⟩ else if v.told = true then ⟨[(v.l, i)], 0, 0⟩ else ⟨[], 0, 0⟩ := by
  rw [mchU, ← h, pasE]
  by_cases h1 : u ≠ 0
  · rw [if_pos h1, if_pos h1, if_pos (by show (12 : Int) ≠ 0; omega)]
  · rw [if_neg h1, if_neg h1]
    by_cases h2 : closeK t ≠ 0
    · rw [if_pos h2, if_pos h2, if_pos h2]
    · rw [if_neg h2, if_neg h2]; rfl
theorem pasB_facts {d q e u t : Int} {m : Mk} {b : Int} {v : Pas} {N : Nat} (ok : m.Ok N) (t0 : 0 ≤ t) (t6 : t ≤ 6) (h : pasB d q e u t m b = v) : v.m.Ok (N + 1) ∧ 0 ≤ v.t ∧ v.t ≤ 6 := by
  have hn := stepR_n (d := d) (q := q) (e := e) (s := t) (b := b)
  have h0 : m.Ok (N + 1) := (Few.refl m 1 1 2).ok ok
  rw [← h, pasB]
  split
  · exact ⟨h0, t0, t6⟩
  · split
    · exact ⟨h0, hn⟩
    · exact ⟨ok_take _ ok, hn⟩

theorem pasE_facts {u t : Int} {m : Mk} {v : Pas} {N : Nat} (ok : m.Ok N) (t0 : 0 ≤ t) (t6 : t ≤ 6) (h : pasE u t m = v) : v.m.Ok (N + 1) ∧ 0 ≤ v.t ∧ v.t ≤ 6 := by
  have h0 : m.Ok (N + 1) := (Few.refl m 1 1 2).ok ok
  rw [← h, pasE]
  split
  · exact ⟨h0, t0, t6⟩
  · split
    · exact ⟨h0, t0, t6⟩
    · exact ⟨ok_take _ ok, t0, t6⟩

section
variable {p : Nat} {d q e u t u' t' : Int} {g : Nat} {w w' : World} {m : Mk} {S Z : Nat → Prop}
theorem bad_end (hm : MkB w g m S) (hpS : ¬ S p) (hp : StB w' p 128 (wkArr d q e u' t' g)) (ht : Touch w w' (fun k => k = p)) (hZ : ∀ k, Z k ↔ (k = p ∨ S k)) :
    ∃ Z', WkB w' p d q e u' t' m Z' ∧ Touch w w' Z ∧ Sub w Z' Z ∧ SlOwn w' 0 9 none ([] : List ByteArray).length 0 (strs []) ∧ ∀ j, blkOf none = some j → ¬ Z' j ∧ (Z j ∨ w.heap.size ≤ j) :=
  ⟨Z, ⟨g, S, hp, hm.touch ht (fun j hj e => hpS (e ▸ hj)), hpS, hZ⟩, ht.mono (fun k hk => (hZ k).2 (.inl hk)), Sub.refl _ _, SlOwn.nothing _ _ _, fun j hj => by cases hj⟩

theorem pass_b (s : ByteArray) (hs : s.size ≤ 1000) (at_ : Nat) (hlt : at_ < s.size) (N : Nat) (hN : N ≤ 100000) (ok : Hid (m.Ok N)) (t0 : 0 ≤ t) (t6 : t ≤ 6) (u' t' : Int) (m' : Mk) (l : List ByteArray) (n : Nat) (told : Bool) (k : Int)
    (hv : Hid (pasB d q e u t m ((s[at_].toNat : Nat) : Int) = ⟨u', t', m', l, told, k⟩)) (hn : Hid (l.length = n)) (w : World) (h : Hid (WkB w p d q e u t m Z)) :
    Calls Tryz.prog 70 #[.pointer (some ⟨p, 0, none⟩), .string s, .int .i64 at_] w (PassOut p d q e u' t' m' l n told k Z w) := by
  obtain ⟨g, S, h1, h2, h3, h4⟩ := h.out
  obtain ⟨b, hb⟩ : ∃ b, ((s[at_].toNat : Nat) : Int) = b := ⟨_, rfl⟩
  have b0 : 0 ≤ b := by omega
  have b1 : b ≤ 255 := by have := s[at_].toNat_lt; omega
  have hv' := hv.out
  have hn' := hn.out
  rw [hb] at hv'
  rw [pasB] at hv'
  by_cases c1 : utOk u b = false
  · rw [if_pos c1] at hv'
    cases hv'
    subst hn'
    refine (pass_bad at_ s b (by omega) hlt (Lib.hid hb) (fun V hV => step_no p d q e u t b g V hV b0 b1 (Lib.hid c1)) rfl (Lib.hid h1)).mono ?_
    rintro x w' ⟨rfl, HH⟩
    exact ⟨none, 0, rfl, Lib.hid (bad_end h2 h3 HH.out.1 HH.out.2 h4)⟩
  · rw [if_neg c1] at hv'
    have c1' : utOk u b = true := by simpa using c1
    obtain ⟨⟨⟨bg, ad, fi, li, re, pb⟩, tn, kk⟩, hr⟩ : ∃ v, stepR d q e t b = v := ⟨_, rfl⟩
    have hpb := stepR_b (d := d) (q := q) (e := e) (s := t) b0 b1
    rw [hr] at hv' hpb
    by_cases c2 : kk ≠ 0
    · rw [if_pos c2] at hv'
      cases hv'
      subst hn'
      refine (pass_bad at_ s b (by omega) hlt (Lib.hid hb) (fun V hV => step_yes p d q e u t b g V hV b0 b1 t0 t6 _ (Lib.hid rfl) (Lib.hid c1') bg ad fi li re pb _ _ (Lib.hid hr)) (by simpa using c2) (Lib.hid h1)).mono ?_
      rintro x w' ⟨rfl, HH⟩
      exact ⟨none, 0, rfl, Lib.hid (bad_end h2 h3 HH.out.1 HH.out.2 h4)⟩
    · have c2' : kk = 0 := by omega
      subst c2'
      rw [if_neg c2] at hv'
      cases hv'
      refine (pass_take at_ s b (by omega) hlt (Lib.hid hb) (fun V hV => step_yes p d q e u t b g V hV b0 b1 t0 t6 _ (Lib.hid rfl) (Lib.hid c1') bg ad fi li re pb _ _ (Lib.hid hr)) hpb.1 hpb.2 (Lib.hid h1) m S N hN ok (Lib.hid h2) (Lib.hid h3) _ _ n _ _ (Lib.hid rfl) (Lib.hid rfl) hn (Lib.hid rfl) (Lib.hid rfl)).mono ?_
      rintro x w' ⟨A, c, rfl, HH⟩
      obtain ⟨Z', z1, z2, z3, z4, z5⟩ := HH.out
      exact ⟨A, c, rfl, Lib.hid ⟨Z', z1, z2.mono (fun k hk => (h4 k).2 hk), fun k hk => (z3 k hk).imp (fun h' => (h4 k).2 h') id, z4, fun j hj => ⟨(z5 j hj).1, (z5 j hj).2.imp (fun h' => (h4 j).2 h') id⟩⟩⟩
theorem pass_e (s : ByteArray) (hs : s.size ≤ 1000) (N : Nat) (hN : N ≤ 100000) (ok : Hid (m.Ok N)) (t0 : 0 ≤ t) (t6 : t ≤ 6) (u' t' : Int) (m' : Mk) (l : List ByteArray) (n : Nat) (told : Bool) (k : Int)
    (hv : Hid (pasE u t m = ⟨u', t', m', l, told, k⟩)) (hn : Hid (l.length = n)) (w : World) (h : Hid (WkB w p d q e u t m Z)) :
    Calls Tryz.prog 70 #[.pointer (some ⟨p, 0, none⟩), .string s, .int .i64 s.size] w (PassOut p d q e u' t' m' l n told k Z w) := by
  obtain ⟨g, S, h1, h2, h3, h4⟩ := h.out
  have hv' := hv.out
  have hn' := hn.out
  rw [pasE] at hv'
  by_cases c1 : u ≠ 0
  · rw [if_pos c1] at hv'
    cases hv'
    subst hn'
    refine (pass_bad_end s (by omega) (fun V hV => end_no p d q e u t g V hV (by simpa using c1)) rfl (Lib.hid h1)).mono ?_
    rintro x w' ⟨rfl, HH⟩
    exact ⟨none, 0, rfl, Lib.hid (bad_end h2 h3 HH.out.1 HH.out.2 h4)⟩
  · rw [if_neg c1] at hv'
    have c1' : u = 0 := by omega
    subst c1'
    obtain ⟨⟨bg, ad, fi, li, re, pb⟩, hr⟩ : ∃ v, closeE t = v := ⟨_, rfl⟩
    have hpb := closeE_b t
    rw [hr] at hv' hpb
    by_cases c2 : closeK t ≠ 0
    · rw [if_pos c2] at hv'
      cases hv'
      subst hn'
      refine (pass_bad_end s (by omega) (fun V hV => end_yes p d q e t g V hV t0 t6 bg ad fi li re pb _ (Lib.hid hr) (Lib.hid rfl)) (by simpa using c2) (Lib.hid h1)).mono ?_
      rintro x w' ⟨rfl, HH⟩
      exact ⟨none, 0, rfl, Lib.hid (bad_end h2 h3 HH.out.1 HH.out.2 h4)⟩
    · have c2' : closeK t = 0 := by omega
      rw [if_neg c2] at hv'
      cases hv'
      have hpb' : pb = 0 := hpb
      refine (pass_take_end s (by omega) (fun V hV => end_yes p d q e t g V hV t0 t6 bg ad fi li re pb _ (Lib.hid hr) (Lib.hid c2')) (by omega) (by omega) (Lib.hid h1) m S N hN ok (Lib.hid h2) (Lib.hid h3) _ _ n _ _ (Lib.hid rfl) (Lib.hid rfl) hn (Lib.hid rfl) (Lib.hid rfl)).mono ?_
      rintro x w' ⟨A, c, rfl, HH⟩
      obtain ⟨Z', z1, z2, z3, z4, z5⟩ := HH.out
      exact ⟨A, c, rfl, Lib.hid ⟨Z', z1, z2.mono (fun k hk => (h4 k).2 hk), fun k hk => (z3 k hk).imp (fun h' => (h4 k).2 h') id, z4, fun j hj => ⟨(z5 j hj).1, (z5 j hj).2.imp (fun h' => (h4 j).2 h') id⟩⟩⟩
end
end Go.Proofs.YtoeanbfemgmgnaaGreatDoor

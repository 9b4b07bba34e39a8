/- Layer 6: the walker behind its pointer; contracts of its step and end. -/
import Derived.Test.YtbglecaahopgdaaScc
import Derived.Test.YtbglecaahopgdaaCua
import Derived.Test.YtbglecaahopgdaaCfa
import Derived.Deep.DeepCutAuto
import Derived.Deep.CutBlock
import Derived.Deep.RegionWith
namespace Go.Proofs.Ytbglecaahopgdaa
open Go.ChangeShapes Go.WideShapes Go.ChangeAt Go.RowKit
set_option linter.unusedVariables false
set_option linter.unusedSimpArgs false

/-- A walker's cells: its dialect, its two states, its maker. -/
def wkArr (d q e u t : Int) (g : Nat) : Array Value := #[.int .u8 d, .int .u8 q, .int .i64 e, .int .i64 u, .int .i64 t, .pointer (some ⟨g, 0, none⟩)]
def StepOut (p : Nat) (d q e u t : Int) (g : Nat) (bg ad fi li re : Bool) (pb k : Int) (w : World) (x : Ending) (w' : World) : Prop :=
  x = .returned (.tuple #[.agg #[.bool bg, .bool ad, .bool fi, .bool li, .bool re, .int .u8 pb], .int .i64 k]) ∧ Hid (StB w' p 86 (wkArr d q e u t g)) ∧ Hid (Touch w w' (fun k => k = p))
theorem StepOut.of_below {p : Nat} {d q e u t : Int} {g : Nat} {w w' : World} (h : Hid (StB w p 86 (wkArr d q e u t g))) (hb : Below w.heap.size w w') :
    Hid (StB w' p 86 (wkArr d q e u t g)) ∧ Hid (Touch w w' (fun k => k = p)) := ⟨Lib.hid (h.out.below hb), Lib.hid (Touch.of_below hb _)⟩

set_option maxHeartbeats 800000 in
theorem step_no (p : Nat) (d q e u t b : Int) (g : Nat) (w : World) (h : Hid (StB w p 86 (wkArr d q e u t g))) (b0 : 0 ≤ b) (b1 : b ≤ 255) (ho : Hid (utOk u b = false)) :
    Calls Try.prog 51 #[.pointer (some ⟨p, 0, none⟩), .int .u8 b] w (StepOut p d q e u t g false false false false false 0 3 w) := by
  have hp := h.out.lt
  have c3 : w.cell? ⟨p, 3, none⟩ = some (.int .i64 u) := h.out.cell 3
  obtain ⟨n, hn⟩ : ∃ n, utNx u b = n := ⟨_, rfl⟩
  have HN := Lib.hid hn
  clear hn
  go_enter Try.func51, Try.ntmps51
  go_wp2_with (go_at_call 57; ((with_reducible refine (utStep_is u b n false b0 b1 HN ho _).mono ?_); rintro x w' ⟨rfl, rfl⟩))
  refine bodyPost_ret (v := .tuple #[.agg #[.bool false, .bool false, .bool false, .bool false, .bool false, .int .u8 0], .int .i64 3]) ?_ rfl ⟨rfl, StepOut.of_below h ?_⟩
  · simp [results, Try.results51, go_sem]
  · (repeat (first | (with_reducible exact Below.refl _ _) | with_reducible refine up_alloc ?_ _ | with_reducible refine up_onto ?_ _ | with_reducible refine up_drew ?_ | with_reducible refine up_set ?_ (by first | (simp; done) | (simp; omega)) _))

/-- An event's box, made and written. -/
theorem ev_join {W V : World} {g : Nat} {n k : Int} {a0 a1 a2 a3 a4 a5 u0 u1 u2 u3 u4 u5 : Value} (hb : Below W.heap.size W V) (h : StB V g 103 #[a0, a1, a2, a3, a4, a5]) (hg : W.heap.size ≤ g) :
    ∃ gg : Nat, Value.pointer (some ⟨g, 0, none⟩) = .pointer (some ⟨gg, 0, none⟩) ∧ Value.int .i64 n = .int .i64 n ∧ Value.int .i64 k = .int .i64 k ∧
      Hid (Below W.heap.size W ((((((V.setCell ⟨g, 0, none⟩ u0).setCell ⟨g, 1, none⟩ u1).setCell ⟨g, 2, none⟩ u2).setCell ⟨g, 3, none⟩ u3).setCell ⟨g, 4, none⟩ u4).setCell ⟨g, 5, none⟩ u5)) ∧
      Hid (StB ((((((V.setCell ⟨g, 0, none⟩ u0).setCell ⟨g, 1, none⟩ u1).setCell ⟨g, 2, none⟩ u2).setCell ⟨g, 3, none⟩ u3).setCell ⟨g, 4, none⟩ u4).setCell ⟨g, 5, none⟩ u5) gg 103 #[u0, u1, u2, u3, u4, u5] ∧ W.heap.size ≤ gg) := by
  have S6 := (((((h.set_ 0 u0).set_ 1 u1).set_ 2 u2).set_ 3 u3).set_ 4 u4).set_ 5 u5
  have b1 := hb.setCell (p := ⟨g, 0, none⟩) hg u0
  have b2 := b1.setCell (p := ⟨g, 1, none⟩) hg u1
  have b3 := b2.setCell (p := ⟨g, 2, none⟩) hg u2
  have b4 := b3.setCell (p := ⟨g, 3, none⟩) hg u3
  have b5 := b4.setCell (p := ⟨g, 4, none⟩) hg u4
  have b6 := b5.setCell (p := ⟨g, 5, none⟩) hg u5
  exact ⟨g, rfl, rfl, rfl, Lib.hid b6, Lib.hid ⟨S6, hg⟩⟩
theorem size_drew_onto (W : World) (yy : Above W.drew) : W.heap.size ≤ (onto W.drew yy).heap.size := (onto_below W.drew yy).size
theorem below_drew_onto (W : World) (yy : Above W.drew) : Below W.heap.size W (onto W.drew yy) := up_onto (show Below W.heap.size W W.drew from (Below.refl _ W).drew) yy
theorem below_alloc_drew (W : World) (o : Obj) (yy : Above (W.alloc o).drew) : Below W.heap.size W (onto (W.alloc o).drew yy) := up_onto (show Below W.heap.size W (W.alloc o).drew from (up_alloc (Below.refl _ W) _).drew) yy
theorem stb_alloc_drew (W : World) (t : TypeId) (cs : Array Value) (yy : Above (W.alloc (.cells cs t)).drew) : StB (onto (W.alloc (.cells cs t)).drew yy) W.heap.size t cs := StB.below (show StB (W.alloc _).drew _ _ _ from StB.new W _ _) (onto_below _ yy)

set_option maxHeartbeats 1600000 in
theorem step_yes (p : Nat) (d q e u t b : Int) (g : Nat) (w : World) (h : Hid (StB w p 86 (wkArr d q e u t g))) (b0 : 0 ≤ b) (b1 : b ≤ 255) (t0 : 0 ≤ t) (t6 : t ≤ 6) (n : Int) (hn : Hid (utNx u b = n)) (ho : Hid (utOk u b = true))
    (bg ad fi li re : Bool) (pb tn k : Int) (hv : Hid (stepR d q e t b = ⟨⟨bg, ad, fi, li, re, pb⟩, tn, k⟩)) :
    Calls Try.prog 51 #[.pointer (some ⟨p, 0, none⟩), .int .u8 b] w (StepOut p d q e n tn g bg ad fi li re pb k w) := by
  obtain ⟨W, hW⟩ : ∃ W, W = w.alloc (.cells #[.bool false, .bool false, .bool false, .bool false, .bool false, .int .u8 0] 103) := ⟨_, rfl⟩
  have hp := h.out.lt
  have w3 : w.cell? ⟨p, 3, none⟩ = some (.int .i64 u) := h.out.cell 3
  have hz : W.heap.size = w.heap.size + 1 := by rw [hW]; simp
  have HS := Lib.hid (show StB W p 86 (wkArr d q e u t g) by rw [hW]; exact h.out.alloc _)
  have HE := Lib.hid (show StB W w.heap.size 103 #[.bool false, .bool false, .bool false, .bool false, .bool false, .int .u8 0] by rw [hW]; exact StB.new _ _ _)
  have HB := Lib.hid (show Below w.heap.size w W by rw [hW]; exact up_alloc (Below.refl _ _) _)
  have hpW : p < W.heap.size := by omega
  have c0 : W.cell? ⟨p, 0, none⟩ = some (.int .u8 d) := HS.out.cell 0
  have c1 : W.cell? ⟨p, 1, none⟩ = some (.int .u8 q) := HS.out.cell 1
  have c2 : W.cell? ⟨p, 2, none⟩ = some (.int .i64 e) := HS.out.cell 2
  have c3 : W.cell? ⟨p, 3, none⟩ = some (.int .i64 u) := HS.out.cell 3
  have c4 : W.cell? ⟨p, 4, none⟩ = some (.int .i64 t) := HS.out.cell 4
  go_enter Try.func51, Try.ntmps51
  go_upto_region 4 with (go_at_call 57; ((with_reducible refine (utStep_is u b n true b0 b1 hn ho _).mono ?_); rintro x w' ⟨rfl, rfl⟩))
  rw [← hW]
  have HZ := Lib.hid hz
  clear hW w3 hz
  go_cut [8, 9, 10] (fun s8 s9 s10 wx => ∃ gg : Nat, s8 = .pointer (some ⟨gg, 0, none⟩) ∧ s9 = .int .i64 tn ∧ s10 = .int .i64 k ∧ Hid (Below W.heap.size W wx) ∧ Hid (StB wx gg 103 #[.bool bg, .bool ad, .bool fi, .bool li, .bool re, .int .u8 pb] ∧ W.heap.size ≤ gg))
  case first =>
    go_region_with (first | (go_at_call 58; ((with_reducible refine (above (step_is d q e t b t0 t6 _ _ _ _ _ _ _ _ hv _)).mono ?_); rintro x _ ⟨rfl, yy, rfl⟩)))
    all_goals (go_wp2_with fail; go_meet)
    all_goals first
      | with_reducible exact ⟨_, rfl, rfl, rfl, Lib.hid (up_alloc (below_drew_onto W yy) _), Lib.hid ⟨StB.new _ _ _, size_drew_onto W yy⟩⟩
      | with_reducible exact ev_join (below_alloc_drew W _ yy) (stb_alloc_drew W _ _ yy) (Nat.le_refl _)
  case rest =>
    obtain ⟨gg, rfl, rfl, rfl, HBW, HG⟩ := hcut
    obtain ⟨V, hV⟩ : ∃ V, V = wc := ⟨_, rfl⟩
    subst hV
    obtain ⟨r, hr⟩ : ∃ r, w.heap.size = r := ⟨_, rfl⟩
    rw [hr] at HZ HE HB hp ⊢
    have HP := Lib.hid (HS.out.below HBW.out)
    have HR := Lib.hid (HE.out.below HBW.out)
    have HGG := Lib.hid HG.out.1
    have n1 : ¬ p = r := by omega
    have n2 : ¬ r = p := by omega
    have n3 : ¬ gg = p := by have := HG.out.2; omega
    have n4 : ¬ p = gg := by omega
    have n5 : ¬ gg = r := by have := HG.out.2; have := HZ.out; omega
    have n6 : ¬ r = gg := by omega
    have pl : p < V.heap.size := HP.out.lt
    have rl : r < V.heap.size := HR.out.lt
    have gl : gg < V.heap.size := HGG.out.lt
    have m0 : V.cell? ⟨gg, 0, none⟩ = some (.bool bg) := HGG.out.cell 0
    have m1 : V.cell? ⟨gg, 1, none⟩ = some (.bool ad) := HGG.out.cell 1
    have m2 : V.cell? ⟨gg, 2, none⟩ = some (.bool fi) := HGG.out.cell 2
    have m3 : V.cell? ⟨gg, 3, none⟩ = some (.bool li) := HGG.out.cell 3
    have m4 : V.cell? ⟨gg, 4, none⟩ = some (.bool re) := HGG.out.cell 4
    have m5 : V.cell? ⟨gg, 5, none⟩ = some (.int .u8 pb) := HGG.out.cell 5
    have p3 : V.cell? ⟨p, 3, none⟩ = some (.int .i64 u) := HP.out.cell 3
    have p4 : V.cell? ⟨p, 4, none⟩ = some (.int .i64 t) := HP.out.cell 4
    have q3 := HP.out.free 3
    have q4 := HP.out.free 4
    have r0 : V.cell? ⟨r, 0, none⟩ = some (.bool false) := HR.out.cell 0
    have r1 : V.cell? ⟨r, 1, none⟩ = some (.bool false) := HR.out.cell 1
    have r2 : V.cell? ⟨r, 2, none⟩ = some (.bool false) := HR.out.cell 2
    have r3 : V.cell? ⟨r, 3, none⟩ = some (.bool false) := HR.out.cell 3
    have r4 : V.cell? ⟨r, 4, none⟩ = some (.bool false) := HR.out.cell 4
    have r5 : V.cell? ⟨r, 5, none⟩ = some (.int .u8 0) := HR.out.cell 5
    have f0 := HR.out.free 0
    have f1 := HR.out.free 1
    have f2 := HR.out.free 2
    have f3 := HR.out.free 3
    have f4 := HR.out.free 4
    have f5 := HR.out.free 5
    clear c0 c1 c2 c3 c4
    go_wp2_with fail
    have SP := ((((((((HP.out.set_ 3 (.int .i64 n)).set_ 4 (.int .i64 tn)).far (p := ⟨r, 0, none⟩) n1 (.bool bg)).far (p := ⟨r, 1, none⟩) n1 (.bool ad)).far (p := ⟨r, 2, none⟩) n1 (.bool fi)).far (p := ⟨r, 3, none⟩) n1 (.bool li)).far (p := ⟨r, 4, none⟩) n1 (.bool re)).far (p := ⟨r, 5, none⟩) n1 (.int .u8 pb))
    have SR := ((((((((HR.out.far (p := ⟨p, 3, none⟩) n2 (.int .i64 n)).far (p := ⟨p, 4, none⟩) n2 (.int .i64 tn)).set_ 0 (.bool bg)).set_ 1 (.bool ad)).set_ 2 (.bool fi)).set_ 3 (.bool li)).set_ 4 (.bool re)).set_ 5 (.int .u8 pb))
    have hb : Below w.heap.size w V := by rw [hr]; exact HB.out.trans (HBW.out.mono (by have := HZ.out; omega))
    have T1 := (Touch.of_below hb (fun k => k = p)).then_set (p := ⟨p, 3, none⟩) (.inl rfl) (.int .i64 n)
    have T2 := T1.then_set (p := ⟨p, 4, none⟩) (.inl rfl) (.int .i64 tn)
    have hrr : w.heap.size ≤ r := by omega
    have T3 := T2.then_set (p := ⟨r, 0, none⟩) (.inr hrr) (.bool bg)
    have T4 := T3.then_set (p := ⟨r, 1, none⟩) (.inr hrr) (.bool ad)
    have T5 := T4.then_set (p := ⟨r, 2, none⟩) (.inr hrr) (.bool fi)
    have T6 := T5.then_set (p := ⟨r, 3, none⟩) (.inr hrr) (.bool li)
    have T7 := T6.then_set (p := ⟨r, 4, none⟩) (.inr hrr) (.bool re)
    have T8 := T7.then_set (p := ⟨r, 5, none⟩) (.inr hrr) (.int .u8 pb)
    clear T1 T2 T3 T4 T5 T6 T7 hrr
    generalize (((((((V.setCell ⟨p, 3, none⟩ (.int .i64 n)).setCell ⟨p, 4, none⟩ (.int .i64 tn)).setCell ⟨r, 0, none⟩ (.bool bg)).setCell ⟨r, 1, none⟩ (.bool ad)).setCell ⟨r, 2, none⟩ (.bool fi)).setCell ⟨r, 3, none⟩ (.bool li)).setCell ⟨r, 4, none⟩ (.bool re)).setCell ⟨r, 5, none⟩ (.int .u8 pb) = V5 at SP SR T8 ⊢
    have w0 : V5.cell? ⟨r, 0, none⟩ = some (.bool bg) := SR.cell 0
    have w1 : V5.cell? ⟨r, 1, none⟩ = some (.bool ad) := SR.cell 1
    have w2 : V5.cell? ⟨r, 2, none⟩ = some (.bool fi) := SR.cell 2
    have w3 : V5.cell? ⟨r, 3, none⟩ = some (.bool li) := SR.cell 3
    have w4 : V5.cell? ⟨r, 4, none⟩ = some (.bool re) := SR.cell 4
    have w5 : V5.cell? ⟨r, 5, none⟩ = some (.int .u8 pb) := SR.cell 5
    refine bodyPost_ret (v := .tuple #[.agg #[.bool bg, .bool ad, .bool fi, .bool li, .bool re, .int .u8 pb], .int .i64 k]) ?_ rfl ⟨rfl, Lib.hid SP, Lib.hid T8⟩
    simp [results, Try.results51, go_sem, w0, w1, w2, w3, w4, w5]

set_option maxHeartbeats 800000 in
theorem end_no (p : Nat) (d q e u t : Int) (g : Nat) (w : World) (h : Hid (StB w p 86 (wkArr d q e u t g))) (hu : (u != 0) = true) :
    Calls Try.prog 52 #[.pointer (some ⟨p, 0, none⟩)] w (StepOut p d q e u t g false false false false false 0 12 w) := by
  have hp := h.out.lt
  have c3 : w.cell? ⟨p, 3, none⟩ = some (.int .i64 u) := h.out.cell 3
  go_enter Try.func52, Try.ntmps52
  go_wp2_with fail
  refine bodyPost_ret (v := .tuple #[.agg #[.bool false, .bool false, .bool false, .bool false, .bool false, .int .u8 0], .int .i64 12]) ?_ rfl ⟨rfl, StepOut.of_below h ?_⟩
  · simp [results, Try.results52, go_sem]
  · (repeat (first | (with_reducible exact Below.refl _ _) | with_reducible refine up_alloc ?_ _ | with_reducible refine up_onto ?_ _ | with_reducible refine up_drew ?_ | with_reducible refine up_set ?_ (by first | (simp; done) | (simp; omega)) _))
set_option maxHeartbeats 800000 in
theorem end_yes (p : Nat) (d q e t : Int) (g : Nat) (w : World) (h : Hid (StB w p 86 (wkArr d q e 0 t g))) (t0 : 0 ≤ t) (t6 : t ≤ 6) (bg ad fi li re : Bool) (pb k : Int) (hv : Hid (closeE t = ⟨bg, ad, fi, li, re, pb⟩)) (hk : Hid (closeK t = k)) :
    Calls Try.prog 52 #[.pointer (some ⟨p, 0, none⟩)] w (StepOut p d q e 0 t g bg ad fi li re pb k w) := by
  have hp := h.out.lt
  have c3 : w.cell? ⟨p, 3, none⟩ = some (.int .i64 0) := h.out.cell 3
  have c4 : w.cell? ⟨p, 4, none⟩ = some (.int .i64 t) := h.out.cell 4
  go_enter Try.func52, Try.ntmps52
  go_wp2_with (go_at_call 59; ((with_reducible refine (above (close_is t t0 t6 bg ad fi li re pb k hv hk _)).mono ?_); rintro x _ ⟨rfl, yy, rfl⟩))
  refine bodyPost_ret (v := .tuple #[.agg #[.bool bg, .bool ad, .bool fi, .bool li, .bool re, .int .u8 pb], .int .i64 k]) ?_ rfl ⟨rfl, StepOut.of_below h ?_⟩
  · simp [results, Try.results52, go_sem]
  · (repeat (first | (with_reducible exact Below.refl _ _) | with_reducible refine up_alloc ?_ _ | with_reducible refine up_onto ?_ _ | with_reducible refine up_drew ?_ | with_reducible refine up_set ?_ (by first | (simp; done) | (simp; omega)) _))
end Go.Proofs.Ytbglecaahopgdaa

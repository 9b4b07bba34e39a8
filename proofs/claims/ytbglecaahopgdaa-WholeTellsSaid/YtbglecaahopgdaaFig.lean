/- Layer 5: the contract of the program's Take. -/
import Derived.Test.YtbglecaahopgdaaFif
namespace Go.Proofs.Ytbglecaahopgdaa
open Go.ChangeShapes Go.WideShapes Go.ChangeAt Go.RowKit
set_option linter.unusedVariables false
set_option linter.unusedSimpArgs false

def TakeOut (g : Nat) (e : Ev) (s : Mk) (S : Nat → Prop) (w : World) (x : Ending) (w' : World) : Prop :=
  ∃ A c, x = .returned (.tuple #[.slice A (mRec e s).length c, .bool (mTold e s), .int .i64 (mTake e s).er]) ∧ Handed A c (mRec e s) g (mTake e s) S w w'
theorem mZ_with (t : Mk) : { mZ t with er := t.er } = t := by cases t; rfl

set_option maxHeartbeats 3200000 in
theorem take_any (g : Nat) (e : Ev) (s : Mk) (S : Nat → Prop) (N : Nat) (hN : N ≤ 1000) (w : World) (h : MkB w g s S) (ok : s.Ok N) (b0 : 0 ≤ e.b) (b1 : e.b ≤ 255) :
    Calls Try.prog 53 #[.pointer (some ⟨g, 0, none⟩), .agg (evArr e)] w (TakeOut g e s S w) := by
  obtain ⟨bg, ad, fi, li, re, pb⟩ := e
  have HM := Lib.hid h
  have HOK := Lib.hid ok
  have hM0 : MkB (w.alloc (.cells (evArr ⟨bg, ad, fi, li, re, pb⟩) 103)) g s S := h.below ((Below.refl _ _).alloc (Nat.le_refl _) _)
  have HM0 := Lib.hid hM0
  obtain ⟨hg, k0, k1, k2, k6, k7, k8, k9, _, _⟩ := hM0.cells
  have f9 := hM0.free 9
  obtain ⟨v0, v1, v2, v3, v4, v5, v6⟩ := ev_cells ⟨bg, ad, fi, li, re, pb⟩ h (Turned.refl hM0)
  clear h ok hM0 k0 k1 k2 k6 k7 k8
  obtain ⟨W, hW⟩ : ∃ W, W = w.alloc (.cells (evArr ⟨bg, ad, fi, li, re, pb⟩) 103) := ⟨_, rfl⟩
  rw [← hW] at HM0 v0 v1 v2 v3 v4 v5 v6 hg k9 f9
  dsimp only at v0 v1 v2 v3 v4 v5 v6 b0 b1
  have HWW := Lib.hid hW
  clear hW
  by_cases h0 : s.er = 0
  · have hd : (s.er == 0) = true := by simpa using h0
    have hd' : (s.er != 0) = false := by simpa using h0
    have H0 := Lib.hid h0
    clear h0
    obtain ⟨r, hr⟩ : ∃ r, (mGather ⟨bg, ad, fi, li, re, pb⟩ s).er = r := ⟨_, rfl⟩
    have HR := Lib.hid hr
    clear hr
    go_enter Try.func53, Try.ntmps53
    go_upto_region 1 with fail
    rw [← HWW.out]
    go_wp2_with fail
    refine (gather_any g ⟨bg, ad, fi, li, re, pb⟩ s S N hN W HM0.out HOK.out H0.out b0 b1).mono ?_
    rintro x w1 ⟨rfl, ht⟩
    rw [HR.out]
    obtain ⟨q0, q1, q2, q3, q4, q5, q6⟩ := ev_cells ⟨bg, ad, fi, li, re, pb⟩ HM.out (HWW.out ▸ ht)
    dsimp only at q0 q1 q2 q3 q4 q5 q6
    obtain ⟨S1, m1, t1, c1⟩ := ht
    obtain ⟨hg1, _, _, _, _, _, _, z9, _, _⟩ := m1.cells
    have z9' : w1.cell? ⟨g, 9, none⟩ = some (.int .i64 0) := z9
    have y9 := m1.free 9
    have HT := Lib.hid (show Turned g (mGather ⟨bg, ad, fi, li, re, pb⟩ s) S W (w1.setCell ⟨g, 9, none⟩ (.int .i64 r)) by
      have := m1.set9 r
      rw [← HR.out, mZ_with, HR.out] at this
      exact Turned.glue t1 c1 this)
    have hne : ¬ w.heap.size = g := by have := HM.out.cells.1; omega
    clear m1 t1 c1 z9 v0 v1 v2 v3 v4 v5 v6 k9 f9
    have HTW := Lib.hid (show Turned g (mGather ⟨bg, ad, fi, li, re, pb⟩ s) S w (w1.setCell ⟨g, 9, none⟩ (.int .i64 r)) from HT.out.from_alloc' HWW.out)
    by_cases h1 : r = 0
    · subst h1
      cases re
      · obtain ⟨e1, e2⟩ := mRec2 (e := ⟨bg, ad, fi, li, false, pb⟩) (s := s) rfl
        have e3 : mTake ⟨bg, ad, fi, li, false, pb⟩ s = mGather ⟨bg, ad, fi, li, false, pb⟩ s := mTake2 H0.out rfl
        have E1 := Lib.hid e1
        have E2 := Lib.hid e2
        have E3 := Lib.hid e3
        clear e1 e2 e3
        go_wp2_with fail
        go_ret3
        unfold TakeOut
        rw [E1.out, E2.out, E3.out, HR.out]
        exact ⟨none, 0, rfl, Handed.none_ HTW.out⟩
      · obtain ⟨e1, e2⟩ := mRec3 (e := ⟨bg, ad, fi, li, true, pb⟩) (s := s) H0.out HR.out rfl
        have e3 : mTake ⟨bg, ad, fi, li, true, pb⟩ s = mOut (mGather ⟨bg, ad, fi, li, true, pb⟩ s) := mTake3 H0.out HR.out rfl
        have E1 := Lib.hid e1
        have E2 := Lib.hid e2
        have E3 := Lib.hid e3
        clear e1 e2 e3
        obtain ⟨S2, m2, t2, c2⟩ := HTW.out
        have M2 := Lib.hid m2
        have T2 := Lib.hid t2
        have C2 := Lib.hid c2
        have OK2 := Lib.hid ((few_gather ⟨bg, ad, fi, li, true, pb⟩ s).ok HOK.out)
        clear m2 t2 c2
        go_wp2_with fail
        refine (handOut_any g _ S2 _ M2.out OK2.out.ct (by have := OK2.out.ctN; omega) (by have := OK2.out.rcN; omega)).mono ?_
        rintro x w3 ⟨A, c, rfl, hh⟩
        have HH := Lib.hid (Handed.glue T2.out C2.out hh)
        clear hh
        go_wp2_with fail
        go_ret3
        unfold TakeOut
        rw [E1.out, E2.out, E3.out]
        refine ⟨A, c, ?_, HH.out⟩
        show _ = Ending.returned (.tuple #[_, _, .int .i64 (mGather ⟨bg, ad, fi, li, true, pb⟩ s).er])
        rw [HR.out]
        rfl
    · have hd1 : (r != 0) = true := by simpa using h1
      obtain ⟨e1, e2⟩ := mRec1 (e := ⟨bg, ad, fi, li, re, pb⟩) (s := s) (by rw [HR.out]; exact h1)
      have e3 : mTake ⟨bg, ad, fi, li, re, pb⟩ s = mGather ⟨bg, ad, fi, li, re, pb⟩ s := mTake1 H0.out (by rw [HR.out]; exact h1)
      have E1 := Lib.hid e1
      have E2 := Lib.hid e2
      have E3 := Lib.hid e3
      clear e1 e2 e3
      go_wp2_with fail
      refine wp_region_onto (by kernel_rfl) (by kernel_rfl) ?_
      repeat (go_big_quiet_step (fail))
      refine wpQuiet_nil ?_
      intro _ hw'
      obtain ⟨x1, hw''⟩ := hw'
      subst hw''
      go_wp2_with fail
      go_ret3
      unfold TakeOut
      rw [E1.out, E2.out, E3.out, HR.out]
      exact ⟨none, 0, rfl, Handed.none_ (HTW.out.then_below (onto_below _ x1))⟩
  · have hd : (s.er == 0) = false := by simpa using h0
    have hd' : (s.er != 0) = true := by simpa using h0
    obtain ⟨e1, e2, e3⟩ := mTake_stop h0 ⟨bg, ad, fi, li, re, pb⟩
    have E1 := Lib.hid e1
    have E2 := Lib.hid e2
    have E3 := Lib.hid e3
    clear h0 e1 e2 e3
    go_enter Try.func53, Try.ntmps53
    go_upto_region 1 with fail
    rw [← HWW.out]
    go_wp2_with fail
    refine wp_region_onto (by kernel_rfl) (by kernel_rfl) ?_
    repeat (go_big_quiet_step (fail))
    refine wpQuiet_nil ?_
    intro _ hw'
    obtain ⟨x1, hw''⟩ := hw'
    subst hw''
    go_wp2_with fail
    go_ret3
    unfold TakeOut
    rw [E1.out, E2.out, E3.out]
    exact ⟨none, 0, rfl, Handed.none_ (((Turned.refl HM0.out).then_below (onto_below _ x1)).from_alloc' HWW.out)⟩
end Go.Proofs.Ytbglecaahopgdaa

/- Layer 5: contracts of the program's bound, endField, endLine. -/
import Derived.Test.YtbglecaahopgdaaFib
namespace Go.Proofs.Ytbglecaahopgdaa
open Go.ChangeShapes Go.WideShapes Go.ChangeAt Go.RowKit
set_option linter.unusedVariables false
set_option linter.unusedSimpArgs false

theorem bound_is (g : Nat) (s : Mk) (S : Nat → Prop) (v : Bool) (hv : Hid (mBound s = v)) (w : World) (h : Hid (MkB w g s S)) :
    Calls Try.prog 76 #[.pointer (some ⟨g, 0, none⟩)] w fun e w' => e = .returned (.bool v) ∧ w = w' := by
  obtain ⟨A, c, B, d, h1, h2, h3, h4⟩ := h.out
  have c3 : w.cell? ⟨g, 3, none⟩ = some (.bool s.u) := h1.cell 3
  have c7 : w.cell? ⟨g, 7, none⟩ = some (.int .i64 s.ct) := h1.cell 7
  have V : v = (s.u && decide (0 < s.ct)) := hv.out.symm
  clear hv h h1 h2 h3 h4
  obtain ⟨u, hu⟩ : ∃ u, u = s.u := ⟨_, rfl⟩
  obtain ⟨ct, hct⟩ : ∃ ct, ct = s.ct := ⟨_, rfl⟩
  rw [← hu] at c3 V
  rw [← hct] at c7 V
  clear hu hct
  have VV := Lib.hid V
  clear V
  cases u
  · go_enter Try.func76, Try.ntmps76
    go_wp2_with fail
    go_ret
    exact ⟨ret_bool (by rw [VV.out]; rfl), rfl⟩
  · by_cases hp : 0 < ct
    all_goals
      go_enter Try.func76, Try.ntmps76
      go_wp2_with fail
      go_ret
      exact ⟨ret_bool (by rw [VV.out]; simp [hp]), rfl⟩

/-- The cells of a maker, as facts. -/
theorem MkB.cells {w : World} {g : Nat} {s : Mk} {S : Nat → Prop} (h : MkB w g s S) : g < w.heap.size ∧ w.cell? ⟨g, 0, none⟩ = some (.int .i64 s.lf) ∧ w.cell? ⟨g, 1, none⟩ = some (.int .i64 s.ls) ∧ w.cell? ⟨g, 2, none⟩ = some (.int .i64 s.lr) ∧
    w.cell? ⟨g, 6, none⟩ = some (.int .i64 s.bg) ∧ w.cell? ⟨g, 7, none⟩ = some (.int .i64 s.ct) ∧ w.cell? ⟨g, 8, none⟩ = some (.int .i64 s.wd) ∧ w.cell? ⟨g, 9, none⟩ = some (.int .i64 s.er) ∧
    (∃ A c, w.cell? ⟨g, 4, none⟩ = some (.slice A s.fd.length c)) ∧ ∃ B d, w.cell? ⟨g, 5, none⟩ = some (.slice B s.rc.length d) := by
  obtain ⟨A, c, B, d, h1, h2, h3, h4⟩ := h
  exact ⟨h1.lt, h1.cell 0, h1.cell 1, h1.cell 2, h1.cell 6, h1.cell 7, h1.cell 8, h1.cell 9, ⟨A, c, h1.cell 4⟩, B, d, h1.cell 5⟩
theorem MkB.free {w : World} {g : Nat} {s : Mk} {S : Nat → Prop} (h : MkB w g s S) (i : Nat) : w.frozen? ⟨g, i, none⟩ = false := by
  obtain ⟨A, c, B, d, h1, h2, h3, h4⟩ := h
  exact h1.free i
theorem Turned.then_below {g : Nat} {s : Mk} {S : Nat → Prop} {w w1 w2 : World} (h : Turned g s S w w1) (hb : Below w1.heap.size w1 w2) : Turned g s S w w2 := by
  obtain ⟨S1, m1, t1, b1⟩ := h
  exact ⟨S1, m1.below hb, t1.then_below hb, b1⟩

def rF (ls wd n : Int) (b : Bool) : Int := if ls ≤ n then 8 else if b = true ∧ n = wd then 10 else 0
def rL (wd n : Int) (b : Bool) : Int := if b = true ∧ n ≠ wd then 10 else 0
theorem mEndF_er {s : Mk} (h : s.er = 0) : (mEndF s).er = rF s.ls s.wd ((s.rc.length + 1 : Nat) : Int) (mBound s) := by
  unfold mEndF rF
  rw [show ((s.rc.length + 1 : Nat) : Int) = (s.rc.length : Int) + 1 by omega]
  split
  · rfl
  · split
    · rfl
    · exact h
theorem mEndL_er {s : Mk} (h : s.er = 0) : (mEndL s).er = rL s.wd ((s.rc.length + 1 : Nat) : Int) (mBound s) := by
  unfold mEndL rL
  rw [show ((s.rc.length + 1 : Nat) : Int) = (s.rc.length : Int) + 1 by omega]
  split
  · rfl
  · exact h
/-- What stands behind put. -/
theorem put_cells {g : Nat} {s : Mk} {S : Nat → Prop} {w w1 : World} {n : Nat} {ls wd : Int} (hn : n = s.rc.length + 1) (hls : ls = s.ls) (hwd : wd = s.wd) (h : Turned g (mPut s) S w w1) :
    ∃ S1 B d, Hid (MkB w1 g (mPut s) S1) ∧ g < w1.heap.size ∧ w1.cell? ⟨g, 1, none⟩ = some (.int .i64 ls) ∧ w1.cell? ⟨g, 5, none⟩ = some (.slice B n d) ∧ w1.cell? ⟨g, 8, none⟩ = some (.int .i64 wd) := by
  obtain ⟨S1, m1, t1, b1⟩ := h
  obtain ⟨hg, k0, k1, k2, k6, k7, k8, k9, _, B1, d1, k5⟩ := m1.cells
  refine ⟨S1, B1, d1, Lib.hid m1, hg, ?_, ?_, ?_⟩
  · rw [k1, hls]; rfl
  · rw [k5, hn, mPut_len]
  · rw [k8, hwd]; rfl

set_option maxHeartbeats 1600000 in
theorem endField_any (g : Nat) (s : Mk) (S : Nat → Prop) (w : World) (h : MkB w g s S) (hr : s.rc.length ≤ 1000000) (h0 : s.er = 0) :
    Calls Try.prog 72 #[.pointer (some ⟨g, 0, none⟩)] w (TurnOut (.int .i64 (mEndF s).er) g (mPut s) S w) := by
  rw [mEndF_er h0]
  obtain ⟨n, hn⟩ : ∃ n, n = s.rc.length + 1 := ⟨_, rfl⟩
  obtain ⟨ls, hls⟩ : ∃ ls, ls = s.ls := ⟨_, rfl⟩
  obtain ⟨wd, hwd⟩ : ∃ wd, wd = s.wd := ⟨_, rfl⟩
  obtain ⟨b, hb⟩ : ∃ b, b = mBound s := ⟨_, rfl⟩
  rw [← hn, ← hls, ← hwd, ← hb]
  have HN := Lib.hid hn
  have HLS := Lib.hid hls
  have HWD := Lib.hid hwd
  have HB := Lib.hid (show mBound (mPut s) = b from hb.symm)
  have HM := Lib.hid h
  clear hn hls hwd hb h h0
  by_cases hle : ls ≤ (n : Int)
  · have hd : decide (ls ≤ (n : Int)) = true := by simpa using hle
    have EE := Lib.hid (show rF ls wd n b = 8 by simp [rF, hle])
    go_enter Try.func72, Try.ntmps72
    go_wp2_with fail
    refine (put_any g s S _ HM.out hr).mono ?_
    rintro x w1 ⟨rfl, ht⟩
    have HT := Lib.hid ht
    obtain ⟨S1, B1, d1, M1, hg, k1, k5, k8⟩ := put_cells HN.out HLS.out HWD.out ht
    clear ht
    go_wp2_with fail
    refine wp_region_onto (by kernel_rfl) (by kernel_rfl) ?_
    repeat (go_big_quiet_step (fail))
    refine wpQuiet_nil ?_
    intro _ hw'
    obtain ⟨x1, hw''⟩ := hw'
    subst hw''
    go_wp2_with fail
    go_ret
    exact ⟨ret_int EE.out.symm, HT.out.then_below (onto_below w1 x1)⟩
  · have hd : decide (ls ≤ (n : Int)) = false := by simpa using hle
    cases b
    · have EE := Lib.hid (show rF ls wd n false = 0 by simp [rF, hle])
      go_enter Try.func72, Try.ntmps72
      go_wp2_with fail
      refine (put_any g s S _ HM.out hr).mono ?_
      rintro x w1 ⟨rfl, ht⟩
      have HT := Lib.hid ht
      obtain ⟨S1, B1, d1, M1, hg, k1, k5, k8⟩ := put_cells HN.out HLS.out HWD.out ht
      clear ht
      go_wp2_with fail
      refine wp_region_onto (by kernel_rfl) (by kernel_rfl) ?_
      repeat (go_big_quiet_step (fail))
      refine wpQuiet_nil ?_
      intro _ hw'
      obtain ⟨x1, hw''⟩ := hw'
      subst hw''
      go_wp2_with fail
      refine wp_region_onto (by kernel_rfl) (by kernel_rfl) ?_
      repeat (go_big_quiet_step ((go_at_call 76; exact calls_onto_same (bound_is g (mPut s) S1 false HB _ (Lib.hid ((M1.out.below (onto_below w1 x1)).below (onto_below (onto w1 x1) _)))))))
      refine wpQuiet_nil ?_
      intro _ hw'
      obtain ⟨x2, hw''⟩ := hw'
      subst hw''
      go_wp2_with fail
      go_ret
      exact ⟨ret_int EE.out.symm, HT.out.then_below (up_onto (onto_below w1 x1) x2)⟩
    · by_cases hq : (n : Int) = wd
      · have hd2 : ((n : Int) == wd) = true := by simpa using hq
        have EE := Lib.hid (show rF ls wd n true = 10 by unfold rF; rw [if_neg hle, if_pos ⟨rfl, hq⟩])
        clear hq
        clear hle
        go_enter Try.func72, Try.ntmps72
        go_wp2_with fail
        refine (put_any g s S _ HM.out hr).mono ?_
        rintro x w1 ⟨rfl, ht⟩
        have HT := Lib.hid ht
        obtain ⟨S1, B1, d1, M1, hg, k1, k5, k8⟩ := put_cells HN.out HLS.out HWD.out ht
        clear ht
        go_wp2_with fail
        refine wp_region_onto (by kernel_rfl) (by kernel_rfl) ?_
        repeat (go_big_quiet_step (fail))
        refine wpQuiet_nil ?_
        intro _ hw'
        obtain ⟨x1, hw''⟩ := hw'
        subst hw''
        go_wp2_with fail
        refine wp_region_onto (by kernel_rfl) (by kernel_rfl) ?_
        repeat (go_big_quiet_step ((go_at_call 76; exact calls_onto_same (bound_is g (mPut s) S1 true HB _ (Lib.hid ((M1.out.below (onto_below w1 x1)).below (onto_below (onto w1 x1) _)))))))
        refine wpQuiet_nil ?_
        intro _ hw'
        obtain ⟨x2, hw''⟩ := hw'
        subst hw''
        go_wp2_with fail
        go_ret
        exact ⟨ret_int EE.out.symm, HT.out.then_below (up_onto (onto_below w1 x1) x2)⟩
      · have hd2 : ((n : Int) == wd) = false := by simpa using hq
        have EE := Lib.hid (show rF ls wd n true = 0 by unfold rF; rw [if_neg hle, if_neg (fun h => hq h.2)])
        clear hq
        clear hle
        go_enter Try.func72, Try.ntmps72
        go_wp2_with fail
        refine (put_any g s S _ HM.out hr).mono ?_
        rintro x w1 ⟨rfl, ht⟩
        have HT := Lib.hid ht
        obtain ⟨S1, B1, d1, M1, hg, k1, k5, k8⟩ := put_cells HN.out HLS.out HWD.out ht
        clear ht
        go_wp2_with fail
        refine wp_region_onto (by kernel_rfl) (by kernel_rfl) ?_
        repeat (go_big_quiet_step (fail))
        refine wpQuiet_nil ?_
        intro _ hw'
        obtain ⟨x1, hw''⟩ := hw'
        subst hw''
        go_wp2_with fail
        refine wp_region_onto (by kernel_rfl) (by kernel_rfl) ?_
        repeat (go_big_quiet_step ((go_at_call 76; exact calls_onto_same (bound_is g (mPut s) S1 true HB _ (Lib.hid ((M1.out.below (onto_below w1 x1)).below (onto_below (onto w1 x1) _)))))))
        refine wpQuiet_nil ?_
        intro _ hw'
        obtain ⟨x2, hw''⟩ := hw'
        subst hw''
        go_wp2_with fail
        go_ret
        exact ⟨ret_int EE.out.symm, HT.out.then_below (up_onto (onto_below w1 x1) x2)⟩

set_option maxHeartbeats 1600000 in
theorem endLine_any (g : Nat) (s : Mk) (S : Nat → Prop) (w : World) (h : MkB w g s S) (hr : s.rc.length ≤ 1000000) (h0 : s.er = 0) :
    Calls Try.prog 73 #[.pointer (some ⟨g, 0, none⟩)] w (TurnOut (.int .i64 (mEndL s).er) g (mPut s) S w) := by
  rw [mEndL_er h0]
  obtain ⟨n, hn⟩ : ∃ n, n = s.rc.length + 1 := ⟨_, rfl⟩
  obtain ⟨wd, hwd⟩ : ∃ wd, wd = s.wd := ⟨_, rfl⟩
  obtain ⟨b, hb⟩ : ∃ b, b = mBound s := ⟨_, rfl⟩
  rw [← hn, ← hwd, ← hb]
  have HN := Lib.hid hn
  have HWD := Lib.hid hwd
  have HB := Lib.hid (show mBound (mPut s) = b from hb.symm)
  have HM := Lib.hid h
  clear hn hwd hb h h0
  cases b
  · have EE := Lib.hid (show rL wd n false = 0 by simp [rL])
    go_enter Try.func73, Try.ntmps73
    go_wp2_with fail
    refine (put_any g s S _ HM.out hr).mono ?_
    rintro x w1 ⟨rfl, ht⟩
    have HT := Lib.hid ht
    obtain ⟨S1, B1, d1, M1, hg, k1, k5, k8⟩ := put_cells HN.out rfl HWD.out ht
    clear ht
    go_wp2_with fail
    refine wp_region_onto (by kernel_rfl) (by kernel_rfl) ?_
    repeat (go_big_quiet_step ((go_at_call 76; exact calls_onto_same (bound_is g (mPut s) S1 false HB _ (Lib.hid (M1.out.below (onto_below w1 _)))))))
    refine wpQuiet_nil ?_
    intro _ hw'
    obtain ⟨x2, hw''⟩ := hw'
    subst hw''
    go_wp2_with fail
    go_ret
    exact ⟨ret_int EE.out.symm, HT.out.then_below (onto_below w1 x2)⟩
  · by_cases hq : (n : Int) = wd
    · have hd2 : ((n : Int) != wd) = false := by simpa using hq
      have EE := Lib.hid (show rL wd n true = 0 by unfold rL; rw [if_neg (fun h => h.2 hq)])
      clear hq
      go_enter Try.func73, Try.ntmps73
      go_wp2_with fail
      refine (put_any g s S _ HM.out hr).mono ?_
      rintro x w1 ⟨rfl, ht⟩
      have HT := Lib.hid ht
      obtain ⟨S1, B1, d1, M1, hg, k1, k5, k8⟩ := put_cells HN.out rfl HWD.out ht
      clear ht
      go_wp2_with fail
      refine wp_region_onto (by kernel_rfl) (by kernel_rfl) ?_
      repeat (go_big_quiet_step ((go_at_call 76; exact calls_onto_same (bound_is g (mPut s) S1 true HB _ (Lib.hid (M1.out.below (onto_below w1 _)))))))
      refine wpQuiet_nil ?_
      intro _ hw'
      obtain ⟨x2, hw''⟩ := hw'
      subst hw''
      go_wp2_with fail
      go_ret
      exact ⟨ret_int EE.out.symm, HT.out.then_below (onto_below w1 x2)⟩
    · have hd2 : ((n : Int) != wd) = true := by simpa using hq
      have EE := Lib.hid (show rL wd n true = 10 by unfold rL; rw [if_pos ⟨rfl, hq⟩])
      clear hq
      go_enter Try.func73, Try.ntmps73
      go_wp2_with fail
      refine (put_any g s S _ HM.out hr).mono ?_
      rintro x w1 ⟨rfl, ht⟩
      have HT := Lib.hid ht
      obtain ⟨S1, B1, d1, M1, hg, k1, k5, k8⟩ := put_cells HN.out rfl HWD.out ht
      clear ht
      go_wp2_with fail
      refine wp_region_onto (by kernel_rfl) (by kernel_rfl) ?_
      repeat (go_big_quiet_step ((go_at_call 76; exact calls_onto_same (bound_is g (mPut s) S1 true HB _ (Lib.hid (M1.out.below (onto_below w1 _)))))))
      refine wpQuiet_nil ?_
      intro _ hw'
      obtain ⟨x2, hw''⟩ := hw'
      subst hw''
      go_wp2_with fail
      go_ret
      exact ⟨ret_int EE.out.symm, HT.out.then_below (onto_below w1 x2)⟩
end Go.Proofs.Ytbglecaahopgdaa

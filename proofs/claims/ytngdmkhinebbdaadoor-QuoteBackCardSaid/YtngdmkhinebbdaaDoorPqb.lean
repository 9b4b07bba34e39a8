/- Layer 9, plain: a field quoted, alone, is read as one record of it (quo_read). No program. -/
import Derived.Test.YtngdmkhinebbdaaDoorPqa
import Derived.Test.YtngdmkhinebbdaaDoorPnb
namespace Go.Proofs.YtngdmkhinebbdaaDoor
open Go.RowKit
set_option linter.unusedVariables false
set_option linter.unusedSimpArgs false

theorem ut_low {s b : Int} (hb : b ≤ 127) (h : utOk s b = true) : s = 0 ∧ utNx s b = 0 := by
  by_cases h0 : s = 0
  · subst h0
    exact ⟨rfl, (ut_nx0 b h).2 hb⟩
  · exfalso
    unfold utOk at h
    rw [if_neg h0] at h
    repeat' split at h
    all_goals (simp at h; try omega)
/-- Doubling a byte of 127 or below leaves a text's UTF-8 as it is. -/
theorem ut_dbl {q : Int} (hq : q ≤ 127) : ∀ (l : List Int) (s : Int), utRn s l = l.length → utRn s (dbl q l) = (dbl q l).length ∧ utRs s (dbl q l) = utRs s l
  | [], s, _ => by simp [dbl, utRn, utRs]
  | b :: r, s, h => by
    rw [utRn] at h
    cases ho : utOk s b
    · rw [ho] at h; simp at h
    · rw [ho] at h
      simp at h
      obtain ⟨g1, g2⟩ := ut_dbl hq r (utNx s b) h
      rw [dbl]
      split
      · rename_i hb
        subst hb
        obtain ⟨hs, hn⟩ := ut_low hq ho
        subst hs
        rw [hn] at g1 g2
        simp only [utRn, utRs, ho, hn, if_true, List.length_cons, g1, g2]
        exact ⟨trivial, trivial⟩
      · simp only [utRn, utRs, ho, if_true, List.length_cons, g1, g2]
        exact ⟨trivial, trivial⟩
theorem ut_quo {q : Int} (hq : q ≤ 127) {l : List Int} (h : utWhole l = l.length) : utRn 0 (quoL q l) = (quoL q l).length ∧ utRs 0 (quoL q l) = 0 := by
  obtain ⟨h1, h2⟩ := utWhole_all h
  obtain ⟨g1, g2⟩ := ut_dbl hq l 0 h1
  have ha : utRn 0 [q] = [q].length ∧ utRs 0 [q] = 0 := by simpa using ut_ascii hq
  exact ut_two_ok (a := [q]) ha (ut_two_ok ⟨g1, g2.trans h2⟩ ha)
section
variable {d q e : Int}
/-- WHAT IS QUOTED ALONE IS READ AS ONE RECORD OF IT. -/
theorem quo_read (hd : Dia d q e) (hq7 : q ≤ 127) (he : e = 1 ∨ e = 2 ∨ e = 3) (f : ByteArray) (W : Int) (hW : 1000 ≤ W) (hf : f.size ≤ 900) (hu : utWhole (bl f) = (bl f).length) (n : Nat) (hn : 2 ≤ n) (T : List Int) (hT : T = quoL q (bl f)) :
    whRs (rdGo d q e n (mk0 W W W false) 0 (bomStrip T)) T = [[f]] ∧ (whKA (rdGo d q e n (mk0 W W W false) 0 (bomStrip T)) T).1 = 0 := by
  have hnm : bomHad T = false := by
    subst hT
    have h1 : (239 == q) = false := by simp; omega
    simp [bomHad, bomMk, quoL, List.isPrefixOf, h1]
  have hst : bomStrip T = T := by unfold bomStrip; rw [hnm]; simp
  have hoff : whOff T = 0 := by unfold whOff; rw [hnm]; simp
  obtain ⟨n, rfl⟩ : ∃ k, n = k + 2 := ⟨n - 2, by omega⟩
  obtain ⟨j, i', hj⟩ := rdGo_wr hd he (rest := []) (tail := []) (.inl ⟨rfl, rfl⟩) [(bl f, quoL q (bl f))] (n + 1) (mk0 W W W false) 0 (by simp) (by simp [layL, quoL])
    (fun p hp => by
      obtain rfl : p = (bl f, quoL q (bl f)) := by simpa using hp
      exact ⟨.inr rfl, by show ((bl f).length : Int) < W + 1; rw [bl_length]; omega⟩) rfl rfl (by show (1 : Int) < W + 1; omega) (by show ¬ (0 : Int) = W; omega)
  have hnil : ∀ m i, rdGo d q e (n + 1) m i [] = ⟨[], 0, 0⟩ := fun m i => rfl
  rw [hnil] at hj
  have hg : rdGo d q e (n + 2) (mk0 W W W false) 0 T = ⟨[([f], j)], 0, 0⟩ := by
    have : layL d ([(bl f, quoL q (bl f))].map (·.2)) ++ [] = T := by rw [hT]; simp [layL]
    rw [this] at hj
    rw [hj]
    simp [Got.more, toBA_bl]
  have huq := ut_quo hq7 hu
  rw [← hT] at huq
  have hk : (whKA ⟨[([f], j)], 0, 0⟩ T).1 = 0 := by
    unfold whKA
    simp only [if_true]
    rw [if_neg (by omega), if_neg (fun h => utAll_whole huq.1 huq.2 h.1)]
  rw [hst, hg]
  refine ⟨?_, hk⟩
  unfold whRs
  rw [hk]
  simp
end
end Go.Proofs.YtngdmkhinebbdaaDoor

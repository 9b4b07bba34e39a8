/- Layer 4: the document's own Step comes to what the program's comes to; the statements ScanSteps and ScanRuns, walked whole. -/
import Derived.Test.YtpnjpcknlmpaiaaScf
import Derived.Test.YtpnjpcknlmpaiaaScl
import Derived.Test.YtpnjpcknlmpaiaaScn
namespace Go.Proofs.Ytpnjpcknlmpaiaa
open Go.ChangeShapes Go.WideShapes Go.ChangeAt Go.RowKit
set_option linter.unusedVariables false
set_option linter.unusedSimpArgs false

theorem step_out {d q e s b c : Int} (h0 : 0 ≤ s) (hk : Kind5 d q b c) (x1 : s ≠ 3) (x2 : s < 5) (ho : (c = 2 ∧ e = 1) ∨ (c = 3 ∧ e = 2)) : stepR d q e s b = ⟨ev0, 0, 6⟩ := by
  have hoop : oopB e b = true := by
    rcases ho with ⟨rfl, rfl⟩ | ⟨rfl, rfl⟩
    · rcases hk with ⟨_, _, _, _, h⟩ | ⟨_, _, _, _, h⟩ | ⟨_, _, g, _, _⟩ | ⟨_, _, _, _, h⟩ | ⟨_, _, _, _, h⟩
      · cases h
      · cases h
      · simp [oopB, g]
      · cases h
      · cases h
    · rcases hk with ⟨_, _, _, _, h⟩ | ⟨_, _, _, _, h⟩ | ⟨_, _, _, _, h⟩ | ⟨_, _, _, g, _⟩ | ⟨_, _, _, _, h⟩
      · cases h
      · cases h
      · cases h
      · simp [oopB, g]
      · cases h
  have hs : s = 0 ∨ s = 1 ∨ s = 2 ∨ s = 4 := by omega
  rcases hs with rfl | rfl | rfl | rfl <;> simp [stepR, hoop]

theorem refStep_said : RefStepIs := by
  intro d q e s b h0 h6 hr bg ad fi li re pb n k hV w
  have hk := kind5 b hr.out
  obtain ⟨c, hc⟩ : ∃ c, colR d q b = c := ⟨_, rfl⟩
  rw [hc] at hk
  by_cases hg : (s ≠ 3 ∧ s < 5 ∧ ((c = 2 ∧ e = 1) ∨ (c = 3 ∧ e = 2)))
  · obtain ⟨x1, x2, ho⟩ := hg
    have h1 := step_out h0 hk x1 x2 ho
    have h2 := hV.out
    rw [h1] at h2
    simp only [Res.mk.injEq, ev0, Ev.mk.injEq] at h2
    obtain ⟨⟨rfl, rfl, rfl, rfl, rfl, rfl⟩, rfl, rfl⟩ := h2
    exact refStep_out d q e s b c hk (by simpa using x1) x2 ho w
  · have := refStep_in d q e s b c h0 h6 hk _ _ _ _ _ _ rfl rfl rfl rfl rfl rfl (by
      rw [← Bool.not_eq_true]
      intro h
      simp at h
      exact hg ⟨h.1, h.2.1, h.2.2⟩) w
    rw [hV.out] at this
    exact this

theorem scanSteps_walk (d q e st b : Int) (w : World) (hd : (Lit.int .u8 d).wf = true) (hq : (Lit.int .u8 q).wf = true) (he : (Lit.int .i64 e).wf = true) (hst : (Lit.int .u8 st).wf = true) (hb : (Lit.int .u8 b).wf = true) :
    Calls Try.prog 3 #[.agg #[.int .u8 d, .int .u8 q, .int .i64 e], .int .u8 st, .int .u8 b] w fun x w' => x = .returned (.bool true) ∧ Below w.heap.size w w' :=
  scanSteps_walk0 (Lib.hid refStep_said) d q e st b w hd hq he hst hb
theorem scanRuns_walk (d q e : Int) (s : ByteArray) (w : World) (hd : (Lit.int .u8 d).wf = true) (hq : (Lit.int .u8 q).wf = true) (he : (Lit.int .i64 e).wf = true) (hs : s.size ≤ maxLen) :
    Calls Try.prog 5 #[.agg #[.int .u8 d, .int .u8 q, .int .i64 e], .string s] w fun x w' => x = .returned (.bool true) ∧ Below w.heap.size w w' :=
  scanRuns_walk0 (Lib.hid refStep_said) d q e s w hd hq he hs
end Go.Proofs.Ytpnjpcknlmpaiaa

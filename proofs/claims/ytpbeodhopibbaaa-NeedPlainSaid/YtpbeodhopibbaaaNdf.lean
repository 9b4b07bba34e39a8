/- Layer 8: what nd_must asks. -/
import Derived.Test.YtpbeodhopibbaaaNde
import Derived.Test.YtpbeodhopibbaaaNds
import Derived.Test.YtpbeodhopibbaaaPnc
namespace Go.Proofs.Ytpbeodhopibbaaa
open Go.ChangeShapes Go.WideShapes Go.ChangeAt Go.RowKit
set_option linter.unusedVariables false
set_option linter.unusedSimpArgs false

theorem whyN_must {d q : Int} {f : ByteArray} (h : needB d q f true true = true) : ¬ bareL d q (bl f) ∨ f.size = 0 ∨ bomHad (bl f) = true := by
  unfold needB whyN at h
  by_cases hb : bareL d q (bl f)
  · right
    have hn : ∀ b, b = d ∨ b = q ∨ b = 13 ∨ b = 10 → hasL (bl f) b = false := by
      intro b hb'
      unfold hasL
      refine decide_eq_false fun hm => ?_
      have := hb b hm
      simp [stops] at this
      omega
    rw [hn d (by simp), hn q (by simp), hn 13 (by simp), hn 10 (by simp)] at h
    by_cases h0 : bl f = []
    · left
      have := bl_length f
      rw [h0] at this
      simpa using this.symm
    · right
      by_cases hm : bomHad (bl f) = true
      · exact hm
      · simp [h0, hm] at h
  · exact .inl hb
end Go.Proofs.Ytpbeodhopibbaaa

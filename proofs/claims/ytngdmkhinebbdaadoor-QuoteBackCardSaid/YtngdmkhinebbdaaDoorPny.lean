/- Layer 8, plain: why a field must be quoted. No program. -/
import Derived.Test.YtngdmkhinebbdaaDoorBoa
namespace Go.Proofs.YtngdmkhinebbdaaDoor
open Go.RowKit
set_option linter.unusedVariables false

def hasL (f : List Int) (b : Int) : Bool := decide (b ∈ f)
/-- Why a field must be quoted. -/
def whyN (d q : Int) (f : List Int) (al fi : Bool) : Int :=
  if hasL f d = true then 1 else if hasL f q = true then 2 else if (hasL f 13 || hasL f 10) = true then 3 else if f = [] ∧ al = true then 4 else if fi = true ∧ bomHad f = true then 5 else 0
def numB (b : Bool) : Int := if b = true then 1 else 0
theorem why0 {d q : Int} {f : List Int} {al fi : Bool} (h : whyN d q f al fi = 0) : hasL f d = false ∧ hasL f q = false ∧ hasL f 13 = false ∧ hasL f 10 = false := by
  unfold whyN at h
  cases hd : hasL f d
  · cases hq : hasL f q
    · cases h13 : hasL f 13
      · cases h10 : hasL f 10
        · exact ⟨rfl, rfl, rfl, rfl⟩
        · rw [hd, hq, h13, h10] at h; simp at h
      · rw [hd, hq, h13] at h; simp at h
    · rw [hd, hq] at h; simp at h
  · rw [hd] at h; simp at h
theorem hasL_not {f : List Int} {b : Int} (h : hasL f b = false) : b ∉ f := by unfold hasL at h; exact of_decide_eq_false h
end Go.Proofs.YtngdmkhinebbdaaDoor

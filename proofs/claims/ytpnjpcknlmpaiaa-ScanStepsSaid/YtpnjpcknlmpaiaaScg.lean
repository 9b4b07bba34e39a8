/- Layer 4: what all bytes of a text come to, as plain lists; states stay between 0 and 6. -/
import Derived.Test.YtpnjpcknlmpaiaaSca
import Derived.Test.YtpnjpcknlmpaiaaKit6
namespace Go.Proofs.Ytpnjpcknlmpaiaa
open Go.RowKit
set_option linter.unusedVariables false
set_option linter.unusedSimpArgs false

def evCells (x : Ev) : List Value := [.bool x.bg, .bool x.ad, .bool x.fi, .bool x.li, .bool x.re, .int .u8 x.b]
def flat (l : List Ev) : List Value := l.flatMap evCells
theorem flat_length (l : List Ev) : (flat l).length = l.length * 6 := by
  induction l with
  | nil => rfl
  | cons a r ih => unfold flat at ih ⊢; rw [List.flatMap_cons, List.length_append, ih]; simp [evCells]; omega
theorem flat_append (a b : List Ev) : flat (a ++ b) = flat a ++ flat b := by unfold flat; exact List.flatMap_append ..
theorem flat_one (x : Ev) : flat [x] = evCells x := by simp [flat]
theorem evCells_one (x : Ev) : ∀ u ∈ evCells x, u.oneCell' = true := by
  intro u hu
  simp [evCells] at hu
  rcases hu with rfl | rfl | rfl | rfl | rfl | rfl <;> rfl
theorem flat_get {l : List Ev} {k : Nat} {x : Ev} (h : l[k]? = some x) (j : Nat) (hj : j < 6) : (flat l)[k * 6 + j]? = (evCells x)[j]? := by
  induction l generalizing k with
  | nil => simp at h
  | cons a r ih =>
    unfold flat at ih ⊢
    rw [List.flatMap_cons]
    cases k with
    | zero =>
      simp at h; subst h
      rw [List.getElem?_append_left (by simp [evCells]; omega)]; simp
    | succ k =>
      rw [List.getElem?_append_right (by simp [evCells]; omega)]
      have := ih (k := k) (by simpa using h)
      rw [← this]
      congr 1
      simp [evCells]; omega

theorem stepR_n {d q e s b : Int} : 0 ≤ (stepR d q e s b).n ∧ (stepR d q e s b).n ≤ 6 := by
  have f : 0 ≤ (firstR d q b).n ∧ (firstR d q b).n ≤ 6 := by
    unfold firstR parN; (repeat' split) <;> simp
  have c : 0 ≤ (closingR d q b).n ∧ (closingR d q b).n ≤ 6 := by
    unfold closingR parN; (repeat' split) <;> simp
  have g : ∀ v, 0 ≤ (feedR v b).n ∧ (feedR v b).n ≤ 6 := by
    intro v; unfold feedR; (repeat' split) <;> simp
  unfold stepR bareR quotedR aheadR
  (repeat' split) <;> first | exact f | exact c | exact g _ | simp
theorem stepR_b {d q e s b : Int} (h0 : 0 ≤ b) (h1 : b ≤ 255) : 0 ≤ (stepR d q e s b).ev.b ∧ (stepR d q e s b).ev.b ≤ 255 := by
  have p : 0 ≤ (parE d b).b ∧ (parE d b).b ≤ 255 := by
    unfold parE evRec ev0; (repeat' split) <;> simp
  have f : 0 ≤ (firstR d q b).ev.b ∧ (firstR d q b).ev.b ≤ 255 := by
    unfold firstR evAdd ev0; (repeat' split) <;> first | exact p | (simp; done) | exact ⟨h0, h1⟩
  have c : 0 ≤ (closingR d q b).ev.b ∧ (closingR d q b).ev.b ≤ 255 := by
    unfold closingR evAdd ev0; (repeat' split) <;> first | exact p | (simp; done) | exact ⟨h0, h1⟩
  unfold stepR bareR quotedR aheadR feedR evAdd ev0
  (repeat' split) <;> first | exact f | exact c | exact ⟨h0, h1⟩ | simp
theorem closeE_b (s : Int) : (closeE s).b = 0 := by unfold closeE evRec ev0; split <;> rfl

def runE (d q e : Int) : Int → List Int → List Ev
  | s, [] => if closeK s = 0 then [closeE s] else []
  | s, b :: r => if (stepR d q e s b).k = 0 then (stepR d q e s b).ev :: runE d q e (stepR d q e s b).n r else []
def runK (d q e : Int) : Int → List Int → Int
  | s, [] => closeK s
  | s, b :: r => if (stepR d q e s b).k = 0 then runK d q e (stepR d q e s b).n r else (stepR d q e s b).k
def runA (d q e s : Int) (l : List Int) : Int := if runK d q e s l = 0 then 0 else ((runE d q e s l).length : Int)
theorem runE_le (d q e s : Int) (l : List Int) : (runE d q e s l).length ≤ l.length + 1 := by
  induction l generalizing s with
  | nil => unfold runE; split <;> simp
  | cons b r ih =>
    unfold runE
    split
    · simp only [List.length_cons]; have := ih (stepR d q e s b).n; omega
    · simp
end Go.Proofs.Ytpnjpcknlmpaiaa

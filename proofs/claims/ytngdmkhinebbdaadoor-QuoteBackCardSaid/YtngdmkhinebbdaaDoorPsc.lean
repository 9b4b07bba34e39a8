/- What each byte comes to (layer 4), as plain functions. -/
import Derived.Test.YtngdmkhinebbdaaDoorPev
namespace Go.Proofs.YtngdmkhinebbdaaDoor
open Go.RowKit
set_option linter.unusedVariables false
set_option linter.unusedSimpArgs false

structure Res where
  ev : Ev
  n : Int
  k : Int
def ev0 : Ev := ⟨false, false, false, false, false, 0⟩
def evAdd (b : Int) : Ev := ⟨false, true, false, false, false, b⟩
def evRec : Ev := ⟨false, false, false, true, true, 0⟩
def oopB (e b : Int) : Bool := (b == 13 && e == 1) || (b == 10 && e == 2)
/-- what ends a field: the event, the state, and whether it does. -/
def parE (d b : Int) : Ev := if b = d then ⟨false, false, true, false, false, 0⟩ else if b = 13 then ⟨false, false, false, true, false, 0⟩ else if b = 10 then evRec else ev0
def parN (d b : Int) : Int := if b = d then 1 else if b = 13 then 5 else 0
def parB (d b : Int) : Bool := b == d || (b == 13 || b == 10)
def firstR (d q b : Int) : Res := if b = q then ⟨ev0, 3, 0⟩ else if parB d b = true then ⟨parE d b, parN d b, 0⟩ else ⟨evAdd b, 2, 0⟩
def bareR (d q b : Int) : Res := if b = q then ⟨ev0, 0, 4⟩ else firstR d q b
def quotedR (q b : Int) : Res := if b = q then ⟨ev0, 4, 0⟩ else ⟨evAdd b, 3, 0⟩
def closingR (d q b : Int) : Res := if b = q then ⟨evAdd b, 3, 0⟩ else if parB d b = true then ⟨parE d b, parN d b, 0⟩ else ⟨ev0, 0, 5⟩
def aheadR (d q b : Int) : Res := if b = 13 then ⟨ev0, 6, 0⟩ else if b = 10 then ⟨ev0, 0, 0⟩ else ⟨{ (firstR d q b).ev with bg := true }, (firstR d q b).n, (firstR d q b).k⟩
def feedR (v : Ev) (b : Int) : Res := if b = 10 then ⟨v, 0, 0⟩ else ⟨ev0, 0, 6⟩
def stepR (d q e s b : Int) : Res :=
  if s = 0 then (if oopB e b = true then ⟨ev0, 0, 6⟩ else aheadR d q b)
  else if s = 1 then (if oopB e b = true then ⟨ev0, 0, 6⟩ else firstR d q b)
  else if s = 2 then (if oopB e b = true then ⟨ev0, 0, 6⟩ else bareR d q b)
  else if s = 3 then quotedR q b
  else if s = 4 then (if oopB e b = true then ⟨ev0, 0, 6⟩ else closingR d q b)
  else if s = 5 then feedR ⟨false, false, false, false, true, 0⟩ b
  else feedR ev0 b
def closeE (s : Int) : Ev := if s = 1 ∨ s = 2 ∨ s = 4 then evRec else ev0
def closeK (s : Int) : Int := if s = 3 then 11 else if s = 5 ∨ s = 6 then 6 else 0

theorem beq_t {a b : Int} (h : (a == b) = true) : (a = b) = True := eq_true (by simpa using h)
theorem beq_f {a b : Int} (h : (a == b) = false) : (a = b) = False := eq_false (by simpa using h)

theorem stepR_n {d q e s b : Int} : 0 ≤ (stepR d q e s b).n ∧ (stepR d q e s b).n ≤ 6 := by
  have f : 0 ≤ (firstR d q b).n ∧ (firstR d q b).n ≤ 6 := by
    unfold firstR parN; (repeat' split) <;> simp
  have c : 0 ≤ (closingR d q b).n ∧ (closingR d q b).n ≤ 6 := by
    unfold closingR parN; (repeat' split) <;> simp
  have g : ∀ v, 0 ≤ (feedR v b).n ∧ (feedR v b).n ≤ 6 := by
    intro v; unfold feedR; (repeat' split) <;> simp
  unfold stepR bareR quotedR aheadR
  (repeat' split) <;> first | exact f | exact c | exact g _ | simp
theorem stepR_b {d q e s b : Int} (h0 : 0 ≤ b) (h1 : b ≤ 255) : 0 ≤ (stepR d q e s b).ev.b ∧ (stepR d q e s b).ev.b ≤ 255 := by
  have p : 0 ≤ (parE d b).b ∧ (parE d b).b ≤ 255 := by
    unfold parE evRec ev0; (repeat' split) <;> simp
  have f : 0 ≤ (firstR d q b).ev.b ∧ (firstR d q b).ev.b ≤ 255 := by
    unfold firstR evAdd ev0; (repeat' split) <;> first | exact p | (simp; done) | exact ⟨h0, h1⟩
  have c : 0 ≤ (closingR d q b).ev.b ∧ (closingR d q b).ev.b ≤ 255 := by
    unfold closingR evAdd ev0; (repeat' split) <;> first | exact p | (simp; done) | exact ⟨h0, h1⟩
  unfold stepR bareR quotedR aheadR feedR evAdd ev0
  (repeat' split) <;> first | exact f | exact c | exact ⟨h0, h1⟩ | simp
theorem closeE_b (s : Int) : (closeE s).b = 0 := by unfold closeE evRec ev0; split <;> rfl

def runE (d q e : Int) : Int → List Int → List Ev
  | s, [] => if closeK s = 0 then [closeE s] else []
  | s, b :: r => if (stepR d q e s b).k = 0 then (stepR d q e s b).ev :: runE d q e (stepR d q e s b).n r else []
def runK (d q e : Int) : Int → List Int → Int
  | s, [] => closeK s
  | s, b :: r => if (stepR d q e s b).k = 0 then runK d q e (stepR d q e s b).n r else (stepR d q e s b).k
def runA (d q e s : Int) (l : List Int) : Int := if runK d q e s l = 0 then 0 else ((runE d q e s l).length : Int)
theorem runE_le (d q e s : Int) (l : List Int) : (runE d q e s l).length ≤ l.length + 1 := by
  induction l generalizing s with
  | nil => unfold runE; split <;> simp
  | cons b r ih =>
    unfold runE
    split
    · simp only [List.length_cons]; have := ih (stepR d q e s b).n; omega
    · simp
end Go.Proofs.YtngdmkhinebbdaaDoor

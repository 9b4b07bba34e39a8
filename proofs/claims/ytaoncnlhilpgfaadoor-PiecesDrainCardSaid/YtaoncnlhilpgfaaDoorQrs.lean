/- Layer 10: what a table comes to, in plain words. -/
import Derived.Test.YtaoncnlhilpgfaaDoorQrd
namespace Go.Proofs.YtaoncnlhilpgfaaDoor
open Go.ChangeShapes Go.WideShapes Go.ChangeAt Go.RowKit
set_option linter.unusedVariables false
set_option linter.unusedSimpArgs false

def lineE (d q e : Int) (r : List ByteArray) : Int := if rightB d q e = true then mayN r else 1
def lineS (d q e : Int) (fi : Bool) (r : List ByteArray) : ByteArray := if lineE d q e r = 0 then lineO d q e fi r else ⟨#[]⟩
/-- The text of the records that may be written, as a text. -/
def textO (d q e : Int) (t : List (List ByteArray)) : ByteArray := toBA (textN d q e t (frontN t))
theorem bl_textO {d q : Int} (d0 : 0 ≤ d) (d1 : d ≤ 255) (q0 : 0 ≤ q) (q1 : q ≤ 255) (e : Int) (t : List (List ByteArray)) : bl (textO d q e t) = textN d q e t (frontN t) := bl_toBA _ (rowsL_bytes d0 d1 q0 q1 e _ true)
theorem stb_one {w : World} {h g : Nat} (hg : g = w.heap.size) (t : TypeId) (v : Value) : (w.alloc (.cells #[v] t)).cell? ⟨g, 0, none⟩ = some v := (StB.made w hg t #[v]).cell 0
theorem dia3' {w : World} {g : Nat} {t : TypeId} {a b c : Value} (h : StB w g t #[a, b, c]) : w.cell? ⟨g, 0, none⟩ = some a ∧ w.cell? ⟨g, 1, none⟩ = some b ∧ w.cell? ⟨g, 2, none⟩ = some c ∧ g < w.heap.size :=
  ⟨h.cell 0, h.cell 1, h.cell 2, h.lt⟩
theorem up_onto' {w v : World} (h : Below w.heap.size w v) (x : Above v) : Below w.heap.size w (onto v x) := up_onto h x
theorem great_one (l : List ByteArray) (F B : Nat) : greatB 1 F B [l] = (decide (F < l.length) || decide (B < lenL l)) := by
  have e1 : fldN [l] = l.length := by simp [fldN]
  have e2 : bytN [l] = lenL l := by simp [bytN]
  unfold greatB
  rw [e1, e2]
  rfl
theorem sizes_one {l : List ByteArray} (h1 : l.length ≤ maxLen) (h : ∀ x ∈ l, x.size ≤ 140737488351232) : Sizes [l] := fun x hx => by
  obtain rfl : x = l := by simpa using hx
  exact ⟨h1, h⟩

end Go.Proofs.YtaoncnlhilpgfaaDoor

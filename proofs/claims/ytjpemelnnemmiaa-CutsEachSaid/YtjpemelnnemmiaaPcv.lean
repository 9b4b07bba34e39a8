/- Layer 7, plain: the pieces of a text of sizes, over and over (ByR), and that joined they are the text. No program. -/
import Derived.Test.YtjpemelnnemmiaaPcu
namespace Go.Proofs.Ytjpemelnnemmiaa
set_option linter.unusedVariables false

/-- The pieces from p on, where rest is what is left of this turn through the sizes. -/
inductive ByR (s : ByteArray) (z : List Int) : Nat → List Int → List ByteArray → Prop
  | done {p : Nat} {rest : List Int} : s.size ≤ p → ByR s z p rest []
  | wrap {p : Nat} {X : List ByteArray} : p < s.size → ByR s z p z X → ByR s z p [] X
  | step {p : Nat} {n : Int} {r : List Int} {X : List ByteArray} : p < s.size → ByR s z (p + holdN (s.size - p) n) r X → ByR s z p (n :: r) (s.extract p (p + holdN (s.size - p) n) :: X)
theorem ByR.at_end {s : ByteArray} {z : List Int} {p : Nat} {rest : List Int} {X : List ByteArray} (h : ByR s z p rest X) (hp : s.size ≤ p) : X = [] := by
  cases h with
  | done _ => rfl
  | wrap h _ => omega
  | step h _ => omega
theorem ByR.unique {s : ByteArray} {z : List Int} {p : Nat} {rest : List Int} {X : List ByteArray} (h : ByR s z p rest X) : ∀ {Y : List ByteArray}, ByR s z p rest Y → X = Y := by
  induction h with
  | done hp => intro Y h; exact (h.at_end hp).symm
  | wrap hp _ ih =>
    intro Y h
    cases h with
    | done h2 => omega
    | wrap _ h2 => exact ih h2
  | step hp _ ih =>
    intro Y h
    cases h with
    | done h2 => omega
    | step _ h2 => rw [ih h2]
theorem ByR.joined {s : ByteArray} {z : List Int} {p : Nat} {rest : List Int} {X : List ByteArray} (h : ByR s z p rest X) : p ≤ s.size → jn X = s.extract p s.size := by
  induction h with
  | @done p rest hp =>
    intro h
    obtain rfl : p = s.size := by omega
    apply ByteArray.ext
    simp [jn]
  | wrap hp _ ih => exact ih
  | @step p n r X hp _ ih =>
    intro _
    have := holdN_le (s.size - p) n
    rw [jn, ih (by omega), ext_join s (by omega) (by omega)]
/-- What By answers. -/
def ByOut (s : ByteArray) (z : List Int) (X : List ByteArray) : Prop :=
  if s.size = 0 ∨ z.any (fun n => decide (0 < n)) = false then X = [s] else ByR s z 0 z X
theorem ByOut.unique {s : ByteArray} {z : List Int} {X Y : List ByteArray} (h : ByOut s z X) (h' : ByOut s z Y) : X = Y := by
  unfold ByOut at h h'
  split at h
  · rename_i hc; rw [if_pos hc] at h'; rw [h, h']
  · rename_i hc; rw [if_neg hc] at h'; exact h.unique h'
theorem ByOut.joined {s : ByteArray} {z : List Int} {X : List ByteArray} (h : ByOut s z X) : jn X = s := by
  unfold ByOut at h
  split at h
  · rw [h]; simp [jn]
  · rw [h.joined (Nat.zero_le _)]; simp
end Go.Proofs.Ytjpemelnnemmiaa

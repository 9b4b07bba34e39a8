/- Layer 6: the document's own reader in memory; contracts of its short words. Layer 6: contracts of the document's reader: feed, second, add, width. Layer 6: contracts of the document's reader: add, width. Layer 6: the document's reader with its record and its records in memory (RdB); the contract of its whole. Layer 6: the document's reader's words, said of the reader with its record and records (RdB). Layer 6: the document's line: its plain half. Layer 6: the document's lines, one after another: the plain half; a line that may not begin. Layer 6: the document's Read. -/
import Derived.Test.YtoeanbfemgmgnaaGreatDoorRows
import Derived.Test.YtoeanbfemgmgnaaGreatDoorZk
import Derived.Test.YtoeanbfemgmgnaaGreatDoorZp
import Derived.Deep.QuietTactic
import Derived.Deep.DeepCutAuto
import Derived.Deep.CutRange
import Derived.Deep.CutBlock
namespace Go.Proofs.YtoeanbfemgmgnaaGreatDoor
open Go.ChangeShapes Go.WideShapes Go.ChangeAt Go.RowKit
set_option linter.unusedVariables false
set_option linter.unusedSimpArgs false

/-- What the reader has; its record, its records and their ends as they lie. -/
structure Rd where
  d : Int
  q : Int
  e : Int
  lf : Int
  ls : Int
  lr : Int
  un : Int
  s : ByteArray
  i : Nat
  bg : Int
  ro : Value
  rs : Value
  es : Value
  k : Int
  at_ : Nat
section
variable {g : Nat} {r r2 : Rd} {w w1 w2 : World}
theorem then_self {w w' : World} {g : Nat} (h : Touch w w' (fun k => k = g)) (i : Nat) (u : Value) : Touch w (w'.setCell ⟨g, i, none⟩ u) (fun k => k = g) :=
  Touch.then_set (S := fun k => k = g) h (p := ⟨g, i, none⟩) (.inl (show g = g from rfl)) u
end

end Go.Proofs.YtoeanbfemgmgnaaGreatDoor

namespace Go.Proofs.YtoeanbfemgmgnaaGreatDoor
open Go.ChangeShapes Go.WideShapes Go.ChangeAt Go.RowKit
set_option linter.unusedVariables false
set_option linter.unusedSimpArgs false

def fdN (e : Int) (b10 : Bool) : Int := if b10 = true then (if e = 2 then 0 else 1) else (if e = 1 then 0 else 2)
end Go.Proofs.YtoeanbfemgmgnaaGreatDoor

namespace Go.Proofs.YtoeanbfemgmgnaaGreatDoor
open Go.ChangeShapes Go.WideShapes Go.ChangeAt Go.RowKit
set_option linter.unusedVariables false
set_option linter.unusedSimpArgs false

end Go.Proofs.YtoeanbfemgmgnaaGreatDoor

namespace Go.Proofs.YtoeanbfemgmgnaaGreatDoor
open Go.ChangeShapes Go.WideShapes Go.ChangeAt Go.RowKit
set_option linter.unusedVariables false
set_option linter.unusedSimpArgs false

/-- Slices (V) that read as the records rs, each in a block of the call's own other than 'not'. -/
def RowsAt (w : World) (base : Nat) (e : TypeId) (V : List Value) (rs : List (List ByteArray)) (not : Option Nat) : Prop :=
  V.length = rs.length ∧ ∀ (j : Nat) (x : List ByteArray), rs[j]? = some x → ∃ A a, V[j]? = some (.slice A x.length a) ∧ SlOwn w base e A x.length a (strs x) ∧ ∀ k, blkOf A = some k → not ≠ some k
section
variable {w w' : World} {base : Nat} {e : TypeId} {V : List Value} {rs : List (List ByteArray)} {no : Option Nat}
theorem RowsAt.nothing (w : World) (base : Nat) (e : TypeId) (no : Option Nat) : RowsAt w base e [] [] no := ⟨rfl, fun j x h => by simp at h⟩
theorem RowsAt.keep (h : RowsAt w base e V rs no) (hk : ∀ k, k < w.heap.size → no ≠ some k → (∃ cur fz, w.heap[k]? = some (.cells cur e fz)) → w'.heap[k]? = w.heap[k]?) : RowsAt w' base e V rs no :=
  ⟨h.1, fun j x hx => by
    obtain ⟨A, a, hv, ho, hn⟩ := h.2 j x hx
    refine ⟨A, a, hv, ho.keep fun k hkA => hk k (ho.blk k hkA).2 (hn k hkA) ?_, hn⟩
    rcases ho.2.2.2 with ⟨rfl, _⟩ | ⟨q, cur, fz, rfl, _, hg, _⟩
    · cases hkA
    · have : q = k := by simpa [blkOf] using hkA
      subst this
      exact ⟨cur, fz, hg⟩⟩
theorem RowsAt.below (h : RowsAt w base e V rs no) (hb : Below w.heap.size w w') : RowsAt w' base e V rs no := h.keep fun k hk _ _ => hb.block k hk
theorem RowsAt.free (h : RowsAt w base e V rs no) : RowsAt w base e V rs none := ⟨h.1, fun j x hx => by
  obtain ⟨A, a, hv, ho, hn⟩ := h.2 j x hx
  exact ⟨A, a, hv, ho, fun k _ => by simp⟩⟩
theorem RowsAt.one (h : ∀ u ∈ V, u.oneCell' = true) : ∀ u ∈ V, u.oneCell' = true := h
theorem RowsAt.snoc (h : RowsAt w base e V rs none) {A : Option Addr} {a : Nat} {x : List ByteArray} (ho : SlOwn w base e A x.length a (strs x)) : RowsAt w base e (V ++ [.slice A x.length a]) (rs ++ [x]) none := by
  refine ⟨by simp [h.1], fun j y hy => ?_⟩
  by_cases hj : j < rs.length
  · rw [List.getElem?_append_left hj] at hy
    obtain ⟨B, b, hv, h2⟩ := h.2 j y hy
    exact ⟨B, b, by rw [List.getElem?_append_left (by rw [h.1]; exact hj)]; exact hv, h2⟩
  · rw [List.getElem?_append_right (by omega)] at hy
    have : j = rs.length := by
      have := (List.getElem?_eq_some_iff.1 hy).1
      simp at this; omega
    subst this
    simp at hy; subst hy
    exact ⟨A, a, by rw [← h.1]; simp, ho, fun k _ => by simp⟩
end

def ends (T : List (List ByteArray × Nat)) : List Value := T.map fun p => Value.int .i64 (p.2 : Int)
end Go.Proofs.YtoeanbfemgmgnaaGreatDoor

namespace Go.Proofs.YtoeanbfemgmgnaaGreatDoor
open Go.ChangeShapes Go.WideShapes Go.ChangeAt Go.RowKit
set_option linter.unusedVariables false
set_option linter.unusedSimpArgs false

section
variable {w w' : World} {base g : Nat} {r : Rd} {rc : List ByteArray} {T : List (List ByteArray × Nat)}
end
section
end
section
end

end Go.Proofs.YtoeanbfemgmgnaaGreatDoor

namespace Go.Proofs.YtoeanbfemgmgnaaGreatDoor
open Go.ChangeShapes Go.WideShapes Go.ChangeAt Go.RowKit
set_option linter.unusedVariables false
set_option linter.unusedSimpArgs false

section
variable {d q e : Int} {n : Nat} {m : Mk} {i : Nat} {l : List Int} {F : Fld}
end
end Go.Proofs.YtoeanbfemgmgnaaGreatDoor

namespace Go.Proofs.YtoeanbfemgmgnaaGreatDoor
open Go.ChangeShapes Go.WideShapes Go.ChangeAt Go.RowKit
set_option linter.unusedVariables false
set_option linter.unusedSimpArgs false

section
variable {d q e : Int} {m : Mk} {i : Nat} {s : ByteArray}
end

/-! ### All lines: what is told already, and what is told of the rest -/
def Got.join (T : List (List ByteArray × Nat)) (o : Got) : Got := ⟨T ++ o.rs, o.k, o.at_⟩
section
variable {d q e : Int} {n : Nat} {m : Mk} {i : Nat} {l : List Int} {b : Int}
end

end Go.Proofs.YtoeanbfemgmgnaaGreatDoor

namespace Go.Proofs.YtoeanbfemgmgnaaGreatDoor
open Go.ChangeShapes Go.WideShapes Go.ChangeAt Go.RowKit
set_option linter.unusedVariables false
set_option linter.unusedSimpArgs false

theorem RowsAt.mono {w : World} {base base' : Nat} {e : TypeId} {V : List Value} {rs : List (List ByteArray)} {no : Option Nat} (h : RowsAt w base e V rs no) (hb : base' ≤ base) : RowsAt w base' e V rs no := ⟨h.1, fun j x hx => by
  obtain ⟨A, a, hv, ho, hn⟩ := h.2 j x hx
  exact ⟨A, a, hv, ho.mono hb, hn⟩⟩
end Go.Proofs.YtoeanbfemgmgnaaGreatDoor

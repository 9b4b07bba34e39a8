/- Layer 6: the document's reader with its record and its records in memory (RdB); the contract of its whole. Layer 6: the document's reader's words, said of the reader with its record and records (RdB). Layer 6: the document's line: its plain half. -/
import Derived.Test.YtaoncnlhilpgfaaDoorRxc
import Derived.Test.YtaoncnlhilpgfaaDoorZp
namespace Go.Proofs.YtaoncnlhilpgfaaDoor
open Go.ChangeShapes Go.WideShapes Go.ChangeAt Go.RowKit
set_option linter.unusedVariables false
set_option linter.unusedSimpArgs false

/-- Slices (V) that read as the records rs, each in a block of the call's own other than 'not'. -/
def RowsAt (w : World) (base : Nat) (e : TypeId) (V : List Value) (rs : List (List ByteArray)) (not : Option Nat) : Prop :=
  V.length = rs.length ∧ ∀ (j : Nat) (x : List ByteArray), rs[j]? = some x → ∃ A a, V[j]? = some (.slice A x.length a) ∧ SlOwn w base e A x.length a (strs x) ∧ ∀ k, blkOf A = some k → not ≠ some k
section
variable {w w' : World} {base : Nat} {e : TypeId} {V : List Value} {rs : List (List ByteArray)} {no : Option Nat}
theorem RowsAt.nothing (w : World) (base : Nat) (e : TypeId) (no : Option Nat) : RowsAt w base e [] [] no := ⟨rfl, fun j x h => by simp at h⟩
theorem RowsAt.keep (h : RowsAt w base e V rs no) (hk : ∀ k, k < w.heap.size → no ≠ some k → (∃ cur fz, w.heap[k]? = some (.cells cur e fz)) → w'.heap[k]? = w.heap[k]?) : RowsAt w' base e V rs no :=
  ⟨h.1, fun j x hx => by
    obtain ⟨A, a, hv, ho, hn⟩ := h.2 j x hx
    refine ⟨A, a, hv, ho.keep fun k hkA => hk k (ho.blk k hkA).2 (hn k hkA) ?_, hn⟩
    rcases ho.2.2.2 with ⟨rfl, _⟩ | ⟨q, cur, fz, rfl, _, hg, _⟩
    · cases hkA
    · have : q = k := by simpa [blkOf] using hkA
      subst this
      exact ⟨cur, fz, hg⟩⟩
theorem RowsAt.below (h : RowsAt w base e V rs no) (hb : Below w.heap.size w w') : RowsAt w' base e V rs no := h.keep fun k hk _ _ => hb.block k hk
theorem RowsAt.free (h : RowsAt w base e V rs no) : RowsAt w base e V rs none := ⟨h.1, fun j x hx => by
  obtain ⟨A, a, hv, ho, hn⟩ := h.2 j x hx
  exact ⟨A, a, hv, ho, fun k _ => by simp⟩⟩
theorem RowsAt.one (h : ∀ u ∈ V, u.oneCell' = true) : ∀ u ∈ V, u.oneCell' = true := h
end

def ends (T : List (List ByteArray × Nat)) : List Value := T.map fun p => Value.int .i64 (p.2 : Int)
end Go.Proofs.YtaoncnlhilpgfaaDoor

namespace Go.Proofs.YtaoncnlhilpgfaaDoor
open Go.ChangeShapes Go.WideShapes Go.ChangeAt Go.RowKit
set_option linter.unusedVariables false
set_option linter.unusedSimpArgs false

section
variable {w w' : World} {base g : Nat} {r : Rd} {rc : List ByteArray} {T : List (List ByteArray × Nat)}
end
section
end
section
end

end Go.Proofs.YtaoncnlhilpgfaaDoor

namespace Go.Proofs.YtaoncnlhilpgfaaDoor
open Go.ChangeShapes Go.WideShapes Go.ChangeAt Go.RowKit
set_option linter.unusedVariables false
set_option linter.unusedSimpArgs false

section
variable {d q e : Int} {n : Nat} {m : Mk} {i : Nat} {l : List Int} {F : Fld}
end
end Go.Proofs.YtaoncnlhilpgfaaDoor

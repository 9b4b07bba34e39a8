/- Layer 5: two makers side by side, the program's and the document's, and a slice that is neither's (FieldsOwn). -/
import Derived.Test.YtghlacpjnehdfaaFir
namespace Go.Proofs.Ytghlacpjnehdfaa
open Go.ChangeShapes Go.WideShapes Go.ChangeAt Go.RowKit
set_option linter.unusedVariables false
set_option linter.unusedSimpArgs false

/-- Both makers in memory, apart from each other and from all that was there at first. -/
structure OwnAt (w0 w : World) (g h : Nat) (s s2 : Mk) (S S2 : Nat → Prop) : Prop where
  mm : MkB w g s S
  rk : RkB w h s2 S2
  lo : ∀ j, S j → w0.heap.size ≤ j
  lo2 : ∀ j, S2 j → w0.heap.size ≤ j
  apart : ∀ j, S j → ¬ S2 j
  below : Below w0.heap.size w0 w
/-- A slice that is neither's. -/
def Apart (w0 : World) (A : Option Addr) (S S2 : Nat → Prop) : Prop := ∀ j, blkOf A = some j → ¬ S j ∧ ¬ S2 j ∧ w0.heap.size ≤ j
section
variable {w0 w w' w2 : World} {g h : Nat} {s s' s2 s2' : Mk} {S S2 : Nat → Prop} {A A' : Option Addr} {n c c' : Nat} {l l' : List ByteArray} {xs : List Value}
theorem OwnAt.later (o : OwnAt w0 w g h s s2 S S2) (b : Below w.heap.size w w') : OwnAt w0 w' g h s s2 S S2 :=
  ⟨o.mm.below b, o.rk.below b, o.lo, o.lo2, o.apart, o.below.trans (b.mono o.below.size)⟩
theorem OwnAt.take (o : OwnAt w0 w g h s s2 S S2) (k : Handed A c l g s' S w w') : ∃ S3, OwnAt w0 w' g h s' s2 S3 S2 ∧ SlOwn w' 0 9 A l.length c (strs l) ∧ Apart w0 A S3 S2 := by
  obtain ⟨own, S3, m, t, u, d⟩ := k
  have hz := o.below.size
  have new : ∀ j, (S j ∨ w.heap.size ≤ j) → ¬ S2 j ∧ w0.heap.size ≤ j := fun j hj => by
    rcases hj with hj | hj
    · exact ⟨o.apart j hj, o.lo j hj⟩
    · exact ⟨fun h2 => by have := o.rk.lt j h2; omega, by omega⟩
  exact ⟨S3, ⟨m, o.rk.touch t fun j hj hs => o.apart j hs hj, fun j hj => (new j (u j hj)).2, o.lo2, fun j hj => (new j (u j hj)).1, o.below.trans (t.below hz o.lo)⟩, own, fun j hj => ⟨(d j hj).1, new j (d j hj).2⟩⟩
theorem OwnAt.rtake (o : OwnAt w0 w g h s s2 S S2) (own : SlOwn w 0 9 A n c xs) (ap : Apart w0 A S S2) (k : RHanded A' c' l' h s2' S2 w w') : ∃ S4, OwnAt w0 w' g h s s2' S S4 ∧ SlOwn w' 0 9 A n c xs ∧ Apart w0 A S S4 ∧ SlOwn w' 0 9 A' l'.length c' (strs l') := by
  obtain ⟨own', S4, m, t, u, d⟩ := k
  have hz := o.below.size
  have new : ∀ j, S4 j → w0.heap.size ≤ j := fun j hj => by
    rcases u j hj with hj | hj
    · exact o.lo2 j hj
    · omega
  refine ⟨S4, ⟨o.mm.touch t fun j hj hs => o.apart j hj hs, m, o.lo, new, fun j hj h4 => ?_, o.below.trans (t.below hz o.lo2)⟩, own.touch t fun j hj => (ap j hj).2.1, fun j hj => ⟨(ap j hj).1, fun h4 => ?_, (ap j hj).2.2⟩, own'⟩
  · rcases u j h4 with h2 | h2
    · exact o.apart j hj h2
    · have := o.mm.lt j hj; omega
  · rcases u j h4 with h2 | h2
    · exact (ap j hj).2.1 h2
    · have := (own.blk j hj).2; omega
theorem OwnAt.store {q k : Nat} (o : OwnAt w0 w g h s s2 S S2) (own : SlOwn w 0 9 (some ⟨q, 0, none⟩) n c xs) (ap : Apart w0 (some ⟨q, 0, none⟩) S S2) (hk : k < n) (u : Value) :
    OwnAt w0 (w.setCell ⟨q, k, none⟩ u) g h s s2 S S2 ∧ SlOwn (w.setCell ⟨q, k, none⟩ u) 0 9 (some ⟨q, 0, none⟩) n c (xs.set k u) := by
  obtain ⟨a1, a2, a3⟩ := ap q rfl
  have t : Touch w (w.setCell ⟨q, k, none⟩ u) (fun j => j = q) := (Touch.refl w _).then_self k u
  exact ⟨⟨o.mm.touch t fun j hj e => a1 (e ▸ hj), o.rk.touch t fun j hj e => a2 (e ▸ hj), o.lo, o.lo2, o.apart, o.below.trans (t.below o.below.size fun j e => by rw [e]; exact a3)⟩, own.store k u hk⟩
theorem OwnAt.opened (o : OwnAt w0 w g h s s2 S S2) (own : SlOwn w' w.heap.size 9 A n c xs) (b : Below w.heap.size w w') : OwnAt w0 w' g h s s2 S S2 ∧ SlOwn w' 0 9 A n c xs ∧ Apart w0 A S S2 :=
  ⟨o.later b, own.mono (Nat.zero_le _), fun j hj => by
    have h1 := (own.blk j hj).1
    have h2 := o.below.size
    exact ⟨fun hs => by have := o.mm.lt j hs; omega, fun hs => by have := o.rk.lt j hs; omega, by omega⟩⟩
end
end Go.Proofs.Ytghlacpjnehdfaa

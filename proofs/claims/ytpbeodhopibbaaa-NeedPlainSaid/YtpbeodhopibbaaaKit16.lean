/- Words over any program: a region that draws its order of evaluation, outside of rounds, whose calls answer what no one knows ahead (a new slice): what yields one value in every world of a class is taken first (takeC of Kit14), of what is left each way is walked (twoC, oneC). -/
import Derived.Test.YtpbeodhopibbaaaKit14
namespace Go.Proofs.Ytpbeodhopibbaaa
open Go.RowKit
set_option linter.unusedVariables false

section
variable {P : Program} {n : Nat} {os : List Oper} {C : World → Prop} {Q : Exit → Act → World → Prop}
theorem anyC_plain : ∀ (fuel : Nat) (listed : Array Bool) (a : Act) (w : World), anyC n P os.toArray C Q fuel listed a w → wpAnyIn Fence.wide n P .any os.toArray Q fuel listed a w
  | 0, _, _, _, h => h
  | fuel + 1, listed, a, w, h => by
    refine ⟨h.1, fun i hi => ?_⟩
    exact wpOpIn_mono (fun a' w' hh => anyC_plain fuel _ a' w' hh.2) (h.2 i hi)
/-- THE REGION. -/
theorem region_W {id : Nat} {a : Act} {w : World} (n : Nat) (C : World → Prop) (hm : P.follows .mixedOrders = true)
    (h : anyC n P os.toArray C Q os.toArray.size (Array.replicate os.toArray.size false) a w.drew) : (Code.region id os.toArray true).wp P Q a w :=
  (wpIn_wide (n := n)).1 (wpIn_region_any hm (anyC_plain _ _ _ _ h))
/-- What one operation that is ready is to do. -/
def stepC (n : Nat) (P : Program) (os : List Oper) (C : World → Prop) (Q : Exit → Act → World → Prop) (fuel : Nat) (listed : Array Bool) (i : Nat) (o : Oper) (a : Act) (w : World) : Prop :=
  ∀ K : Act → World → Prop, (∀ a w, C w → anyC n P os.toArray C Q fuel (listed.setIfInBounds i true) a w → K a w) →
    if Region.wanted o (yielded os.toArray a.tmps) = true then o.uponIn Fence.wide n P a K Q ((execOp a.eval o).run P w) else K (a.put o.dst undef) w
theorem stepC_op {i : Nat} {o : Oper} {fuel : Nat} {listed : Array Bool} {a : Act} {w : World} (ho : os.toArray[i]? = some o) (hd : straight o = true) (h : stepC n P os C Q fuel listed i o a w) :
    wpOpIn Fence.wide n P os.toArray Q i (fun a' w' => C w' ∧ anyC n P os.toArray C Q fuel (listed.setIfInBounds i true) a' w') a w := by
  have h1 := h _ (fun a w hc hh => And.intro hc hh)
  unfold wpOpIn
  simp only [ho]
  split
  · rename_i hw
    rw [if_pos hw] at h1
    refine ⟨fun _ _ => trivial, ?_⟩
    rw [Oper.semAt_eq _ _ _ (straight_ne hd)]
    exact h1
  · rename_i hw
    rw [if_neg hw] at h1
    exact ⟨fun _ _ => trivial, h1⟩
/-- TWO MAY COME UP. -/
theorem twoC {i j : Nat} {oi oj : Oper} {fuel : Nat} {listed : Array Bool} {a : Act} {w : World} (hr : Region.ready .any os.toArray listed = [i, j]) (hi : os.toArray[i]? = some oi) (hj : os.toArray[j]? = some oj) (hd : os.all straight = true)
    (h1 : stepC n P os C Q fuel listed i oi a w) (h2 : stepC n P os C Q fuel listed j oj a w) : anyC n P os.toArray C Q (fuel + 1) listed a w := by
  refine ⟨fun h0 => (by rw [h0] at hr; cases hr), fun k hk => ?_⟩
  rw [hr] at hk
  have hk2 : k = i ∨ k = j := by simpa using hk
  rcases hk2 with rfl | rfl
  · exact stepC_op hi (straight_at hd hi) h1
  · exact stepC_op hj (straight_at hd hj) h2
theorem onlyC {i : Nat} {o : Oper} {fuel : Nat} {listed : Array Bool} {a : Act} {w : World} (hr : Region.ready .any os.toArray listed = [i]) (ho : os.toArray[i]? = some o) (hd : os.all straight = true)
    (h : stepC n P os C Q fuel listed i o a w) : anyC n P os.toArray C Q (fuel + 1) listed a w := oneC hr ho hd h
end
end Go.Proofs.Ytpbeodhopibbaaa

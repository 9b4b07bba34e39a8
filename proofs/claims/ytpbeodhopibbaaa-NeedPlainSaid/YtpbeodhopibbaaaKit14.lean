/- Words over any program: a region that draws its order of evaluation, in a round of a range over a function, whose calls make memory: what yields one value in every world of a class (a load of a cell that all of them share) is taken first (takeC), the calls come where nothing else may (oneC). No condition. -/
import Derived.Test.YtpbeodhopibbaaaKit13
namespace Go.Proofs.Ytpbeodhopibbaaa
open Go.RowKit
set_option linter.unusedVariables false

section
variable {P : Program} {l n : Nat} {ops : Array Oper} {C : World → Prop} {Q : Exit → Act → World → Prop}
theorem operIn_round {o : Oper} {a : Act} {w : World} {K : Act → World → Prop} (hd : straight o = true) (h : o.wpIn Fence.wide n P a w K Q) : o.wpIn (Fence.wide.inRound l) n P a w K Q := by
  refine ⟨wide_about o a w, ?_⟩
  have h2 := h.2
  rw [Oper.semAt_eq _ _ _ (straight_ne hd)] at h2 ⊢
  generalize (execOp a.eval o).run P w = r at *
  cases r with
  | ok x w' =>
    cases x with
    | value v => exact h2
    | skip => exact h2
    | «defer» d => exact h2
    | enter f args => exact ⟨wide_depth n, CallsIn.inRound l h2.2⟩
    | row r args => exact ⟨wide_depth n, h2.2⟩
    | round l' f tmps assign body => exact ⟨wide_depth n, ⟨trivial, fun c cs _ => h2.2.2 c cs (fun _ h => by simp [Fence.wide] at h)⟩⟩
    | _ => exact h2.elim
  | halt x w' => cases x <;> first | exact h2 | exact h2.elim

/-- In state a the operation yields v in every world of the class, and turns nothing. -/
def CYields (P : Program) (ops : Array Oper) (C : World → Prop) (o : Oper) (v : Value) (a : Act) : Prop :=
  (Region.wanted o (yielded ops a.tmps) = true ∧ ∀ w, C w → (execOp a.eval o).run P w = .ok (.value v) w) ∨ (Region.wanted o (yielded ops a.tmps) = false ∧ v = undef)
theorem CYields.put {o : Oper} {v : Value} {a : Act} (hy : CYields P ops C o v a) (hs : ∀ cs b, o.op ≠ .select cs b) (dst : Option Tmp) (u : Value) (h : ∀ d, dst = some d → d ∉ o.looksAt ops) : CYields P ops C o v (a.put dst u) := by
  unfold CYields
  rw [wanted_put o a dst u h, execOp_put o hs a dst u h]
  exact hy

/-- Whatever order is picked from here on, each world on the way of the class. -/
def anyC (n : Nat) (P : Program) (ops : Array Oper) (C : World → Prop) (Q : Exit → Act → World → Prop) : Nat → Array Bool → Act → World → Prop
  | 0, listed, a, w => Region.ready .any ops listed = [] ∧ Q .normal a w
  | fuel + 1, listed, a, w =>
    (Region.ready .any ops listed = [] → Q .normal a w) ∧
    ∀ i ∈ Region.ready .any ops listed, wpOpIn Fence.wide n P ops Q i (fun a' w' => C w' ∧ anyC n P ops C Q fuel (listed.setIfInBounds i true) a' w') a w

theorem one_put {j : Nat} {oi oj : Oper} {v : Value} (hj : ops[j]? = some oj) (hap : oi.apart ops oj = true) (hd : straight oj = true) (hsi : ∀ cs b, oi.op ≠ .select cs b) (hsj : ∀ cs b, oj.op ≠ .select cs b)
    (hQ : ∀ c a w, Q (.panic c) (a.put oi.dst v) w → Q (.panic c) a w) {K : Act → World → Prop} {a : Act} {w : World} (hy : CYields P ops C oi v a) (h : wpOpIn Fence.wide n P ops Q j K (a.put oi.dst v) w) :
    wpOpIn Fence.wide n P ops Q j (fun a' w' => CYields P ops C oi v a' ∧ K (a'.put oi.dst v) w') a w := by
  obtain ⟨h1, h2, h3⟩ := Oper.apart_spec hap
  have keep : ∀ u, CYields P ops C oi v (a.put oj.dst u) := fun u => hy.put hsi _ u h3
  unfold wpOpIn at h ⊢
  simp only [hj] at h ⊢
  rw [wanted_put oj a oi.dst v h1] at h
  split
  · rename_i hw
    rw [if_pos hw] at h
    have h4 := h.2
    refine ⟨fun _ _ => trivial, ?_⟩
    rw [Oper.semAt_eq _ _ _ (straight_ne hd)] at h4 ⊢
    rw [execOp_put oj hsj a oi.dst v h1] at h4
    generalize (execOp a.eval oj).run P w = r at *
    have sw : ∀ u, (a.put oi.dst v).put oj.dst u = (a.put oj.dst u).put oi.dst v := fun u => (Act.put_comm a v u h2)
    cases r with
    | ok x w' =>
      cases x with
      | value u => exact ⟨keep u, sw u ▸ h4⟩
      | skip => exact ⟨keep undef, sw undef ▸ h4⟩
      | «defer» d => exact ⟨(show CYields P ops C oi v { a with defers := d :: a.defers } from hy).put hsi _ undef h3, by
          rw [← Act.put_comm _ v undef h2, ← Act.put_defers]; exact h4⟩
      | enter f args =>
        refine ⟨h4.1, CallsIn.mono h4.2 fun e w'' he => ?_⟩
        cases e with
        | returned u => exact ⟨keep u, sw u ▸ he⟩
        | panicked c => exact hQ _ _ _ he
        | outgrown => exact he
      | row r args => exact ⟨h4.1, RowsIn.mono h4.2 fun u w'' he => ⟨keep u, sw u ▸ he⟩⟩
      | round l' f tmps assign body =>
        refine ⟨h4.1, RoundIn.mono h4.2 fun e w'' he => ?_⟩
        cases e with
        | returned u => exact ⟨keep u, sw u ▸ he⟩
        | panicked c => exact hQ _ _ _ he
        | outgrown => exact he
      | _ => exact h4.elim
    | halt x w' =>
      cases x with
      | panic u => exact hQ _ _ _ h4
      | _ => exact h4.elim
  · rename_i hw
    rw [if_neg hw] at h
    exact ⟨fun _ _ => trivial, keep undef, (Act.put_comm a v undef h2) ▸ h.2⟩
theorem CYields.one {i : Nat} {o : Oper} {v : Value} {a : Act} {w : World} (hi : ops[i]? = some o) (hd : straight o = true) (hy : CYields P ops C o v a) (hw : C w) {K : Act → World → Prop} (h : K (a.put o.dst v) w) : wpOpIn Fence.wide n P ops Q i K a w := by
  unfold wpOpIn
  simp only [hi]
  rcases hy with ⟨h1, h2⟩ | ⟨h1, rfl⟩
  · rw [if_pos h1]
    refine ⟨fun _ _ => trivial, ?_⟩
    rw [Oper.semAt_eq _ _ _ (straight_ne hd), h2 w hw]
    exact h
  · rw [if_neg (by rw [h1]; simp)]
    exact ⟨fun _ _ => trivial, h⟩
theorem firstC {i : Nat} {oi : Oper} {v : Value} (hi : ops[i]? = some oi) (hd : ∀ (j : Nat) o, ops[j]? = some o → straight o = true) (hsel : ∀ (j : Nat) (o : Oper) cs b, ops[j]? = some o → o.op ≠ .select cs b)
    (hQ : ∀ c a w, Q (.panic c) (a.put oi.dst v) w → Q (.panic c) a w) :
    ∀ (fuel : Nat) (listed : Array Bool) (a : Act) (w : World), C w →
      (∀ j oj, ops[j]? = some oj → j ≠ i → listed.getD j true = false → (∀ e ∈ oj.after, Region.binds .any e = true → e.on ≠ i) → oi.apart ops oj = true) →
      i ∈ Region.ready .any ops listed → CYields P ops C oi v a →
      anyC n P ops C Q fuel (listed.setIfInBounds i true) (a.put oi.dst v) w → anyC n P ops C Q (fuel + 1) listed a w
  | fuel, listed, a, w, hw, hfree, hr, hy, H => by
    refine ⟨fun h => (by rw [h] at hr; cases hr), fun j hj => ?_⟩
    by_cases hji : j = i
    · subst hji
      exact hy.one hi (hd _ _ hi) hw ⟨hw, H⟩
    · match fuel, H with
      | 0, H => exact absurd (ready_mono hj hji) (by rw [H.1]; simp)
      | fuel + 1, H =>
        obtain ⟨hjun, oj, hoj, hall⟩ := mem_ready.1 hj
        have hnot : ∀ e ∈ oj.after, Region.binds .any e = true → e.on ≠ i := fun e he hb heq => by
          have h1 := hall e he hb
          have h0 := (mem_ready.1 hr).1
          rw [heq] at h1
          rcases Nat.lt_or_ge i listed.size with h' | h'
          · simp [h'] at h0 h1; rw [h0] at h1; cases h1
          · simp [Array.getElem?_eq_none h'] at h1
        refine wpOpIn_mono (fun a' w' h3 => ⟨h3.2.1, ?_⟩) (one_put hoj (hfree j oj hoj hji hjun hnot) (hd _ _ hoj) (fun cs b => hsel i oi cs b hi) (fun cs b => hsel j oj cs b hoj) hQ hy (H.2 j (ready_mono hj hji)))
        refine firstC hi hd hsel hQ fuel (listed.setIfInBounds j true) a' w' h3.2.1 (fun k ok hk hki hun hno => hfree k ok hk hki ?_ hno) (ready_mono hr (Ne.symm hji)) h3.1 ?_
        · by_cases hjk : j = k
          · subst hjk; exact hjun
          · rw [getD_set_ne true hjk] at hun; exact hun
        · rw [Array.setIfInBounds_comm _ _ hji]
          exact h3.2.2
end
section
variable {P : Program} {l n : Nat} {os : List Oper} {C : World → Prop} {Q : Exit → Act → World → Prop}
/-- WHAT YIELDS ONE VALUE IN EVERY WORLD OF THE CLASS IS TAKEN FIRST. -/
theorem takeC {i : Nat} {oi : Oper} {v : Value} {fuel : Nat} {listed : Array Bool} {a : Act} {w : World} (hi : os.toArray[i]? = some oi) (hd : os.all straight = true)
    (hs : Region.noSelect os.toArray = true) (hf : Region.free .any os.toArray listed i = true) (hr : (Region.ready .any os.toArray listed).contains i = true)
    (hQ : ∀ c a w, Q (.panic c) (a.put oi.dst v) w → Q (.panic c) a w) (hw : C w) (hy : CYields P os.toArray C oi v a)
    (h : anyC n P os.toArray C Q fuel (listed.setIfInBounds i true) (a.put oi.dst v) w) : anyC n P os.toArray C Q (fuel + 1) listed a w :=
  firstC hi (fun _ _ h => straight_at hd h) (Region.noSelect_spec hs) hQ fuel listed a w hw (Region.free_spec hi hf) (by simpa using hr) hy h
/-- NOTHING ELSE MAY COME UP. -/
theorem oneC {i : Nat} {o : Oper} {fuel : Nat} {listed : Array Bool} {a : Act} {w : World} (hr : Region.ready .any os.toArray listed = [i]) (ho : os.toArray[i]? = some o) (hd : os.all straight = true)
    (h : ∀ K : Act → World → Prop, (∀ a w, C w → anyC n P os.toArray C Q fuel (listed.setIfInBounds i true) a w → K a w) →
      if Region.wanted o (yielded os.toArray a.tmps) = true then o.uponIn Fence.wide n P a K Q ((execOp a.eval o).run P w) else K (a.put o.dst undef) w) : anyC n P os.toArray C Q (fuel + 1) listed a w := by
  refine ⟨fun h0 => (by rw [h0] at hr; cases hr), fun j hj => ?_⟩
  rw [hr] at hj
  obtain rfl : j = i := by simpa using hj
  have h1 := h _ (fun a w hc hh => And.intro hc hh)
  unfold wpOpIn
  simp only [ho]
  split
  · rename_i hw
    rw [if_pos hw] at h1
    refine ⟨fun _ _ => trivial, ?_⟩
    rw [Oper.semAt_eq _ _ _ (straight_ne (straight_at hd ho))]
    exact h1
  · rename_i hw
    rw [if_neg hw] at h1
    exact ⟨fun _ _ => trivial, h1⟩
theorem doneC {fuel : Nat} {listed : Array Bool} {a : Act} {w : World} (hr : Region.ready .any os.toArray listed = []) (h : Q .normal a w) : anyC n P os.toArray C Q fuel listed a w :=
  match fuel with
  | 0 => ⟨hr, h⟩
  | _ + 1 => ⟨fun _ => h, by rw [hr]; simp⟩
theorem anyC_round (hd : os.all straight = true) : ∀ (fuel : Nat) (listed : Array Bool) (a : Act) (w : World), anyC n P os.toArray C Q fuel listed a w → wpAnyIn (Fence.wide.inRound l) n P .any os.toArray Q fuel listed a w
  | 0, _, _, _, h => h
  | fuel + 1, listed, a, w, h => by
    refine ⟨h.1, fun i hi => ?_⟩
    have h2 := h.2 i hi
    unfold wpOpIn at h2 ⊢
    cases ho : os.toArray[i]? with
    | none =>
      rw [ho] at h2
      exact anyC_round hd fuel _ _ _ h2.2
    | some o =>
      rw [ho] at h2
      simp only at h2 ⊢
      split
      · rename_i hw
        rw [if_pos hw] at h2
        exact Oper.wpIn_mono (fun a' w' hh => anyC_round hd fuel _ a' w' hh.2) (operIn_round (straight_at hd ho) h2)
      · rename_i hw
        rw [if_neg hw] at h2
        exact ⟨fun _ _ => trivial, anyC_round hd fuel _ _ _ h2.2.2⟩
/-- THE REGION. -/
theorem region_C {id : Nat} {a : Act} {w : World} (C : World → Prop) (hm : P.follows .mixedOrders = true) (hd : os.all straight = true)
    (h : anyC n P os.toArray C Q os.toArray.size (Array.replicate os.toArray.size false) a w.drew) : (Code.region id os.toArray true).wpIn (Fence.wide.inRound l) n P Q a w :=
  wpIn_region_any hm (anyC_round hd _ _ _ _ h)
end
end Go.Proofs.Ytpbeodhopibbaaa

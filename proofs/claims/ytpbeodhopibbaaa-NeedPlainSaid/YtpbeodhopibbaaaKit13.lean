/- Words over any program: a region that draws its order of evaluation, in a round of a range over a function: what is proved of it in the plain walk (quiet: wpQuiet; any order: wpAny) serves there, too, where it holds no defer statement. No condition. -/
import Derived.Test.YtpbeodhopibbaaaKit9
import Derived.OrdersIn
import Derived.Deep.Quiet
import Derived.RegionTactic
namespace Go.Proofs.Ytpbeodhopibbaaa
open Go.RowKit
set_option linter.unusedVariables false

/-- No defer statement. -/
def straight (o : Oper) : Bool := match o.op with | .defer _ => false | _ => true
theorem straight_ne {o : Oper} (h : straight o = true) : ∀ c, o.op ≠ .defer c := fun c e => by unfold straight at h; rw [e] at h; cases h
theorem straight_at {l : List Oper} (h : l.all straight = true) {i : Nat} {o : Oper} (ho : l.toArray[i]? = some o) : straight o = true :=
  List.all_eq_true.1 h o (List.mem_of_getElem? (by simpa using ho))

section
variable {P : Program} {l n : Nat} {os : List Oper} {C : World → Prop} {Q : Exit → Act → World → Prop}
theorem wide_about (o : Oper) (a : Act) (w : World) : ∀ f, o.about P w a.eval = some f → (Fence.wide.inRound l).fn f := fun _ _ => trivial
theorem wide_depth (m : Nat) : (Fence.wide.inRound l).depth.isSome = true → 1 ≤ m := fun h => by simp [Fence.wide, Fence.inRound] at h

theorem rows_round {row : String} {args : Array Value} {w : World} {R : Value → World → Prop} (h : Rows P row args w R) : RowsIn (Fence.wide.inRound l) n P row args w R :=
  fun c cs _ => by
    obtain ⟨v, w', r, s⟩ := h c cs
    exact ⟨v, w', r, stepsIn_wide.2 s⟩
/-- One operation, in the plain walk: it does so in a round. -/
theorem oper_round {o : Oper} {a : Act} {w : World} {K : Act → World → Prop} (hd : straight o = true) (h : o.wp P a w K Q) : o.wpIn (Fence.wide.inRound l) n P a w K Q := by
  refine ⟨wide_about o a w, ?_⟩
  rw [Oper.semAt_eq _ _ _ (straight_ne hd)]
  unfold Oper.wp at h
  generalize (execOp a.eval o).run P w = r at *
  cases r with
  | ok x w' =>
    cases x with
    | value v => exact h
    | skip => exact h
    | «defer» d => exact h
    | enter f args => exact ⟨wide_depth n, CallsIn.inRound l (callsIn_wide.2 h)⟩
    | row r args => exact ⟨wide_depth n, rows_round h⟩
    | _ => exact h.elim
  | halt x w' => cases x <;> first | exact h | exact h.elim
/-- Any order. -/
theorem any_round (hd : os.all straight = true) (hQ : ¬ LetsOut Q) : ∀ (fuel : Nat) (listed : Array Bool) (a : Act) (w : World), wpAny P .any os.toArray Q fuel listed a w → wpAnyIn (Fence.wide.inRound l) n P .any os.toArray Q fuel listed a w
  | 0, _, _, _, h => h
  | fuel + 1, listed, a, w, h => by
    refine ⟨h.1, fun i hi => ?_⟩
    have h2 := h.2 i hi
    unfold wpOp at h2
    unfold wpOpIn
    cases ho : os.toArray[i]? with
    | none =>
      rw [ho] at h2
      exact any_round hd hQ fuel _ _ _ h2
    | some o =>
      rw [ho] at h2
      simp only at h2 ⊢
      split
      · rename_i hw
        rw [if_pos hw] at h2
        rcases h2 with h3 | ⟨_, h3⟩
        · exact Oper.wpIn_mono (fun a' w' hh => any_round hd hQ fuel _ a' w' hh) (oper_round (straight_at hd ho) h3)
        · exact absurd h3 hQ
      · rename_i hw
        rw [if_neg hw] at h2
        exact ⟨wide_about o a w, any_round hd hQ fuel _ _ _ h2⟩

/-- THE REGION, FROM ANY ORDER IN THE PLAIN WALK. -/
theorem region_round {id : Nat} {a : Act} {w : World} (hm : P.follows .mixedOrders = true) (hd : os.all straight = true) (hQ : ¬ LetsOut Q)
    (h : wpAny P .any os.toArray Q os.toArray.size (Array.replicate os.toArray.size false) a w.drew) : (Code.region id os.toArray true).wpIn (Fence.wide.inRound l) n P Q a w :=
  wpIn_region_any hm (any_round hd hQ _ _ _ _ h)
theorem no_way_out {Q' : Exit → Act → World → Prop} (h : ∀ a w, ¬ Q' .outgrown a w) : ¬ LetsOut Q' := fun ⟨a, w, hq⟩ => h a w hq

/-- THE REGION, FROM THE QUIET WALK: its operations read, its calls leave all that was there as it was. -/
theorem quiet_round {id : Nat} {a : Act} {w : World} (hm : P.follows .mixedOrders = true) (hd : os.all straight = true) (hB : Region.lexB .any os.toArray = true) (hQ : ¬ LetsOut Q)
    (h : wpQuiet P os.toArray (fun w' => ∃ x, w' = onto w x) (fun a' => ∀ w', (∃ x, w' = onto w x) → Q .normal a' w') os a) : (Code.region id os.toArray true).wpIn (Fence.wide.inRound l) n P Q a w := by
  simp only [Region.lexB, Bool.and_eq_true] at hB
  refine region_round hm hd hQ (wpAny_of_quiet (Q := fun a' => ∀ w', (∃ x, w' = onto w x) → Q .normal a' w') (fun _ w' hw' h => h w' hw') _ _ _ _ (onto_of ((Below.refl _ w).drew)) ?_)
  have := wpAnyQ_lex (C := fun w' => ∃ x, w' = onto w x) (md := .any) hB.1 os 0 (Array.replicate os.toArray.size false) a (by simp) (by simpa using hB.2) h
  simpa using this
end
end Go.Proofs.Ytpbeodhopibbaaa

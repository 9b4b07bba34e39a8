/- Layer 12: arguments opened: a dialect and limits (a struct of two structs), two lists of numbers (a struct of two slices). No condition. -/
import Derived.Test.YtoeanbfemgmgnaaGreatDoorZk
import Derived.SliceStrings
import Derived.Lib.SmallJoins
import Derived.Deep.Slices
import Derived.Deep.Fields
namespace Go.Proofs.YtoeanbfemgmgnaaGreatDoor
open Go.RowKit Go.ChangeShapes Go.WideShapes Go.Joins Go.ChangeAt Go.Deep
set_option linter.unusedVariables false

section
variable {H : Type} {enc : TypeId × Value → H} {P : Program} {w : World} {base : Nat} {held : Bool} {r : Reach} {b0 : Nat}
theorem ints_cell {ts e : TypeId} {n : Nat} (hs : P.underlying ts = some (.slice e)) (he : P.underlying e = some (.int .i64)) (hc : P.cellsOf e = 1) (v0 : Value) (y0 : DataW H × List MemPlace) (hf : DataW.trod enc P w base (fun _ => true) held n ts [v0] = some y0) : ∃ (A : Option Addr) (n c : Nat) (l : List Int), v0 = .slice A n c ∧ n ≤ c ∧ c ≤ maxLen ∧ SlIn w A n (l.map (Value.int .i64)) ∧ ∀ x ∈ l, (Lit.int .i64 x).wf = true := by
  rcases open_ints hs he hc hf with ⟨hcs, _⟩ | ⟨a, len, cap, zs, hcs, _, hl, hm, hz, hx, hcell, hwz⟩
  · simp at hcs
    exact ⟨none, 0, 0, [], hcs, Nat.le_refl _, Nat.zero_le _, SlIn.nothing _ _, by simp⟩
  · simp at hcs
    simp only [if_true] at hz
    refine ⟨some a, len, cap, zs.take len, hcs, hl, hm, ⟨by rw [List.length_map, List.length_take]; omega, fun j u hu => ⟨a, rfl, ?_⟩⟩, fun x hx => hwz x (List.mem_of_mem_take hx)⟩
    rw [List.getElem?_map] at hu
    cases hj : (zs.take len)[j]? with
    | none => rw [hj] at hu; cases hu
    | some x =>
      rw [hj] at hu
      simp only [Option.map_some, Option.some.injEq] at hu
      subst hu
      have hjl := (List.getElem?_eq_some_iff.1 hj).1
      rw [List.length_take] at hjl
      rw [List.getElem?_take_of_lt (by omega)] at hj
      rw [hcell j (by omega), List.getD_eq_getElem?_getD, hj]
      rfl
theorem open_deal {t ts e : TypeId} {f0 f1 : Field} {v : Value} {d : DataW H} {p : List MemPlace} (ht : P.underlying t = some (.struct #[f0, f1])) (hone : oneCellFields P #[f0, f1] = true) (hC : P.cellsOf t = 2)
    (t0 : f0.type = ts) (t1 : f1.type = ts) (hs : P.underlying ts = some (.slice e)) (he : P.underlying e = some (.int .i64)) (hc : P.cellsOf e = 1)
    (hv : Value.okWide P w r b0 t v) (h : DataW.Trod enc P w base (fun _ => true) held t v d p) :
    ∃ (A : Option Addr) (n c : Nat) (l : List Int) (B : Option Addr) (m k : Nat) (l2 : List Int), v = .agg #[.slice A n c, .slice B m k] ∧ n ≤ c ∧ c ≤ maxLen ∧ SlIn w A n (l.map (Value.int .i64)) ∧ (∀ x ∈ l, (Lit.int .i64 x).wf = true) ∧
      m ≤ k ∧ k ≤ maxLen ∧ SlIn w B m (l2.map (Value.int .i64)) := by
  obtain ⟨v0, v1, y0, y1, n, rfl, _, _, h0, h1⟩ := open_agg2 ht hone hC hv h
  rw [t0] at h0
  rw [t1] at h1
  have key := fun v0 y0 hf => ints_cell (w := w) (enc := enc) (base := base) (held := held) (n := n) hs he hc v0 y0 hf
  obtain ⟨A, n1, c1, l1, rfl, a1, a2, a3, a4⟩ := key v0 y0 h0
  obtain ⟨B, n2, c2, l2, rfl, b1, b2, b3, _⟩ := key v1 y1 h1
  exact ⟨A, n1, c1, l1, B, n2, c2, l2, rfl, a1, a2, a3, a4, b1, b2, b3⟩
end
end Go.Proofs.YtoeanbfemgmgnaaGreatDoor

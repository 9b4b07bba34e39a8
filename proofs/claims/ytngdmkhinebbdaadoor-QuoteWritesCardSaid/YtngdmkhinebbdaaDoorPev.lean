/- Events, as plain data: their cells, lists of them laid out. -/
import Derived.Test.YtngdmkhinebbdaaDoorKit3
namespace Go.Proofs.YtngdmkhinebbdaaDoor
open Go.RowKit
set_option linter.unusedVariables false
set_option linter.unusedSimpArgs false

structure Ev where
  bg : Bool
  ad : Bool
  fi : Bool
  li : Bool
  re : Bool
  b : Int
deriving DecidableEq
def evCells (x : Ev) : List Value := [.bool x.bg, .bool x.ad, .bool x.fi, .bool x.li, .bool x.re, .int .u8 x.b]
def flat (l : List Ev) : List Value := l.flatMap evCells
theorem flat_length (l : List Ev) : (flat l).length = l.length * 6 := by
  induction l with
  | nil => rfl
  | cons a r ih => unfold flat at ih ⊢; rw [List.flatMap_cons, List.length_append, ih]; simp [evCells]; omega
theorem flat_append (a b : List Ev) : flat (a ++ b) = flat a ++ flat b := by unfold flat; exact List.flatMap_append ..
theorem flat_one (x : Ev) : flat [x] = evCells x := by simp [flat]
theorem evCells_one (x : Ev) : ∀ u ∈ evCells x, u.oneCell' = true := by
  intro u hu
  simp [evCells] at hu
  rcases hu with rfl | rfl | rfl | rfl | rfl | rfl <;> rfl
theorem flat_get {l : List Ev} {k : Nat} {x : Ev} (h : l[k]? = some x) (j : Nat) (hj : j < 6) : (flat l)[k * 6 + j]? = (evCells x)[j]? := by
  induction l generalizing k with
  | nil => simp at h
  | cons a r ih =>
    unfold flat at ih ⊢
    rw [List.flatMap_cons]
    cases k with
    | zero =>
      simp at h; subst h
      rw [List.getElem?_append_left (by simp [evCells]; omega)]; simp
    | succ k =>
      rw [List.getElem?_append_right (by simp [evCells]; omega)]
      have := ih (k := k) (by simpa using h)
      rw [← this]
      congr 1
      simp [evCells]; omega
def evVal (x : Ev) : Value := .agg #[.bool x.bg, .bool x.ad, .bool x.fi, .bool x.li, .bool x.re, .int .u8 x.b]
def evArr (x : Ev) : Array Value := #[.bool x.bg, .bool x.ad, .bool x.fi, .bool x.li, .bool x.re, .int .u8 x.b]
def bitI (u : Bool) : Int := if u = true then 1 else 0
theorem list_of {α : Type} (p : Nat → α → Prop) : ∀ n, (∀ i, i < n → ∃ x, p i x) → ∃ l : List α, l.length = n ∧ ∀ i x, l[i]? = some x → p i x
  | 0, _ => ⟨[], rfl, fun i x h => by simp at h⟩
  | n + 1, h => by
    obtain ⟨l, hl, hp⟩ := list_of p n fun i hi => h i (by omega)
    obtain ⟨x, hx⟩ := h n (by omega)
    refine ⟨l ++ [x], by simp [hl], fun i y hy => ?_⟩
    by_cases hi : i < n
    · rw [List.getElem?_append_left (by omega)] at hy; exact hp i y hy
    · rw [List.getElem?_append_right (by omega)] at hy
      have : i = n := by
        have := (List.getElem?_eq_some_iff.1 hy).1
        simp at this; omega
      subst this
      rw [hl] at hy
      simp at hy; subst hy; exact hx
theorem flat_at {l : List Ev} {j : Nat} {u : Value} (h : (flat l)[j]? = some u) : ∃ x, l[j / 6]? = some x ∧ (evCells x)[j % 6]? = some u := by
  have hj := (List.getElem?_eq_some_iff.1 h).1
  rw [flat_length] at hj
  have hx : l[j / 6]? = some (l[j / 6]'(by omega)) := List.getElem?_eq_getElem (by omega)
  refine ⟨_, hx, ?_⟩
  have := flat_get hx (j % 6) (by omega)
  rw [show j / 6 * 6 + j % 6 = j by omega] at this
  rw [← this]; exact h
theorem mem_cell {w w' : World} (hb : Below w.heap.size w w') {a : Addr} {v : Value} (h : w.cell? a = some v) : w'.cell? a = some v := (hb.cell (lt_of_cell h)).trans h
end Go.Proofs.YtngdmkhinebbdaaDoor

/- Helpers over any program: tables ([][]string) in memory (RowsIn), and an argument that is one, opened. No condition. -/
import Derived.Test.YtngdmkhinebbdaaDoorKit8
import Derived.Test.YtngdmkhinebbdaaDoorKit10
namespace Go.Proofs.YtngdmkhinebbdaaDoor
open Go.RowKit Go.ChangeShapes Go.WideShapes Go.ChangeAt Go.Deep
set_option linter.unusedVariables false

/-- Slices V that read as the records rs. -/
def RowsIn (W : World) (V : List Value) (rs : List (List ByteArray)) : Prop :=
  V.length = rs.length ∧ ∀ (j : Nat) (x : List ByteArray), rs[j]? = some x → ∃ A a, V[j]? = some (.slice A x.length a) ∧ SlIn W A x.length (Go.Proofs.YtngdmkhinebbdaaDoor.strs x)
theorem RowsIn.below {W W' : World} {V : List Value} {rs : List (List ByteArray)} (h : RowsIn W V rs) (hb : Below W.heap.size W W') : RowsIn W' V rs := ⟨h.1, fun j x hx => by
  obtain ⟨A, a, h1, h2⟩ := h.2 j x hx
  exact ⟨A, a, h1, h2.below hb⟩⟩
/-- A table: the slice at A. -/
def TabIn (W : World) (A : Option Addr) (n : Nat) (V : List Value) (rs : List (List ByteArray)) : Prop := SlIn W A n V ∧ RowsIn W V rs
theorem TabIn.below {W W' : World} {A : Option Addr} {n : Nat} {V : List Value} {rs : List (List ByteArray)} (h : TabIn W A n V rs) (hb : Below W.heap.size W W') : TabIn W' A n V rs := ⟨h.1.below hb, h.2.below hb⟩
theorem TabIn.len {W : World} {A : Option Addr} {n : Nat} {V : List Value} {rs : List (List ByteArray)} (h : TabIn W A n V rs) : rs.length = n := by rw [← h.2.1, h.1.1]
theorem TabIn.row {W : World} {A : Option Addr} {n : Nat} {V : List Value} {rs : List (List ByteArray)} (h : TabIn W A n V rs) {k : Nat} {r : List ByteArray} (hk : rs[k]? = some r) :
    ∃ a B b, A = some a ∧ W.cell? (a.add k) = some (.slice B r.length b) ∧ SlIn W B r.length (Go.Proofs.YtngdmkhinebbdaaDoor.strs r) := by
  obtain ⟨B, b, h1, h2⟩ := h.2.2 k r hk
  obtain ⟨a, ha, hc⟩ := h.1.at_ h1
  exact ⟨a, B, b, ha, hc, h2⟩
theorem TabIn.one {W : World} {A : Option Addr} {n c : Nat} {l : List ByteArray} {B : Addr} (h : SlIn W A n (Go.Proofs.YtngdmkhinebbdaaDoor.strs l)) (hn : l.length = n) (hB : W.cell? B = some (.slice A n c)) : TabIn W (some B) 1 [.slice A n c] [l] := by
  refine ⟨⟨rfl, fun j u hu => ?_⟩, rfl, fun j x hx => ?_⟩
  · match j, hu with
    | 0, hu =>
      simp at hu; subst hu
      exact ⟨B, rfl, by have : B.add 0 = B := by cases B; simp [Addr.add]
                        rw [this]; exact hB⟩
    | j + 1, hu => simp at hu
  · match j, hx with
    | 0, hx =>
      simp at hx; subst hx
      subst hn
      exact ⟨A, c, rfl, h⟩
    | j + 1, hx => simp at hx

section
variable {H : Type} {enc : TypeId × Value → H} {P : Program} {w : World} {base b0 : Nat} {held : Bool} {r : Reach}
theorem open_tabs {t e q : TypeId} {v : Value} {d : DataW H} {p : List MemPlace} (ht : P.underlying t = some (.slice e)) (he : P.underlying e = some (.slice q)) (hq : P.underlying q = some .string) (ce : P.cellsOf e = 1) (cq : P.cellsOf q = 1) (hlight : Light P t d)
    (hval : Value.okWide P w r b0 t v) (h : DataW.Trod enc P w base (fun _ => true) held t v d p) :
    ∃ (A : Option Addr) (n c : Nat) (V : List Value) (rs : List (List ByteArray)), v = .slice A n c ∧ n ≤ c ∧ c ≤ maxLen ∧ TabIn w A n V rs ∧ ∀ x ∈ rs, x.length ≤ maxLen ∧ ∀ s ∈ x, s.size ≤ 140737488351232 := by
  obtain ⟨A, n, c, rfl⟩ := okWide_slice ht hval
  obtain ⟨fuel, hf⟩ := h
  rcases open_slice1 ht ce hf with ⟨hcs, _⟩ | ⟨a, len, cap, m, k, V, D, Pl, hcs, hb, hl, hm, hmm, hx, hrow⟩
  · simp [Value.cells] at hcs
    obtain ⟨rfl, rfl, rfl⟩ := hcs
    exact ⟨none, 0, 0, [], [], rfl, Nat.le_refl _, Nat.zero_le _, ⟨SlIn.nothing _ _, rfl, fun j x h => by simp at h⟩, by simp⟩
  · simp [Value.cells] at hcs
    obtain ⟨rfl, rfl, rfl⟩ := hcs
    simp only [if_true] at hmm
    subst hmm
    simp only [Prod.mk.injEq] at hx
    obtain ⟨rfl, _⟩ := hx
    have each : ∀ j, j < n → ∃ y : List ByteArray, (∃ B C, V j = .slice B y.length C ∧ SlIn w B y.length (Go.Proofs.YtngdmkhinebbdaaDoor.strs y)) ∧ y.length ≤ maxLen ∧ ∀ s ∈ y, s.size ≤ 140737488351232 := by
      intro j hj
      rcases open_strings he hq cq (hrow j (by omega)).2 with ⟨hcs, hy⟩ | ⟨a', len', cap', ss, hcs, hb', hl', hm', hz, hy, hcell, hwz⟩
      · exact ⟨[], ⟨none, 0, by simpa using hcs, SlIn.nothing _ _⟩, Nat.zero_le _, by simp⟩
      · simp only [Prod.mk.injEq] at hy
        simp only [if_true] at hz
        have hlen : (ss.take len').length = len' := by rw [List.length_take]; omega
        refine ⟨ss.take len', ⟨some a', cap', by rw [hlen]; simpa using hcs, ⟨by rw [strs_length], fun i u hu => ⟨a', rfl, ?_⟩⟩⟩, by omega, fun s hs => ?_⟩
        · unfold Go.Proofs.YtngdmkhinebbdaaDoor.strs at hu
          rw [List.getElem?_map] at hu
          cases hi : (ss.take len')[i]? with
          | none => rw [hi] at hu; cases hu
          | some x =>
            rw [hi] at hu
            simp only [Option.map_some, Option.some.injEq] at hu
            subst hu
            have hil := (List.getElem?_eq_some_iff.1 hi).1
            rw [List.length_take] at hil
            rw [List.getElem?_take_of_lt (by omega)] at hi
            rw [hcell i (by omega), List.getD_eq_getElem?_getD, hi]
            rfl
        · have := hlight s.size (by
            simp only [DataW.weights, ht]
            refine List.mem_cons_of_mem _ (List.mem_append_left _ ?_)
            refine weights_all (List.mem_map.2 ⟨j, List.mem_range.2 hj, rfl⟩) ?_
            rw [hy.1]
            simp only [DataW.weights, he]
            refine List.mem_cons_of_mem _ (List.mem_append_left _ ?_)
            refine weights_all (List.mem_map.2 ⟨s, hs, rfl⟩) ?_
            simp [DataW.weights])
          exact this
    obtain ⟨y, hy⟩ := choose_lt each
    refine ⟨some a, n, m, (List.range n).map V, (List.range n).map y, rfl, hl, hm, ⟨⟨by simp, fun j u hu => ⟨a, rfl, ?_⟩⟩, by simp, fun j x hx => ?_⟩, fun x hx => ?_⟩
    · rw [List.getElem?_map] at hu
      cases hj : (List.range n)[j]? with
      | none => rw [hj] at hu; cases hu
      | some i =>
        obtain ⟨hjl, hji⟩ := List.getElem?_eq_some_iff.1 hj
        rw [List.length_range] at hjl
        rw [List.getElem_range] at hji
        subst hji
        rw [hj] at hu
        simp only [Option.map_some, Option.some.injEq] at hu
        subst hu
        exact (hrow j (by omega)).1
    · rw [List.getElem?_map] at hx ⊢
      cases hj : (List.range n)[j]? with
      | none => rw [hj] at hx; cases hx
      | some i =>
        obtain ⟨hjl, hji⟩ := List.getElem?_eq_some_iff.1 hj
        rw [List.length_range] at hjl
        rw [List.getElem_range] at hji
        subst hji
        rw [hj] at hx
        simp only [Option.map_some, Option.some.injEq] at hx
        subst hx
        obtain ⟨⟨B, C, h1, h2⟩, _⟩ := hy j hjl
        exact ⟨B, C, by simp [h1], h2⟩
    · obtain ⟨j, hj, rfl⟩ := List.mem_map.1 hx
      exact (hy j (List.mem_range.1 hj)).2
end
end Go.Proofs.YtngdmkhinebbdaaDoor

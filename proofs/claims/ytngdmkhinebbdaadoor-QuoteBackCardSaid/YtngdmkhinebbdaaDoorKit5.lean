/- Helpers over any program: arguments that are slices of bytes, and slices of such, opened: as lists (SlIn). No condition. -/
import Derived.Test.YtngdmkhinebbdaaDoorKit4
import Derived.Deep.Matrix
import Derived.ChangeSlices
import Derived.WideShapes
import Derived.SizedLaws
namespace Go.Proofs.YtngdmkhinebbdaaDoor
open Go.RowKit Go.ChangeShapes Go.WideShapes Go.ChangeAt Go.Deep
set_option linter.unusedVariables false

/-- A slice of bytes as it lies: where, how long, how much room, what it holds. -/
structure Row8 where
  a : Option Addr
  n : Nat
  c : Nat
  l : List Int
def Row8.v (r : Row8) : Value := .slice r.a r.n r.c
structure Row8.Ok (w : World) (r : Row8) : Prop where
  reads : SlIn w r.a r.n (u8s r.l)
  bytes : ∀ x ∈ r.l, 0 ≤ x ∧ x ≤ 255
  room : r.n ≤ r.c
  least : r.c ≤ 140737488351232

theorem weights_all {H : Type} {P : Program} {e : TypeId} : ∀ {ds : List (DataW H)} {d : DataW H} {x : Nat}, d ∈ ds → x ∈ d.weights P e → x ∈ DataW.weightsAll P e ds
  | y :: r, d, x, hd, hx => by
    simp only [DataW.weightsAll, List.mem_append]
    rcases List.mem_cons.1 hd with rfl | hd
    · exact .inl hx
    · exact .inr (weights_all hd hx)
/-- What the reach says of one argument. -/
def Light {H : Type} (P : Program) (t : TypeId) (d : DataW H) : Prop := ∀ x ∈ d.weights P t, x ≤ 140737488351232
theorem light_each {H : Type} {P : Program} {ts : List TypeId} {ds : List (DataW H)} (h : (DataW.weightsEach P ts ds).all (· ≤ reachBytes) = true) {j : Nat} {t : TypeId} {d : DataW H} (ht : ts[j]? = some t) (hd : ds[j]? = some d) : Light P t d := by
  intro x hx
  have := List.all_eq_true.1 h _ (DataW.weights_mem_each ht hd x hx)
  exact of_decide_eq_true this

section
variable {H : Type} {enc : TypeId × Value → H} {P : Program} {w : World} {base b0 : Nat} {held : Bool} {r : Reach}
theorem open_bytes8 {t e : TypeId} {v : Value} {d : DataW H} {p : List MemPlace} (ht : P.underlying t = some (.slice e)) (he : P.underlying e = some (.int .u8)) (hc : P.cellsOf e = 1) (hby : P.bytesOf e = 1) (hlight : Light P t d)
    (hval : Value.okWide P w r b0 t v) (h : DataW.Trod enc P w base (fun _ => true) held t v d p) : ∃ R : Row8, v = R.v ∧ R.Ok w := by
  obtain ⟨A, n, c, rfl⟩ := okWide_slice ht hval
  obtain ⟨fuel, hf⟩ := h
  rcases open_ints ht he hc hf with ⟨hcs, _⟩ | ⟨a, len, cap, zs, hcs, _, hl, hm, hz, hx, hcell, hwz⟩
  · simp [Value.cells] at hcs
    obtain ⟨rfl, rfl, rfl⟩ := hcs
    exact ⟨⟨none, 0, 0, []⟩, rfl, ⟨SlIn.nothing _ _, by simp, Nat.le_refl _, Nat.zero_le _⟩⟩
  · simp [Value.cells] at hcs
    obtain ⟨rfl, rfl, rfl⟩ := hcs
    simp only [if_true] at hz
    simp only [Prod.mk.injEq] at hx
    obtain ⟨rfl, _⟩ := hx
    have hm8 : c ≤ 140737488351232 := by
      have := hlight _ (by simp only [DataW.weights, ht]; exact List.mem_cons_self)
      rw [hby] at this
      simp [lits] at this
      omega
    refine ⟨⟨some a, n, c, zs.take n⟩, rfl, ⟨⟨by rw [u8s_length, List.length_take]; show min n zs.length = n; omega, fun j u hu => ⟨a, rfl, ?_⟩⟩, fun x hx => bounds_u8 (hwz x (List.mem_of_mem_take hx)), hl, hm8⟩⟩
    obtain ⟨x, hx, rfl⟩ := u8s_get_inv hu
    have hj := (List.getElem?_eq_some_iff.1 hx).1
    rw [List.length_take] at hj
    rw [List.getElem?_take_of_lt (by omega)] at hx
    rw [hcell j (by omega), List.getD_eq_getElem?_getD, hx]
    rfl
theorem open_rows8 {t e q : TypeId} {v : Value} {d : DataW H} {p : List MemPlace} (ht : P.underlying t = some (.slice e)) (he : P.underlying e = some (.slice q)) (hq : P.underlying q = some (.int .u8)) (ce : P.cellsOf e = 1) (cq : P.cellsOf q = 1) (hbq : P.bytesOf q = 1) (hlight : Light P t d)
    (hval : Value.okWide P w r b0 t v) (h : DataW.Trod enc P w base (fun _ => true) held t v d p) :
    ∃ (A : Option Addr) (n c : Nat) (rs : List Row8), v = .slice A n c ∧ n ≤ c ∧ c ≤ maxLen ∧ SlIn w A n (rs.map Row8.v) ∧ ∀ R ∈ rs, R.Ok w := by
  obtain ⟨A, n, c, rfl⟩ := okWide_slice ht hval
  obtain ⟨fuel, hf⟩ := h
  rcases open_int_rows ht he hq ce cq hf with ⟨hcs, _⟩ | ⟨a, len, cap, AA, L, C, Z, hcs, _, hl, hm, hx, hrows⟩
  · simp [Value.cells] at hcs
    obtain ⟨rfl, rfl, rfl⟩ := hcs
    exact ⟨none, 0, 0, [], rfl, Nat.le_refl _, Nat.zero_le _, SlIn.nothing _ _, by simp⟩
  · simp [Value.cells] at hcs
    obtain ⟨rfl, rfl, rfl⟩ := hcs
    simp only [Prod.mk.injEq] at hx
    obtain ⟨rfl, _⟩ := hx
    refine ⟨some a, n, c, (List.range n).map fun j => ⟨AA j, L j, C j, (Z j).take (L j)⟩, rfl, hl, hm, ⟨by simp, fun j u hu => ⟨a, rfl, ?_⟩⟩, fun R hR => ?_⟩
    · rw [List.map_map, List.getElem?_map] at hu
      cases hj : (List.range n)[j]? with
      | none => rw [hj] at hu; cases hu
      | some i =>
        obtain ⟨hjl, hji⟩ := List.getElem?_eq_some_iff.1 hj
        rw [List.length_range] at hjl
        rw [List.getElem_range] at hji
        subst hji
        rw [hj] at hu
        simp only [Option.map_some, Option.some.injEq] at hu
        subst hu
        exact (hrows j (by omega)).1
    · obtain ⟨j, hj, rfl⟩ := List.mem_map.1 hR
      have hj' := List.mem_range.1 hj
      obtain ⟨_, r1, r2, r3, r4, r5, r6⟩ := hrows j (by omega)
      have hm8 : C j ≤ 140737488351232 := by
        cases hA : AA j with
        | none => rw [r5 hA]; omega
        | some a' =>
          have := hlight ((Z j).length * P.bytesOf q) (by
            simp only [DataW.weights, ht]
            refine List.mem_cons_of_mem _ (List.mem_append_left _ ?_)
            refine weights_all (List.mem_map.2 ⟨j, hj, rfl⟩) ?_
            rw [hA]
            simp only [intRow, DataW.weights, he]
            refine List.mem_cons.2 (.inl ?_)
            simp only [lits, List.length_map, List.length_take, List.length_drop]
            congr 1; omega)
          rw [hbq, r3] at this
          omega
      refine ⟨⟨by rw [u8s_length, List.length_take]; show min (L j) _ = L j; omega, fun i u hu => ?_⟩, fun x hx => bounds_u8 (r4 x (List.mem_of_mem_take hx)), r1, hm8⟩
      obtain ⟨x, hx, rfl⟩ := u8s_get_inv hu
      have hi := (List.getElem?_eq_some_iff.1 hx).1
      rw [List.length_take] at hi
      rw [List.getElem?_take_of_lt (by omega)] at hx
      show ∃ a, AA j = some a ∧ _
      cases hA : AA j with
      | none => have := r5 hA; omega
      | some a' =>
        refine ⟨a', rfl, ?_⟩
        rw [(r6 a' hA).2 i (by omega), List.getD_eq_getElem?_getD, hx]
        rfl
end
end Go.Proofs.YtngdmkhinebbdaaDoor

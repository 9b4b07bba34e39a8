/- Layer 7: a slice of strings that came in, opened, where what came in is small all in all: so is what it comes to, joined. -/
import Derived.Test.YtjpemelnnemmiaaCal
namespace Go.Proofs.Ytjpemelnnemmiaa
open Go.RowKit Go.ChangeShapes Go.WideShapes Go.ChangeAt Go.Deep
set_option linter.unusedVariables false

section
variable {H : Type} {enc : TypeId × Value → H} {P : Program} {w : World} {base b0 : Nat} {held : Bool} {r : Reach}
theorem bulk_jn : ∀ l : List ByteArray, (jn l).size ≤ Rows.uptoBulkAll (Go.ChangeShapes.strs (H := H) l)
  | [] => by simp [jn]
  | x :: r => by
    have h := bulk_jn r
    have e : x.data.toList.length = x.size := by rw [Array.length_toList]; rfl
    rw [jn, ByteArray.size_append]
    simp only [Go.ChangeShapes.strs, List.map_cons, Rows.uptoBulkAll, Rows.uptoBulk] at h ⊢
    omega
theorem open_strs_bulk {t e : TypeId} {v : Value} {d : DataW H} {p : List MemPlace} (ht : P.underlying t = some (.slice e)) (he : P.underlying e = some .string) (hc : P.cellsOf e = 1)
    (hval : Value.okWide P w r b0 t v) (h : DataW.Trod enc P w base (fun _ => true) held t v d p) : ∃ (A : Option Addr) (n c : Nat) (l : List ByteArray), v = .slice A n c ∧ n ≤ c ∧ c ≤ maxLen ∧ SlIn w A n (Go.Proofs.Ytjpemelnnemmiaa.strs l) ∧ (jn l).size ≤ Rows.uptoBulk d := by
  obtain ⟨A, n, c, rfl⟩ := okWide_slice ht hval
  obtain ⟨fuel, hf⟩ := h
  rcases open_strings ht he hc hf with ⟨hcs, _⟩ | ⟨a, len, cap, zs, hcs, _, hl, hm, hz, hx, hcell, hwz⟩
  · simp [Value.cells] at hcs
    obtain ⟨rfl, rfl, rfl⟩ := hcs
    exact ⟨none, 0, 0, [], rfl, Nat.le_refl _, Nat.zero_le _, SlIn.nothing _ _, by simp [jn]⟩
  · simp [Value.cells] at hcs
    obtain ⟨rfl, rfl, rfl⟩ := hcs
    simp only [if_true] at hz
    simp only [Prod.mk.injEq] at hx
    obtain ⟨rfl, _⟩ := hx
    refine ⟨some a, n, c, zs.take n, rfl, hl, hm, ⟨by rw [strs_length, List.length_take]; omega, fun j u hu => ⟨a, rfl, ?_⟩⟩, ?_⟩
    · unfold Go.Proofs.Ytjpemelnnemmiaa.strs at hu
      rw [List.getElem?_map] at hu
      cases hj : (zs.take n)[j]? with
      | none => rw [hj] at hu; cases hu
      | some x =>
        rw [hj] at hu
        simp only [Option.map_some, Option.some.injEq] at hu
        subst hu
        have hjl := (List.getElem?_eq_some_iff.1 hj).1
        rw [List.length_take] at hjl
        rw [List.getElem?_take_of_lt (by omega)] at hj
        rw [hcell j (by omega), List.getD_eq_getElem?_getD, hj]
        rfl
    · have h1 := bulk_jn (H := H) (zs.take n)
      simp only [Rows.uptoBulk]
      omega
end
end Go.Proofs.Ytjpemelnnemmiaa

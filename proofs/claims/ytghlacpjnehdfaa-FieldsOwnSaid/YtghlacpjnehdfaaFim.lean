/- Layer 5: an argument that is a slice of events, opened. -/
import Derived.Test.YtghlacpjnehdfaaFik
import Derived.Test.YtghlacpjnehdfaaKit5
import Derived.Deep.Slices
import Derived.Deep.Fields
namespace Go.Proofs.Ytghlacpjnehdfaa
open Go.RowKit Go.ChangeShapes Go.WideShapes Go.ChangeAt Go.Deep
set_option linter.unusedVariables false
set_option linter.unusedSimpArgs false

theorem list_of {α : Type} (p : Nat → α → Prop) : ∀ n, (∀ i, i < n → ∃ x, p i x) → ∃ l : List α, l.length = n ∧ ∀ i x, l[i]? = some x → p i x
  | 0, _ => ⟨[], rfl, fun i x h => by simp at h⟩
  | n + 1, h => by
    obtain ⟨l, hl, hp⟩ := list_of p n fun i hi => h i (by omega)
    obtain ⟨x, hx⟩ := h n (by omega)
    refine ⟨l ++ [x], by simp [hl], fun i y hy => ?_⟩
    by_cases hi : i < n
    · rw [List.getElem?_append_left (by omega)] at hy; exact hp i y hy
    · rw [List.getElem?_append_right (by omega)] at hy
      have : i = n := by
        have := (List.getElem?_eq_some_iff.1 hy).1
        simp at this; omega
      subst this
      rw [hl] at hy
      simp at hy; subst hy; exact hx
theorem flat_at {l : List Ev} {j : Nat} {u : Value} (h : (flat l)[j]? = some u) : ∃ x, l[j / 6]? = some x ∧ (evCells x)[j % 6]? = some u := by
  have hj := (List.getElem?_eq_some_iff.1 h).1
  rw [flat_length] at hj
  have hx : l[j / 6]? = some (l[j / 6]'(by omega)) := List.getElem?_eq_getElem (by omega)
  refine ⟨_, hx, ?_⟩
  have := flat_get hx (j % 6) (by omega)
  rw [show j / 6 * 6 + j % 6 = j by omega] at this
  rw [← this]; exact h

section
variable {H : Type} {enc : TypeId × Value → H} {P : Program} {w : World} {base b0 : Nat} {held : Bool} {r : Reach}
/-- Six cells that read as an event are one. -/
theorem open_event {e tb tu : TypeId} {f0 f1 f2 f3 f4 f5 : Field} {fuel : Nat} {spare : Nat → Bool} {cs : List Value} {x : DataW H × List MemPlace} (he : P.underlying e = some (.struct #[f0, f1, f2, f3, f4, f5])) (hone : oneCellFields P #[f0, f1, f2, f3, f4, f5] = true) (hl : cs.length = 6)
    (t0 : f0.type = tb) (t1 : f1.type = tb) (t2 : f2.type = tb) (t3 : f3.type = tb) (t4 : f4.type = tb) (t5 : f5.type = tu) (htb : P.underlying tb = some .bool) (htu : P.underlying tu = some (.int .u8)) (h : DataW.trod enc P w base spare held fuel e cs = some x) :
    ∃ v : Ev, cs = evCells v ∧ 0 ≤ v.b ∧ v.b ≤ 255 := by
  obtain ⟨xs, n, _, _, _, hlen, hg⟩ := DataW.trod_struct he h
  match cs, hl with
  | [c0, c1, c2, c3, c4, c5], _ =>
    have key : ∀ (j : Nat) (f : Field) (c : Value), (#[f0, f1, f2, f3, f4, f5] : Array Field)[j]? = some f → ([c0, c1, c2, c3, c4, c5] : List Value)[j]? = some c → ∃ y, DataW.trod enc P w base spare held n f.type [c] = some y := by
      intro j f c hj hc
      obtain ⟨o, k⟩ := hone_of hone j f hj
      have h1 := hg j f hj
      have hjl := (Array.getElem?_eq_some_iff.1 hj).1
      have hxs : xs[j]? = some (xs[j]'(by rw [hlen]; exact hjl)) := List.getElem?_eq_getElem _
      rw [o, k, hxs] at h1
      have hcl := (List.getElem?_eq_some_iff.1 hc)
      obtain ⟨hlt, hcc⟩ := hcl
      have : ([c0, c1, c2, c3, c4, c5].drop j).take 1 = [c] := by
        rw [List.drop_eq_getElem_cons hlt, hcc]; rfl
      rw [this] at h1
      exact ⟨_, h1⟩
    obtain ⟨y0, g0⟩ := key 0 f0 c0 rfl rfl
    obtain ⟨y1, g1⟩ := key 1 f1 c1 rfl rfl
    obtain ⟨y2, g2⟩ := key 2 f2 c2 rfl rfl
    obtain ⟨y3, g3⟩ := key 3 f3 c3 rfl rfl
    obtain ⟨y4, g4⟩ := key 4 f4 c4 rfl rfl
    obtain ⟨y5, g5⟩ := key 5 f5 c5 rfl rfl
    rw [t0] at g0
    rw [t1] at g1
    rw [t2] at g2
    rw [t3] at g3
    rw [t4] at g4
    rw [t5] at g5
    obtain ⟨b0, e0, _⟩ := DataW.trod_bool htb g0
    obtain ⟨b1, e1, _⟩ := DataW.trod_bool htb g1
    obtain ⟨b2, e2, _⟩ := DataW.trod_bool htb g2
    obtain ⟨b3, e3, _⟩ := DataW.trod_bool htb g3
    obtain ⟨b4, e4, _⟩ := DataW.trod_bool htb g4
    obtain ⟨b5, e5, _, hw⟩ := DataW.trod_int htu g5
    simp only [List.cons.injEq, and_true] at e0 e1 e2 e3 e4 e5
    subst e0 e1 e2 e3 e4 e5
    exact ⟨⟨b0, b1, b2, b3, b4, b5⟩, rfl, bounds_u8 hw⟩
theorem open_events {t e tb tu : TypeId} {f0 f1 f2 f3 f4 f5 : Field} {v : Value} {d : DataW H} {p : List MemPlace} (ht : P.underlying t = some (.slice e)) (he : P.underlying e = some (.struct #[f0, f1, f2, f3, f4, f5])) (hone : oneCellFields P #[f0, f1, f2, f3, f4, f5] = true) (hC : P.cellsOf e = 6)
    (t0 : f0.type = tb) (t1 : f1.type = tb) (t2 : f2.type = tb) (t3 : f3.type = tb) (t4 : f4.type = tb) (t5 : f5.type = tu) (htb : P.underlying tb = some .bool) (htu : P.underlying tu = some (.int .u8))
    (hval : Value.okWide P w r b0 t v) (h : DataW.Trod enc P w base (fun _ => true) held t v d p) :
    ∃ (A : Option Addr) (n c : Nat) (l : List Ev), v = .slice A n c ∧ n ≤ c ∧ c ≤ maxLen ∧ SlIn w A (n * 6) (flat l) ∧ ∀ x ∈ l, 0 ≤ x.b ∧ x.b ≤ 255 := by
  obtain ⟨A, n, c, rfl⟩ := okWide_slice ht hval
  obtain ⟨fuel, hf⟩ := h
  rcases open_slice ht hf with ⟨hcs, _⟩ | ⟨a, len, cap, m, n', D, Pl, hcs, _, hl, hm, hmm, hx, hi⟩
  · simp [Value.cells] at hcs
    obtain ⟨rfl, rfl, rfl⟩ := hcs
    exact ⟨none, 0, 0, [], rfl, Nat.le_refl _, Nat.zero_le _, by simpa [flat] using SlIn.nothing w none, by simp⟩
  · simp [Value.cells] at hcs
    obtain ⟨rfl, rfl, rfl⟩ := hcs
    have hnm : n ≤ m := by rw [hmm]; split <;> omega
    obtain ⟨l, hll, hlp⟩ := list_of (fun i (x : Ev) => w.cells? base (a.add (i * 6)) 6 = some (evCells x) ∧ 0 ≤ x.b ∧ x.b ≤ 255) n (fun i hin => by
      obtain ⟨cs', hc, htr⟩ := hi i (by omega)
      rw [hC] at hc
      obtain ⟨_, hcl, _⟩ := World.cells?_some hc
      obtain ⟨x, hx, hb⟩ := open_event he hone hcl t0 t1 t2 t3 t4 t5 htb htu htr
      exact ⟨x, by rw [hc, hx], hb⟩)
    refine ⟨some a, n, c, l, rfl, hl, hm, ⟨by rw [flat_length, hll], fun j u hu => ⟨a, rfl, ?_⟩⟩, fun x hx => ?_⟩
    · obtain ⟨x, hx, hc⟩ := flat_at hu
      obtain ⟨_, _, hat⟩ := World.cells?_some (hlp _ _ hx).1
      have := hat (j % 6) (by omega)
      rw [add_twice, show j / 6 * 6 + j % 6 = j by omega, hc] at this
      exact this
    · obtain ⟨i, hi'⟩ := List.mem_iff_getElem?.1 hx
      exact (hlp i x hi').2
end
end Go.Proofs.Ytghlacpjnehdfaa

/- Layer 12: arguments opened: a dialect and limits (a struct of two structs), two lists of numbers (a struct of two slices). No condition. -/
import Derived.Test.YtoeanbfemgmgnaaZk
import Derived.Lib.SmallJoins
import Derived.Deep.Slices
import Derived.Deep.Fields
namespace Go.Proofs.Ytoeanbfemgmgnaa
open Go.RowKit Go.ChangeShapes Go.WideShapes Go.Joins Go.ChangeAt Go.Deep
set_option linter.unusedVariables false

section
variable {H : Type} {enc : TypeId × Value → H} {P : Program} {w : World} {base : Nat} {held : Bool} {r : Reach} {b0 : Nat}
theorem array7 {α : Type} {cs : Array α} (h : cs.size = 7) : ∃ c0 c1 c2 c3 c4 c5 c6, cs = #[c0, c1, c2, c3, c4, c5, c6] := by
  obtain ⟨l⟩ := cs
  match l, h with
  | [c0, c1, c2, c3, c4, c5, c6], _ => exact ⟨c0, c1, c2, c3, c4, c5, c6, rfl⟩
theorem open_way {spare : Nat → Bool} {t td tl tu ti tb : TypeId} {fD fL f0 f1 f2 g0 g1 g2 g3 : Field} {v : Value} {d : DataW H} {p : List MemPlace}
    (ht : P.underlying t = some (.struct #[fD, fL])) (hC : P.cellsOf t = 7) (oD : fD.offset = 0) (oL : fL.offset = 3) (tD : fD.type = td) (tL : fL.type = tl)
    (hd : P.underlying td = some (.struct #[f0, f1, f2])) (honeD : oneCellFields P #[f0, f1, f2] = true) (cD : P.cellsOf td = 3)
    (hl : P.underlying tl = some (.struct #[g0, g1, g2, g3])) (honeL : oneCellFields P #[g0, g1, g2, g3] = true) (cL : P.cellsOf tl = 4)
    (t0 : f0.type = tu) (t1 : f1.type = tu) (t2 : f2.type = ti) (s0 : g0.type = ti) (s1 : g1.type = ti) (s2 : g2.type = ti) (s3 : g3.type = tb)
    (htu : P.underlying tu = some (.int .u8)) (hti : P.underlying ti = some (.int .i64)) (htb : P.underlying tb = some .bool)
    (hv : Value.okWide P w r b0 t v) (h : DataW.Trod enc P w base spare held t v d p) :
    ∃ (x0 x1 x2 y0 y1 y2 : Int) (y3 : Bool), v = .agg #[.int .u8 x0, .int .u8 x1, .int .i64 x2, .int .i64 y0, .int .i64 y1, .int .i64 y2, .bool y3] ∧ (Lit.int .u8 x0).wf = true ∧ (Lit.int .u8 x1).wf = true := by
  obtain ⟨cs, rfl, hsz⟩ := okWide_struct ht hv
  obtain ⟨c0, c1, c2, c3, c4, c5, c6, rfl⟩ := array7 (hsz.trans hC)
  obtain ⟨fuel, hf⟩ := h
  obtain ⟨yD, yL, n, _, _, hD, hL⟩ := trod_struct2 ht hf
  rw [oD, tD, cD] at hD
  rw [oL, tL, cL] at hL
  simp [Value.cells] at hD hL
  obtain ⟨a0, a1, a2, n1, _, _, q0, q1, q2⟩ := trod_struct3 hd hD
  obtain ⟨b0, b1, b2, b3, n2, _, _, r0, r1, r2, r3⟩ := trod_struct4 hl hL
  obtain ⟨o0, k0⟩ := hone_of honeD 0 f0 rfl
  obtain ⟨o1, k1⟩ := hone_of honeD 1 f1 rfl
  obtain ⟨o2, k2⟩ := hone_of honeD 2 f2 rfl
  obtain ⟨o3, k3⟩ := hone_of honeL 0 g0 rfl
  obtain ⟨o4, k4⟩ := hone_of honeL 1 g1 rfl
  obtain ⟨o5, k5⟩ := hone_of honeL 2 g2 rfl
  obtain ⟨o6, k6⟩ := hone_of honeL 3 g3 rfl
  rw [o0, k0, t0] at q0
  rw [o1, k1, t1] at q1
  rw [o2, k2, t2] at q2
  rw [o3, k3, s0] at r0
  rw [o4, k4, s1] at r1
  rw [o5, k5, s2] at r2
  rw [o6, k6, s3] at r3
  simp at q0 q1 q2 r0 r1 r2 r3
  obtain ⟨x0, e0, _, w0⟩ := DataW.trod_int htu q0
  obtain ⟨x1, e1, _, w1⟩ := DataW.trod_int htu q1
  obtain ⟨x2, e2, _, _⟩ := DataW.trod_int hti q2
  obtain ⟨x3, e3, _, _⟩ := DataW.trod_int hti r0
  obtain ⟨x4, e4, _, _⟩ := DataW.trod_int hti r1
  obtain ⟨x5, e5, _, _⟩ := DataW.trod_int hti r2
  obtain ⟨x6, e6, _⟩ := DataW.trod_bool htb r3
  simp at e0 e1 e2 e3 e4 e5 e6
  subst e0 e1 e2 e3 e4 e5 e6
  exact ⟨x0, x1, x2, x3, x4, x5, x6, rfl, w0, w1⟩
theorem ints_cell {ts e : TypeId} {n : Nat} (hs : P.underlying ts = some (.slice e)) (he : P.underlying e = some (.int .i64)) (hc : P.cellsOf e = 1) (v0 : Value) (y0 : DataW H × List MemPlace) (hf : DataW.trod enc P w base (fun _ => true) held n ts [v0] = some y0) : ∃ (A : Option Addr) (n c : Nat) (l : List Int), v0 = .slice A n c ∧ n ≤ c ∧ c ≤ maxLen ∧ SlIn w A n (l.map (Value.int .i64)) ∧ ∀ x ∈ l, (Lit.int .i64 x).wf = true := by
  rcases open_ints hs he hc hf with ⟨hcs, _⟩ | ⟨a, len, cap, zs, hcs, _, hl, hm, hz, hx, hcell, hwz⟩
  · simp at hcs
    exact ⟨none, 0, 0, [], hcs, Nat.le_refl _, Nat.zero_le _, SlIn.nothing _ _, by simp⟩
  · simp at hcs
    simp only [if_true] at hz
    refine ⟨some a, len, cap, zs.take len, hcs, hl, hm, ⟨by rw [List.length_map, List.length_take]; omega, fun j u hu => ⟨a, rfl, ?_⟩⟩, fun x hx => hwz x (List.mem_of_mem_take hx)⟩
    rw [List.getElem?_map] at hu
    cases hj : (zs.take len)[j]? with
    | none => rw [hj] at hu; cases hu
    | some x =>
      rw [hj] at hu
      simp only [Option.map_some, Option.some.injEq] at hu
      subst hu
      have hjl := (List.getElem?_eq_some_iff.1 hj).1
      rw [List.length_take] at hjl
      rw [List.getElem?_take_of_lt (by omega)] at hj
      rw [hcell j (by omega), List.getD_eq_getElem?_getD, hj]
      rfl
theorem open_ints0 {ts e : TypeId} {v : Value} {d : DataW H} {p : List MemPlace} (hs : P.underlying ts = some (.slice e)) (he : P.underlying e = some (.int .i64)) (hc : P.cellsOf e = 1)
    (hv : Value.okWide P w r b0 ts v) (h : DataW.Trod enc P w base (fun _ => true) held ts v d p) : ∃ (A : Option Addr) (n c : Nat) (l : List Int), v = .slice A n c ∧ n ≤ c ∧ c ≤ maxLen ∧ SlIn w A n (l.map (Value.int .i64)) ∧ ∀ x ∈ l, (Lit.int .i64 x).wf = true := by
  obtain ⟨A, n, c, rfl⟩ := okWide_slice hs hv
  obtain ⟨fuel, hf⟩ := h
  exact ints_cell hs he hc _ _ (by simpa [Value.cells] using hf)
theorem open_deal {t ts e : TypeId} {f0 f1 : Field} {v : Value} {d : DataW H} {p : List MemPlace} (ht : P.underlying t = some (.struct #[f0, f1])) (hone : oneCellFields P #[f0, f1] = true) (hC : P.cellsOf t = 2)
    (t0 : f0.type = ts) (t1 : f1.type = ts) (hs : P.underlying ts = some (.slice e)) (he : P.underlying e = some (.int .i64)) (hc : P.cellsOf e = 1)
    (hv : Value.okWide P w r b0 t v) (h : DataW.Trod enc P w base (fun _ => true) held t v d p) :
    ∃ (A : Option Addr) (n c : Nat) (l : List Int) (B : Option Addr) (m k : Nat) (l2 : List Int), v = .agg #[.slice A n c, .slice B m k] ∧ n ≤ c ∧ c ≤ maxLen ∧ SlIn w A n (l.map (Value.int .i64)) ∧ (∀ x ∈ l, (Lit.int .i64 x).wf = true) ∧
      m ≤ k ∧ k ≤ maxLen ∧ SlIn w B m (l2.map (Value.int .i64)) := by
  obtain ⟨v0, v1, y0, y1, n, rfl, _, _, h0, h1⟩ := open_agg2 ht hone hC hv h
  rw [t0] at h0
  rw [t1] at h1
  have key := fun v0 y0 hf => ints_cell (w := w) (enc := enc) (base := base) (held := held) (n := n) hs he hc v0 y0 hf
  obtain ⟨A, n1, c1, l1, rfl, a1, a2, a3, a4⟩ := key v0 y0 h0
  obtain ⟨B, n2, c2, l2, rfl, b1, b2, b3, _⟩ := key v1 y1 h1
  exact ⟨A, n1, c1, l1, B, n2, c2, l2, rfl, a1, a2, a3, a4, b1, b2, b3⟩
end
end Go.Proofs.Ytoeanbfemgmgnaa

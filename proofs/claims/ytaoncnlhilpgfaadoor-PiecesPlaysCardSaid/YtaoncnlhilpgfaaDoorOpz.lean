/- Layer 11: an argument that is a slice of calls (a number, a number, a list of texts), opened. -/
import Derived.Test.YtaoncnlhilpgfaaDoorZk
import Derived.Test.YtaoncnlhilpgfaaDoorZp
import Derived.Deep.Slices
import Derived.Deep.Fields
namespace Go.Proofs.YtaoncnlhilpgfaaDoor
open Go.RowKit Go.ChangeShapes Go.WideShapes Go.ChangeAt Go.Deep
set_option linter.unusedVariables false
set_option linter.unusedSimpArgs false

/-- A call: which, how many, where its texts lie, and they. -/
structure Opz where
  k : Int
  n : Int
  A : Option Addr
  c : Nat
  r : List ByteArray
structure Opz.Ok (w : World) (o : Opz) : Prop where
  k0 : 0 ≤ o.k
  k1 : o.k ≤ 255
  n0 : -9223372036854775808 ≤ o.n
  n1 : o.n ≤ 9223372036854775807
  len : o.r.length ≤ maxLen
  texts : ∀ s ∈ o.r, s.size ≤ 140737488351232
  reads : SlIn w o.A o.r.length (Go.Proofs.YtaoncnlhilpgfaaDoor.strs o.r)
/-- Where call i lies. -/
def OpzAt (w : World) (a : Addr) (i : Nat) (o : Opz) : Prop :=
  w.cell? ((a.add (i * 3)).add 0) = some (.int .u8 o.k) ∧ w.cell? ((a.add (i * 3)).add 1) = some (.int .i64 o.n) ∧ w.cell? ((a.add (i * 3)).add 2) = some (.slice o.A o.r.length o.c)
section
variable {H : Type} {enc : TypeId × Value → H} {P : Program} {w : World} {base b0 : Nat} {held : Bool} {r : Reach}
theorem open_opz {t e tu ti ts tq : TypeId} {f0 f1 f2 : Field} {v : Value} {d : DataW H} {p : List MemPlace} (ht : P.underlying t = some (.slice e)) (he : P.underlying e = some (.struct #[f0, f1, f2])) (hone : oneCellFields P #[f0, f1, f2] = true) (hC : P.cellsOf e = 3)
    (t0 : f0.type = tu) (t1 : f1.type = ti) (t2 : f2.type = ts) (htu : P.underlying tu = some (.int .u8)) (hti : P.underlying ti = some (.int .i64)) (hts : P.underlying ts = some (.slice tq)) (htq : P.underlying tq = some .string) (cq : P.cellsOf tq = 1) (hlight : Light P t d)
    (hval : Value.okWide P w r b0 t v) (h : DataW.Trod enc P w base (fun _ => true) held t v d p) :
    ∃ (A : Option Addr) (n c : Nat) (l : List Opz), v = .slice A n c ∧ n ≤ c ∧ c ≤ maxLen ∧ l.length = n ∧ (∀ i o, l[i]? = some o → o.Ok w ∧ ∃ a, A = some a ∧ OpzAt w a i o) := by
  obtain ⟨A, n, c, rfl⟩ := okWide_slice ht hval
  obtain ⟨fuel, hf⟩ := h
  rcases open_slice ht hf with ⟨hcs, _⟩ | ⟨a, len, cap, m, n', D, Pl, hcs, _, hl, hm, hmm, hx, hi⟩
  · simp [Value.cells] at hcs
    obtain ⟨rfl, rfl, rfl⟩ := hcs
    exact ⟨none, 0, 0, [], rfl, Nat.le_refl _, Nat.zero_le _, rfl, fun i o h => by simp at h⟩
  · simp [Value.cells] at hcs
    obtain ⟨rfl, rfl, rfl⟩ := hcs
    have hnm : n ≤ m := by rw [hmm]; split <;> omega
    simp only [Prod.mk.injEq] at hx
    obtain ⟨rfl, _⟩ := hx
    obtain ⟨l, hll, hlp⟩ := list_of (fun i (x : Opz) => x.Ok w ∧ OpzAt w a i x) n (fun i hin => by
      obtain ⟨cs', hc, htr⟩ := hi i (by omega)
      rw [hC] at hc
      obtain ⟨_, hcl, hat⟩ := World.cells?_some hc
      obtain ⟨xs, n2, _, hdx, _, hlen, hg⟩ := DataW.trod_struct he htr
      match cs', hcl with
      | [c0, c1, c2], _ =>
        have key : ∀ (j : Nat) (f : Field) (c : Value), (#[f0, f1, f2] : Array Field)[j]? = some f → ([c0, c1, c2] : List Value)[j]? = some c → ∃ y, xs[j]? = some y ∧ DataW.trod enc P w base (fun _ => true) held n2 f.type [c] = some y := by
          intro j f c hj hc
          obtain ⟨o, k⟩ := hone_of hone j f hj
          have h1 := hg j f hj
          have hjl := (Array.getElem?_eq_some_iff.1 hj).1
          have hxs : xs[j]? = some (xs[j]'(by rw [hlen]; exact hjl)) := List.getElem?_eq_getElem _
          rw [o, k, hxs] at h1
          obtain ⟨hlt, hcc⟩ := List.getElem?_eq_some_iff.1 hc
          have : ([c0, c1, c2].drop j).take 1 = [c] := by
            rw [List.drop_eq_getElem_cons hlt, hcc]; rfl
          rw [this] at h1
          exact ⟨_, hxs, h1⟩
        obtain ⟨y0, _, g0⟩ := key 0 f0 c0 rfl rfl
        obtain ⟨y1, _, g1⟩ := key 1 f1 c1 rfl rfl
        obtain ⟨y2, hy2, g2⟩ := key 2 f2 c2 rfl rfl
        rw [t0] at g0
        rw [t1] at g1
        rw [t2] at g2
        obtain ⟨z0, e0, _, w0⟩ := DataW.trod_int htu g0
        obtain ⟨z1, e1, _, w1⟩ := DataW.trod_int hti g1
        simp only [List.cons.injEq, and_true] at e0 e1
        subst e0 e1
        have hb0 := bounds_u8 w0
        have hb1 := bounds_i64 w1
        have hwts : ∀ x ∈ y2.1.weights P ts, x ≤ 140737488351232 := fun x hx => by
          refine hlight x ?_
          simp only [DataW.weights, ht]
          refine List.mem_cons_of_mem _ (List.mem_append_left _ ?_)
          refine weights_all (List.mem_map.2 ⟨i, List.mem_range.2 hin, rfl⟩) ?_
          have hD : D i = .agg (xs.map (·.1)) := by have := congrArg Prod.fst hdx; exact this
          rw [hD]
          simp only [DataW.weights, he]
          refine DataW.weights_mem_each (j := 2) (t := ts) (d := y2.1) ?_ ?_ x hx
          · simp [t2]
          · simp [hy2]
        rcases open_strings hts htq cq g2 with ⟨hc2, hy⟩ | ⟨a', len', cap', ss, hc2, hb', hl', hm', hz, hy, hcell, hwz⟩
        · simp only [List.cons.injEq, and_true] at hc2
          subst hc2
          refine ⟨⟨z0, z1, none, 0, []⟩, ⟨hb0.1, hb0.2, hb1.1, hb1.2, Nat.zero_le _, by simp, SlIn.nothing _ _⟩, ?_, ?_, ?_⟩
          · exact hat 0 (by omega)
          · exact hat 1 (by omega)
          · exact hat 2 (by omega)
        · simp only [List.cons.injEq, and_true] at hc2
          subst hc2
          simp only [if_true] at hz
          have hlen' : (ss.take len').length = len' := by rw [List.length_take]; omega
          refine ⟨⟨z0, z1, some a', cap', ss.take len'⟩, ⟨hb0.1, hb0.2, hb1.1, hb1.2, by show (ss.take len').length ≤ _; omega, fun s hs => ?_, ⟨by rw [strs_length], fun j u hu => ⟨a', rfl, ?_⟩⟩⟩, ?_, ?_, ?_⟩
          · refine hwts s.size ?_
            rw [hy]
            simp only [DataW.weights, hts]
            refine List.mem_cons_of_mem _ (List.mem_append_left _ ?_)
            refine weights_all (List.mem_map.2 ⟨s, hs, rfl⟩) ?_
            simp [DataW.weights]
          · have hu' : (Go.Proofs.YtaoncnlhilpgfaaDoor.strs (ss.take len'))[j]? = some u := hu
            unfold Go.Proofs.YtaoncnlhilpgfaaDoor.strs at hu'
            rw [List.getElem?_map] at hu'
            cases hj : (ss.take len')[j]? with
            | none => rw [hj] at hu'; cases hu'
            | some x =>
              rw [hj] at hu'
              simp only [Option.map_some, Option.some.injEq] at hu'
              subst hu'
              have hjl := (List.getElem?_eq_some_iff.1 hj).1
              rw [List.length_take] at hjl
              rw [List.getElem?_take_of_lt (by omega)] at hj
              rw [hcell j (by omega), List.getD_eq_getElem?_getD, hj]
              rfl
          · exact hat 0 (by omega)
          · exact hat 1 (by omega)
          · have := hat 2 (by omega)
            show w.cell? ((a.add (i * 3)).add 2) = some (.slice (some a') (ss.take len').length cap')
            rw [hlen']; exact this)
    exact ⟨some a, n, c, l, rfl, hl, hm, hll, fun i o ho => ⟨(hlp i o ho).1, a, rfl, (hlp i o ho).2⟩⟩
end
end Go.Proofs.YtaoncnlhilpgfaaDoor

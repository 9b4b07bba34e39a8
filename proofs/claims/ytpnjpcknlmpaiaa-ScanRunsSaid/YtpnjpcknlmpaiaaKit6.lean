/- Words over any program: a slice of elements of several cells, laid out one behind the other, in a block of the call's own (SlMany), and append onto such a one. No condition. -/
import Derived.Test.YtpnjpcknlmpaiaaKit4
namespace Go.Proofs.Ytpnjpcknlmpaiaa
open Go.RowKit
set_option linter.unusedVariables false

/-- The slice (A, n, c) of elements of sz cells reads, cell by cell, as xs, and lies at the head of a block of the call's own (from base on) whose cells can be written; or it is nil. -/
def SlMany (w : World) (base : Nat) (e : TypeId) (sz : Nat) (A : Option Addr) (n c : Nat) (xs : List Value) : Prop :=
  xs.length = n * sz ∧ n ≤ c ∧ c ≤ maxLen ∧ ((A = none ∧ c = 0) ∨
    ∃ (g : Nat) (cur : Array Value) (fz : Nat × Nat), A = some ⟨g, 0, none⟩ ∧ base ≤ g ∧ w.heap[g]? = some (.cells cur e fz) ∧ cur.size = c * sz ∧ (fz.2 ≤ fz.1 ∨ c * sz ≤ fz.1) ∧ ∀ (j : Nat) (u : Value), xs[j]? = some u → cur[j]? = some u)

section
variable {w w' : World} {base : Nat} {e : TypeId} {sz : Nat} {A : Option Addr} {n c : Nat} {xs : List Value}
theorem SlMany.nothing (w : World) (base : Nat) (e : TypeId) (sz : Nat) : SlMany w base e sz none 0 0 [] := ⟨by simp, Nat.le_refl _, Nat.zero_le _, .inl ⟨rfl, rfl⟩⟩
theorem SlMany.toIn (h : SlMany w base e sz A n c xs) : SlIn w A (n * sz) xs := by
  obtain ⟨h1, h2, h3, h4⟩ := h
  refine ⟨h1, fun j u hu => ?_⟩
  have hj := (List.getElem?_eq_some_iff.1 hu).1
  rcases h4 with ⟨_, hc⟩ | ⟨g, cur, fz, rfl, _, hg, _, _, hx⟩
  · have : n = 0 := by omega
    subst this
    rw [h1] at hj
    simp at hj
  · refine ⟨_, rfl, ?_⟩
    have : (⟨g, 0, none⟩ : Addr).add j = ⟨g, j, none⟩ := by unfold Addr.add; split <;> simp_all
    rw [this, cell_of_row w g j cur e fz hg]
    exact hx j u hu
theorem SlMany.blk (h : SlMany w base e sz A n c xs) : ∀ k, blkOf A = some k → base ≤ k ∧ k < w.heap.size := by
  intro k hk
  rcases h.2.2.2 with ⟨rfl, _⟩ | ⟨g, cur, fz, rfl, hb, hg, _⟩
  · cases hk
  · have : g = k := by simpa [blkOf] using hk
    subst this
    exact ⟨hb, heap_lt hg⟩
theorem SlMany.keep (h : SlMany w base e sz A n c xs) (hk : ∀ k, blkOf A = some k → w'.heap[k]? = w.heap[k]?) : SlMany w' base e sz A n c xs := by
  obtain ⟨h1, h2, h3, h4⟩ := h
  refine ⟨h1, h2, h3, ?_⟩
  rcases h4 with h4 | ⟨g, cur, fz, rfl, hb, hg, hr⟩
  · exact .inl h4
  · exact .inr ⟨g, cur, fz, rfl, hb, (hk g rfl).trans hg, hr⟩
theorem SlMany.below (h : SlMany w base e sz A n c xs) (hb : Below w.heap.size w w') : SlMany w' base e sz A n c xs := h.keep fun k hk => hb.block k (h.blk k hk).2
theorem SlMany.alloc (h : SlMany w base e sz A n c xs) (o : Obj) : SlMany (w.alloc o) base e sz A n c xs := h.below ((Below.refl _ _).alloc (Nat.le_refl _) o)
theorem SlMany.onto (h : SlMany w base e sz A n c xs) (x : Above w) : SlMany (onto w x) base e sz A n c xs := h.below (onto_below w x)
theorem SlMany.drew (h : SlMany w base e sz A n c xs) : SlMany w.drew base e sz A n c xs := h
end

/-- append onto a slice of the call's own. -/
theorem append_many {P : Program} (w : World) (t ty e : TypeId) (i : TypeInfo) (z : Value) (bytes sz : Nat) (ht : P.underlying t = some (.slice e)) (hi : P.info? e = some i) (hz : i.zero = some z)
    (hsz : i.size = sz) (hby : i.bytes = bytes) (hzs : z.cells.size = sz) (hsp : 0 < sz) (base : Nat) (A : Option Addr) (n c : Nat) (xs : List Value) (ho : SlMany w base e sz A n c xs)
    (A2 : Option Addr) (m c2 : Nat) (ys : List Value) (hin : SlIn w A2 (m * sz) ys) (hm : 0 < m) (h1 : ∀ u ∈ ys, u.oneCell' = true) (h63 : n + m ≤ maxLen) (hbytes : (n + m) * bytes ≤ 140737488355328) (hbase : base ≤ w.heap.size) :
    ∃ A' c' w', (Builtin.append_ #[t, t] ty #[.slice A n c, .slice A2 m c2]).run P w = .ok (.slice A' (n + m) c') w' ∧ SlMany w' base e sz A' (n + m) c' (xs ++ ys) ∧ w.grownBy w' (blkOf A) ∧
      (A' = A ∨ A' = some ⟨w.heap.size, 0, none⟩) := by
  obtain ⟨l1, l2, l3, l4⟩ := ho
  have hms : 0 < m * sz := Nat.mul_pos hm hsp
  obtain ⟨a2, rfl, _⟩ := hin.2 0 _ (List.getElem?_eq_getElem (by have := hin.1; omega))
  have hnews : ∀ j u, ys[j]? = some u → w.cell? (a2.add j) = some u := fun j u hu => by
    obtain ⟨a, ha, hc⟩ := hin.2 j u hu
    injection ha with ha; subst ha; exact hc
  have hlen : ys.length = m * i.size := by rw [hsz]; exact hin.1
  have hsmall : n + m ≤ 9223372036854775807 := by simp only [maxLen] at h63; omega
  have hcat : (xs ++ ys).length = (n + m) * sz := by rw [List.length_append, l1, hin.1, Nat.add_mul]
  have fresh : ∀ (old : Nat), SlMany (w.drew.alloc (.cells (xs.toArray ++ ys.toArray ++ Builtin.zeroCells z.cells (grownCap w (n + m) old e - (n + m))) e)) base e sz (some ⟨w.heap.size, 0, none⟩) (n + m) (grownCap w (n + m) old e) (xs ++ ys) := by
    intro old
    have hge := grownCap_ge w (n + m) old e
    refine ⟨hcat, hge, grownCap_le_maxLen w (n + m) old e h63, .inr ⟨w.heap.size, _, (0, 0), rfl, hbase, heap_alloc_new w.drew _, ?_, .inl (Nat.le_refl _), fun j u hu => ?_⟩⟩
    · have hh : (xs ++ ys).length + (grownCap w (n + m) old e - (n + m)) * sz = grownCap w (n + m) old e * sz := by
        rw [hcat, ← Nat.add_mul]; congr 1; omega
      rw [List.length_append] at hh
      simp only [Array.size_append, List.size_toArray, size_zeroCells, hzs]; exact hh
    · have hj := (List.getElem?_eq_some_iff.1 hu).1
      rw [Array.getElem?_append_left (by simpa using hj)]; simpa using hu
  have grew : ∀ (C : Array Value), w.grownBy (w.drew.alloc (.cells C e)) (blkOf A) := fun C => ⟨rfl, rfl, rfl, by simp, fun k hk _ => heap_alloc_old w.drew _ hk⟩
  rcases l4 with ⟨rfl, rfl⟩ | ⟨g, cur, fz, rfl, hb, hg, hs, hf, hx⟩
  · have hn : n = 0 := by omega
    subst hn
    have hxs : xs = [] := List.eq_nil_of_length_eq_zero (by rw [l1, Nat.zero_mul])
    subst hxs
    have hr := run_append_nil (P := P) w t ty e i z ht hi hz a2 m c2 ys hlen hnews (by omega) (by omega) (by rw [hby]; simp only [Nat.zero_add] at hbytes; omega)
    have hfr := fresh 0
    simp only [Nat.zero_add, List.nil_append, Array.empty_append] at hfr ⊢
    exact ⟨_, _, _, hr, hfr, grew _, .inr rfl⟩
  · by_cases hroom : n + m ≤ c
    · have hroom' : n * sz + m * sz ≤ c * sz := by rw [← Nat.add_mul]; exact Nat.mul_le_mul_right _ hroom
      have hyl : ys.length = m * sz := hin.1
      have hcells : ∀ j, j < ys.length → (w.cell? ⟨g, 0 + n * i.size + j, none⟩).isSome = true := fun j hj => by
        rw [hsz, cell_of_row w g _ cur e fz hg, Array.getElem?_eq_getElem (by omega)]; rfl
      have hfz : ∀ j, j < ys.length → w.frozen? ⟨g, 0 + n * i.size + j, none⟩ = false := fun j hj => frozen_off hg (by omega) (by rw [hsz]; omega)
      have hr := run_append_room_cells (P := P) w t ty e i ht hi g 0 n c a2 m c2 ys hlen hnews h1 hroom hcells hfz
      rw [hsz, Nat.zero_add] at hr
      obtain ⟨cur', q1, q2, q3, q4⟩ := setCells_row g e fz ys (n * sz) w cur hg
      refine ⟨_, _, _, hr, ⟨hcat, hroom, l3, .inr ⟨g, cur', fz, rfl, hb, q1, by omega, hf, fun j u hu => ?_⟩⟩, setCells_grown g ys (n * sz) w, .inl rfl⟩
      by_cases hj : j < n * sz
      · rw [List.getElem?_append_left (by omega)] at hu
        rw [q3 j hj]; exact hx j u hu
      · rw [List.getElem?_append_right (by omega), l1] at hu
        have hjl := (List.getElem?_eq_some_iff.1 hu).1
        have := q4 (j - n * sz) u hu (by omega)
        rwa [show n * sz + (j - n * sz) = j by omega] at this
    · have holds : ∀ j u, xs[j]? = some u → w.cell? ((⟨g, 0, none⟩ : Addr).add j) = some u := fun j u hu => by
        have : (⟨g, 0, none⟩ : Addr).add j = ⟨g, j, none⟩ := by unfold Addr.add; split <;> simp_all
        rw [this, cell_of_row w g j cur e fz hg]; exact hx j u hu
      have hr := run_append_grow (P := P) w t ty e i z ht hi hz ⟨g, 0, none⟩ n c xs (by rw [hsz]; exact l1) holds a2 m c2 ys hlen hnews (by omega) (by omega) (growslice_fits (by omega) (by rw [hby]; exact hbytes))
      exact ⟨_, _, _, hr, fresh c, grew _, .inr rfl⟩

/-- At the operation. -/
theorem wpList_append_many {P : Program} (w : World) {ops : Array Oper} {rest : List Oper} {o : Oper} {a : Act} {Q : Exit → Act → World → Prop} (hgd : o.guard = none) (s x : Operand) (t : TypeId)
    (hop : o.op = .call { callee := .builtin .append, args := #[s, x], argTypes := #[t, t] })
    (e : TypeId) (i : TypeInfo) (z : Value) (bytes sz : Nat) (ht : P.underlying t = some (.slice e)) (hi : P.info? e = some i) (hz : i.zero = some z)
    (hsz : i.size = sz) (hby : i.bytes = bytes) (hzs : z.cells.size = sz) (hsp : 0 < sz) (base : Nat) (A : Option Addr) (n c : Nat) (xs : List Value) (hs : a.eval s = .slice A n c) (ho : SlMany w base e sz A n c xs)
    (A2 : Option Addr) (m c2 : Nat) (ys : List Value) (hx : a.eval x = .slice A2 m c2) (hin : SlIn w A2 (m * sz) ys) (hm : 0 < m) (h1 : ∀ u ∈ ys, u.oneCell' = true) (h63 : n + m ≤ maxLen) (hbytes : (n + m) * bytes ≤ 140737488355328) (hbase : base ≤ w.heap.size)
    (h : ∀ A' c' w', SlMany w' base e sz A' (n + m) c' (xs ++ ys) → w.grownBy w' (blkOf A) → (A' = A ∨ A' = some ⟨w.heap.size, 0, none⟩) → wpList P ops Q rest (a.put o.dst (.slice A' (n + m) c')) w') : wpList P ops Q (o :: rest) a w := by
  refine wpList_plain hgd fun K hK => ?_
  obtain ⟨A', c', w', hr, h2, h3, h4⟩ := append_many (P := P) w t o.type e i z bytes sz ht hi hz hsz hby hzs hsp base A n c xs ho A2 m c2 ys hin hm h1 h63 hbytes hbase
  unfold Oper.wp execOp
  simp only [hop, resolve, invoke, builtin, Sem.run_bind, Sem.run_pure, Result.andThen_ok, List.map_toArray, List.map_cons, List.map_nil, hs, hx, hr]
  exact hK _ _ (h A' c' w' h2 h3 h4)
end Go.Proofs.Ytpnjpcknlmpaiaa

/- Words over any program: a slice of one-cell elements that reads as a list (SlIn), a slice in a block of the call's own (SlOwn), append onto such a one, bytes made into a text and back, a struct behind a pointer (StB). No condition. -/
import Derived.Test.YtngdmkhinebbdaaDoorKit3
import Derived.ArgAppend
import Derived.OwnWalk
import Derived.Laws.OwnMore
import Derived.Laws.IdiomStrings
import Derived.Maps.AppendAt
namespace Go.Proofs.YtngdmkhinebbdaaDoor
open Go.RowKit
set_option linter.unusedVariables false

/-- The first n elements of the slice at A are xs. -/
def SlIn (w : World) (A : Option Addr) (n : Nat) (xs : List Value) : Prop :=
  xs.length = n ∧ ∀ j u, xs[j]? = some u → ∃ a, A = some a ∧ w.cell? (a.add j) = some u

theorem add_block (a : Addr) (n : Nat) : (a.add n).block = a.block := by unfold Addr.add; split <;> rfl
theorem add_twice (a : Addr) (i j : Nat) : (a.add i).add j = a.add (i + j) := by
  unfold Addr.add
  by_cases hi : i = 0 <;> by_cases hj : j = 0 <;> simp [hi, hj, Nat.add_assoc]

section
variable {w w' : World} {A : Option Addr} {n : Nat} {xs : List Value}
theorem SlIn.nothing (w : World) (A : Option Addr) : SlIn w A 0 [] := ⟨rfl, fun j u h => by simp at h⟩
theorem SlIn.at_ (h : SlIn w A n xs) {k : Nat} {u : Value} (hk : xs[k]? = some u) : ∃ a, A = some a ∧ w.cell? (a.add k) = some u := h.2 k u hk
theorem SlIn.keep (h : SlIn w A n xs) (hk : ∀ p : Addr, ∀ u, w.cell? p = some u → (∃ a, A = some a ∧ p.block = a.block) → w'.cell? p = some u) : SlIn w' A n xs :=
  ⟨h.1, fun j u hu => by
    obtain ⟨a, e, hc⟩ := h.2 j u hu
    exact ⟨a, e, hk _ _ hc ⟨a, e, add_block a j⟩⟩⟩
theorem SlIn.below (h : SlIn w A n xs) (hb : Below w.heap.size w w') : SlIn w' A n xs := h.keep fun p u hc _ => (hb.cell (lt_of_cell hc)).trans hc
theorem SlIn.drew (h : SlIn w A n xs) : SlIn w.drew A n xs := h
theorem SlIn.alloc (h : SlIn w A n xs) (o : Obj) : SlIn (w.alloc o) A n xs := h.below ((Below.refl _ _).alloc (Nat.le_refl _) o)
theorem SlIn.grown (h : SlIn w A n xs) {row : Option Nat} (hg : w.grownBy w' row) (hr : ∀ a, A = some a → some a.block ≠ row) : SlIn w' A n xs :=
  h.keep fun p u hc ⟨a, e, hp⟩ => hg.cell hc (by rw [hp]; exact hr a e)
theorem SlIn.cut (h : SlIn w A n xs) {k cap : Nat} (hk : k ≤ n) (hc : n ≤ cap) :
    SlIn w (if cap = k then A else A.map (·.add k)) (n - k) (xs.drop k) := by
  refine ⟨by rw [List.length_drop, h.1], fun j u hu => ?_⟩
  rw [List.getElem?_drop] at hu
  obtain ⟨a, rfl, hcell⟩ := h.2 _ u hu
  have hlt : k + j < n := by have := (List.getElem?_eq_some_iff.1 hu).1; rw [h.1] at this; exact this
  rw [if_neg (by omega)]
  exact ⟨a.add k, rfl, by rw [add_twice]; exact hcell⟩
theorem SlIn.take (h : SlIn w A n xs) {k : Nat} (hk : k ≤ n) : SlIn w A k (xs.take k) := by
  refine ⟨by rw [List.length_take, h.1]; omega, fun j u hu => ?_⟩
  have hlt : j < k := by have := (List.getElem?_eq_some_iff.1 hu).1; rw [List.length_take] at this; omega
  rw [List.getElem?_take_of_lt hlt] at hu
  exact h.2 j u hu
end

/-- The slice (A, n, c) reads as xs and lies at the head of a block of the call's own (from base on) whose cells can be written; or it is nil. -/
def SlOwn (w : World) (base : Nat) (e : TypeId) (A : Option Addr) (n c : Nat) (xs : List Value) : Prop :=
  xs.length = n ∧ n ≤ c ∧ c ≤ maxLen ∧ ((A = none ∧ c = 0) ∨
    ∃ (g : Nat) (cur : Array Value) (fz : Nat × Nat), A = some ⟨g, 0, none⟩ ∧ base ≤ g ∧ w.heap[g]? = some (.cells cur e fz) ∧ cur.size = c ∧ (fz.2 ≤ fz.1 ∨ c ≤ fz.1) ∧ ∀ (j : Nat) (u : Value), xs[j]? = some u → cur[j]? = some u)

def blkOf (A : Option Addr) : Option Nat := A.map (·.block)

section
variable {w w' : World} {base : Nat} {e : TypeId} {A : Option Addr} {n c : Nat} {xs : List Value}
theorem SlOwn.nothing (w : World) (base : Nat) (e : TypeId) : SlOwn w base e none 0 0 [] := ⟨rfl, Nat.le_refl _, Nat.zero_le _, .inl ⟨rfl, rfl⟩⟩
theorem SlOwn.toIn (h : SlOwn w base e A n c xs) : SlIn w A n xs := by
  obtain ⟨h1, h2, h3, h4⟩ := h
  refine ⟨h1, fun j u hu => ?_⟩
  have hj := (List.getElem?_eq_some_iff.1 hu).1
  rcases h4 with ⟨_, hc⟩ | ⟨g, cur, fz, rfl, _, hg, _, _, hx⟩
  · omega
  · refine ⟨_, rfl, ?_⟩
    have : (⟨g, 0, none⟩ : Addr).add j = ⟨g, j, none⟩ := by unfold Addr.add; split <;> simp_all
    rw [this, cell_of_row w g j cur e fz hg]
    exact hx j u hu
theorem heap_lt {w : World} {g : Nat} {o : Obj} (h : w.heap[g]? = some o) : g < w.heap.size := by
  rcases Nat.lt_or_ge g w.heap.size with h' | h'
  · exact h'
  · rw [Array.getElem?_eq_none h'] at h; cases h
theorem SlOwn.blk (h : SlOwn w base e A n c xs) : ∀ k, blkOf A = some k → base ≤ k ∧ k < w.heap.size := by
  intro k hk
  rcases h.2.2.2 with ⟨rfl, _⟩ | ⟨g, cur, fz, rfl, hb, hg, _⟩
  · cases hk
  · have : g = k := by simpa [blkOf] using hk
    subst this
    exact ⟨hb, heap_lt hg⟩
theorem SlOwn.keep (h : SlOwn w base e A n c xs) (hk : ∀ k, blkOf A = some k → w'.heap[k]? = w.heap[k]?) : SlOwn w' base e A n c xs := by
  obtain ⟨h1, h2, h3, h4⟩ := h
  refine ⟨h1, h2, h3, ?_⟩
  rcases h4 with h4 | ⟨g, cur, fz, rfl, hb, hg, hr⟩
  · exact .inl h4
  · exact .inr ⟨g, cur, fz, rfl, hb, (hk g rfl).trans hg, hr⟩
theorem SlOwn.below (h : SlOwn w base e A n c xs) (hb : Below w.heap.size w w') : SlOwn w' base e A n c xs := h.keep fun k hk => hb.block k (h.blk k hk).2
theorem SlOwn.grown (h : SlOwn w base e A n c xs) {row : Option Nat} (hg : w.grownBy w' row) (hr : ∀ k, blkOf A = some k → some k ≠ row) : SlOwn w' base e A n c xs :=
  h.keep fun k hk => hg.block k (h.blk k hk).2 (hr k hk)
theorem SlOwn.mono (h : SlOwn w base e A n c xs) {base' : Nat} (hb : base' ≤ base) : SlOwn w base' e A n c xs := by
  obtain ⟨h1, h2, h3, h4⟩ := h
  refine ⟨h1, h2, h3, ?_⟩
  rcases h4 with h4 | ⟨g, cur, fz, rfl, hb', hr⟩
  · exact .inl h4
  · exact .inr ⟨g, cur, fz, rfl, Nat.le_trans hb hb', hr⟩
theorem SlOwn.made (w : World) (base : Nat) (hb : base ≤ w.heap.size) (e : TypeId) (xs : List Value) (hm : xs.length ≤ maxLen) :
    SlOwn (w.alloc (.cells xs.toArray e)) base e (some ⟨w.heap.size, 0, none⟩) xs.length xs.length xs :=
  ⟨rfl, Nat.le_refl _, hm, .inr ⟨w.heap.size, xs.toArray, (0, 0), rfl, hb, heap_alloc_new w _, by simp, .inl (Nat.le_refl _), fun j u hu => by simpa using hu⟩⟩
theorem frozen_off {w : World} {g j : Nat} {cur : Array Value} {e : TypeId} {fz : Nat × Nat} (hg : w.heap[g]? = some (.cells cur e fz)) (hf : fz.2 ≤ fz.1 ∨ cur.size ≤ fz.1) (hj : j < cur.size) : w.frozen? ⟨g, j, none⟩ = false := by
  obtain ⟨a, b⟩ := fz
  simp only [World.frozen?, hg]
  have : ¬ (a ≤ j ∧ j < b) := by simp at hf; omega
  rcases Nat.lt_or_ge j a with h | h
  · simp [Nat.not_le.2 h]
  · have : ¬ j < b := fun h' => this ⟨h, h'⟩
    simp [this]
theorem SlOwn.cellAt (h : SlOwn w base e A n c xs) {k : Nat} (hk : k < n) : ∃ g u, A = some ⟨g, 0, none⟩ ∧ base ≤ g ∧ g < w.heap.size ∧ xs[k]? = some u ∧ w.cell? ⟨g, k, none⟩ = some u ∧ w.frozen? ⟨g, k, none⟩ = false := by
  obtain ⟨h1, h2, h3, h4⟩ := h
  rcases h4 with ⟨_, hc⟩ | ⟨g, cur, fz, rfl, hb, hg, hs, hf, hx⟩
  · omega
  · have hu : xs[k]? = some (xs[k]'(by omega)) := List.getElem?_eq_getElem (by omega)
    exact ⟨g, _, rfl, hb, heap_lt hg, hu, (cell_of_row w g k cur e fz hg).trans (hx k _ hu), frozen_off hg (by omega) (by omega)⟩
end

/-- The cells of one block written one by one: what becomes of it, and of the others. -/
theorem setCells_row (g : Nat) (e : TypeId) (fz : Nat × Nat) : ∀ (vs : List Value) (o : Nat) (w : World) (cur : Array Value), w.heap[g]? = some (.cells cur e fz) →
    ∃ cur', (w.setCells g o vs).heap[g]? = some (.cells cur' e fz) ∧ cur'.size = cur.size ∧ (∀ j, j < o → cur'[j]? = cur[j]?) ∧ (∀ j u, vs[j]? = some u → o + j < cur.size → cur'[o + j]? = some u)
  | [], o, w, cur, h => ⟨cur, h, rfl, fun _ _ => rfl, fun j u hu => by simp at hu⟩
  | v :: r, o, w, cur, h => by
    have h' : (w.setCell ⟨g, o, none⟩ v).heap[g]? = some (.cells (cur.setIfInBounds o v) e fz) := by
      simp [World.setCell, Array.getElem?_modify, h]
    obtain ⟨cur', a, b, c, d⟩ := setCells_row g e fz r (o + 1) _ _ h'
    refine ⟨cur', a, by rw [b]; simp, fun j hj => ?_, fun j u hu hlt => ?_⟩
    · rw [c j (by omega), Array.getElem?_setIfInBounds, if_neg (by omega)]
    · match j, hu with
      | 0, hu =>
        simp at hu; subst hu
        rw [Nat.add_zero, c o (by omega), Array.getElem?_setIfInBounds, if_pos rfl, if_pos (by simpa using hlt)]
      | j + 1, hu =>
        have := d j u (by simpa using hu) (by simp; omega)
        rw [show o + (j + 1) = o + 1 + j by omega]; exact this
theorem setCells_grown (g : Nat) : ∀ (vs : List Value) (o : Nat) (w : World), w.grownBy (w.setCells g o vs) (some g)
  | [], o, w => World.grownBy.refl w _
  | v :: r, o, w => by
    have h1 : w.grownBy (w.setCell ⟨g, o, none⟩ v) (some g) := ⟨rfl, rfl, rfl, by simp [World.setCell], fun k _ hk => Below.heap_setCell w ⟨g, o, none⟩ v k (fun he => hk (by simp [he]))⟩
    exact h1.trans (setCells_grown g r (o + 1) _)

/-- append onto a slice of the call's own: whatever the source. -/
theorem append_own {P : Program} (w : World) (t ty e : TypeId) (i : TypeInfo) (z : Value) (bytes : Nat) (ht : P.underlying t = some (.slice e)) (hi : P.info? e = some i) (hz : i.zero = some z)
    (hsz : i.size = 1) (hby : i.bytes = bytes) (hzs : z.cells.size = 1) (base : Nat) (A : Option Addr) (n c : Nat) (xs : List Value) (ho : SlOwn w base e A n c xs)
    (A2 : Option Addr) (m c2 : Nat) (ys : List Value) (hin : SlIn w A2 m ys) (h1 : ∀ u ∈ ys, u.oneCell' = true) (h63 : n + m ≤ maxLen) (hbytes : (n + m) * bytes ≤ 140737488355328) (hbase : base ≤ w.heap.size) :
    ∃ A' c' w', (Builtin.append_ #[t, t] ty #[.slice A n c, .slice A2 m c2]).run P w = .ok (.slice A' (n + m) c') w' ∧ SlOwn w' base e A' (n + m) c' (xs ++ ys) ∧ w.grownBy w' (blkOf A) ∧
      (A' = A ∨ A' = some ⟨w.heap.size, 0, none⟩) := by
  obtain ⟨l1, l2, l3, l4⟩ := ho
  by_cases hm : m = 0
  · subst hm
    have hys : ys = [] := List.eq_nil_of_length_eq_zero hin.1
    subst hys
    refine ⟨A, c, w, ?_, by simpa using ⟨l1, l2, l3, l4⟩, World.grownBy.refl _ _, .inl rfl⟩
    have hfc : (Builtin.firstCells i.size 0 (.slice A2 0 c2)).run P w = .ok #[] w := by
      cases A2 with
      | none => exact run_firstCells_none (P := P) w _ _ _ _
      | some a => exact run_firstCells_some (P := P) w i.size 0 a 0 c2 [] (by simp) (by simp)
    cases A with
    | none => simp [Builtin.append_, run_underlying ht, sizeOf, typeInfo, hi, Builtin.lenOf, hfc, l2]
    | some a => simp [Builtin.append_, run_underlying ht, sizeOf, typeInfo, hi, Builtin.lenOf, hfc, l2, storeCells]
  · obtain ⟨a2, rfl, _⟩ := hin.2 0 _ (List.getElem?_eq_getElem (by have := hin.1; omega))
    have hnews : ∀ j u, ys[j]? = some u → w.cell? (a2.add j) = some u := fun j u hu => by
      obtain ⟨a, ha, hc⟩ := hin.2 j u hu
      injection ha with ha; subst ha; exact hc
    have hlen : ys.length = m * i.size := by rw [hsz, Nat.mul_one]; exact hin.1
    have hsmall : n + m ≤ 9223372036854775807 := by simp only [maxLen] at h63; omega
    have hcat : (xs ++ ys).length = n + m := by rw [List.length_append, l1, hin.1]
    have fresh : ∀ (old : Nat), SlOwn (w.drew.alloc (.cells (xs.toArray ++ ys.toArray ++ Builtin.zeroCells z.cells (grownCap w (n + m) old e - (n + m))) e)) base e (some ⟨w.heap.size, 0, none⟩) (n + m) (grownCap w (n + m) old e) (xs ++ ys) := by
      intro old
      have hge := grownCap_ge w (n + m) old e
      refine ⟨hcat, hge, grownCap_le_maxLen w (n + m) old e h63, .inr ⟨w.heap.size, _, (0, 0), rfl, hbase, heap_alloc_new w.drew _, ?_, .inl (Nat.le_refl _), fun j u hu => ?_⟩⟩
      · simp only [Array.size_append, List.size_toArray, size_zeroCells, hzs, Nat.mul_one, l1, hin.1]; omega
      · have hj := (List.getElem?_eq_some_iff.1 hu).1
        rw [Array.getElem?_append_left (by simpa using hj)]; simpa using hu
    have grew : ∀ (C : Array Value), w.grownBy (w.drew.alloc (.cells C e)) (blkOf A) := fun C => ⟨rfl, rfl, rfl, by simp, fun k hk _ => heap_alloc_old w.drew _ hk⟩
    rcases l4 with ⟨rfl, rfl⟩ | ⟨g, cur, fz, rfl, hb, hg, hs, hf, hx⟩
    · have hn : n = 0 := by omega
      subst hn
      have hxs : xs = [] := List.eq_nil_of_length_eq_zero l1
      subst hxs
      have hr := run_append_nil (P := P) w t ty e i z ht hi hz a2 m c2 ys hlen hnews (by omega) (by omega) (by rw [hby]; simp only [Nat.zero_add] at hbytes; omega)
      have hfr := fresh 0
      simp only [Nat.zero_add, List.nil_append, Array.empty_append] at hfr ⊢
      exact ⟨_, _, _, hr, hfr, grew _, .inr rfl⟩
    · by_cases hroom : n + m ≤ c
      · have hcells : ∀ j, j < ys.length → (w.cell? ⟨g, 0 + n * i.size + j, none⟩).isSome = true := fun j hj => by
          rw [hsz, cell_of_row w g _ cur e fz hg, Array.getElem?_eq_getElem (by have := hin.1; omega)]; rfl
        have hfz : ∀ j, j < ys.length → w.frozen? ⟨g, 0 + n * i.size + j, none⟩ = false := fun j hj => frozen_off hg (by omega) (by rw [hsz]; have := hin.1; omega)
        have hr := run_append_room_cells (P := P) w t ty e i ht hi g 0 n c a2 m c2 ys hlen hnews h1 hroom hcells hfz
        rw [hsz, Nat.mul_one, Nat.zero_add] at hr
        obtain ⟨cur', q1, q2, q3, q4⟩ := setCells_row g e fz ys n w cur hg
        refine ⟨_, _, _, hr, ⟨hcat, hroom, l3, .inr ⟨g, cur', fz, rfl, hb, q1, by omega, hf, fun j u hu => ?_⟩⟩, setCells_grown g ys n w, .inl rfl⟩
        by_cases hj : j < n
        · rw [List.getElem?_append_left (by omega)] at hu
          rw [q3 j hj]; exact hx j u hu
        · rw [List.getElem?_append_right (by omega), l1] at hu
          have hjl := (List.getElem?_eq_some_iff.1 hu).1
          have := q4 (j - n) u hu (by have := hin.1; omega)
          rwa [show n + (j - n) = j by omega] at this
      · have holds : ∀ j u, xs[j]? = some u → w.cell? ((⟨g, 0, none⟩ : Addr).add j) = some u := fun j u hu => by
          have : (⟨g, 0, none⟩ : Addr).add j = ⟨g, j, none⟩ := by unfold Addr.add; split <;> simp_all
          rw [this, cell_of_row w g j cur e fz hg]; exact hx j u hu
        have hr := run_append_grow (P := P) w t ty e i z ht hi hz ⟨g, 0, none⟩ n c xs (by rw [hsz, Nat.mul_one]; exact l1) holds a2 m c2 ys hlen hnews (by omega) (by omega) (growslice_fits (by omega) (by rw [hby]; exact hbytes))
        exact ⟨_, _, _, hr, fresh c, grew _, .inr rfl⟩

/-- At the operation. -/
theorem wpList_append_sl {P : Program} (w : World) {ops : Array Oper} {rest : List Oper} {o : Oper} {a : Act} {Q : Exit → Act → World → Prop} (hgd : o.guard = none) (s x : Operand) (t : TypeId)
    (hop : o.op = .call { callee := .builtin .append, args := #[s, x], argTypes := #[t, t] })
    (e : TypeId) (i : TypeInfo) (z : Value) (bytes : Nat) (ht : P.underlying t = some (.slice e)) (hi : P.info? e = some i) (hz : i.zero = some z)
    (hsz : i.size = 1) (hby : i.bytes = bytes) (hzs : z.cells.size = 1) (base : Nat) (A : Option Addr) (n c : Nat) (xs : List Value) (hs : a.eval s = .slice A n c) (ho : SlOwn w base e A n c xs)
    (A2 : Option Addr) (m c2 : Nat) (ys : List Value) (hx : a.eval x = .slice A2 m c2) (hin : SlIn w A2 m ys) (h1 : ∀ u ∈ ys, u.oneCell' = true) (h63 : n + m ≤ maxLen) (hbytes : (n + m) * bytes ≤ 140737488355328) (hbase : base ≤ w.heap.size)
    (h : ∀ A' c' w', SlOwn w' base e A' (n + m) c' (xs ++ ys) → w.grownBy w' (blkOf A) → (A' = A ∨ A' = some ⟨w.heap.size, 0, none⟩) → wpList P ops Q rest (a.put o.dst (.slice A' (n + m) c')) w') : wpList P ops Q (o :: rest) a w := by
  refine wpList_plain hgd fun K hK => ?_
  obtain ⟨A', c', w', hr, h2, h3, h4⟩ := append_own (P := P) w t o.type e i z bytes ht hi hz hsz hby hzs base A n c xs ho A2 m c2 ys hin h1 h63 hbytes hbase
  unfold Oper.wp execOp
  simp only [hop, resolve, invoke, builtin, Sem.run_bind, Sem.run_pure, Result.andThen_ok, List.map_toArray, List.map_cons, List.map_nil, hs, hx, hr]
  exact hK _ _ (h A' c' w' h2 h3 h4)

/-- Bytes as cells. -/
def u8s (l : List Int) : List Value := l.map (Value.int .u8)
theorem u8s_length (l : List Int) : (u8s l).length = l.length := by unfold u8s; simp
theorem u8s_append (a b : List Int) : u8s (a ++ b) = u8s a ++ u8s b := by unfold u8s; simp
theorem u8s_one {l : List Int} : ∀ u ∈ u8s l, u.oneCell' = true := by
  intro u hu; unfold u8s at hu; obtain ⟨x, _, rfl⟩ := List.mem_map.1 hu; rfl
theorem u8s_get {l : List Int} {k : Nat} {x : Int} (h : l[k]? = some x) : (u8s l)[k]? = some (.int .u8 x) := by unfold u8s; simp [h]
theorem u8s_get_inv {l : List Int} {k : Nat} {u : Value} (h : (u8s l)[k]? = some u) : ∃ x, l[k]? = some x ∧ u = .int .u8 x := by
  unfold u8s at h; rw [List.getElem?_map] at h
  cases e : l[k]? with
  | none => rw [e] at h; cases h
  | some x => rw [e] at h; exact ⟨x, rfl, by simpa using h.symm⟩
theorem SlIn.len8 {w : World} {A : Option Addr} {n : Nat} {l : List Int} (h : SlIn w A n (u8s l)) : l.length = n := by rw [← h.1, u8s_length]

/-- 'string(b)'. -/
theorem conv_text {P : Program} {w : World} {src dst e : TypeId} {A : Option Addr} {n : Nat} {l : List Int} (c : Nat) (hs : P.underlying src = some (.slice e)) (he : P.underlying e = some (.int .u8)) (hd : P.underlying dst = some .string)
    (h : SlIn w A n (u8s l)) : (convert src dst (.slice A n c)).run P w = .ok (.string (toBA l)) w := by
  have hl := h.len8
  have key : ∀ (l : List Int) (b : ByteArray), l.foldl (fun r n => r.push (UInt8.ofNat n.toNat)) b = b ++ toBA l := by
    intro l
    induction l with
    | nil => intro b; apply ByteArray.ext; simp [toBA]
    | cons x r ih =>
      intro b
      rw [List.foldl_cons, ih]
      apply ByteArray.ext
      simp [toBA, ByteArray.data_append]
  cases A with
  | none =>
    have : n = 0 := by
      rcases Nat.eq_zero_or_pos n with h0 | h0
      · exact h0
      · obtain ⟨a, ha, _⟩ := h.2 0 _ (List.getElem?_eq_getElem (by have := h.1; omega)); cases ha
    subst this
    have : l = [] := List.eq_nil_of_length_eq_zero hl
    subst this
    rw [run_convert_bytes_string w src dst e none 0 c hs he hd]
    simp [Conv.bytesToString, toBA]
    rfl
  | some a =>
    subst hl
    have := run_string_of (P := P) w src dst e a l.length c l hs he hd rfl (fun j v hv => by
      obtain ⟨a', ha, hc⟩ := h.2 j v hv
      injection ha with ha; subst ha; exact hc)
    rw [this, key]
    congr 2
    first | done | (apply ByteArray.ext; simp)

/-- '[]byte(s)'. -/
theorem conv_bytes {P : Program} (w : World) (src dst e : TypeId) (s : ByteArray) (hs : P.underlying src = some .string) (hd : P.underlying dst = some (.slice e)) (he : P.underlying e = some (.int .u8)) (hm : s.size ≤ maxLen) :
    ∃ c w', (convert src dst (.string s)).run P w = .ok (.slice (some ⟨w.heap.size, 0, none⟩) s.size c) w' ∧ SlOwn w' w.heap.size e (some ⟨w.heap.size, 0, none⟩) s.size c (u8s (bl s)) ∧ Below w.heap.size w w' := by
  refine ⟨_, _, run_bytes_of_string w src dst e s hs hd he, ?_, ((Below.refl _ w).drew).alloc (Nat.le_refl _) _⟩
  have hge := grownCap_ge w s.size 0 e
  have hsz : (bytesRow s (grownCap w s.size 0 e)).size = grownCap w s.size 0 e := by
    unfold bytesRow
    simp only [Array.size_append, Array.size_map, Array.size_replicate]
    show s.size + _ = _
    omega
  refine ⟨by rw [u8s_length, bl_length], hge, grownCap_le_maxLen w _ 0 e hm, .inr ⟨_, _, _, rfl, Nat.le_refl _, heap_alloc_new w.drew _, hsz, .inr (by rw [hsz]; exact Nat.le_refl _), fun j u hu => ?_⟩⟩
  have hj := (List.getElem?_eq_some_iff.1 hu).1
  rw [u8s_length, bl_length] at hj
  unfold bytesRow
  rw [Array.getElem?_append_left (by simp only [Array.size_map]; exact hj), Array.getElem?_map]
  unfold u8s bl at hu
  rw [List.map_map, List.getElem?_map] at hu
  rw [← hu, ← Array.getElem?_toList]
  rfl

/-- Block g is just these cells, of element type t. -/
def StB (w : World) (g : Nat) (t : TypeId) (cs : Array Value) : Prop := w.heap[g]? = some (.cells cs t (0, 0))
section
variable {w w' : World} {g : Nat} {t : TypeId} {cs : Array Value}
theorem StB.lt (h : StB w g t cs) : g < w.heap.size := heap_lt h
theorem StB.cell (h : StB w g t cs) (i : Nat) : w.cell? ⟨g, i, none⟩ = cs[i]? := cell_of_row w g i cs t (0, 0) h
theorem StB.free (h : StB w g t cs) (i : Nat) : w.frozen? ⟨g, i, none⟩ = false := by
  unfold StB at h
  simp [World.frozen?, h]
theorem StB.new (w : World) (t : TypeId) (cs : Array Value) : StB (w.alloc (.cells cs t)) w.heap.size t cs := heap_alloc_new w _
theorem StB.drew (h : StB w g t cs) : StB w.drew g t cs := h
theorem StB.set_ (h : StB w g t cs) (i : Nat) (u : Value) : StB (w.setCell ⟨g, i, none⟩ u) g t (cs.setIfInBounds i u) := by
  unfold StB at h ⊢
  simp [World.setCell, Array.getElem?_modify, h]
theorem StB.far (h : StB w g t cs) {p : Addr} (hp : g ≠ p.block) (u : Value) : StB (w.setCell p u) g t cs := (Below.heap_setCell w p u g hp).trans h
theorem StB.below (h : StB w g t cs) (hb : Below w.heap.size w w') : StB w' g t cs := (hb.block g h.lt).trans h
theorem StB.grown {row : Option Nat} (h : StB w g t cs) (hb : w.grownBy w' row) (hg : some g ≠ row) : StB w' g t cs := (hb.block g h.lt hg).trans h
theorem StB.onto (h : StB w g t cs) (x : Above w) : StB (onto w x) g t cs := h.below (onto_below w x)
end

/-- Only block g, and what is new, has turned. -/
theorem only_set {a w : World} {g : Nat} (h : a.grownBy w (some g)) (i : Nat) (u : Value) : a.grownBy (w.setCell ⟨g, i, none⟩ u) (some g) :=
  ⟨h.os, h.tape, h.output, by simpa [World.setCell] using h.size, fun k hk hne => (Below.heap_setCell w ⟨g, i, none⟩ u k (fun he => hne (by rw [he]))).trans (h.block k hk hne)⟩
theorem only_call {a w w' : World} {row : Option Nat} (h : a.grownBy w row) (hb : Below w.heap.size w w') : a.grownBy w' row :=
  ⟨hb.os.trans h.os, hb.tape.trans h.tape, hb.output.trans h.output, Nat.le_trans h.size hb.size, fun k hk hne => (hb.block k (Nat.lt_of_lt_of_le hk h.size)).trans (h.block k hk hne)⟩
theorem only_of {a w : World} (h : Below a.heap.size a w) (row : Option Nat) : a.grownBy w row := ⟨h.os, h.tape, h.output, h.size, fun k hk _ => h.block k hk⟩
theorem only_new {a w w' : World} {row row' : Option Nat} (h : a.grownBy w row) (k : w.grownBy w' row') (hr : ∀ j, row' = some j → a.heap.size ≤ j) : a.grownBy w' row :=
  ⟨k.os.trans h.os, k.tape.trans h.tape, k.output.trans h.output, Nat.le_trans h.size k.size, fun j hj hne => (k.block j (Nat.lt_of_lt_of_le hj h.size) (fun e => by have := hr j e.symm; omega)).trans (h.block j hj hne)⟩
theorem below_only {B : Nat} {a w w' : World} {g : Nat} (h : Below B a w) (hg : w.grownBy w' (some g)) (hB : B ≤ w.heap.size) (hr : B ≤ g) : Below B a w' := h.grown hg hB (fun k hk => by injection hk with hk; subst hk; exact hr)
end Go.Proofs.YtngdmkhinebbdaaDoor

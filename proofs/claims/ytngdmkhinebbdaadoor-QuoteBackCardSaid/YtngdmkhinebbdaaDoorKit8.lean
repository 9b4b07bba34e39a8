/- Words over any program: what stays as it was where only some blocks turn (Touch); texts as cells; append onto a slice of one's own as a step of a region that draws its order; a store into such a slice. No condition. -/
import Derived.Test.YtngdmkhinebbdaaDoorKit7
import Derived.Deep.RegionLaw
namespace Go.Proofs.YtngdmkhinebbdaaDoor
open Go.RowKit
set_option linter.unusedVariables false

/-- Only blocks of S, and new ones, have turned. -/
structure Touch (w w' : World) (S : Nat → Prop) : Prop where
  os : w'.os = w.os
  tape : w'.tape = w.tape
  output : w'.output = w.output
  size : w.heap.size ≤ w'.heap.size
  block : ∀ k, k < w.heap.size → ¬ S k → w'.heap[k]? = w.heap[k]?
/-- What of S' wasn't there lies in S. -/
def Sub (w : World) (S' S : Nat → Prop) : Prop := ∀ k, S' k → S k ∨ w.heap.size ≤ k
theorem Sub.refl (w : World) (S : Nat → Prop) : Sub w S S := fun _ h => .inl h

section
variable {w w' w2 : World} {S S' S2 : Nat → Prop}
theorem Touch.refl (w : World) (S : Nat → Prop) : Touch w w S := ⟨rfl, rfl, rfl, Nat.le_refl _, fun _ _ _ => rfl⟩
theorem Touch.trans (h : Touch w w' S) (hs : Sub w S' S) (k : Touch w' w2 S') : Touch w w2 S :=
  ⟨k.os.trans h.os, k.tape.trans h.tape, k.output.trans h.output, Nat.le_trans h.size k.size, fun j hj hn => (k.block j (Nat.lt_of_lt_of_le hj h.size) (fun hs' => by
    rcases hs j hs' with h1 | h1
    · exact hn h1
    · omega)).trans (h.block j hj hn)⟩
theorem Touch.mono (h : Touch w w' S) (hs : ∀ k, S k → S' k) : Touch w w' S' := ⟨h.os, h.tape, h.output, h.size, fun k hk hn => h.block k hk (fun h' => hn (hs k h'))⟩
theorem Touch.of_below (h : Below w.heap.size w w') (S : Nat → Prop) : Touch w w' S := ⟨h.os, h.tape, h.output, h.size, fun k hk _ => h.block k hk⟩
theorem Touch.of_grown {row : Option Nat} (h : w.grownBy w' row) (hr : ∀ k, row = some k → S k) : Touch w w' S :=
  ⟨h.os, h.tape, h.output, h.size, fun k hk hn => h.block k hk (fun e => hn (hr k e.symm))⟩
theorem Touch.then_below (h : Touch w w' S) (k : Below w'.heap.size w' w2) : Touch w w2 S := h.trans (Sub.refl w S) (Touch.of_below k S)
theorem Touch.then_set (h : Touch w w' S) {p : Addr} (hp : S p.block ∨ w.heap.size ≤ p.block) (u : Value) : Touch w (w'.setCell p u) S :=
  ⟨h.os, h.tape, h.output, by simpa [World.setCell] using h.size, fun k hk hn => (Below.heap_setCell w' p u k (fun e => by
    rcases hp with hp | hp
    · rw [← e] at hp; exact hn hp
    · omega)).trans (h.block k hk hn)⟩
theorem Touch.then_alloc (h : Touch w w' S) (o : Obj) : Touch w (w'.alloc o) S := h.then_below ((Below.refl _ _).alloc (Nat.le_refl _) o)
theorem Touch.then_drew (h : Touch w w' S) : Touch w w'.drew S := ⟨h.os, h.tape, h.output, h.size, h.block⟩
theorem Touch.then_grown (h : Touch w w' S) {row : Option Nat} (k : w'.grownBy w2 row) (hr : ∀ j, row = some j → S j ∨ w.heap.size ≤ j) : Touch w w2 S :=
  ⟨k.os.trans h.os, k.tape.trans h.tape, k.output.trans h.output, Nat.le_trans h.size k.size, fun j hj hn => (k.block j (Nat.lt_of_lt_of_le hj h.size) (fun e => by
    rcases hr j e.symm with h1 | h1
    · exact hn h1
    · omega)).trans (h.block j hj hn)⟩
theorem Touch.below (h : Touch w w' S) {B : Nat} (hB : B ≤ w.heap.size) (hS : ∀ k, S k → B ≤ k) : Below B w w' :=
  ⟨h.os, h.tape, h.output, h.size, fun k hk => h.block k (by omega) (fun h' => by have := hS k h'; omega)⟩
theorem Sub.trans (h : Sub w S' S) (hz : w.heap.size ≤ w'.heap.size) (k : Sub w' S2 S') : Sub w S2 S := fun j hj => by
  rcases k j hj with h1 | h1
  · exact h j h1
  · exact .inr (by omega)
theorem StB.touch {g : Nat} {t : TypeId} {cs : Array Value} (h : StB w g t cs) (k : Touch w w' S) (hg : ¬ S g) : StB w' g t cs := (k.block g h.lt hg).trans h
theorem SlOwn.touch {base : Nat} {e : TypeId} {A : Option Addr} {n c : Nat} {xs : List Value} (h : SlOwn w base e A n c xs) (k : Touch w w' S) (hA : ∀ j, blkOf A = some j → ¬ S j) : SlOwn w' base e A n c xs :=
  h.keep fun j hj => k.block j (h.blk j hj).2 (hA j hj)
end

/-- Blocks of unlike kinds are two. -/
theorem SlOwn.unlike_st {w : World} {base : Nat} {e T : TypeId} {A : Option Addr} {n c g : Nat} {xs : List Value} {cs : Array Value} (h : SlOwn w base e A n c xs) (hs : StB w g T cs) (he : e ≠ T) : ∀ k, blkOf A = some k → k ≠ g := by
  intro k hk hkg
  rcases h.2.2.2 with ⟨rfl, _⟩ | ⟨q, cur, fz, rfl, _, hg, _⟩
  · cases hk
  · have : q = k := by simpa [blkOf] using hk
    subst this hkg
    unfold StB at hs
    rw [hs] at hg
    injection hg with hg
    injection hg with _ h2 _
    exact he h2.symm
theorem SlOwn.unlike {w : World} {base base' : Nat} {e e' : TypeId} {A A' : Option Addr} {n c n' c' : Nat} {xs xs' : List Value} (h : SlOwn w base e A n c xs) (h' : SlOwn w base' e' A' n' c' xs') (he : e ≠ e') : ∀ k, blkOf A = some k → blkOf A' ≠ some k := by
  intro k hk hk'
  rcases h.2.2.2 with ⟨rfl, _⟩ | ⟨q, cur, fz, rfl, _, hg, _⟩
  · cases hk
  · rcases h'.2.2.2 with ⟨rfl, _⟩ | ⟨q', cur', fz', rfl, _, hg', _⟩
    · cases hk'
    · have e1 : q = k := by simpa [blkOf] using hk
      have e2 : q' = k := by simpa [blkOf] using hk'
      subst e1 e2
      rw [hg] at hg'
      injection hg' with hg'
      injection hg' with _ h2 _
      exact he h2

/-- Texts as cells. -/
def strs (l : List ByteArray) : List Value := l.map Value.string
theorem strs_length (l : List ByteArray) : (strs l).length = l.length := by unfold strs; simp
theorem strs_append (a b : List ByteArray) : strs (a ++ b) = strs a ++ strs b := by unfold strs; simp
theorem strs_one {l : List ByteArray} : ∀ u ∈ strs l, u.oneCell' = true := by
  intro u hu; unfold strs at hu; obtain ⟨x, _, rfl⟩ := List.mem_map.1 hu; rfl
theorem strs_get {l : List ByteArray} {k : Nat} {x : ByteArray} (h : l[k]? = some x) : (strs l)[k]? = some (.string x) := by unfold strs; simp [h]
theorem SlIn.lenS {w : World} {A : Option Addr} {n : Nat} {l : List ByteArray} (h : SlIn w A n (strs l)) : l.length = n := by rw [← h.1, strs_length]

/-- append as one step of a region that draws its order. -/
theorem step_append_sl {P : Program} {ops : Array Oper} {o : Oper} {a : Act} {w : World} {K : Act → World → Prop} {Q : Exit → Act → World → Prop} {E : Prop}
    (hg : o.guard = none) (s x : Operand) (t : TypeId) (hop : o.op = .call { callee := .builtin .append, args := #[s, x], argTypes := #[t, t] })
    (e : TypeId) (i : TypeInfo) (z : Value) (bytes : Nat) (ht : P.underlying t = some (.slice e)) (hi : P.info? e = some i) (hz : i.zero = some z)
    (hsz : i.size = 1) (hby : i.bytes = bytes) (hzs : z.cells.size = 1) (base : Nat) (A : Option Addr) (n c : Nat) (xs : List Value) (hs : a.eval s = .slice A n c) (ho : SlOwn w base e A n c xs)
    (A2 : Option Addr) (m c2 : Nat) (ys : List Value) (hx : a.eval x = .slice A2 m c2) (hin : SlIn w A2 m ys) (h1 : ∀ u ∈ ys, u.oneCell' = true) (h63 : n + m ≤ maxLen) (hbytes : (n + m) * bytes ≤ 140737488355328) (hbase : base ≤ w.heap.size)
    (h : ∀ A' c' w', SlOwn w' base e A' (n + m) c' (xs ++ ys) → w.grownBy w' (blkOf A) → (A' = A ∨ A' = some ⟨w.heap.size, 0, none⟩) → K (a.put o.dst (.slice A' (n + m) c')) w') :
    if Region.wanted o (yielded ops a.tmps) = true then Oper.wp P o a w K Q else E := by
  have hw : Region.wanted o (yielded ops a.tmps) = true := by simp [Region.wanted, hg]
  rw [if_pos hw]
  obtain ⟨A', c', w', hr, h2, h3, h4⟩ := append_own (P := P) w t o.type e i z bytes ht hi hz hsz hby hzs base A n c xs ho A2 m c2 ys hin h1 h63 hbytes hbase
  unfold Oper.wp
  simp [execOp, hop, resolve, invoke, builtin, hs, hx, hr, Result.andThen]
  exact h A' c' w' h2 h3 h4

/-- One text in a new block. -/
theorem slIn_new1 (w : World) (t : TypeId) (u : Value) : SlIn (w.alloc (.cells #[u] t)) (some ⟨w.heap.size, 0, none⟩) 1 [u] :=
  (SlOwn.made w 0 (Nat.zero_le _) t [u] (by show 1 ≤ maxLen; unfold maxLen; omega)).toIn

/-- A cell of one's own slice written. -/
theorem SlOwn.store {w : World} {base : Nat} {e : TypeId} {g n c : Nat} {xs : List Value} (h : SlOwn w base e (some ⟨g, 0, none⟩) n c xs) (k : Nat) (u : Value) (hk : k < n) : SlOwn (w.setCell ⟨g, k, none⟩ u) base e (some ⟨g, 0, none⟩) n c (xs.set k u) := by
  obtain ⟨h1, h2, h3, h4⟩ := h
  refine ⟨by simpa using h1, h2, h3, ?_⟩
  rcases h4 with ⟨h0, _⟩ | ⟨q, cur, fz, hq, hb, hg, hs, hf, hx⟩
  · cases h0
  · have : q = g := by simp only [Option.some.injEq, Addr.mk.injEq] at hq; exact hq.1.symm
    subst this
    refine .inr ⟨q, cur.setIfInBounds k u, fz, rfl, hb, by simp [World.setCell, Array.getElem?_modify, hg], by simp [hs], hf, fun j v hv => ?_⟩
    rw [Array.getElem?_setIfInBounds]
    by_cases hj : k = j
    · subst hj
      rw [List.getElem?_set_self (by omega)] at hv
      rw [if_pos rfl, if_pos (by omega)]; exact hv
    · rw [List.getElem?_set_ne hj] at hv
      rw [if_neg hj]; exact hx j v hv

/-- A struct read at any address whose cells are known. -/
theorem wpList_load_at {P : Program} {w : World} {ops : Array Oper} {rest : List Oper} {op : Oper} {a : Act} {Q : Exit → Act → World → Prop} (hgd : op.guard = none) (ty : TypeId) (x : Operand) (ho : op.op = .load ty x)
    (p : Addr) (hx : a.eval x = .pointer (some p)) (cells : Array Value) (hc : ∀ j v, cells[j]? = some v → w.cell? (p.add j) = some v) (d : TypeDesc) (hu : P.underlying ty = some d) (hd : d.isRow = true) (hi : (P.info? ty).map (·.size) = some cells.size)
    (hk : wpList P ops Q rest (a.put op.dst (.agg cells)) w) : wpList P ops Q (op :: rest) a w := by
  refine wpList_plain hgd fun K hK => ?_
  have hl : (loadCells p cells.size).run P w = .ok cells w := by
    have := run_loadCells_list (P := P) w p cells.toList (fun j v hv => hc j v (by simpa using hv))
    simpa using this
  have hv : (loadVar ty p).run P w = .ok (.agg cells) w := by
    cases hq : P.info? ty with
    | none => simp [hq] at hi
    | some i =>
      have hs : i.size = cells.size := by simpa [hq] using hi
      have hagg : (isAgg ty).run P w = .ok true w := by
        unfold isAgg
        rw [Sem.run_bind, run_underlying hu w]
        cases d <;> simp_all
      simp [loadVar, Sem.run_bind, hagg, sizeOf, typeInfo, hq, hs, hl]
  unfold Oper.wp execOp
  simp only [ho, hx, Instr.loadAt, Instr.sureAddr, Sem.run_bind, Sem.run_pure, Result.andThen_ok, hv]
  exact hK _ _ hk
end Go.Proofs.YtngdmkhinebbdaaDoor

/- Layer 6: what Parse tells (Par), and how an iterator's values come to it; rows whose blocks are known (RowsT); append within a round; what holds in the loop of Parse. -/
import Derived.Test.YtbglecaahopgdaaWkf
import Derived.RangeFuncBox
import Derived.RangeFuncFrom
namespace Go.Proofs.Ytbglecaahopgdaa
open Go.ChangeShapes Go.WideShapes Go.ChangeAt Go.RowKit
set_option linter.unusedVariables false
set_option linter.unusedSimpArgs false

theorem wpListIn_append_sl {F : Fence} {N : Nat} {P : Program} (w : World) {ops : Array Oper} {rest : List Oper} {o : Oper} {a : Act} {Q : Exit → Act → World → Prop} (hgd : o.guard = none) (s x : Operand) (t : TypeId)
    (hop : o.op = .call { callee := .builtin .append, args := #[s, x], argTypes := #[t, t] })
    (e : TypeId) (i : TypeInfo) (z : Value) (bytes : Nat) (ht : P.underlying t = some (.slice e)) (hi : P.info? e = some i) (hz : i.zero = some z)
    (hsz : i.size = 1) (hby : i.bytes = bytes) (hzs : z.cells.size = 1) (base : Nat) (A : Option Addr) (n c : Nat) (xs : List Value) (hs : a.eval s = .slice A n c) (ho : SlOwn w base e A n c xs)
    (A2 : Option Addr) (m c2 : Nat) (ys : List Value) (hx : a.eval x = .slice A2 m c2) (hin : SlIn w A2 m ys) (h1 : ∀ u ∈ ys, u.oneCell' = true) (h63 : n + m ≤ maxLen) (hbytes : (n + m) * bytes ≤ 140737488355328) (hbase : base ≤ w.heap.size)
    (h : ∀ A' c' w', SlOwn w' base e A' (n + m) c' (xs ++ ys) → w.grownBy w' (blkOf A) → (A' = A ∨ A' = some ⟨w.heap.size, 0, none⟩) → wpListIn F N P ops Q rest (a.put o.dst (.slice A' (n + m) c')) w') : wpListIn F N P ops Q (o :: rest) a w := by
  refine wpListIn_plain hgd fun K hK => ?_
  obtain ⟨A', c', w', hr, h2, h3, h4⟩ := append_own (P := P) w t o.type e i z bytes ht hi hz hsz hby hzs base A n c xs ho A2 m c2 ys hin h1 h63 hbytes hbase
  unfold Oper.wpIn
  refine ⟨?_, ?_⟩
  · simp [Oper.about, hop, resolve, Target.leads, Sem.run_pure]
  · rw [Oper.semAt_plain F _ _ (by rw [hop]; intro c hc'; cases hc')]
    simp [execOp, hop, resolve, invoke, builtin, hs, hx, hr, Result.andThen]
    exact hK _ _ (h A' c' w' h2 h3 h4)

/-! ### What Parse tells -/
structure Par where
  rs : List (List ByteArray)
  k : Int
  a : Int
def evsL (p : Par) : List (List ByteArray × Int × Int) := p.rs.map (fun r => (r, 0, 0)) ++ if p.k ≠ 0 then [([], p.k, p.a)] else []
def parW (d q e a b c : Int) (u : Bool) (s : ByteArray) : Par :=
  if rightB d q e = false then ⟨[], 1, 0⟩ else if (withinB a && (withinB b && withinB c)) = false then ⟨[], 2, 0⟩
  else ⟨(whP d q e (mk0 a b c u) (bl s)).rs.map (·.1), (whP d q e (mk0 a b c u) (bl s)).k, if (whP d q e (mk0 a b c u) (bl s)).k = 0 then 0 else ((whP d q e (mk0 a b c u) (bl s)).at_ : Int)⟩
theorem evsW_is (d q e a b c : Int) (u : Bool) (s : ByteArray) : evsW d q e a b c u s = evsL (parW d q e a b c u s) := by
  unfold evsW parW
  split
  · rfl
  · split
    · rfl
    · unfold evs evsL
      by_cases h : (whP d q e (mk0 a b c u) (bl s)).k = 0
      · simp [h]
      · simp [h]
theorem parW_zero (d q e a b c : Int) (u : Bool) (s : ByteArray) (h : (parW d q e a b c u s).k = 0) : (parW d q e a b c u s).a = 0 := by
  unfold parW at h ⊢
  split
  · rfl
  · split
    · rfl
    · rename_i h1 h2
      rw [if_neg h1, if_neg h2] at h
      exact if_pos h
theorem evsL_done {p : Par} (h : ∀ x ∈ evsL p, x.2.1 = 0) : p.k = 0 ∧ (evsL p).map (·.1) = p.rs := by
  unfold evsL at *
  by_cases hk : p.k = 0
  · refine ⟨hk, ?_⟩
    rw [if_neg (by simpa using hk), List.append_nil, List.map_map]
    simp [Function.comp_def]
  · rw [if_pos hk] at h
    exact absurd (h ([], p.k, p.a) (by simp)) hk
theorem evsL_part {p : Par} {pre : List (List ByteArray × Int × Int)} {x : List ByteArray × Int × Int} (h : pre ++ [x] <+: evsL p) (h0 : x.2.1 = 0) : x = (x.1, 0, 0) ∧ pre.length < p.rs.length := by
  obtain ⟨t, ht⟩ := h
  have hx : x ∈ evsL p := by rw [← ht]; simp
  unfold evsL at ht hx
  rcases List.mem_append.1 hx with h1 | h1
  · obtain ⟨r, _, rfl⟩ := List.mem_map.1 h1
    refine ⟨rfl, ?_⟩
    by_cases hk : p.k = 0
    · rw [if_neg (by simpa using hk)] at ht
      have := congrArg List.length ht; simp at this; omega
    · rw [if_pos hk] at ht
      rcases Nat.lt_or_ge pre.length p.rs.length with hl | hl
      · exact hl
      · have := congrArg List.length ht
        simp at this
        have hpl : pre.length = p.rs.length := by omega
        have ht0 : t = [] := List.eq_nil_of_length_eq_zero (by omega)
        subst ht0
        rw [List.append_nil] at ht
        have := (List.append_inj ht (by simp [hpl])).2
        simp at this
        exact absurd this.2.1.symm hk
  · exfalso
    by_cases hk : p.k = 0
    · rw [if_neg (by simpa using hk)] at h1; simp at h1
    · rw [if_pos hk] at h1
      simp at h1
      subst h1
      exact hk h0
theorem evsL_stop {p : Par} {pre : List (List ByteArray × Int × Int)} {r : List ByteArray} {k a : Int} (h : pre ++ [(r, k, a)] <+: evsL p) (h0 : k ≠ 0) : pre.map (·.1) = p.rs ∧ k = p.k ∧ a = p.a ∧ evsL p = pre ++ [(r, k, a)] := by
  obtain ⟨t, ht⟩ := h
  unfold evsL at ht ⊢
  have hx : (r, k, a) ∈ p.rs.map (fun r => (r, (0 : Int), (0 : Int))) ++ if p.k ≠ 0 then [([], p.k, p.a)] else [] := by rw [← ht]; simp
  rcases List.mem_append.1 hx with h1 | h1
  · obtain ⟨r', _, h2⟩ := List.mem_map.1 h1
    simp at h2
    exact absurd h2.2.1.symm h0
  · by_cases hk : p.k = 0
    · rw [if_neg (by simpa using hk)] at h1; simp at h1
    · rw [if_pos hk] at ht h1 ⊢
      simp at h1
      obtain ⟨rfl, rfl, rfl⟩ := h1
      have hlen := congrArg List.length ht
      simp at hlen
      rcases Nat.lt_or_ge pre.length p.rs.length with hl | hl
      · exfalso
        have h3 : (pre ++ [([], p.k, p.a)] ++ t)[pre.length]? = some ([], p.k, p.a) := by simp
        rw [ht, List.getElem?_append_left (by simpa using hl)] at h3
        obtain ⟨r', _, h4⟩ := List.mem_map.1 (List.mem_of_getElem? h3)
        simp at h4
        exact hk h4.2.1.symm
      · have hpl : pre.length = p.rs.length := by omega
        have ht0 : t = [] := List.eq_nil_of_length_eq_zero (by omega)
        subst ht0
        rw [List.append_nil] at ht
        have h5 := (List.append_inj ht (by simp [hpl])).1
        refine ⟨?_, rfl, rfl, ht.symm⟩
        rw [h5, List.map_map]
        simp [Function.comp_def]

/-! ### Rows -/
/-- Slices V that read as the records rs, in blocks of T. -/
def RowsT (W : World) (T : Nat → Prop) (V : List Value) (rs : List (List ByteArray)) : Prop :=
  V.length = rs.length ∧ ∀ (j : Nat) (x : List ByteArray), rs[j]? = some x → ∃ A a, V[j]? = some (.slice A x.length a) ∧ SlOwn W 0 9 A x.length a (strs x) ∧ ∀ k, blkOf A = some k → T k
/-- Slices V that read as the records rs. -/
def RowsIn (W : World) (V : List Value) (rs : List (List ByteArray)) : Prop :=
  V.length = rs.length ∧ ∀ (j : Nat) (x : List ByteArray), rs[j]? = some x → ∃ A a, V[j]? = some (.slice A x.length a) ∧ SlIn W A x.length (strs x)
theorem RowsT.nothing (W : World) (T : Nat → Prop) : RowsT W T [] [] := ⟨rfl, fun j x h => by simp at h⟩
theorem RowsT.toIn {W : World} {T : Nat → Prop} {V : List Value} {rs : List (List ByteArray)} (h : RowsT W T V rs) : RowsIn W V rs := ⟨h.1, fun j x hx => by
  obtain ⟨A, a, h1, h2, _⟩ := h.2 j x hx
  exact ⟨A, a, h1, h2.toIn⟩⟩
theorem RowsIn.below {W W' : World} {V : List Value} {rs : List (List ByteArray)} (h : RowsIn W V rs) (hb : Below W.heap.size W W') : RowsIn W' V rs := ⟨h.1, fun j x hx => by
  obtain ⟨A, a, h1, h2⟩ := h.2 j x hx
  exact ⟨A, a, h1, h2.below hb⟩⟩
theorem RowsT.touch {W W' : World} {T S : Nat → Prop} {V : List Value} {rs : List (List ByteArray)} (h : RowsT W T V rs) (ht : Touch W W' S) (hd : ∀ (j : Nat) (x : List ByteArray) (A : Option Addr) (a : Nat), rs[j]? = some x → V[j]? = some (Value.slice A x.length a) → SlOwn W 0 9 A x.length a (strs x) → ∀ k, blkOf A = some k → T k → ¬ S k) : RowsT W' T V rs := ⟨h.1, fun j x hx => by
  obtain ⟨A, a, h1, h2, h3⟩ := h.2 j x hx
  exact ⟨A, a, h1, h2.touch ht (fun k hk => hd j x A a hx h1 h2 k hk (h3 k hk)), h3⟩⟩
theorem RowsT.mono {W : World} {T T' : Nat → Prop} {V : List Value} {rs : List (List ByteArray)} (h : RowsT W T V rs) (ht : ∀ k, T k → T' k) : RowsT W T' V rs := ⟨h.1, fun j x hx => by
  obtain ⟨A, a, h1, h2, h3⟩ := h.2 j x hx
  exact ⟨A, a, h1, h2, fun k hk => ht k (h3 k hk)⟩⟩
theorem RowsT.snoc {W : World} {T : Nat → Prop} {V : List Value} {rs : List (List ByteArray)} (h : RowsT W T V rs) {A : Option Addr} {a : Nat} {x : List ByteArray} (ho : SlOwn W 0 9 A x.length a (strs x)) (hA : ∀ k, blkOf A = some k → T k) : RowsT W T (V ++ [.slice A x.length a]) (rs ++ [x]) := by
  refine ⟨by simp [h.1], fun j y hy => ?_⟩
  by_cases hj : j < rs.length
  · rw [List.getElem?_append_left hj] at hy
    obtain ⟨B, b, hv, h2⟩ := h.2 j y hy
    exact ⟨B, b, by rw [List.getElem?_append_left (by rw [h.1]; exact hj)]; exact hv, h2⟩
  · rw [List.getElem?_append_right (by omega)] at hy
    have : j = rs.length := by
      have := (List.getElem?_eq_some_iff.1 hy).1
      simp at this; omega
    subst this
    simp at hy; subst hy
    exact ⟨A, a, by rw [← h.1]; simp, ho, hA⟩

/-! ### The loop of Parse -/
/-- The records so far, behind box b8; the boxes of the answers. -/
structure ParB (w0 : World) (b6 b7 b8 : Nat) (rs : List (List ByteArray)) (v6 v7a v7b : Value) (C : Option Addr) (c : Nat) (V : List Value) (W : World) (T : Nat → Prop) : Prop where
  low : Below w0.heap.size w0 W
  new : ∀ k, T k → w0.heap.size ≤ k
  t6 : T b6
  t7 : T b7
  t8 : T b8
  ne : b6 ≠ b7 ∧ b6 ≠ b8 ∧ b7 ≠ b8
  c6 : StB W b6 27 #[v6]
  c7 : StB W b7 30 #[v7a, v7b]
  c8 : StB W b8 27 #[.slice C rs.length c]
  own : SlOwn W 0 50 C rs.length c V
  one : ∀ u ∈ V, u.oneCell' = true
  tC : ∀ k, blkOf C = some k → T k
  rows : RowsT W T V rs
theorem ParB.later {w0 : World} {b6 b7 b8 : Nat} {rs : List (List ByteArray)} {v6 v7a v7b : Value} {C : Option Addr} {c : Nat} {V : List Value} {W W' : World} {T S : Nat → Prop} (h : ParB w0 b6 b7 b8 rs v6 v7a v7b C c V W T) (ht : Touch W W' S) {B : Nat} (hB : w0.heap.size ≤ B) (hS : ∀ k, S k → ¬ T k ∧ B ≤ k) :
    ParB w0 b6 b7 b8 rs v6 v7a v7b C c V W' T :=
  ⟨h.low.trans (ht.below h.low.size (fun k hk => Nat.le_trans hB (hS k hk).2)), h.new, h.t6, h.t7, h.t8, h.ne, h.c6.touch ht (fun hs => (hS _ hs).1 h.t6), h.c7.touch ht (fun hs => (hS _ hs).1 h.t7), h.c8.touch ht (fun hs => (hS _ hs).1 h.t8),
    h.own.touch ht (fun j hj hs => (hS _ hs).1 (h.tC j hj)), h.one, h.tC, h.rows.touch ht (fun j x A a _ _ _ k _ hT hs => (hS _ hs).1 hT)⟩
def ParI (w0 : World) (b6 b7 b8 : Nat) (pre : List (List ByteArray × Int × Int)) (W : World) (T : Nat → Prop) : Prop :=
  (∀ p ∈ pre, p.2.1 = 0) ∧ ∃ C c V, ParB w0 b6 b7 b8 (pre.map (·.1)) (.slice none 0 0) (.int .i64 0) (.int .i64 0) C c V W T
def ParX (w0 : World) (b6 b7 b8 : Nat) (code : Code) (pre : List (List ByteArray × Int × Int)) (W : World) (T : Nat → Prop) : Prop :=
  code = .ret ∧ ∃ (front : List (List ByteArray × Int × Int)) (r : List ByteArray) (k a : Int) (C : Option Addr) (c : Nat) (V : List Value), k ≠ 0 ∧ pre = front ++ [(r, k, a)] ∧ ParB w0 b6 b7 b8 (front.map (·.1)) (.slice C front.length c) (.int .i64 k) (.int .i64 a) C c V W T
theorem parI_ab (w0 : World) (b6 b7 b8 B : Nat) (hB : w0.heap.size ≤ B) : AbT B (ParI w0 b6 b7 b8) := fun s W1 W2 T S h hl ht hS => by
  obtain ⟨h0, C, c, V, hb⟩ := h
  exact ⟨h0, C, c, V, hb.later ht hB hS⟩
theorem parX_ab (w0 : World) (b6 b7 b8 B : Nat) (hB : w0.heap.size ≤ B) (code : Code) : AbT B (ParX w0 b6 b7 b8 code) := fun s W1 W2 T S h hl ht hS => by
  obtain ⟨h0, front, r, k, a, C, c, V, hk, hp, hb⟩ := h
  exact ⟨h0, front, r, k, a, C, c, V, hk, hp, hb.later ht hB hS⟩
/-- The loop's start: its boxes. -/
theorem parse_start (d q e a b c : Int) (u : Bool) (s : ByteArray) (w : World) {W8 : World} (hW : W8 = (((((((w.alloc (.cells #[.int .u8 d, .int .u8 q, .int .i64 e] 23)).alloc (.cells #[.int .i64 a, .int .i64 b, .int .i64 c, .bool u] 25)).alloc (.cells #[.slice none 0 0] 27)).alloc
      (.cells #[.int .i64 0, .int .i64 0] 30)).alloc (.cells #[.slice none 0 0] 27)).alloc (.cells #[.int .u8 d, .int .u8 q, .int .i64 e] 23)).alloc (.cells #[.int .i64 a, .int .i64 b, .int .i64 c, .bool u] 25)).alloc (.cells #[.string s] 9))
    {h b6 b7 b8 b9 b10 b11 : Nat} (e0 : w.heap.size = h) (e6 : b6 = h + 2) (e7 : b7 = h + 3) (e8 : b8 = h + 4) (e9 : b9 = h + 5) (e10 : b10 = h + 6) (e11 : b11 = h + 7) :
    ParI w b6 b7 b8 [] W8 (fun k => k = b6 ∨ k = b7 ∨ k = b8) ∧ Lies W8 (fun k => k = b6 ∨ k = b7 ∨ k = b8) ∧ StB W8 b9 23 #[.int .u8 d, .int .u8 q, .int .i64 e] ∧ StB W8 b10 25 #[.int .i64 a, .int .i64 b, .int .i64 c, .bool u] ∧ StB W8 b11 9 #[.string s] ∧ W8.heap.size = h + 8 := by
  have hz : W8.heap.size = h + 8 := by rw [hW]; simp; omega
  subst hW
  refine ⟨⟨(fun p hp => by cases hp), none, 0, [], ⟨up_alloc (up_alloc (up_alloc (up_alloc (up_alloc (up_alloc (up_alloc (up_alloc (Below.refl _ _) _) _) _) _) _) _) _) _, ?_, .inl rfl, .inr (.inl rfl), .inr (.inr rfl), ⟨by omega, by omega, by omega⟩, ?_, ?_, ?_, SlOwn.nothing _ _ _, (fun u hu => by cases hu), (fun k hk => by cases hk), RowsT.nothing _ _⟩⟩, ?_, ?_, ?_, ?_, hz⟩
  · rintro k (rfl | rfl | rfl) <;> omega
  · exact (((((StB.made _ (by simp; omega) _ _).alloc _).alloc _).alloc _).alloc _).alloc _
  · exact ((((StB.made _ (by simp; omega) _ _).alloc _).alloc _).alloc _).alloc _
  · exact (((StB.made _ (by simp; omega) _ _).alloc _).alloc _).alloc _
  · rintro k (rfl | rfl | rfl) <;> omega
  · exact ((StB.made _ (by simp; omega) _ _).alloc _).alloc _
  · exact (StB.made _ (by simp; omega) _ _).alloc _
  · exact StB.made _ (by simp; omega) _ _

/-- A round that goes on: one record more. -/
theorem parI_step {w0 W w' : World} {b6 b7 b8 : Nat} {pre : List (List ByteArray × Int × Int)} {x : Hx} {C A' : Option Addr} {c c' n : Nat} {V : List Value} {T : Nat → Prop} {o : Obj} (h0 : ∀ p ∈ pre, p.2.1 = 0) (hk : x.k = 0) (hb : ParB w0 b6 b7 b8 (pre.map (·.1)) (.slice none 0 0) (.int .i64 0) (.int .i64 0) C c V W T) (hlT : Lies W T)
    (hn : n = (pre.map (·.1)).length) (hhand : x.hand W) (hblk : ∀ k, x.blk k → ¬ T k ∧ w0.heap.size ≤ k ∧ k < W.heap.size) (hown : SlOwn w' 0 50 A' (n + 1) c' (V ++ [.slice x.A x.l.length x.c])) (hg : (W.alloc o).grownBy w' (blkOf C)) (hA : A' = C ∨ A' = some ⟨W.heap.size + 1, 0, none⟩) :
    Left W T x.blk (ParI w0 b6 b7 b8) (pre ++ [x.gh]) (w'.setCell ⟨b8, 0, none⟩ (.slice A' (n + 1) c')) := by
  obtain ⟨n1, n2, n3⟩ := hb.ne
  have hlow := hb.low.size
  have hCs := hb.own.unlike_st hb.c8
  have t1 : Touch W w' (fun k => blkOf C = some k) := by
    have h1 : Touch W (W.alloc o) (fun k => blkOf C = some k) := Touch.of_below (up_alloc (Below.refl _ W) _) _
    exact h1.then_grown hg (fun j hj => .inl hj)
  have t2 : Touch W (w'.setCell ⟨b8, 0, none⟩ (.slice A' (n + 1) c')) (fun k => k = b8 ∨ blkOf C = some k) := (t1.mono (S' := fun k => k = b8 ∨ blkOf C = some k) (fun k hk => .inr hk)).then_set (p := ⟨b8, 0, none⟩) (.inl (.inl rfl)) _
  have hz := t2.size
  have hsz : W.heap.size + 1 ≤ w'.heap.size := by have := hg.size; simpa using this
  have hsz2 : (w'.setCell ⟨b8, 0, none⟩ (.slice A' (n + 1) c')).heap.size = w'.heap.size := by simp [World.setCell]
  have hnew : ∀ k, blkOf A' = some k → k ≠ b8 ∧ (blkOf C = some k ∨ (W.heap.size ≤ k ∧ k < w'.heap.size)) := by
    intro k hk'
    have hlt := (hown.blk k hk').2
    rcases hA with rfl | rfl
    · have h8 := hb.own.unlike_st hb.c8
      exact ⟨by
        have : 50 ≠ 27 := by decide
        exact h8 this k hk', .inl hk'⟩
    · simp [blkOf] at hk'
      subst hk'
      have := hlT b8 hb.t8
      exact ⟨by omega, .inr ⟨by omega, hlt⟩⟩
  refine ⟨fun k => T k ∨ x.blk k ∨ (W.heap.size ≤ k ∧ k < w'.heap.size), ?_, ?_, t2.mono ?_, ?_⟩
  · rintro k (h1 | h1 | h1)
    · have := hlT k h1; omega
    · have := (hblk k h1).2.2; omega
    · omega
  · rintro k (h1 | h1 | h1)
    · exact .inl (.inl h1)
    · exact .inl (.inr h1)
    · exact .inr h1.1
  · rintro k (rfl | h1)
    · exact hb.t8
    · exact hb.tC k h1
  · refine ⟨?_, A', c', V ++ [.slice x.A x.l.length x.c], ?_⟩
    · intro p hp
      rcases List.mem_append.1 hp with h1 | h1
      · exact h0 p h1
      · simp at h1; subst h1; exact hk
    · have hrows : RowsT (w'.setCell ⟨b8, 0, none⟩ (.slice A' (n + 1) c')) (fun k => T k ∨ x.blk k ∨ (W.heap.size ≤ k ∧ k < w'.heap.size)) V (pre.map (·.1)) := by
        refine (hb.rows.touch t2 ?_).mono (fun k hk => .inl hk)
        rintro j y A a hj hv ho k hkA hT (rfl | hC)
        · exact ho.unlike_st hb.c8 (by decide) _ hkA rfl
        · exact ho.unlike hb.own (by decide) k hkA hC
      have hhand2 : SlOwn (w'.setCell ⟨b8, 0, none⟩ (.slice A' (n + 1) c')) 0 9 x.A x.l.length x.c (strs x.l) := by
        refine SlOwn.touch (w := W) hhand t2 ?_
        rintro k hk (rfl | hC)
        · exact (hblk _ hk).1 hb.t8
        · exact (hblk _ hk).1 (hb.tC k hC)
      have hl8 : b8 < W.heap.size := hb.c8.lt
      have hl8' : StB w' b8 27 #[.slice C (pre.map (·.1)).length c] := hb.c8.touch t1 (fun h => hb.own.unlike_st hb.c8 (by decide) b8 h rfl)
      refine ⟨hb.low.trans (t2.below hlow ?_), ?_, .inl hb.t6, .inl hb.t7, .inl hb.t8, hb.ne, hb.c6.touch t2 ?_, hb.c7.touch t2 ?_, ?_, ?_, ?_, ?_, ?_⟩
      · rintro k (rfl | h1)
        · exact hb.new _ hb.t8
        · exact hb.new _ (hb.tC k h1)
      · rintro k (h1 | h1 | h1)
        · exact hb.new k h1
        · exact (hblk k h1).2.1
        · omega
      · rintro (h1 | h1)
        · exact n2 h1
        · exact hb.own.unlike_st hb.c6 (by decide) _ h1 rfl
      · rintro (h1 | h1)
        · exact n3 h1
        · exact hb.own.unlike_st hb.c7 (by decide) _ h1 rfl
      · have := hl8'.set_ 0 (.slice A' (n + 1) c')
        have hlen : ((pre ++ [x.gh]).map (·.1)).length = n + 1 := by simp [hn]
        rw [hlen]; exact this
      · have hlen : ((pre ++ [x.gh]).map (·.1)).length = n + 1 := by simp [hn]
        rw [hlen]
        exact hown.keep fun k hk => Below.heap_setCell w' ⟨b8, 0, none⟩ _ k (hnew k hk).1
      · intro v hv
        rcases List.mem_append.1 hv with h1 | h1
        · exact hb.one v h1
        · simp at h1; subst h1; rfl
      · intro k hk'
        rcases (hnew k hk').2 with h1 | h1
        · exact .inl (hb.tC k h1)
        · exact .inr (.inr h1)
      · rw [List.map_append]
        exact hrows.snoc hhand2 (fun k hk' => .inr (.inl hk'))
/-- The answers' boxes are written. -/
theorem ParB.set3 {w0 W : World} {b6 b7 b8 : Nat} {rs : List (List ByteArray)} {v6 v7a v7b : Value} {C : Option Addr} {c : Nat} {V : List Value} {T : Nat → Prop} (hb : ParB w0 b6 b7 b8 rs v6 v7a v7b C c V W T) (u6 u7a u7b : Value) :
    ParB w0 b6 b7 b8 rs u6 u7a u7b C c V (((W.setCell ⟨b6, 0, none⟩ u6).setCell ⟨b7, 0, none⟩ u7a).setCell ⟨b7, 1, none⟩ u7b) T ∧ Touch W (((W.setCell ⟨b6, 0, none⟩ u6).setCell ⟨b7, 0, none⟩ u7a).setCell ⟨b7, 1, none⟩ u7b) T := by
  obtain ⟨n1, n2, n3⟩ := hb.ne
  have hlow := hb.low.size
  have T1 := (Touch.refl W (fun k => k = b6 ∨ k = b7)).then_set (p := ⟨b6, 0, none⟩) (.inl (.inl rfl)) u6
  have T2 := T1.then_set (p := ⟨b7, 0, none⟩) (.inl (.inr rfl)) u7a
  have T3 := T2.then_set (p := ⟨b7, 1, none⟩) (.inl (.inr rfl)) u7b
  have hTT : ∀ k, (k = b6 ∨ k = b7) → T k := by
    rintro k (rfl | rfl)
    · exact hb.t6
    · exact hb.t7
  refine ⟨⟨hb.low.trans (T3.below hlow (fun k hk => hb.new k (hTT k hk))), hb.new, hb.t6, hb.t7, hb.t8, hb.ne, ?_, ?_, hb.c8.touch T3 ?_, hb.own.touch T3 ?_, hb.one, hb.tC, hb.rows.touch T3 ?_⟩, T3.mono hTT⟩
  · exact ((hb.c6.set_ 0 u6).far (p := ⟨b7, 0, none⟩) n1 u7a).far (p := ⟨b7, 1, none⟩) n1 u7b
  · exact ((hb.c7.far (p := ⟨b6, 0, none⟩) n1.symm u6).set_ 0 u7a).set_ 1 u7b
  · rintro (h1 | h1)
    · exact n2 h1.symm
    · exact n3 h1.symm
  · rintro k hk' (rfl | rfl)
    · exact hb.own.unlike_st hb.c6 (by decide) _ hk' rfl
    · exact hb.own.unlike_st hb.c7 (by decide) _ hk' rfl
  · rintro j y A a hj hv ho k hkA hT (rfl | rfl)
    · exact ho.unlike_st hb.c6 (by decide) _ hkA rfl
    · exact ho.unlike_st hb.c7 (by decide) _ hkA rfl
/-- A round that tells the fault. -/
theorem parX_step {w0 W W' : World} {b6 b7 b8 : Nat} {pre : List (List ByteArray × Int × Int)} {x : Hx} {C : Option Addr} {c n : Nat} {V : List Value} {T : Nat → Prop} (h0 : ∀ p ∈ pre, p.2.1 = 0) (hk : x.k ≠ 0) (hb : ParB w0 b6 b7 b8 (pre.map (·.1)) (.slice none 0 0) (.int .i64 0) (.int .i64 0) C c V W T) (hlT : Lies W T) (hn : n = (pre.map (·.1)).length)
    (hW' : Touch (((W.setCell ⟨b6, 0, none⟩ (.slice C n c)).setCell ⟨b7, 0, none⟩ (.int .i64 x.k)).setCell ⟨b7, 1, none⟩ (.int .i64 x.a)) W' (fun _ => False)) :
    Left W T x.blk (ParX w0 b6 b7 b8 .ret) (pre ++ [x.gh]) W' := by
  obtain ⟨h1, h2⟩ := hb.set3 (.slice C n c) (.int .i64 x.k) (.int .i64 x.a)
  have h3 := h1.later hW' (Nat.le_refl _) (fun k hk => hk.elim)
  have t3 := h2.trans (Sub.refl _ _) (hW'.mono (fun k hk => hk.elim))
  rw [hn, List.length_map] at h3
  exact ⟨T, hlT.later t3.size, fun k hk => .inl (.inl hk), t3, rfl, pre, x.l, x.k, x.a, C, c, V, hk, rfl, h3⟩

theorem mchU_few {d q e : Int} : ∀ (l : List Int) (u t : Int) (m : Mk) (i : Nat), (mchU d q e u t m i l).rs.length ≤ l.length + 1
  | [], u, t, m, i => by
    rw [mchU]; split
    · simp
    · split
      · simp
      · split
        · simp
        · split <;> simp
  | b :: r, u, t, m, i => by
    have ih := mchU_few (d := d) (q := q) (e := e) r (utNx u b) (stepR d q e t b).n (mTake (stepR d q e t b).ev m) (i + 1)
    rw [mchU]; split
    · simp
    · split
      · simp
      · split
        · simp
        · split
          · simp [Got.more]; omega
          · simp; omega
theorem parW_few (d q e a b c : Int) (u : Bool) (s : ByteArray) : (parW d q e a b c u s).rs.length ≤ s.size + 1 := by
  unfold parW
  split
  · simp
  · split
    · simp
    · have h := mchU_few (d := d) (q := q) (e := e) (bomStrip (bl s)) 0 0 (mk0 a b c u) (whOff (bl s))
      have h2 := whOff_len (bl s)
      rw [bl_length] at h2
      simp only [List.length_map]
      unfold whP
      omega
end Go.Proofs.Ytbglecaahopgdaa

/- Layer 12: what the program's reader does (premises, over any way to say where it lies). -/
import Derived.Test.YtoeanbfemgmgnaaGreatDoorPtr
import Derived.Test.YtoeanbfemgmgnaaGreatDoorZk
namespace Go.Proofs.YtoeanbfemgmgnaaGreatDoor
open Go.ChangeShapes Go.WideShapes Go.ChangeAt Go.RowKit
set_option linter.unusedVariables false
set_option linter.unusedSimpArgs false

/-- A fault as a value. -/
def fltV (f : Int × Int) : Value := .agg #[.int .i64 f.1, .int .i64 f.2]
/-- Not of the blocks S, and there already. -/
def Apart (w : World) (A : Option Addr) (S : Nat → Prop) : Prop := ∀ k, blkOf A = some k → ¬ S k ∧ k < w.heap.size
/-- What the program's reader does; RZ w p X S: at p it lies, in state X, the blocks S its own; kf, cf, lf: the fault, the number of records, the bytes taken by now. -/
structure PR (RZ : World → Addr → RdS → (Nat → Prop) → Prop) (kf : RdS → Int × Int) (cf of : RdS → Int) : Prop where
  lies : ∀ {w p X S}, RZ w p X S → Lies w S
  keep : ∀ {w w' p X S} {S' : Nat → Prop}, RZ w p X S → Touch w w' S' → (∀ k, S k → ¬ S' k) → RZ w' p X S
  told : ∀ X : RdS, X.Ok → X.cl = true → kf X = X.K
  stuck : ∀ X : RdS, X.Ok → X.cl = false → kf X ≠ (0, 0) → ∀ b, kf (X.feed b) = kf X ∧ cf (X.feed b) = cf X ∧ of (X.feed b) = of X ∧ kf X.shut = kf X ∧ cf X.shut = cf X ∧ of X.shut = of X
  new_yes : ∀ (d q e lf ls lr : Int) (un : Bool) (w : World), (RdS.new d q e lf ls lr un).Ok → Calls Tryz.prog 24 #[.agg #[.int .u8 d, .int .u8 q, .int .i64 e], .agg #[.int .i64 lf, .int .i64 ls, .int .i64 lr, .bool un]] w fun y w' =>
    ∃ p S, y = .returned (.tuple #[.pointer (some p), .int .i64 0]) ∧ Hid (RZ w' p (RdS.new d q e lf ls lr un) S) ∧ Hid (∀ k, S k → w.heap.size ≤ k) ∧ Hid (Below w.heap.size w w')
  feed : ∀ (X : RdS) (p : Addr) (S : Nat → Prop) (A : Option Addr) (n c : Nat) (b : ByteArray) (w : World), X.Ok → X.cl = false → X.x.size + b.size ≤ 2500 → n ≤ c → Hid (RZ w p X S) → Hid (SlIn w A n (u8s (bl b))) →
    Calls Tryz.prog 26 #[.pointer (some p), .slice A n c] w fun y w' => y = .returned (fltV (kf (X.feed b))) ∧ ∃ S', Hid (RZ w' p (X.feed b) S') ∧ Hid (Touch w w' S) ∧ Hid (Sub w S' S)
  close : ∀ (X : RdS) (p : Addr) (S : Nat → Prop) (w : World), X.Ok → X.cl = false → X.x.size ≤ 2500 → Hid (RZ w p X S) → Calls Tryz.prog 27 #[.pointer (some p)] w fun y w' => y = .returned (fltV (kf X.shut)) ∧ ∃ S', Hid (RZ w' p X.shut S') ∧ Hid (Touch w w' S) ∧ Hid (Sub w S' S)
  next_yes : ∀ (X : RdS) (p : Addr) (S : Nat → Prop) (r : List ByteArray) (w : World), X.Ok → X.cl = true → X.x.size ≤ 2500 → X.rs[X.h]? = some r → Hid (RZ w p X S) → Calls Tryz.prog 28 #[.pointer (some p)] w fun y w' =>
    ∃ A c S', y = .returned (.tuple #[.slice A r.length c, .bool true]) ∧ Hid (SlIn w' A r.length (strs r)) ∧ Hid (Apart w' A S') ∧ Hid (∀ k, blkOf A = some k → S k ∨ w.heap.size ≤ k) ∧ Hid (RZ w' p X.next S') ∧ Hid (Touch w w' S) ∧ Hid (Sub w S' S)
  next_no : ∀ (X : RdS) (p : Addr) (S : Nat → Prop) (w : World), X.Ok → X.cl = true → X.x.size ≤ 2500 → X.rs.length ≤ X.h → Hid (RZ w p X S) → Calls Tryz.prog 28 #[.pointer (some p)] w fun y w' =>
    ∃ S', y = .returned (.tuple #[.slice none 0 0, .bool false]) ∧ Hid (RZ w' p X S') ∧ Hid (Touch w w' S) ∧ Hid (Sub w S' S)
theorem PR.below {RZ : World → Addr → RdS → (Nat → Prop) → Prop} {kf : RdS → Int × Int} {cf of : RdS → Int} (H : PR RZ kf cf of) {w w' : World} {p : Addr} {X : RdS} {S : Nat → Prop} (h : RZ w p X S) (hb : Below w.heap.size w w') : RZ w' p X S :=
  H.keep h (Touch.of_below hb (fun _ => False)) (fun _ _ hf => hf)
section
variable {w w' : World} {S S' : Nat → Prop} {A : Option Addr}
theorem SlIn.touch {n : Nat} {xs : List Value} (h : SlIn w A n xs) (ht : Touch w w' S) (ha : ∀ k, blkOf A = some k → ¬ S k) : SlIn w' A n xs :=
  h.keep fun p u hc ⟨a, e, hp⟩ => by
    have h1 : w'.heap[p.block]? = w.heap[p.block]? := ht.block p.block (lt_of_cell hc) (ha p.block (by rw [e, hp]; rfl))
    unfold World.cell? at hc ⊢
    rw [h1]; exact hc
theorem Apart.touch (h : Apart w A S) (ht : Touch w w' S) (hs : Sub w S' S) : Apart w' A S' := fun k hk => by
  obtain ⟨h1, h2⟩ := h k hk
  refine ⟨fun h3 => ?_, Nat.lt_of_lt_of_le h2 ht.size⟩
  rcases hs k h3 with h4 | h4
  · exact h1 h4
  · omega
theorem Apart.size (h : Apart w A S) (hz : w.heap.size ≤ w'.heap.size) : Apart w' A S := fun k hk => ⟨(h k hk).1, Nat.lt_of_lt_of_le (h k hk).2 hz⟩
/-- Rows, none of whose blocks is one of S. -/
def RowsOut (W : World) (V : List Value) (rs : List (List ByteArray)) (S : Nat → Prop) : Prop :=
  V.length = rs.length ∧ ∀ (j : Nat) (x : List ByteArray), rs[j]? = some x → ∃ A a, V[j]? = some (.slice A x.length a) ∧ SlIn W A x.length (strs x) ∧ Apart W A S
theorem RowsOut.toIn {V : List Value} {rs : List (List ByteArray)} (h : RowsOut w V rs S) : RowsIn w V rs := ⟨h.1, fun j x hx => by
  obtain ⟨A, a, h1, h2, _⟩ := h.2 j x hx
  exact ⟨A, a, h1, h2⟩⟩
theorem RowsOut.touch {V : List Value} {rs : List (List ByteArray)} (h : RowsOut w V rs S) (ht : Touch w w' S) (hs : Sub w S' S) : RowsOut w' V rs S' := ⟨h.1, fun j x hx => by
  obtain ⟨A, a, h1, h2, h3⟩ := h.2 j x hx
  exact ⟨A, a, h1, h2.touch ht (fun k hk => (h3 k hk).1), h3.touch ht hs⟩⟩
theorem RowsOut.none (w : World) (S : Nat → Prop) : RowsOut w [] [] S := ⟨rfl, fun j x h => by simp at h⟩
theorem RowsOut.snoc {V : List Value} {rs : List (List ByteArray)} (h : RowsOut w V rs S) {a : Nat} {x : List ByteArray} (ho : SlIn w A x.length (strs x)) (ha : Apart w A S) : RowsOut w (V ++ [.slice A x.length a]) (rs ++ [x]) S := by
  refine ⟨by simp [h.1], fun j y hy => ?_⟩
  by_cases hj : j < rs.length
  · rw [List.getElem?_append_left hj] at hy
    obtain ⟨B, b, hv, h2⟩ := h.2 j y hy
    exact ⟨B, b, by rw [List.getElem?_append_left (by rw [h.1]; exact hj)]; exact hv, h2⟩
  · rw [List.getElem?_append_right (by omega)] at hy
    have : j = rs.length := by
      have := (List.getElem?_eq_some_iff.1 hy).1
      simp at this; omega
    subst this
    simp at hy; subst hy
    exact ⟨A, a, by rw [← h.1]; simp, ho, ha⟩
/-- The blocks S, that of a slice, and all below B. -/
def Plus (S : Nat → Prop) (A : Option Addr) (B : Nat) : Nat → Prop := fun k => S k ∨ blkOf A = some k ∨ k < B
theorem Apart.weak {S2 : Nat → Prop} (h : Apart w A S) (hs : ∀ k, S2 k → S k) : Apart w A S2 := fun k hk => ⟨fun h2 => (h k hk).1 (hs k h2), (h k hk).2⟩
theorem plus_sub {B : Option Addr} {n : Nat} (hs : Sub w S' S) : Sub w (Plus S' B n) (Plus S B n) := fun k hk => by
  rcases hk with hk | hk
  · rcases hs k hk with h | h
    · exact .inl (.inl h)
    · exact .inr h
  · exact .inl (.inr hk)
/-- Rows stay where a slice that is none of theirs grows. -/
theorem RowsOut.grown {V : List Value} {rs : List (List ByteArray)} {B B' : Option Addr} {n : Nat} (h : RowsOut w V rs (Plus S B n)) (hg : w.grownBy w' (blkOf B)) (hB : B' = B ∨ B' = some ⟨w.heap.size, 0, Option.none⟩) : RowsOut w' V rs (Plus S B' n) := ⟨h.1, fun j x hx => by
  obtain ⟨A, a, h1, h2, h3⟩ := h.2 j x hx
  refine ⟨A, a, h1, h2.grown hg (fun b e hb => (h3 b.block (by rw [e]; rfl)).1 (.inr (.inl hb.symm))), fun k hk => ⟨fun h4 => ?_, Nat.lt_of_lt_of_le (h3 k hk).2 hg.size⟩⟩
  rcases h4 with h4 | h4 | h4
  · exact (h3 k hk).1 (.inl h4)
  · rcases hB with rfl | rfl
    · exact (h3 k hk).1 (.inr (.inl h4))
    · have h5 := (h3 k hk).2
      simp [blkOf] at h4
      omega
  · exact (h3 k hk).1 (.inr (.inr h4))⟩
/-- A table none of whose blocks lies below B. -/
def TabAp (W : World) (A : Option Addr) (n : Nat) (V : List Value) (rs : List (List ByteArray)) (B : Nat) : Prop :=
  SlIn W A n V ∧ (∀ k, blkOf A = some k → B ≤ k ∧ k < W.heap.size) ∧ RowsOut W V rs (fun k => k < B)
theorem TabAp.toIn {n B : Nat} {V : List Value} {rs : List (List ByteArray)} (h : TabAp w A n V rs B) : TabIn w A n V rs := ⟨h.1, h.2.2.toIn⟩
/-- It stays where a block turns that was there before, or was made since. -/
theorem TabAp.far {n B kb : Nat} {V : List Value} {rs : List (List ByteArray)} (h : TabAp w A n V rs B) (hk : kb < B ∨ w.heap.size ≤ kb) (ht : Touch w w' (fun k => k = kb)) : TabIn w' A n V rs := by
  have hn : ∀ k, B ≤ k ∧ k < w.heap.size → ¬ k = kb := fun k hb e => by omega
  refine ⟨h.1.touch ht (fun k hk2 => hn k (h.2.1 k hk2)), h.2.2.1, fun j x hx => ?_⟩
  obtain ⟨A2, a2, e1, e2, e3⟩ := h.2.2.2 j x hx
  exact ⟨A2, a2, e1, e2.touch ht (fun k hk2 => hn k ⟨by have := (e3 k hk2).1; omega, (e3 k hk2).2⟩)⟩
end
end Go.Proofs.YtoeanbfemgmgnaaGreatDoor

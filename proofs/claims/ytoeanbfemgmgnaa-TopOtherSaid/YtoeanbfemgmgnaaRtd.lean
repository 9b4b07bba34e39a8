/- Layer 12: the program's reader: where it lies in each state (RBx), New, Feed, Close. -/
import Derived.Test.YtoeanbfemgmgnaaRtc
import Derived.Test.YtoeanbfemgmgnaaTra
import Derived.Test.YtoeanbfemgmgnaaZn
namespace Go.Proofs.Ytoeanbfemgmgnaa
open Go.ChangeShapes Go.WideShapes Go.ChangeAt Go.RowKit
set_option linter.unusedVariables false
set_option linter.unusedSimpArgs false

/-- A closed reader's box, and the rows that wait. -/
structure RdC (w : World) (P : Nat) (fed k a gone h : Int) (rs : List (List ByteArray)) (A : Option Addr) (n c : Nat) (V : List Value) (SR S : Nat → Prop) : Prop where
  box : StB w P 79 (rdArr (.pointer none) fed k a true A n c gone h)
  own : SlAt w 64 A n c V
  rows : RowsB w V rs SR
  apart : ∀ j, blkOf A = some j → ¬ SR j
  far : ¬ SR P
  all : ∀ j, S j ↔ (j = P ∨ blkOf A = some j ∨ SR j)
theorem slAt_far {w : World} {e T : TypeId} {A : Option Addr} {n c g : Nat} {xs : List Value} {cs : Array Value} (h : SlAt w e A n c xs) (hs : StB w g T cs) (he : e ≠ T) : ∀ k, blkOf A = some k → k ≠ g := by
  intro k hk hkg
  rcases h.2.2.2 with ⟨rfl, _⟩ | ⟨q, off, cur, fz, rfl, hg, _⟩
  · cases hk
  · have : q = k := by simpa [blkOf] using hk
    subst this hkg
    unfold StB at hs
    rw [hs] at hg
    injection hg with hg
    injection hg with _ h2 _
    exact he h2.symm
section
variable {w w' : World} {P : Nat} {fed k a gone h : Int} {rs : List (List ByteArray)} {A : Option Addr} {n c : Nat} {V : List Value} {SR S T : Nat → Prop}
theorem RdC.lies (H : RdC w P fed k a gone h rs A n c V SR S) : Lies w S := fun j hj => by
  rcases (H.all j).1 hj with rfl | hj | hj
  · exact H.box.lt
  · exact H.own.blk j hj
  · exact H.rows.lies j hj
theorem RdC.touch (H : RdC w P fed k a gone h rs A n c V SR S) (ht : Touch w w' T) (hn : ∀ j, S j → ¬ T j) : RdC w' P fed k a gone h rs A n c V SR S :=
  ⟨H.box.touch ht (hn P ((H.all P).2 (.inl rfl))), H.own.touch ht (fun j hj => hn j ((H.all j).2 (.inr (.inl hj)))), H.rows.touch ht (fun j hj => hn j ((H.all j).2 (.inr (.inr hj)))), H.apart, H.far, H.all⟩
theorem RdO.shut {pv : Value} (H : RdO w P pv fed k a false rs A n c V SR S) (ht : Touch w w' (fun j => j = P)) (hb : StB w' P 79 (rdArr (.pointer none) fed k a true A n c 0 0)) : RdC w' P fed k a 0 0 rs A n c V SR S :=
  ⟨hb, (H.own.touch ht (fun j hj e => H.nbox j hj e)).toAt, H.rows.touch ht (fun j hj e => by have e' : j = P := e; exact H.far (e' ▸ hj)), H.apart, H.far, H.all⟩
end
/-- Where the program's reader lies. -/
def RBx (w : World) (p : Addr) (X : RdS) (S : Nat → Prop) : Prop := ∃ P : Nat, p = ⟨P, 0, none⟩ ∧
  ((X.cl = false ∧ X.h = 0 ∧ ∃ (wk sb g fed : Nat), (X.run.k = 0 → fed = X.x.size) ∧ RdAt w P wk sb g X.d X.q X.e (bomCells (bl X.x)) fed X.run S) ∨
   (X.cl = true ∧ X.h ≤ X.rs.length ∧ ∃ (fed gone : Nat) (A : Option Addr) (n c : Nat) (V : List Value) (SR : Nat → Prop), gone ≤ X.h ∧ (X.K.1 = 0 → fed = X.x.size) ∧ RdC w P fed X.K.1 X.K.2 gone X.h (X.rs.drop X.h) A n c V SR S))
section
variable {w w' : World} {P wk sb g : Nat} {d q e : Int} {xs : Array Value} {fed : Nat} {R : Rn} {S T : Nat → Prop}
theorem RdAt.lies (h : RdAt w P wk sb g d q e xs fed R S) : Lies w S := by
  rcases h with ⟨_, h⟩ | ⟨_, A, n, c, V, SR, h⟩
  · exact h.lies
  · exact h.lies
theorem RdAt.touch (h : RdAt w P wk sb g d q e xs fed R S) (ht : Touch w w' T) (hn : ∀ j, S j → ¬ T j) : RdAt w' P wk sb g d q e xs fed R S := by
  rcases h with ⟨h0, h⟩ | ⟨h0, A, n, c, V, SR, h⟩
  · exact .inl ⟨h0, h.touch ht hn⟩
  · exact .inr ⟨h0, A, n, c, V, SR, h.touch ht hn⟩
theorem RdAt.box (h : RdAt w P wk sb g d q e xs fed R S) : ∃ pv A n c, n = R.rs.length ∧ S P ∧ StB w P 79 (rdArr pv fed R.K.1 R.K.2 false A n c 0 0) := by
  rcases h with ⟨h0, A, n, c, V, SR, S1, SM, Z, h1, h2, h3, h4⟩ | ⟨h0, A, n, c, V, SR, h⟩
  · refine ⟨.pointer (some ⟨wk, 0, none⟩), A, n, c, h1.rowsLen.symm, (h4 P).2 (.inl h1.boxOf), ?_⟩
    have : R.K = (0, 0) := by unfold Rn.K; simp [h0]
    rw [this]; exact h1.box
  · refine ⟨.pointer none, A, n, c, h.rowsLen.symm, h.boxOf, ?_⟩
    have : R.K = (R.k, (R.at_ : Int)) := by unfold Rn.K; rw [if_neg h0]
    rw [this]; exact h.box
/-- The stripper turns. -/
theorem ThrAt.strip {ys : Array Value} (h : ThrAt w P wk sb g d q e xs fed R S) (ht : Touch w w' (fun j => j = sb)) (hs : StB w' sb 110 ys) : ThrAt w' P wk sb g d q e ys fed R S := by
  obtain ⟨A, n, c, V, SR, S1, SM, Z, h1, h2, h3, h4⟩ := h
  have hZ : Z sb := (h2.all sb).2 (.inr (.inl rfl))
  refine ⟨A, n, c, V, SR, S1, SM, Z, h1.touch ht (fun j hj hj2 => ?_), ⟨h2.box.touch ht (fun e => h2.apart e.symm), hs, h2.make.touch ht (fun j hj hj2 => ?_), h2.nbox, h2.nstrip, h2.all⟩, h3, h4⟩
  · have e : j = sb := hj2
    exact h3 j hj (e ▸ hZ)
  · have e : j = sb := hj2
    exact h2.nstrip (e ▸ hj)
/-- More is fed. -/
theorem ThrAt.more {fed' : Nat} (h : ThrAt w P wk sb g d q e xs fed R S) (ht : Touch w w' (fun j => j = P)) (hs : ∀ pv A n c, StB w P 79 (rdArr pv fed 0 0 false A n c 0 0) → StB w' P 79 (rdArr pv fed' 0 0 false A n c 0 0)) : ThrAt w' P wk sb g d q e xs fed' R S := by
  obtain ⟨A, n, c, V, SR, S1, SM, Z, h1, h2, h3, h4⟩ := h
  exact ⟨A, n, c, V, SR, S1, SM, Z, h1.write ht (hs _ _ _ _ h1.box), h2.touch ht (fun j hj e => by have e' : j = P := e; exact h3 P h1.boxOf (e' ▸ hj)), h3, h4⟩
end
theorem rbx_lies {w : World} {p : Addr} {X : RdS} {S : Nat → Prop} (h : RBx w p X S) : Lies w S := by
  obtain ⟨P, rfl, ⟨_, _, wk, sb, g, fed, _, h⟩ | ⟨_, _, fed, gone, A, n, c, V, SR, _, _, h⟩⟩ := h
  · exact h.lies
  · exact h.lies
theorem rbx_keep {w w' : World} {p : Addr} {X : RdS} {S S' : Nat → Prop} (h : RBx w p X S) (ht : Touch w w' S') (hn : ∀ k, S k → ¬ S' k) : RBx w' p X S := by
  obtain ⟨P, rfl, ⟨h1, h2, wk, sb, g, fed, h3, h⟩ | ⟨h1, h2, fed, gone, A, n, c, V, SR, h3, h4, h⟩⟩ := h
  · exact ⟨P, rfl, .inl ⟨h1, h2, wk, sb, g, fed, h3, h.touch ht hn⟩⟩
  · exact ⟨P, rfl, .inr ⟨h1, h2, fed, gone, A, n, c, V, SR, h3, h4, h.touch ht hn⟩⟩
/-- Its box, in any state. -/
theorem rbx_box {w : World} {p : Addr} {X : RdS} {S : Nat → Prop} (h : RBx w p X S) : ∃ P pv A n c cl, ∃ (fed gone : Int), p = ⟨P, 0, none⟩ ∧ StB w P 79 (rdArr pv fed (kfx X).1 (kfx X).2 cl A n c gone X.h) ∧ ((X.h : Int) + n = cfx X) ∧ ((kfx X).1 = 0 → fed = X.x.size) := by
  obtain ⟨P, rfl, ⟨h1, h2, wk, sb, g, fed, h3, h⟩ | ⟨h1, h2, fed, gone, A, n, c, V, SR, h3, h4, h⟩⟩ := h
  · obtain ⟨pv, A, n, c, hn, hs, hb⟩ := h.box
    have hk : X.now = X.run.fin := by unfold RdS.now; rw [h1, if_neg (by simp)]
    have e1 : kfx X = X.run.K := by unfold kfx; rw [hk]; rfl
    have e2 : cfx X = X.run.rs.length := by unfold cfx; rw [hk]; rfl
    refine ⟨P, pv, A, n, c, false, fed, 0, rfl, ?_, ?_, fun hz => ?_⟩
    · rw [e1, h2]; exact hb
    · rw [e2, h2, hn]; simp
    · rw [e1] at hz; rw [h3 hz]
  · have hk : X.now = (X.rs, X.K) := by unfold RdS.now; rw [h1, if_pos rfl]
    have e1 : kfx X = X.K := by unfold kfx; rw [hk]
    have e2 : cfx X = X.rs.length := by unfold cfx; rw [hk]
    refine ⟨P, .pointer none, A, n, c, true, fed, gone, rfl, ?_, ?_, fun hz => ?_⟩
    · rw [e1]; exact h.box
    · have := h.rows.len
      rw [h.own.1, List.length_drop] at this
      rw [e2]; omega
    · rw [e1] at hz; rw [h4 hz]

/-! ### New -/
set_option maxRecDepth 100000 in
set_option maxHeartbeats 1600000 in
theorem newWalker_rd (d q e a b c : Int) (u : Bool) (d0 : 0 ≤ d) (d1 : d ≤ 255) (q0 : 0 ≤ q) (q1 : q ≤ 255) (h : rightB d q e = true) (hl : Hid ((withinB a && (withinB b && withinB c)) = true)) (w : World) :
    Calls Try.prog 31 #[.agg #[.int .u8 d, .int .u8 q, .int .i64 e], .agg #[.int .i64 a, .int .i64 b, .int .i64 c, .bool u]] w fun x w' =>
      ∃ p sb g S Z, x = .returned (.tuple #[.pointer (some ⟨p, 0, none⟩), .int .i64 0]) ∧ Hid (WkR w' p d q e (bomCells []) sb 0 0 g (mk0 a b c u) S Z ∧ (∀ k, Z k → w.heap.size ≤ k) ∧ Below w.heap.size w w') := by
  go_enter Try.func31, Try.ntmps31
  go_wp2_with (first | (go_at_call 49; ((with_reducible refine (above (check_yes d q e d0 d1 q0 q1 h _)).mono ?_); rintro x _ ⟨rfl, yy, rfl⟩)))
  obtain ⟨V, hV⟩ : ∃ V, onto ((w.alloc (.cells #[.int .u8 d, .int .u8 q, .int .i64 e] 23)).alloc (.cells #[.int .i64 a, .int .i64 b, .int .i64 c, .bool u] 25)) yy = V := ⟨_, rfl⟩
  have HB := Lib.hid (show Below w.heap.size w V from by rw [← hV]; exact up_onto (up_alloc (up_alloc (Below.refl _ _) _) _) yy)
  have hd := (StB.alloc (StB.made w (g := w.heap.size) rfl 23 #[.int .u8 d, .int .u8 q, .int .i64 e]) (.cells #[.int .i64 a, .int .i64 b, .int .i64 c, .bool u] 25)).onto yy
  rw [hV] at hd ⊢
  clear hV
  obtain ⟨r, hr⟩ : ∃ r, w.heap.size = r := ⟨_, rfl⟩
  rw [hr] at hd
  refine (new_yes a b c u hl V).mono ?_
  rintro x w1 ⟨g, S, rfl, hm, hS, hb⟩
  have hd1 := hd.below hb.out
  have c0 : w1.cell? ⟨r, 0, none⟩ = some (.int .u8 d) := hd1.cell 0
  have c1 : w1.cell? ⟨r, 1, none⟩ = some (.int .u8 q) := hd1.cell 1
  have c2 : w1.cell? ⟨r, 2, none⟩ = some (.int .i64 e) := hd1.cell 2
  have cl := hd1.lt
  have HB1 := Lib.hid (HB.out.trans (hb.out.mono HB.out.size))
  have HSS := Lib.hid (show ∀ k, S k → w.heap.size ≤ k ∧ k < w1.heap.size from fun k hk => ⟨Nat.le_trans HB.out.size (hS.out k hk), hm.out.lt k hk⟩)
  rw [← hr] at c0 c1 c2 cl
  clear hd hd1 hr hb hS
  go_wp2_with fail
  go_region_with (first | (go_at_call 51; refine (bomNew_any _).mono ?_; rintro x _ ⟨rfl, rfl⟩))
  all_goals
    go_wp2_with fail
    refine bodyPost_ret (v := .tuple #[.pointer (some ⟨w1.heap.size + 1, 0, none⟩), .int .i64 0]) (by simp [results, Try.results31, go_sem]) (by rfl) ?_
    refine ⟨w1.heap.size + 1, w1.heap.size, g, S, fun j => j = w1.heap.size + 1 ∨ j = w1.heap.size ∨ S j, rfl, Lib.hid ⟨⟨?_, ?_, ?_, fun hs => ?_, fun hs => ?_, fun j => Iff.rfl⟩, fun k hk => ?_, ?_⟩⟩
    · exact StB.made _ (by simp) _ _
    · exact StB.below (w := w1.alloc (.cells (bomCells []) 110)) (StB.new w1 _ _) (by (repeat (first | (with_reducible exact Below.refl _ _) | with_reducible refine up_alloc ?_ _ | with_reducible refine up_drew ?_)))
    · exact hm.out.below (by (repeat (first | (with_reducible exact Below.refl _ _) | with_reducible refine up_alloc ?_ _ | with_reducible refine up_drew ?_)))
    · have := (HSS.out _ hs).2; omega
    · have := (HSS.out _ hs).2; omega
    · rcases hk with rfl | rfl | hk
      · omega
      · omega
      · exact (HSS.out k hk).1
    · (repeat (first | (with_reducible exact HB1.out) | with_reducible refine up_alloc ?_ _ | with_reducible refine up_drew ?_))
end Go.Proofs.Ytoeanbfemgmgnaa

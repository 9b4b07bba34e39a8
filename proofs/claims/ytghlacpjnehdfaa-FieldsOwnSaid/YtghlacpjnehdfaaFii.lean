/- Layer 5: the contract of the program's New, and of what it calls; contracts with their values as letters; the document's example. -/
import Derived.Test.YtghlacpjnehdfaaFih
namespace Go.Proofs.Ytghlacpjnehdfaa
open Go.ChangeShapes Go.WideShapes Go.ChangeAt Go.RowKit
set_option linter.unusedVariables false
set_option linter.unusedSimpArgs false

def withinB (n : Int) : Bool := decide (1 ≤ n) && decide (n ≤ 2147483648)
set_option maxHeartbeats 400000 in
theorem within_any (n : Int) (w : World) : Calls Try.prog 23 #[.int .i64 n] w fun e w' => e = .returned (.bool (withinB n)) ∧ w = w' := by
  go_enter Try.func23, Try.ntmps23
  go_wp2
  all_goals go_ret
  all_goals exact ⟨ret_bool (by simp [withinB]; try omega), rfl⟩
theorem checkLimits_yes (a b c : Int) (u : Bool) (h : (withinB a && (withinB b && withinB c)) = true) (w : World) :
    Calls Try.prog 17 #[.agg #[.int .i64 a, .int .i64 b, .int .i64 c, .bool u]] w fun x w' => x = .returned (.int .i64 0) ∧ Below w.heap.size w w' := by
  simp only [Bool.and_eq_true] at h
  obtain ⟨ha, hb, hc⟩ := h
  go_enter Try.func17, Try.ntmps17
  go_wp2_with (go_at_call 23; refine (within_any _ _).mono ?_; rintro e w' ⟨rfl, rfl⟩)
  go_ret
  exact ⟨rfl, (Below.refl _ _).alloc (Nat.le_refl _) _⟩
theorem checkLimits_no (a b c : Int) (u : Bool) (h : (withinB a && (withinB b && withinB c)) = false) (w : World) :
    Calls Try.prog 17 #[.agg #[.int .i64 a, .int .i64 b, .int .i64 c, .bool u]] w fun x w' => x = .returned (.int .i64 2) ∧ Below w.heap.size w w' := by
  have hh : withinB a = false ∨ (withinB a = true ∧ withinB b = false) ∨ (withinB a = true ∧ withinB b = true ∧ withinB c = false) := by
    cases ha : withinB a <;> cases hb : withinB b <;> cases hc : withinB c <;> simp_all
  clear h
  rcases hh with ha | ⟨ha, hb⟩ | ⟨ha, hb, hc⟩
  all_goals
    go_enter Try.func17, Try.ntmps17
    go_wp2_with (go_at_call 23; refine (within_any _ _).mono ?_; rintro e w' ⟨rfl, rfl⟩)
    go_ret
    exact ⟨rfl, (Below.refl _ _).alloc (Nat.le_refl _) _⟩

/-- A maker that was handed nothing. -/
def mk0 (a b c : Int) (u : Bool) : Mk := ⟨a, b, c, u, [], [], 0, 0, 0, 0⟩
theorem mk0_ok (a b c : Int) (u : Bool) (h : (withinB a && (withinB b && withinB c)) = true) : (mk0 a b c u).Ok 0 := by
  simp [withinB] at h
  exact ⟨by show c ≤ _; omega, Int.le_refl _, Int.le_refl _, Int.le_refl _, Int.le_refl _, Nat.le_refl _, Nat.le_refl _⟩
def NewOut (a b c : Int) (u : Bool) (w : World) (x : Ending) (w' : World) : Prop :=
  ∃ g S, x = .returned (.tuple #[.pointer (some ⟨g, 0, none⟩), .int .i64 0]) ∧ Hid (MkB w' g (mk0 a b c u) S) ∧ Hid (∀ k, S k → w.heap.size ≤ k) ∧ Hid (Below w.heap.size w w')
set_option maxHeartbeats 1600000 in
theorem new_yes (a b c : Int) (u : Bool) (h : Hid ((withinB a && (withinB b && withinB c)) = true)) (w : World) : Calls Try.prog 6 #[.agg #[.int .i64 a, .int .i64 b, .int .i64 c, .bool u]] w (NewOut a b c u w) := by
  go_enter Try.func6, Try.ntmps6
  go_wp2_with fail
  refine (above (checkLimits_yes a b c u h.out _)).mono ?_
  rintro x _ ⟨rfl, y, rfl⟩
  obtain ⟨W, hW⟩ : ∃ W, W = w.alloc (.cells #[.int .i64 a, .int .i64 b, .int .i64 c, .bool u] 28) := ⟨_, rfl⟩
  have c0 : W.cell? ⟨w.heap.size, 0, none⟩ = some (.int .i64 a) := by rw [hW]; simp [go_sem]
  have c1 : W.cell? ⟨w.heap.size, 1, none⟩ = some (.int .i64 b) := by rw [hW]; simp [go_sem]
  have c2 : W.cell? ⟨w.heap.size, 2, none⟩ = some (.int .i64 c) := by rw [hW]; simp [go_sem]
  have c3 : W.cell? ⟨w.heap.size, 3, none⟩ = some (.bool u) := by rw [hW]; simp [go_sem]
  have hlt : w.heap.size < W.heap.size := by rw [hW]; simp
  have HB := Lib.hid (show Below w.heap.size w W by rw [hW]; exact up_alloc (Below.refl _ _) _)
  revert y
  rw [← hW]
  intro y
  clear hW
  go_wp2_with fail
  go_ret2
  have hz := onto_size W y
  refine ⟨(onto W y).heap.size, fun k => k = (onto W y).heap.size ∨ blkOf none = some k ∨ blkOf none = some k, rfl, Lib.hid ⟨none, 0, none, 0, ?_, SlOwn.nothing _ _ _, SlOwn.nothing _ _ _, fun k => Iff.rfl⟩, Lib.hid ?_, Lib.hid ?_⟩
  · exact StB.new (onto W y) _ _
  · intro k hk
    rcases hk with rfl | hk | hk
    · omega
    · cases hk
    · cases hk
  · exact up_alloc (HB.out.trans ((onto_below W y).mono (by omega))) _
theorem new_no (a b c : Int) (u : Bool) (h : Hid ((withinB a && (withinB b && withinB c)) = false)) (w : World) : Calls Try.prog 6 #[.agg #[.int .i64 a, .int .i64 b, .int .i64 c, .bool u]] w fun x w' => x = .returned (.tuple #[.pointer none, .int .i64 2]) ∧ Below w.heap.size w w' := by
  go_enter Try.func6, Try.ntmps6
  go_wp2_with fail
  refine (above (checkLimits_no a b c u h.out _)).mono ?_
  rintro x _ ⟨rfl, y, rfl⟩
  go_wp2_with fail
  go_ret2
  exact ⟨rfl, up_onto (up_alloc (Below.refl _ _) _) y⟩

theorem take_is (g : Nat) (e : Ev) (s : Mk) (S : Nat → Prop) (N : Nat) (hN : N ≤ 1000) (ok : Hid (s.Ok N)) (b0 : 0 ≤ e.b) (b1 : e.b ≤ 255) (s' : Mk) (l : List ByteArray) (n : Nat) (t : Bool) (r : Int)
    (hs : Hid (mTake e s = s')) (hl : Hid (mRec e s = l)) (hn : Hid (l.length = n)) (ht : Hid (mTold e s = t)) (hr : Hid (s'.er = r)) (w : World) (h : Hid (MkB w g s S)) :
    Calls Try.prog 8 #[.pointer (some ⟨g, 0, none⟩), .agg (evArr e)] w fun x w' => ∃ A c, x = .returned (.tuple #[.slice A n c, .bool t, .int .i64 r]) ∧ Hid (Handed A c l g s' S w w') := by
  refine (take_any g e s S N hN w h.out ok.out b0 b1).mono ?_
  rintro x w' ⟨A, c, rfl, hh⟩
  rw [hs.out, hl.out] at hh
  rw [hs.out, hl.out, hn.out, ht.out, hr.out]
  exact ⟨A, c, rfl, Lib.hid hh⟩
theorem open_is (g : Nat) (s : Mk) (S : Nat → Prop) (hr : s.rc.length ≤ 1000000) (n : Nat) (t : ByteArray) (hn : Hid (s.rc.length = n)) (ht : Hid (toBA s.fd = t)) (w : World) (h : Hid (MkB w g s S)) :
    Calls Try.prog 10 #[.pointer (some ⟨g, 0, none⟩)] w fun x w' => ∃ A c, x = .returned (.tuple #[.slice A n c, .string t]) ∧ Hid (SlOwn w' w.heap.size 9 A n c (strs s.rc)) ∧ Hid (Below w.heap.size w w') := by
  refine (open_any g s S w h.out hr).mono ?_
  rintro x w' ⟨A, c, rfl, ho, hb⟩
  rw [hn.out] at ho
  rw [hn.out, ht.out]
  exact ⟨A, c, rfl, Lib.hid ho, Lib.hid hb⟩
end Go.Proofs.Ytghlacpjnehdfaa

/- Layer 5, as far as layer 6 calls it: New, Take with their values as letters. -/
import Derived.Test.YtoeanbfemgmgnaaGreatDoorZf
import Derived.Test.YtoeanbfemgmgnaaGreatDoorZn
namespace Go.Proofs.YtoeanbfemgmgnaaGreatDoor
open Go.ChangeShapes Go.WideShapes Go.ChangeAt Go.RowKit
set_option linter.unusedVariables false
set_option linter.unusedSimpArgs false

def NewOut (a b c : Int) (u : Bool) (w : World) (x : Ending) (w' : World) : Prop :=
  ∃ g S, x = .returned (.tuple #[.pointer (some ⟨g, 0, none⟩), .int .i64 0]) ∧ Hid (MkB w' g (mk0 a b c u) S) ∧ Hid (∀ k, S k → w.heap.size ≤ k) ∧ Hid (Below w.heap.size w w')
set_option maxHeartbeats 1600000 in
theorem new_yes (a b c : Int) (u : Bool) (h : Hid ((withinB a && (withinB b && withinB c)) = true)) (w : World) : Calls Tryz.prog 59 #[.agg #[.int .i64 a, .int .i64 b, .int .i64 c, .bool u]] w (NewOut a b c u w) := by
  go_enter Tryz.func59, Tryz.ntmps59
  go_wp2_with fail
  refine (above (checkLimits_yes a b c u h.out _)).mono ?_
  rintro x _ ⟨rfl, y, rfl⟩
  obtain ⟨W, hW⟩ : ∃ W, W = w.alloc (.cells #[.int .i64 a, .int .i64 b, .int .i64 c, .bool u] 49) := ⟨_, rfl⟩
  have c0 : W.cell? ⟨w.heap.size, 0, none⟩ = some (.int .i64 a) := by rw [hW]; simp [go_sem]
  have c1 : W.cell? ⟨w.heap.size, 1, none⟩ = some (.int .i64 b) := by rw [hW]; simp [go_sem]
  have c2 : W.cell? ⟨w.heap.size, 2, none⟩ = some (.int .i64 c) := by rw [hW]; simp [go_sem]
  have c3 : W.cell? ⟨w.heap.size, 3, none⟩ = some (.bool u) := by rw [hW]; simp [go_sem]
  have hlt : w.heap.size < W.heap.size := by rw [hW]; simp
  have HB := Lib.hid (show Below w.heap.size w W by rw [hW]; exact up_alloc (Below.refl _ _) _)
  revert y
  rw [← hW]
  intro y
  clear hW
  go_wp2_with fail
  go_ret2
  have hz := onto_size W y
  refine ⟨(onto W y).heap.size, fun k => k = (onto W y).heap.size ∨ blkOf none = some k ∨ blkOf none = some k, rfl, Lib.hid ⟨none, 0, none, 0, ?_, SlOwn.nothing _ _ _, SlOwn.nothing _ _ _, fun k => Iff.rfl⟩, Lib.hid ?_, Lib.hid ?_⟩
  · exact StB.new (onto W y) _ _
  · intro k hk
    rcases hk with rfl | hk | hk
    · omega
    · cases hk
    · cases hk
  · exact up_alloc (HB.out.trans ((onto_below W y).mono (by omega))) _
theorem new_no (a b c : Int) (u : Bool) (h : Hid ((withinB a && (withinB b && withinB c)) = false)) (w : World) : Calls Tryz.prog 59 #[.agg #[.int .i64 a, .int .i64 b, .int .i64 c, .bool u]] w fun x w' => x = .returned (.tuple #[.pointer none, .int .i64 2]) ∧ Below w.heap.size w w' := by
  go_enter Tryz.func59, Tryz.ntmps59
  go_wp2_with fail
  refine (above (checkLimits_no a b c u h.out _)).mono ?_
  rintro x _ ⟨rfl, y, rfl⟩
  go_wp2_with fail
  go_ret2
  exact ⟨rfl, up_onto (up_alloc (Below.refl _ _) _) y⟩

theorem take_is (g : Nat) (e : Ev) (s : Mk) (S : Nat → Prop) (N : Nat) (hN : N ≤ 100000) (ok : Hid (s.Ok N)) (b0 : 0 ≤ e.b) (b1 : e.b ≤ 255) (s' : Mk) (l : List ByteArray) (n : Nat) (t : Bool) (r : Int)
    (hs : Hid (mTake e s = s')) (hl : Hid (mRec e s = l)) (hn : Hid (l.length = n)) (ht : Hid (mTold e s = t)) (hr : Hid (s'.er = r)) (w : World) (h : Hid (MkB w g s S)) :
    Calls Tryz.prog 79 #[.pointer (some ⟨g, 0, none⟩), .agg (evArr e)] w fun x w' => ∃ A c, x = .returned (.tuple #[.slice A n c, .bool t, .int .i64 r]) ∧ Hid (Handed A c l g s' S w w') := by
  refine (take_any g e s S N hN w h.out ok.out b0 b1).mono ?_
  rintro x w' ⟨A, c, rfl, hh⟩
  rw [hs.out, hl.out] at hh
  rw [hs.out, hl.out, hn.out, ht.out, hr.out]
  exact ⟨A, c, rfl, Lib.hid hh⟩
end Go.Proofs.YtoeanbfemgmgnaaGreatDoor

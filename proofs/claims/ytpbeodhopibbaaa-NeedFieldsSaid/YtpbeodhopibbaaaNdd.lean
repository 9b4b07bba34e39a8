/- Layer 8: what the program's Why, Need, Fields answer (premises); the statements' few; the walk of NeedTells over these. -/
import Derived.Test.YtpbeodhopibbaaaNdc
namespace Go.Proofs.Ytpbeodhopibbaaa
open Go.ChangeShapes Go.WideShapes Go.ChangeAt Go.RowKit
set_option linter.unusedVariables false
set_option linter.unusedSimpArgs false

theorem one8_any (v : Bool) (w : World) : Calls Try.prog 11 #[.bool v] w fun x w' => x = .returned (.int .i64 (numB v)) ∧ w = w' := by
  cases v
  · go_enter Try.func11, Try.ntmps11
    go_wp2_with fail
    go_ret
    exact ⟨rfl, rfl⟩
  · go_enter Try.func11, Try.ntmps11
    go_wp2_with fail
    go_ret
    exact ⟨rfl, rfl⟩

def WhySays : Prop := ∀ (d q e : Int) (f : ByteArray) (al fi : Bool) (w : World), 0 ≤ d → d ≤ 255 → 0 ≤ q → q ≤ 255 → rightB d q e = true → f.size ≤ 1000000 →
  Calls Try.prog 12 #[.agg #[.int .u8 d, .int .u8 q, .int .i64 e], .string f, .bool al, .bool fi] w fun x w' => x = .returned (.int .i64 (whyN d q (bl f) al fi)) ∧ Below w.heap.size w w'
def needB (d q : Int) (f : ByteArray) (al fi : Bool) : Bool := decide (whyN d q (bl f) al fi ≠ 0)
def NeedSays : Prop := ∀ (d q e : Int) (f : ByteArray) (al fi : Bool) (w : World), 0 ≤ d → d ≤ 255 → 0 ≤ q → q ≤ 255 → rightB d q e = true → f.size ≤ 1000000 →
  Calls Try.prog 13 #[.agg #[.int .u8 d, .int .u8 q, .int .i64 e], .string f, .bool al, .bool fi] w fun x w' => x = .returned (.bool (needB d q f al fi)) ∧ Below w.heap.size w w'
/-- Truths as cells. -/
def bools (l : List Bool) : List Value := l.map Value.bool
/-- Which fields must be quoted: from field k on, of n. -/
def needL (d q : Int) (fi : Bool) (n : Nat) : Nat → List ByteArray → List Bool
  | _, [] => []
  | k, f :: r => needB d q f (decide (n = 1)) (fi && decide (k = 0)) :: needL d q fi n (k + 1) r
theorem needL_length (d q : Int) (fi : Bool) (n : Nat) : ∀ (r : List ByteArray) (k : Nat), (needL d q fi n k r).length = r.length
  | [], _ => rfl
  | f :: r, k => by rw [needL, List.length_cons, List.length_cons, needL_length d q fi n r]
theorem needL_at (d q : Int) (fi : Bool) (n : Nat) : ∀ (r : List ByteArray) (k j : Nat) (f : ByteArray), r[j]? = some f → (needL d q fi n k r)[j]? = some (needB d q f (decide (n = 1)) (fi && decide (k + j = 0)))
  | [], _, _, _, h => by simp at h
  | g :: r, k, 0, f, h => by simp at h; subst h; simp [needL]
  | g :: r, k, j + 1, f, h => by
    have := needL_at d q fi n r (k + 1) j f (by simpa using h)
    rw [needL, List.getElem?_cons_succ, this, show k + 1 + j = k + (j + 1) by omega]
def FieldsSays : Prop := ∀ (d q e : Int) (r : List ByteArray) (A : Option Addr) (n c : Nat) (fi : Bool) (w : World), 0 ≤ d → d ≤ 255 → 0 ≤ q → q ≤ 255 → rightB d q e = true → Hid (SlIn w A n (strs r)) → n ≤ 1000 → Hid (∀ x ∈ r, x.size ≤ 1000000) →
  Calls Try.prog 15 #[.agg #[.int .u8 d, .int .u8 q, .int .i64 e], .slice A n c, .bool fi] w fun x w' => ∃ O co, x = .returned (.slice O n co) ∧ Hid (SlIn w' O n (bools (needL d q fi n 0 r))) ∧ Hid (Below w.heap.size w w')
def AwakeSays8 : Prop := ∀ w : World, Calls Try.prog 9 #[] w fun x w' => x = .returned (.bool true) ∧ Below w.heap.size w w'

set_option maxRecDepth 100000 in
set_option maxHeartbeats 1600000 in
theorem needTells_walk (hWhy : Hid WhySays) (hNeed : Hid NeedSays) (hAw : Hid AwakeSays8) (d q e : Int) (s : ByteArray) (x : Int) (w : World) (hd : (Lit.int .u8 d).wf = true) (hq : (Lit.int .u8 q).wf = true) (_ : (Lit.int .i64 e).wf = true) (hs : s.size ≤ maxLen) (hx : (Lit.int .u8 x).wf = true) :
    Calls Try.prog 3 #[.agg #[.int .u8 d, .int .u8 q, .int .i64 e], .string s, .int .u8 x] w fun x w' => x = .returned (.bool true) ∧ Below w.heap.size w w' := by
  obtain ⟨d0, d1⟩ := bounds_u8 hd
  obtain ⟨q0, q1⟩ := bounds_u8 hq
  have hs0 : s.size ≤ 9223372036854775807 := hs
  have haw := fun w => hAw.out w
  have HAW := Lib.hid (show ∀ w : World, Calls Try.prog 9 #[] w fun x w' => x = .returned (.bool true) ∧ Below w.heap.size w w' from haw)
  obtain ⟨v, hv⟩ : ∃ v, rightB d q e = v := ⟨_, rfl⟩
  have HR := Lib.hid (show rightR d q e = v by rw [right_eq d q e d0 q0]; exact hv)
  obtain ⟨al, hal⟩ : ∃ al, (bits BinOp.and IntKind.u8 x 1 == 1) = al := ⟨_, rfl⟩
  obtain ⟨fi, hfi⟩ : ∃ fi, (bits BinOp.and IntKind.u8 x 2 == 2) = fi := ⟨_, rfl⟩
  obtain ⟨W, hW⟩ : ∃ W, whyN d q (bl s) al fi = W := ⟨_, rfl⟩
  have HW := Lib.hid hW
  obtain ⟨V, hV⟩ : ∃ V, (W != 0) = V := ⟨_, rfl⟩
  have HV := Lib.hid (show needB d q s al fi = V by unfold needB; rw [hW, ← hV]; rw [Bool.eq_iff_iff]; simp)
  clear hd hq hx hW haw hAw
  by_cases h200 : s.size ≤ 200
  · cases v
    · clear hv
      go_enter Try.func3, Try.ntmps3
      go_wp2_with (first
        | (go_at_call 8; with_reducible refine (above (ref_any d q e d0 d1 q0 q1 _)).mono ?_; rintro x _ ⟨rfl, y, rfl⟩)
        | (go_at_call 7; with_reducible refine (above (refRight_is d q e _ HR _)).mono ?_; rintro x _ ⟨rfl, y, rfl⟩)
        | (go_at_call 9; with_reducible refine (above (HAW.out _)).mono ?_; rintro x _ ⟨rfl, y, rfl⟩))
      go_ret
      exact ⟨rfl, (by (repeat (first | exact Below.refl _ _ | refine up_onto ?_ _ | refine up_alloc ?_ _)))⟩
    · have HY := Lib.hid (fun w => hWhy.out d q e s al fi w d0 d1 q0 q1 hv (by omega))
      have HN := Lib.hid (fun w => hNeed.out d q e s al fi w d0 d1 q0 q1 hv (by omega))
      rw [HW.out] at HY
      rw [HV.out] at HN
      clear hv
      go_enter Try.func3, Try.ntmps3
      go_wp2_with (first
        | (go_at_call 8; with_reducible refine (above (ref_any d q e d0 d1 q0 q1 _)).mono ?_; rintro x _ ⟨rfl, y, rfl⟩)
        | (go_at_call 7; with_reducible refine (above (refRight_is d q e _ HR _)).mono ?_; rintro x _ ⟨rfl, y, rfl⟩)
        | (go_at_call 11; with_reducible refine (one8_any _ _).mono ?_; rintro x _ ⟨rfl, rfl⟩)
        | (go_at_call 10; with_reducible refine (above (ref8Why_any d q e s al fi hs W HW _)).mono ?_; rintro x _ ⟨rfl, y, rfl⟩)
        | (go_at_call 12; with_reducible refine (above (HY.out _)).mono ?_; rintro x _ ⟨rfl, y, rfl⟩)
        | (go_at_call 13; with_reducible refine (above (HN.out _)).mono ?_; rintro x _ ⟨rfl, y, rfl⟩)
        | (go_at_call 9; with_reducible refine (above (HAW.out _)).mono ?_; rintro x _ ⟨rfl, y, rfl⟩))
      go_ret
      exact ⟨rfl, (by (repeat (first | exact Below.refl _ _ | refine up_onto ?_ _ | refine up_alloc ?_ _)))⟩
  · go_enter Try.func3, Try.ntmps3
    go_wp2_with (go_at_call 9; with_reducible refine (above (HAW.out _)).mono ?_; rintro x _ ⟨rfl, y, rfl⟩)
    go_ret
    exact ⟨rfl, (by (repeat (first | exact Below.refl _ _ | refine up_onto ?_ _ | refine up_alloc ?_ _)))⟩
end Go.Proofs.Ytpbeodhopibbaaa

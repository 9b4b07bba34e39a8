/- Layer 9: what the program's Quoted, Written, Unquote, Size answer (premises); the walks of QuoteWrites, QuoteReads, QuoteUnlike over these. -/
import Derived.Test.YtngdmkhinebbdaaDoorQnb
namespace Go.Proofs.YtngdmkhinebbdaaDoor
open Go.ChangeShapes Go.WideShapes Go.ChangeAt Go.RowKit
set_option linter.unusedVariables false
set_option linter.unusedSimpArgs false

def QuotedSays : Prop := ∀ (d q e : Int) (f : ByteArray) (w : World), 0 ≤ d → d ≤ 255 → 0 ≤ q → q ≤ 255 → rightB d q e = true → f.size ≤ 1000 →
  Calls Tryd.prog 12 #[.agg #[.int .u8 d, .int .u8 q, .int .i64 e], .string f] w fun x w' => x = .returned (.string (quoO q f)) ∧ Below w.heap.size w w'
def WrittenSays : Prop := ∀ (d q e : Int) (f : ByteArray) (al fi : Bool) (w : World), 0 ≤ d → d ≤ 255 → 0 ≤ q → q ≤ 255 → rightB d q e = true → f.size ≤ 1000 →
  Calls Tryd.prog 14 #[.agg #[.int .u8 d, .int .u8 q, .int .i64 e], .string f, .bool al, .bool fi] w fun x w' => x = .returned (.string (wriO d q f al fi)) ∧ Below w.heap.size w w'
def SizeSays : Prop := ∀ (d q e : Int) (f : ByteArray) (al fi : Bool) (w : World), 0 ≤ d → d ≤ 255 → 0 ≤ q → q ≤ 255 → rightB d q e = true → f.size ≤ 1000 →
  Calls Tryd.prog 15 #[.agg #[.int .u8 d, .int .u8 q, .int .i64 e], .string f, .bool al, .bool fi] w fun x w' => x = .returned (.int .i64 ((wriO d q f al fi).size : Int)) ∧ Below w.heap.size w w'
/-- The library's own variable MaxLen holds some number (what of it is read by strings.Index at more than one byte). -/
def MaxInt (w : World) : Prop := ∃ m, w.cell? ⟨0, 0, none⟩ = some (.int .i64 m)
theorem MaxInt.up {w w' : World} (h : MaxInt w) (hb : Below w.heap.size w w') : MaxInt w' := h.elim fun m hm => ⟨m, mem_cell hb hm⟩
def UnquoteSays : Prop := ∀ (d q e : Int) (s : ByteArray) (F : ByteArray) (is er : Int) (w : World), 0 ≤ d → d ≤ 255 → 0 ≤ q → q ≤ 255 → rightB d q e = true → s.size ≤ 3000 → unqO d q s = (F, is, er) → MaxInt w →
  Calls Tryd.prog 16 #[.agg #[.int .u8 d, .int .u8 q, .int .i64 e], .string s] w fun x w' => x = .returned (.tuple #[.string F, .bool (is == 1), .int .i64 er]) ∧ Below w.heap.size w w'
def AwakeSays9 : Prop := ∀ w : World, MaxInt w → Calls Tryd.prog 9 #[] w fun x w' => x = .returned (.bool true) ∧ Below w.heap.size w w'
theorem one9_any (v : Bool) (w : World) : Calls Tryd.prog 11 #[.bool v] w fun x w' => x = .returned (.int .i64 (numB v)) ∧ w = w' := by
  cases v
  · go_enter Tryd.func11, Tryd.ntmps11
    go_wp2_with fail
    go_ret
    exact ⟨rfl, rfl⟩
  · go_enter Tryd.func11, Tryd.ntmps11
    go_wp2_with fail
    go_ret
    exact ⟨rfl, rfl⟩
theorem wriO_size {q : Int} (q0 : 0 ≤ q) (q1 : q ≤ 255) (d : Int) (s : ByteArray) (al fi : Bool) : (wriO d q s al fi).size ≤ 2 * s.size + 2 := by
  unfold wriO; split
  · omega
  · exact quoO_size q0 q1 s

set_option maxRecDepth 100000 in
set_option maxHeartbeats 1600000 in
theorem quoteWrites_walk (hQ : Hid QuotedSays) (hWr : Hid WrittenSays) (hSz : Hid SizeSays) (hAw : Hid AwakeSays9) (d q e : Int) (s : ByteArray) (x : Int) (w : World) (hm : Hid (MaxInt w)) (hd : (Lit.int .u8 d).wf = true) (hq : (Lit.int .u8 q).wf = true) (_ : (Lit.int .i64 e).wf = true) (hs : s.size ≤ maxLen) (hx : (Lit.int .u8 x).wf = true) :
    Calls Tryd.prog 3 #[.agg #[.int .u8 d, .int .u8 q, .int .i64 e], .string s, .int .u8 x] w fun x w' => x = .returned (.bool true) ∧ Below w.heap.size w w' := by
  obtain ⟨d0, d1⟩ := bounds_u8 hd
  obtain ⟨q0, q1⟩ := bounds_u8 hq
  have hs0 : s.size ≤ 9223372036854775807 := hs
  have HAW := Lib.hid (show ∀ w : World, MaxInt w → Calls Tryd.prog 9 #[] w fun x w' => x = .returned (.bool true) ∧ Below w.heap.size w w' from fun w h => hAw.out w h)
  obtain ⟨v, hv⟩ : ∃ v, rightB d q e = v := ⟨_, rfl⟩
  have HR := Lib.hid (show rightR d q e = v by rw [right_eq d q e d0 q0]; exact hv)
  obtain ⟨al, hal⟩ : ∃ al, (bits BinOp.and IntKind.u8 x 1 == 1) = al := ⟨_, rfl⟩
  obtain ⟨fi, hfi⟩ : ∃ fi, (bits BinOp.and IntKind.u8 x 2 == 2) = fi := ⟨_, rfl⟩
  clear hd hq hx hAw
  by_cases h200 : s.size ≤ 200
  · cases v
    · clear hv
      go_enter Tryd.func3, Tryd.ntmps3
      go_wp2_with (first
        | (go_at_call 8; with_reducible refine (above (ref_any d q e d0 d1 q0 q1 _)).mono ?_; rintro x _ ⟨rfl, y, rfl⟩)
        | (go_at_call 7; with_reducible refine (above (refRight_is d q e _ HR _)).mono ?_; rintro x _ ⟨rfl, y, rfl⟩)
        | (go_at_call 9; with_reducible refine (above (HAW.out _ (hm.out.up (by (repeat (first | exact Below.refl _ _ | refine up_onto ?_ _ | refine up_alloc ?_ _)))))).mono ?_; rintro x _ ⟨rfl, y, rfl⟩))
      go_ret
      exact ⟨rfl, (by (repeat (first | exact Below.refl _ _ | refine up_onto ?_ _ | refine up_alloc ?_ _)))⟩
    · have h1m : s.size ≤ 1000001 := by omega
      obtain ⟨O, hO⟩ : ∃ O, quoO q s = O := ⟨_, rfl⟩
      obtain ⟨P, hP⟩ : ∃ P, wriO d q s al fi = P := ⟨_, rfl⟩
      have HO := Lib.hid hO
      have HP := Lib.hid hP
      have HQ := Lib.hid (fun w => hQ.out d q e s w d0 d1 q0 q1 hv (by omega))
      have HW := Lib.hid (fun w => hWr.out d q e s al fi w d0 d1 q0 q1 hv (by omega))
      have HS := Lib.hid (fun w => hSz.out d q e s al fi w d0 d1 q0 q1 hv (by omega))
      have hPs : P.size ≤ 402 := by rw [← hP]; have := wriO_size q0 q1 d s al fi; omega
      rw [hO] at HQ
      rw [hP] at HW HS
      have eO : (O.toList == O.toList) = true := by simp
      have eP : (P.toList == P.toList) = true := by simp
      have eS : (((P.size : Nat) : Int) == ((P.size : Nat) : Int)) = true := by simp
      clear hv hO hP
      go_enter Tryd.func3, Tryd.ntmps3
      go_upto_region 5 with (first
        | (go_at_call 8; with_reducible refine (above (ref_any d q e d0 d1 q0 q1 _)).mono ?_; rintro x _ ⟨rfl, y, rfl⟩)
        | (go_at_call 7; with_reducible refine (above (refRight_is d q e _ HR _)).mono ?_; rintro x _ ⟨rfl, y, rfl⟩)
        | (go_at_call 11; with_reducible refine (one9_any _ _).mono ?_; rintro x _ ⟨rfl, rfl⟩)
        | (go_at_call 10; with_reducible refine (above (ref9Written_is d q e q0 q1 s al fi h1m P HP _)).mono ?_; rintro x _ ⟨rfl, y, rfl⟩))
      generalize hy4 : onto (w.alloc (.cells #[.int .u8 d, .int .u8 q, .int .i64 e] 23)) _ = W1
      have HB1 := Lib.hid (show Below w.heap.size w W1 by rw [← hy4]; exact up_onto (up_alloc (Below.refl _ _) _) _)
      have HD1 := Lib.hid (show StB W1 w.heap.size 23 #[.int .u8 d, .int .u8 q, .int .i64 e] by rw [← hy4]; exact (StB.made _ rfl _ _).below (onto_below _ _))
      clear hy4
      have f0 : ∀ z, (onto W1 z).cell? ⟨w.heap.size, 0, none⟩ = some (.int .u8 d) := fun z => mem_cell (onto_below W1 z) (HD1.out.cell 0)
      have f1 : ∀ z, (onto W1 z).cell? ⟨w.heap.size, 1, none⟩ = some (.int .u8 q) := fun z => mem_cell (onto_below W1 z) (HD1.out.cell 1)
      have f2 : ∀ z, (onto W1 z).cell? ⟨w.heap.size, 2, none⟩ = some (.int .i64 e) := fun z => mem_cell (onto_below W1 z) (HD1.out.cell 2)
      have fm : ∀ z, MaxInt (onto W1 z) := fun z => hm.out.up (up_onto HB1.out z)
      refine wp_region_onto (by kernel_rfl) (by kernel_rfl) ?_
      repeat (go_big_quiet_step (first
        | (with_reducible exact calls_onto (ref_any d q e d0 d1 q0 q1 _))
        | (with_reducible exact calls_onto (HQ.out _))
        | (with_reducible exact calls_onto (HW.out _))
        | (with_reducible exact calls_onto (HS.out _))
        | (with_reducible exact calls_onto (HAW.out _ (fm _)))
        | (with_reducible exact calls_onto (ref9Quoted_is d q e q0 q1 s h1m O HO _))))
      refine wpQuiet_nil ?_
      intro _ hw'
      obtain ⟨x1, hw''⟩ := hw'
      subst hw''
      go_wp2_with fail
      go_ret
      exact ⟨rfl, up_onto HB1.out _⟩
  · go_enter Tryd.func3, Tryd.ntmps3
    go_wp2_with (go_at_call 9; with_reducible refine (above (HAW.out _ (hm.out.up (by (repeat (first | exact Below.refl _ _ | refine up_onto ?_ _ | refine up_alloc ?_ _)))))).mono ?_; rintro x _ ⟨rfl, y, rfl⟩)
    go_ret
    exact ⟨rfl, (by (repeat (first | exact Below.refl _ _ | refine up_onto ?_ _ | refine up_alloc ?_ _)))⟩

set_option maxRecDepth 100000 in
set_option maxHeartbeats 1600000 in
theorem quoteReads_walk (hU : Hid UnquoteSays) (hAw : Hid AwakeSays9) (d q e : Int) (s : ByteArray) (w : World) (hm : Hid (MaxInt w)) (hd : (Lit.int .u8 d).wf = true) (hq : (Lit.int .u8 q).wf = true) (_ : (Lit.int .i64 e).wf = true) (hs : s.size ≤ maxLen) :
    Calls Tryd.prog 4 #[.agg #[.int .u8 d, .int .u8 q, .int .i64 e], .string s] w fun x w' => x = .returned (.bool true) ∧ Below w.heap.size w w' := by
  obtain ⟨d0, d1⟩ := bounds_u8 hd
  obtain ⟨q0, q1⟩ := bounds_u8 hq
  have hs0 : s.size ≤ 9223372036854775807 := hs
  have HAW := Lib.hid (show ∀ w : World, MaxInt w → Calls Tryd.prog 9 #[] w fun x w' => x = .returned (.bool true) ∧ Below w.heap.size w w' from fun w h => hAw.out w h)
  obtain ⟨v, hv⟩ : ∃ v, rightB d q e = v := ⟨_, rfl⟩
  have HR := Lib.hid (show rightR d q e = v by rw [right_eq d q e d0 q0]; exact hv)
  clear hd hq hAw
  by_cases h200 : s.size ≤ 200
  · cases v
    · clear hv
      go_enter Tryd.func4, Tryd.ntmps4
      go_wp2_with (first
        | (go_at_call 8; with_reducible refine (above (ref_any d q e d0 d1 q0 q1 _)).mono ?_; rintro x _ ⟨rfl, y, rfl⟩)
        | (go_at_call 7; with_reducible refine (above (refRight_is d q e _ HR _)).mono ?_; rintro x _ ⟨rfl, y, rfl⟩)
        | (go_at_call 9; with_reducible refine (above (HAW.out _ (hm.out.up (by (repeat (first | exact Below.refl _ _ | refine up_onto ?_ _ | refine up_alloc ?_ _)))))).mono ?_; rintro x _ ⟨rfl, y, rfl⟩))
      go_ret
      exact ⟨rfl, (by (repeat (first | exact Below.refl _ _ | refine up_onto ?_ _ | refine up_alloc ?_ _)))⟩
    · obtain ⟨F, is, er, hF⟩ : ∃ F is er, unqO d q s = (F, is, er) := ⟨_, _, _, rfl⟩
      have HF := Lib.hid hF
      have h1m : s.size ≤ 1000000 := by omega
      have HUQ := Lib.hid (fun w h => hU.out d q e s F is er w d0 d1 q0 q1 hv (by omega) hF h)
      obtain ⟨ib, hib⟩ : ∃ ib, (is == 1) = ib := ⟨_, rfl⟩
      rw [hib] at HUQ
      have eF : (F.toList == F.toList) = true := by simp
      have eI : (ib == ib) = true := by simp
      have eE : (er == er) = true := by simp
      clear hv hF
      go_enter Tryd.func4, Tryd.ntmps4
      go_wp2_with (first
        | (go_at_call 8; with_reducible refine (above (ref_any d q e d0 d1 q0 q1 _)).mono ?_; rintro x _ ⟨rfl, y, rfl⟩)
        | (go_at_call 7; with_reducible refine (above (refRight_is d q e _ HR _)).mono ?_; rintro x _ ⟨rfl, y, rfl⟩)
        | (go_at_call 16; with_reducible refine (above (HUQ.out _ (hm.out.up (by (repeat (first | exact Below.refl _ _ | refine up_onto ?_ _ | refine up_alloc ?_ _)))))).mono ?_; rintro x _ ⟨rfl, y, rfl⟩)
        | (go_at_call 17; with_reducible refine (above (ref9Unquote_is d q e q0 q1 s h1m F is er HF _)).mono ?_; rintro x _ ⟨rfl, y, rfl⟩)
        | (go_at_call 9; with_reducible refine (above (HAW.out _ (hm.out.up (by (repeat (first | exact Below.refl _ _ | refine up_onto ?_ _ | refine up_alloc ?_ _)))))).mono ?_; rintro x _ ⟨rfl, y, rfl⟩))
      go_ret
      exact ⟨rfl, (by (repeat (first | exact Below.refl _ _ | refine up_onto ?_ _ | refine up_alloc ?_ _)))⟩
  · go_enter Tryd.func4, Tryd.ntmps4
    go_wp2_with (go_at_call 9; with_reducible refine (above (HAW.out _ (hm.out.up (by (repeat (first | exact Below.refl _ _ | refine up_onto ?_ _ | refine up_alloc ?_ _)))))).mono ?_; rintro x _ ⟨rfl, y, rfl⟩)
    go_ret
    exact ⟨rfl, (by (repeat (first | exact Below.refl _ _ | refine up_onto ?_ _ | refine up_alloc ?_ _)))⟩
end Go.Proofs.YtngdmkhinebbdaaDoor

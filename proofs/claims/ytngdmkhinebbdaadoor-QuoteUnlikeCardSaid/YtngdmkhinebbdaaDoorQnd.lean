/- Layer 9: the walk of QuoteUnlike over the program's contracts. -/
import Derived.Test.YtngdmkhinebbdaaDoorQnc
namespace Go.Proofs.YtngdmkhinebbdaaDoor
open Go.ChangeShapes Go.WideShapes Go.ChangeAt Go.RowKit
set_option linter.unusedVariables false
set_option linter.unusedSimpArgs false

section
variable {d q : Int}
theorem quoO_inj (q0 : 0 ≤ q) (q1 : q ≤ 255) {s t : ByteArray} (h : quoO q s = quoO q t) : s = t := by
  have h1 := congrArg bl h
  rw [bl_quoO q0 q1, bl_quoO q0 q1] at h1
  exact bl_inj (quoL_inj h1)
theorem quoO_has (q0 : 0 ≤ q) (q1 : q ≤ 255) (s : ByteArray) : q ∈ bl (quoO q s) := by rw [bl_quoO q0 q1]; exact List.mem_cons_self ..
theorem wriO_inj (q0 : 0 ≤ q) (q1 : q ≤ 255) {s t : ByteArray} {al fi : Bool} (h : wriO d q s al fi = wriO d q t al fi) : s = t := by
  unfold wriO at h
  split at h
  · rename_i hs
    split at h
    · exact h
    · exfalso
      exact hasL_not (why0 hs).2.1 (h ▸ quoO_has q0 q1 t)
  · split at h
    · rename_i ht
      exfalso
      exact hasL_not (why0 ht).2.1 (h ▸ quoO_has q0 q1 s)
    · exact quoO_inj q0 q1 h
theorem unqO_quoO (q0 : 0 ≤ q) (q1 : q ≤ 255) (s : ByteArray) : unqO d q (quoO q s) = (s, 1, 0) := by
  rw [unqO_quo (g := bl s) (by rw [bl_quoO q0 q1]; rfl) (bl_quoO q0 q1 s), toBA_bl']
theorem unqO_wriO (q0 : 0 ≤ q) (q1 : q ≤ 255) (s : ByteArray) (al fi : Bool) : ∃ k, unqO d q (wriO d q s al fi) = (s, k, 0) := by
  unfold wriO
  split
  · rename_i h
    obtain ⟨h1, h2, h3, h4⟩ := why0 h
    refine ⟨0, ?_⟩
    have hh : ¬ (bl s).head? = some q := fun h0 => by
      cases hb : bl s with
      | nil => rw [hb] at h0; cases h0
      | cons x r =>
        rw [hb] at h0
        simp at h0
        exact hasL_not h2 (by rw [hb, h0]; exact List.mem_cons_self ..)
    rw [unqO_bare hh (v := false) (by rw [h1, h2, h3, h4]; rfl)]
    simp
  · exact ⟨1, unqO_quoO q0 q1 s⟩
end
theorem eq_same {a b s t : ByteArray} (h : a = b ↔ s = t) : (a.toList == b.toList) = (s.toList == t.toList) := by
  rw [str_eq, str_eq]
  rw [Bool.eq_iff_iff, decide_eq_true_eq, decide_eq_true_eq]
  exact ⟨fun h1 => congrArg bl (h.1 (bl_inj h1)), fun h1 => congrArg bl (h.2 (bl_inj h1))⟩

set_option maxRecDepth 100000 in
set_option maxHeartbeats 1600000 in
theorem quoteUnlike_walk (hQ : Hid QuotedSays) (hWr : Hid WrittenSays) (hAw : Hid AwakeSays9) (d q e : Int) (s t : ByteArray) (w : World) (hm : Hid (MaxInt w)) (hd : (Lit.int .u8 d).wf = true) (hq : (Lit.int .u8 q).wf = true) (_ : (Lit.int .i64 e).wf = true) (hs : s.size ≤ maxLen) (ht : t.size ≤ maxLen) :
    Calls Tryd.prog 6 #[.agg #[.int .u8 d, .int .u8 q, .int .i64 e], .string s, .string t] w fun x w' => x = .returned (.bool true) ∧ Below w.heap.size w w' := by
  obtain ⟨d0, d1⟩ := bounds_u8 hd
  obtain ⟨q0, q1⟩ := bounds_u8 hq
  have hs0 : s.size ≤ 9223372036854775807 := hs
  have ht0 : t.size ≤ 9223372036854775807 := ht
  have HAW := Lib.hid (show ∀ w : World, MaxInt w → Calls Tryd.prog 9 #[] w fun x w' => x = .returned (.bool true) ∧ Below w.heap.size w w' from fun w h => hAw.out w h)
  obtain ⟨v, hv⟩ : ∃ v, rightB d q e = v := ⟨_, rfl⟩
  have HR := Lib.hid (show rightR d q e = v by rw [right_eq d q e d0 q0]; exact hv)
  clear hd hq hAw
  by_cases h200 : s.size ≤ 200
  · by_cases t200 : t.size ≤ 200
    · have g2 : decide (200 < t.size) = false := decide_eq_false (by omega)
      cases v
      · clear hv
        go_enter Tryd.func6, Tryd.ntmps6
        go_wp2_with (first
          | (go_at_call 8; with_reducible refine (above (ref_any d q e d0 d1 q0 q1 _)).mono ?_; rintro x _ ⟨rfl, y, rfl⟩)
          | (go_at_call 7; with_reducible refine (above (refRight_is d q e _ HR _)).mono ?_; rintro x _ ⟨rfl, y, rfl⟩)
          | (go_at_call 9; with_reducible refine (above (HAW.out _ (hm.out.up (by (repeat (first | exact Below.refl _ _ | refine up_onto ?_ _ | refine up_alloc ?_ _)))))).mono ?_; rintro x _ ⟨rfl, y, rfl⟩))
        go_ret
        exact ⟨rfl, (by (repeat (first | exact Below.refl _ _ | refine up_onto ?_ _ | refine up_alloc ?_ _)))⟩
      · obtain ⟨O, hO⟩ : ∃ O, quoO q s = O := ⟨_, rfl⟩
        obtain ⟨O2, hO2⟩ : ∃ O, quoO q t = O := ⟨_, rfl⟩
        obtain ⟨P, hP⟩ : ∃ P, wriO d q s true true = P := ⟨_, rfl⟩
        obtain ⟨P2, hP2⟩ : ∃ P, wriO d q t true true = P := ⟨_, rfl⟩
        have HQ := Lib.hid (fun w => hQ.out d q e s w d0 d1 q0 q1 hv (by omega))
        have HQ2 := Lib.hid (fun w => hQ.out d q e t w d0 d1 q0 q1 hv (by omega))
        have HW := Lib.hid (fun w => hWr.out d q e s true true w d0 d1 q0 q1 hv (by omega))
        have HW2 := Lib.hid (fun w => hWr.out d q e t true true w d0 d1 q0 q1 hv (by omega))
        rw [hO] at HQ
        rw [hO2] at HQ2
        rw [hP] at HW
        rw [hP2] at HW2
        have e1 : (O.toList == O2.toList) = (s.toList == t.toList) := eq_same ⟨fun h => quoO_inj q0 q1 (hO.trans (h.trans hO2.symm)), fun h => by rw [← hO, ← hO2, h]⟩
        have e2 : (P.toList == P2.toList) = (s.toList == t.toList) := eq_same ⟨fun h => wriO_inj q0 q1 (hP.trans (h.trans hP2.symm)), fun h => by rw [← hP, ← hP2, h]⟩
        obtain ⟨b, hb⟩ : ∃ b, (s.toList == t.toList) = b := ⟨_, rfl⟩
        rw [hb] at e1 e2
        have eb : (b == b) = true := by simp
        clear hv hO hO2 hP hP2
        go_enter Tryd.func6, Tryd.ntmps6
        go_upto_region 3 with (first
          | (go_at_call 8; with_reducible refine (above (ref_any d q e d0 d1 q0 q1 _)).mono ?_; rintro x _ ⟨rfl, y, rfl⟩)
          | (go_at_call 7; with_reducible refine (above (refRight_is d q e _ HR _)).mono ?_; rintro x _ ⟨rfl, y, rfl⟩))
        generalize hy4 : onto (w.alloc (.cells #[.int .u8 d, .int .u8 q, .int .i64 e] 23)) _ = W1
        have HB1 := Lib.hid (show Below w.heap.size w W1 by rw [← hy4]; exact up_onto (up_alloc (Below.refl _ _) _) _)
        have HD1 := Lib.hid (show StB W1 w.heap.size 23 #[.int .u8 d, .int .u8 q, .int .i64 e] by rw [← hy4]; exact (StB.made _ rfl _ _).below (onto_below _ _))
        clear hy4
        have f0 : ∀ z, (onto W1 z).cell? ⟨w.heap.size, 0, none⟩ = some (.int .u8 d) := fun z => mem_cell (onto_below W1 z) (HD1.out.cell 0)
        have f1 : ∀ z, (onto W1 z).cell? ⟨w.heap.size, 1, none⟩ = some (.int .u8 q) := fun z => mem_cell (onto_below W1 z) (HD1.out.cell 1)
        have f2 : ∀ z, (onto W1 z).cell? ⟨w.heap.size, 2, none⟩ = some (.int .i64 e) := fun z => mem_cell (onto_below W1 z) (HD1.out.cell 2)
        have fm : ∀ z, MaxInt (onto W1 z) := fun z => hm.out.up (up_onto HB1.out z)
        refine wp_region_onto (by kernel_rfl) (by kernel_rfl) ?_
        repeat (go_big_quiet_step (first
          | (with_reducible exact calls_onto (HQ.out _))
          | (with_reducible exact calls_onto (HQ2.out _))
          | (with_reducible exact calls_onto (HW.out _))
          | (with_reducible exact calls_onto (HW2.out _))
          | (with_reducible exact calls_onto (HAW.out _ (fm _)))))
        refine wpQuiet_nil ?_
        intro _ hw'
        obtain ⟨x1, hw''⟩ := hw'
        subst hw''
        go_wp2_with fail
        go_ret
        exact ⟨rfl, up_onto HB1.out _⟩
    · have g2 : decide (200 < t.size) = true := decide_eq_true (by omega)
      go_enter Tryd.func6, Tryd.ntmps6
      go_wp2_with (go_at_call 9; with_reducible refine (above (HAW.out _ (hm.out.up (by (repeat (first | exact Below.refl _ _ | refine up_onto ?_ _ | refine up_alloc ?_ _)))))).mono ?_; rintro x _ ⟨rfl, y, rfl⟩)
      go_ret
      exact ⟨rfl, (by (repeat (first | exact Below.refl _ _ | refine up_onto ?_ _ | refine up_alloc ?_ _)))⟩
  · go_enter Tryd.func6, Tryd.ntmps6
    go_wp2_with (go_at_call 9; with_reducible refine (above (HAW.out _ (hm.out.up (by (repeat (first | exact Below.refl _ _ | refine up_onto ?_ _ | refine up_alloc ?_ _)))))).mono ?_; rintro x _ ⟨rfl, y, rfl⟩)
    go_ret
    exact ⟨rfl, (by (repeat (first | exact Below.refl _ _ | refine up_onto ?_ _ | refine up_alloc ?_ _)))⟩
end Go.Proofs.YtngdmkhinebbdaaDoor

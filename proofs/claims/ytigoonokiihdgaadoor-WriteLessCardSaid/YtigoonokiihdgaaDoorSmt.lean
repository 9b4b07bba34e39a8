/- The document's SameTable at any two tables. -/
import Derived.Test.YtigoonokiihdgaaDoorSmb
import Derived.Test.YtigoonokiihdgaaDoorZk
namespace Go.Proofs.YtigoonokiihdgaaDoor
open Go.ChangeShapes Go.WideShapes Go.ChangeAt Go.RowKit
set_option linter.unusedVariables false
set_option linter.unusedSimpArgs false

theorem tab_eq_at {l r : List (List ByteArray)} (hlen : l.length = r.length) (h : ∀ j, j < l.length → l[j]? = r[j]?) : l = r := by
  refine List.ext_getElem? fun j => ?_
  by_cases hj : j < l.length
  · exact h j hj
  · rw [List.getElem?_eq_none (by omega), List.getElem?_eq_none (by omega)]
set_option maxHeartbeats 1600000 in
theorem sameTab_any (A B : Option Addr) (n m c d : Nat) (V U : List Value) (l r : List (List ByteArray)) (w : World) (hl : Hid (TabIn w A n V l)) (hr : Hid (TabIn w B m U r)) (hm : m ≤ 1000000) (hf : Hid (∀ x ∈ r, x.length ≤ 1000000)) (v : Bool) (hv : Hid (decide (l = r) = v)) :
    Calls Tryd.prog 21 #[.slice A n c, .slice B m d] w fun e w' => e = .returned (.bool v) ∧ Below w.heap.size w w' := by
  have HL := Lib.hid hl.out.len
  have HM := Lib.hid hr.out.len
  by_cases hnm : n = m
  · subst hnm
    go_enter Tryd.func21, Tryd.ntmps21
    go_wp2_with fail
    go_loopw [13] (fun i wr => ∃ k : Nat, k ≤ n ∧ i = .int .i64 k ∧ Hid (∀ j, j < k → l[j]? = r[j]?) ∧ Hid (∃ y, wr = onto w y)) (fun i _ => n - (intOf i).toNat)
    case atStart => exact ⟨0, Nat.zero_le _, rfl, Lib.hid (fun j hj => by omega), Lib.hid (onto_self w)⟩
    case round =>
      obtain ⟨k, hk, rfl, HE, HY⟩ := hrel
      by_cases hlt : k < n
      · have HYW := Lib.hid (show Below w.heap.size w wr by obtain ⟨y, rfl⟩ := HY.out; exact onto_below w y)
        obtain ⟨W, hW⟩ : ∃ W, W = wr := ⟨_, rfl⟩
        subst hW
        obtain ⟨x, hx⟩ : ∃ x, l[k]? = some x := ⟨_, List.getElem?_eq_getElem (by rw [HL.out]; exact hlt)⟩
        obtain ⟨z, hz⟩ : ∃ z, r[k]? = some z := ⟨_, List.getElem?_eq_getElem (by rw [HM.out]; exact hlt)⟩
        obtain ⟨ca, X, a, rfl, hca, hra⟩ := (hl.out.below HYW.out).row hx
        obtain ⟨cb, Z, b, rfl, hcb, hrb⟩ := (hr.out.below HYW.out).row hz
        have za : ∀ y, (onto W y).cell? (ca.add k) = some (.slice X x.length a) := fun y => mem_cell (onto_below W y) hca
        have zb : ∀ y, (onto W y).cell? (cb.add k) = some (.slice Z z.length b) := fun y => mem_cell (onto_below W y) hcb
        have HRA := Lib.hid hra
        have HRB := Lib.hid hrb
        obtain ⟨s, hs⟩ : ∃ s, decide (x = z) = s := ⟨_, rfl⟩
        have HS := Lib.hid hs
        have HX := Lib.hid hx
        have HZ := Lib.hid hz
        have hzl : z.length ≤ 1000000 := hf.out z (List.mem_of_getElem? hz)
        obtain ⟨xl, hxl⟩ : ∃ xl, x.length = xl := ⟨_, rfl⟩
        obtain ⟨zl, hzl'⟩ : ∃ zl, z.length = zl := ⟨_, rfl⟩
        have hsame : ∀ y, Calls Tryd.prog 36 #[.slice X xl a, .slice Z zl b] (onto W y) fun e w' => e = .returned (.bool s) ∧ Below (onto W y).heap.size (onto W y) w' := fun y => by
          rw [← hxl, ← hzl']; exact same_any X Z x.length z.length a b x z (onto W y) (Lib.hid (HRA.out.below (onto_below W y))) (Lib.hid (HRB.out.below (onto_below W y))) hzl s HS
        rw [hxl] at za
        rw [hzl'] at zb
        clear hx hz hra hrb hca hcb HY hxl hzl' hzl
        cases s
        · have hfalse : v = false := by
            rw [← hv.out]; simp; rintro rfl
            have h1 := HX.out.symm.trans HZ.out
            have h2 := HS.out
            simp only [decide_eq_false_iff_not] at h2
            exact h2 (by injection h1)
          have HFV := Lib.hid hfalse
          clear hs hfalse
          go_wp2_with fail
          refine wp_region_onto (by kernel_rfl) (by kernel_rfl) ?_
          repeat (go_big_quiet_step ((go_at_call 36; with_reducible exact calls_onto (hsame _))))
          refine wpQuiet_nil ?_
          intro _ hw'
          obtain ⟨x1, hw''⟩ := hw'
          subst hw''
          go_wp2_with fail
          go_ret
          exact ⟨ret_bool HFV.out.symm, up_onto HYW.out x1⟩
        · have HE' := Lib.hid (show ∀ j, j < k + 1 → l[j]? = r[j]? from fun j hj => by
            by_cases h : j < k
            · exact HE.out j h
            · obtain rfl : j = k := by omega
              rw [HX.out, HZ.out, of_decide_eq_true HS.out])
          clear hs
          go_wp2_with fail
          refine wp_region_onto (by kernel_rfl) (by kernel_rfl) ?_
          repeat (go_big_quiet_step ((go_at_call 36; with_reducible exact calls_onto (hsame _))))
          refine wpQuiet_nil ?_
          intro _ hw'
          obtain ⟨x1, hw''⟩ := hw'
          subst hw''
          go_wp2_with fail
          go_roundw
          case rel => exact ⟨k + 1, by omega, by go_num, HE', Lib.hid (onto_of (up_onto HYW.out x1))⟩
          case measure => simp [intOf]; omega
      · obtain rfl : k = n := by omega
        obtain ⟨y, rfl⟩ := HY.out
        have htrue : v = true := by
          rw [← hv.out]
          exact decide_eq_true (tab_eq_at (by rw [HL.out, HM.out]) (fun j hj => HE.out j (by rw [HL.out] at hj; exact hj)))
        clear hlt HY
        go_wp2_with fail
        go_ret
        exact ⟨ret_bool htrue.symm, onto_below w y⟩
  · have hne : ((n : Int) == (m : Int)) = false := by rw [beq_eq_false_iff_ne]; omega
    have hfalse : v = false := by
      rw [← hv.out]; simp; rintro rfl
      exact hnm (HL.out.symm.trans HM.out)
    go_enter Tryd.func21, Tryd.ntmps21
    go_wp2_with fail
    go_ret
    exact ⟨ret_bool hfalse.symm, Below.refl _ _⟩
end Go.Proofs.YtigoonokiihdgaaDoor

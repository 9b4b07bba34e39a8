/- The document's Same at any two lists. The document's SameTable at any two tables. Layer 6: the contract of the document's own Parse. The document's Same at any two lists; its Parse within wide limits. -/
import Derived.Test.YtoeanbfemgmgnaaGreatDoorRows
import Derived.LoopTactic
import Derived.Test.YtoeanbfemgmgnaaGreatDoorZk
import Derived.Test.YtoeanbfemgmgnaaGreatDoorZp
import Derived.Test.YtoeanbfemgmgnaaGreatDoorZr
import Derived.Test.YtoeanbfemgmgnaaGreatDoorZn
import Derived.Deep.DeepCutAuto
import Derived.Deep.CutRange
import Derived.Deep.CutBlock
namespace Go.Proofs.YtoeanbfemgmgnaaGreatDoor
open Go.ChangeShapes Go.WideShapes Go.ChangeAt Go.RowKit
set_option linter.unusedVariables false
set_option linter.unusedSimpArgs false

theorem list_eq_at {l r : List ByteArray} (hlen : l.length = r.length) (h : ∀ j, j < l.length → l[j]? = r[j]?) : l = r := by
  refine List.ext_getElem? fun j => ?_
  by_cases hj : j < l.length
  · exact h j hj
  · rw [List.getElem?_eq_none (by omega), List.getElem?_eq_none (by omega)]
set_option maxHeartbeats 1600000 in
theorem same_any (A B : Option Addr) (n m c d : Nat) (l r : List ByteArray) (w : World) (ha : Hid (SlIn w A n (strs l))) (hb : Hid (SlIn w B m (strs r))) (hm : m ≤ 1000000) (v : Bool) (hv : Hid (decide (l = r) = v)) :
    Calls Tryz.prog 29 #[.slice A n c, .slice B m d] w fun e w' => e = .returned (.bool v) ∧ Below w.heap.size w w' := by
  have HL := Lib.hid ha.out.lenS
  have HM := Lib.hid hb.out.lenS
  by_cases hnm : n = m
  · subst hnm
    go_enter Tryz.func29, Tryz.ntmps29
    go_wp2_with fail
    go_loopw [13] (fun i wr => ∃ k : Nat, k ≤ n ∧ i = .int .i64 k ∧ Hid (∀ j, j < k → l[j]? = r[j]?) ∧ Hid (∃ y, wr = onto w y)) (fun i _ => n - (intOf i).toNat)
    case atStart => exact ⟨0, Nat.zero_le _, rfl, Lib.hid (fun j hj => by omega), Lib.hid (onto_self w)⟩
    case round =>
      obtain ⟨k, hk, rfl, HE, HY⟩ := hrel
      obtain ⟨y, rfl⟩ := HY.out
      clear HY
      by_cases hlt : k < n
      · obtain ⟨s, hs⟩ : ∃ s, l[k]? = some s := ⟨_, List.getElem?_eq_getElem (by rw [HL.out]; exact hlt)⟩
        obtain ⟨t, ht⟩ : ∃ t, r[k]? = some t := ⟨_, List.getElem?_eq_getElem (by rw [HM.out]; exact hlt)⟩
        have HS := Lib.hid hs
        have HT := Lib.hid ht
        obtain ⟨a, rfl, hca⟩ := ha.out.at_ (strs_get hs)
        obtain ⟨b, rfl, hcb⟩ := hb.out.at_ (strs_get ht)
        have za : ∀ z, (onto w z).cell? (a.add k) = some (.string s) := fun z => (mem_cell (onto_below w z) hca)
        have zb : ∀ z, (onto w z).cell? (b.add k) = some (.string t) := fun z => (mem_cell (onto_below w z) hcb)
        clear hs ht hca hcb
        by_cases hst : s = t
        · subst hst
          have ne : (s.toList == s.toList) = true := by simp
          go_wp2_with fail
          refine wp_region_onto (by kernel_rfl) (by kernel_rfl) ?_
          repeat (go_big_quiet_step (fail))
          refine wpQuiet_nil ?_
          intro _ hw'
          obtain ⟨x1, hw''⟩ := hw'
          subst hw''
          go_wp2_with fail
          go_roundw
          case rel => exact ⟨k + 1, by omega, by go_num, Lib.hid (fun j hj => by
            by_cases h : j < k
            · exact HE.out j h
            · obtain rfl : j = k := by omega
              rw [HS.out, HT.out]), Lib.hid ⟨y.up x1, rfl⟩⟩
          case measure => simp [intOf]; omega
        · have ne : (s.toList == t.toList) = false := by rw [str_eq]; exact decide_eq_false fun h => hst (bl_inj h)
          have hfalse : v = false := by
            rw [← hv.out]; simp; rintro rfl
            have := HS.out.symm.trans HT.out
            exact hst (by injection this)
          go_wp2_with fail
          refine wp_region_onto (by kernel_rfl) (by kernel_rfl) ?_
          repeat (go_big_quiet_step (fail))
          refine wpQuiet_nil ?_
          intro _ hw'
          obtain ⟨x1, hw''⟩ := hw'
          subst hw''
          go_wp2_with fail
          go_ret
          exact ⟨ret_bool hfalse.symm, up_onto (onto_below w _) _⟩
      · obtain rfl : k = n := by omega
        have htrue : v = true := by
          rw [← hv.out]
          exact decide_eq_true (list_eq_at (by rw [HL.out, HM.out]) (fun j hj => HE.out j (by rw [HL.out] at hj; exact hj)))
        clear hlt
        go_wp2_with fail
        go_ret
        exact ⟨ret_bool htrue.symm, onto_below w y⟩
  · have hne : ((n : Int) == (m : Int)) = false := by rw [beq_eq_false_iff_ne]; omega
    have hfalse : v = false := by
      rw [← hv.out]; simp; rintro rfl
      exact hnm (HL.out.symm.trans HM.out)
    go_enter Tryz.func29, Tryz.ntmps29
    go_wp2_with fail
    go_ret
    exact ⟨ret_bool hfalse.symm, Below.refl _ _⟩

end Go.Proofs.YtoeanbfemgmgnaaGreatDoor

namespace Go.Proofs.YtoeanbfemgmgnaaGreatDoor
open Go.ChangeShapes Go.WideShapes Go.ChangeAt Go.RowKit
set_option linter.unusedVariables false
set_option linter.unusedSimpArgs false

theorem tab_eq_at {l r : List (List ByteArray)} (hlen : l.length = r.length) (h : ∀ j, j < l.length → l[j]? = r[j]?) : l = r := by
  refine List.ext_getElem? fun j => ?_
  by_cases hj : j < l.length
  · exact h j hj
  · rw [List.getElem?_eq_none (by omega), List.getElem?_eq_none (by omega)]
set_option maxHeartbeats 1600000 in
theorem sameTab_any (A B : Option Addr) (n m c d : Nat) (V U : List Value) (l r : List (List ByteArray)) (w : World) (hl : Hid (TabIn w A n V l)) (hr : Hid (TabIn w B m U r)) (hm : m ≤ 1000000) (hf : Hid (∀ x ∈ r, x.length ≤ 1000000)) (v : Bool) (hv : Hid (decide (l = r) = v)) :
    Calls Tryz.prog 15 #[.slice A n c, .slice B m d] w fun e w' => e = .returned (.bool v) ∧ Below w.heap.size w w' := by
  have HL := Lib.hid hl.out.len
  have HM := Lib.hid hr.out.len
  by_cases hnm : n = m
  · subst hnm
    go_enter Tryz.func15, Tryz.ntmps15
    go_wp2_with fail
    go_loopw [13] (fun i wr => ∃ k : Nat, k ≤ n ∧ i = .int .i64 k ∧ Hid (∀ j, j < k → l[j]? = r[j]?) ∧ Hid (∃ y, wr = onto w y)) (fun i _ => n - (intOf i).toNat)
    case atStart => exact ⟨0, Nat.zero_le _, rfl, Lib.hid (fun j hj => by omega), Lib.hid (onto_self w)⟩
    case round =>
      obtain ⟨k, hk, rfl, HE, HY⟩ := hrel
      by_cases hlt : k < n
      · have HYW := Lib.hid (show Below w.heap.size w wr by obtain ⟨y, rfl⟩ := HY.out; exact onto_below w y)
        obtain ⟨W, hW⟩ : ∃ W, W = wr := ⟨_, rfl⟩
        subst hW
        obtain ⟨x, hx⟩ : ∃ x, l[k]? = some x := ⟨_, List.getElem?_eq_getElem (by rw [HL.out]; exact hlt)⟩
        obtain ⟨z, hz⟩ : ∃ z, r[k]? = some z := ⟨_, List.getElem?_eq_getElem (by rw [HM.out]; exact hlt)⟩
        obtain ⟨ca, X, a, rfl, hca, hra⟩ := (hl.out.below HYW.out).row hx
        obtain ⟨cb, Z, b, rfl, hcb, hrb⟩ := (hr.out.below HYW.out).row hz
        have za : ∀ y, (onto W y).cell? (ca.add k) = some (.slice X x.length a) := fun y => mem_cell (onto_below W y) hca
        have zb : ∀ y, (onto W y).cell? (cb.add k) = some (.slice Z z.length b) := fun y => mem_cell (onto_below W y) hcb
        have HRA := Lib.hid hra
        have HRB := Lib.hid hrb
        obtain ⟨s, hs⟩ : ∃ s, decide (x = z) = s := ⟨_, rfl⟩
        have HS := Lib.hid hs
        have HX := Lib.hid hx
        have HZ := Lib.hid hz
        have hzl : z.length ≤ 1000000 := hf.out z (List.mem_of_getElem? hz)
        obtain ⟨xl, hxl⟩ : ∃ xl, x.length = xl := ⟨_, rfl⟩
        obtain ⟨zl, hzl'⟩ : ∃ zl, z.length = zl := ⟨_, rfl⟩
        have hsame : ∀ y, Calls Tryz.prog 29 #[.slice X xl a, .slice Z zl b] (onto W y) fun e w' => e = .returned (.bool s) ∧ Below (onto W y).heap.size (onto W y) w' := fun y => by
          rw [← hxl, ← hzl']; exact same_any X Z x.length z.length a b x z (onto W y) (Lib.hid (HRA.out.below (onto_below W y))) (Lib.hid (HRB.out.below (onto_below W y))) hzl s HS
        rw [hxl] at za
        rw [hzl'] at zb
        clear hx hz hra hrb hca hcb HY hxl hzl' hzl
        cases s
        · have hfalse : v = false := by
            rw [← hv.out]; simp; rintro rfl
            have h1 := HX.out.symm.trans HZ.out
            have h2 := HS.out
            simp only [decide_eq_false_iff_not] at h2
            exact h2 (by injection h1)
          have HFV := Lib.hid hfalse
          clear hs hfalse
          go_wp2_with fail
          refine wp_region_onto (by kernel_rfl) (by kernel_rfl) ?_
          repeat (go_big_quiet_step ((go_at_call 29; with_reducible exact calls_onto (hsame _))))
          refine wpQuiet_nil ?_
          intro _ hw'
          obtain ⟨x1, hw''⟩ := hw'
          subst hw''
          go_wp2_with fail
          go_ret
          exact ⟨ret_bool HFV.out.symm, up_onto HYW.out x1⟩
        · have HE' := Lib.hid (show ∀ j, j < k + 1 → l[j]? = r[j]? from fun j hj => by
            by_cases h : j < k
            · exact HE.out j h
            · obtain rfl : j = k := by omega
              rw [HX.out, HZ.out, of_decide_eq_true HS.out])
          clear hs
          go_wp2_with fail
          refine wp_region_onto (by kernel_rfl) (by kernel_rfl) ?_
          repeat (go_big_quiet_step ((go_at_call 29; with_reducible exact calls_onto (hsame _))))
          refine wpQuiet_nil ?_
          intro _ hw'
          obtain ⟨x1, hw''⟩ := hw'
          subst hw''
          go_wp2_with fail
          go_roundw
          case rel => exact ⟨k + 1, by omega, by go_num, HE', Lib.hid (onto_of (up_onto HYW.out x1))⟩
          case measure => simp [intOf]; omega
      · obtain rfl : k = n := by omega
        obtain ⟨y, rfl⟩ := HY.out
        have htrue : v = true := by
          rw [← hv.out]
          exact decide_eq_true (tab_eq_at (by rw [HL.out, HM.out]) (fun j hj => HE.out j (by rw [HL.out] at hj; exact hj)))
        clear hlt HY
        go_wp2_with fail
        go_ret
        exact ⟨ret_bool htrue.symm, onto_below w y⟩
  · have hne : ((n : Int) == (m : Int)) = false := by rw [beq_eq_false_iff_ne]; omega
    have hfalse : v = false := by
      rw [← hv.out]; simp; rintro rfl
      exact hnm (HL.out.symm.trans HM.out)
    go_enter Tryz.func15, Tryz.ntmps15
    go_wp2_with fail
    go_ret
    exact ⟨ret_bool hfalse.symm, Below.refl _ _⟩
end Go.Proofs.YtoeanbfemgmgnaaGreatDoor

namespace Go.Proofs.YtoeanbfemgmgnaaGreatDoor
open Go.ChangeShapes Go.WideShapes Go.ChangeAt Go.RowKit
set_option linter.unusedVariables false
set_option linter.unusedSimpArgs false

theorem RowsAt.toIn {w : World} {base : Nat} {V : List Value} {rs : List (List ByteArray)} {no : Option Nat} (h : RowsAt w base 9 V rs no) : RowsIn w V rs := ⟨h.1, fun j x hx => by
  obtain ⟨A, a, h1, h2, _⟩ := h.2 j x hx
  exact ⟨A, a, h1, h2.toIn⟩⟩

theorem RowsIn.snoc {W : World} {V : List Value} {rs : List (List ByteArray)} (h : RowsIn W V rs) {A : Option Addr} {a : Nat} {x : List ByteArray} (ho : SlIn W A x.length (strs x)) : RowsIn W (V ++ [.slice A x.length a]) (rs ++ [x]) := by
  refine ⟨by simp [h.1], fun j y hy => ?_⟩
  by_cases hj : j < rs.length
  · rw [List.getElem?_append_left hj] at hy
    obtain ⟨B, b, hv, h2⟩ := h.2 j y hy
    exact ⟨B, b, by rw [List.getElem?_append_left (by rw [h.1]; exact hj)]; exact hv, h2⟩
  · rw [List.getElem?_append_right (by omega)] at hy
    have : j = rs.length := by
      have := (List.getElem?_eq_some_iff.1 hy).1
      simp at this; omega
    subst this
    simp at hy; subst hy
    exact ⟨A, a, by rw [← h.1]; simp, ho⟩
end Go.Proofs.YtoeanbfemgmgnaaGreatDoor

namespace Go.Proofs.YtoeanbfemgmgnaaGreatDoor
open Go.ChangeShapes Go.WideShapes Go.ChangeAt Go.RowKit
set_option linter.unusedVariables false
set_option linter.unusedSimpArgs false

theorem GotOk.mono {G : Got} {n m : Nat} (h : GotOk G n) (hm : n ≤ m) : GotOk G m := ⟨h.k, fun p hp => Nat.le_trans (h.e p hp) hm, by have := h.len; omega, Nat.le_trans h.a hm, h.z⟩
theorem right_dia {d q e : Int} (h : rightB d q e = true) : Dia d q e := by
  simp [rightB, okB] at h
  exact ⟨by simpa using h.2.2.1, by omega, by omega, by omega, by omega⟩
end Go.Proofs.YtoeanbfemgmgnaaGreatDoor

/- The document's Same at any two lists. -/
import Derived.Test.YtigoonokiihdgaaDoorRows
import Derived.LoopTactic
import Derived.Test.YtigoonokiihdgaaDoorZk
import Derived.Test.YtigoonokiihdgaaDoorZp
namespace Go.Proofs.YtigoonokiihdgaaDoor
open Go.ChangeShapes Go.WideShapes Go.ChangeAt Go.RowKit
set_option linter.unusedVariables false
set_option linter.unusedSimpArgs false

theorem list_eq_at {l r : List ByteArray} (hlen : l.length = r.length) (h : ∀ j, j < l.length → l[j]? = r[j]?) : l = r := by
  refine List.ext_getElem? fun j => ?_
  by_cases hj : j < l.length
  · exact h j hj
  · rw [List.getElem?_eq_none (by omega), List.getElem?_eq_none (by omega)]
set_option maxHeartbeats 1600000 in
theorem same_any (A B : Option Addr) (n m c d : Nat) (l r : List ByteArray) (w : World) (ha : Hid (SlIn w A n (strs l))) (hb : Hid (SlIn w B m (strs r))) (hm : m ≤ 1000000) (v : Bool) (hv : Hid (decide (l = r) = v)) :
    Calls Tryd.prog 36 #[.slice A n c, .slice B m d] w fun e w' => e = .returned (.bool v) ∧ Below w.heap.size w w' := by
  have HL := Lib.hid ha.out.lenS
  have HM := Lib.hid hb.out.lenS
  by_cases hnm : n = m
  · subst hnm
    go_enter Tryd.func36, Tryd.ntmps36
    go_wp2_with fail
    go_loopw [13] (fun i wr => ∃ k : Nat, k ≤ n ∧ i = .int .i64 k ∧ Hid (∀ j, j < k → l[j]? = r[j]?) ∧ Hid (∃ y, wr = onto w y)) (fun i _ => n - (intOf i).toNat)
    case atStart => exact ⟨0, Nat.zero_le _, rfl, Lib.hid (fun j hj => by omega), Lib.hid (onto_self w)⟩
    case round =>
      obtain ⟨k, hk, rfl, HE, HY⟩ := hrel
      obtain ⟨y, rfl⟩ := HY.out
      clear HY
      by_cases hlt : k < n
      · obtain ⟨s, hs⟩ : ∃ s, l[k]? = some s := ⟨_, List.getElem?_eq_getElem (by rw [HL.out]; exact hlt)⟩
        obtain ⟨t, ht⟩ : ∃ t, r[k]? = some t := ⟨_, List.getElem?_eq_getElem (by rw [HM.out]; exact hlt)⟩
        have HS := Lib.hid hs
        have HT := Lib.hid ht
        obtain ⟨a, rfl, hca⟩ := ha.out.at_ (strs_get hs)
        obtain ⟨b, rfl, hcb⟩ := hb.out.at_ (strs_get ht)
        have za : ∀ z, (onto w z).cell? (a.add k) = some (.string s) := fun z => (mem_cell (onto_below w z) hca)
        have zb : ∀ z, (onto w z).cell? (b.add k) = some (.string t) := fun z => (mem_cell (onto_below w z) hcb)
        clear hs ht hca hcb
        by_cases hst : s = t
        · subst hst
          have ne : (s.toList == s.toList) = true := by simp
          go_wp2_with fail
          refine wp_region_onto (by kernel_rfl) (by kernel_rfl) ?_
          repeat (go_big_quiet_step (fail))
          refine wpQuiet_nil ?_
          intro _ hw'
          obtain ⟨x1, hw''⟩ := hw'
          subst hw''
          go_wp2_with fail
          go_roundw
          case rel => exact ⟨k + 1, by omega, by go_num, Lib.hid (fun j hj => by
            by_cases h : j < k
            · exact HE.out j h
            · obtain rfl : j = k := by omega
              rw [HS.out, HT.out]), Lib.hid ⟨y.up x1, rfl⟩⟩
          case measure => simp [intOf]; omega
        · have ne : (s.toList == t.toList) = false := by rw [str_eq]; exact decide_eq_false fun h => hst (bl_inj h)
          have hfalse : v = false := by
            rw [← hv.out]; simp; rintro rfl
            have := HS.out.symm.trans HT.out
            exact hst (by injection this)
          go_wp2_with fail
          refine wp_region_onto (by kernel_rfl) (by kernel_rfl) ?_
          repeat (go_big_quiet_step (fail))
          refine wpQuiet_nil ?_
          intro _ hw'
          obtain ⟨x1, hw''⟩ := hw'
          subst hw''
          go_wp2_with fail
          go_ret
          exact ⟨ret_bool hfalse.symm, up_onto (onto_below w _) _⟩
      · obtain rfl : k = n := by omega
        have htrue : v = true := by
          rw [← hv.out]
          exact decide_eq_true (list_eq_at (by rw [HL.out, HM.out]) (fun j hj => HE.out j (by rw [HL.out] at hj; exact hj)))
        clear hlt
        go_wp2_with fail
        go_ret
        exact ⟨ret_bool htrue.symm, onto_below w y⟩
  · have hne : ((n : Int) == (m : Int)) = false := by rw [beq_eq_false_iff_ne]; omega
    have hfalse : v = false := by
      rw [← hv.out]; simp; rintro rfl
      exact hnm (HL.out.symm.trans HM.out)
    go_enter Tryd.func36, Tryd.ntmps36
    go_wp2_with fail
    go_ret
    exact ⟨ret_bool hfalse.symm, Below.refl _ _⟩

/-- The second list is one text alone, made just now. -/
theorem same_lit (B : Option Addr) (n b : Nat) (l : List ByteArray) (s : ByteArray) (U : World) (h : Hid (SlIn U B n (strs l))) (v : Bool) (hv : Hid (decide (l = [s]) = v)) :
    Calls Tryd.prog 36 #[.slice B n b, .slice (some ⟨U.heap.size, 0, none⟩) 1 1] (U.alloc (.cells #[.string s] 9)) fun e w' => e = .returned (.bool v) ∧ Below U.heap.size U w' := by
  have hb : SlIn (U.alloc (.cells #[.string s] 9)) (some ⟨U.heap.size, 0, none⟩) 1 (strs [s]) := by
    refine ⟨rfl, fun j u hj => ?_⟩
    match j, hj with
    | 0, hj =>
      simp [strs] at hj
      subst hj
      exact ⟨_, rfl, (StB.made U rfl _ _).cell 0⟩
    | j + 1, hj => simp [strs] at hj
  refine (same_any B (some ⟨U.heap.size, 0, none⟩) n 1 b 1 l [s] _ (Lib.hid (h.out.alloc _)) (Lib.hid hb) (by omega) v hv).mono ?_
  rintro x w' ⟨rfl, h2⟩
  exact ⟨rfl, (up_alloc (Below.refl _ U) _).trans (h2.mono (by simp))⟩
end Go.Proofs.YtigoonokiihdgaaDoor

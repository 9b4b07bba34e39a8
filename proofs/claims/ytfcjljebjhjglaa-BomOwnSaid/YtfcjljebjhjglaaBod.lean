/- Layer 3: contracts of the program's: New, common, Clone, release, Held, Stripped. -/
import Derived.Test.YtfcjljebjhjglaaBoc
import Derived.Lib.SlBytesConst
import Derived.WalkSpells
namespace Go.Proofs.Ytfcjljebjhjglaa
open Go.ChangeShapes Go.WideShapes Go.ChangeAt Go.RowKit
set_option linter.unusedVariables false

def bomCells (t : List Int) : Array Value := #[.int .i64 (bomStage t), .int .i64 (bomHeld t), .bool (bomHad t)]

theorem bomNew_any (w : World) : Calls Try.prog 9 #[] w fun e w' => e = .returned (.pointer (some ⟨w.heap.size, 0, none⟩)) ∧ w.alloc (.cells (bomCells []) 42) = w' := by
  go_enter Try.func9, Try.ntmps9
  go_wp2_with fail
  go_ret
  exact ⟨rfl, rfl⟩

theorem bomHeld_any (g : Nat) (a b c : Value) (w : World) (h : StB w g 42 #[a, b, c]) : Calls Try.prog 12 #[.pointer (some ⟨g, 0, none⟩)] w fun e w' => e = .returned b ∧ w = w' := by
  have h1 := h.cell 1
  simp at h1
  go_enter Try.func12, Try.ntmps12
  go_wp2_with fail
  go_ret
  exact ⟨rfl, rfl⟩
theorem bomStripped_any (g : Nat) (a b c : Value) (w : World) (h : StB w g 42 #[a, b, c]) : Calls Try.prog 14 #[.pointer (some ⟨g, 0, none⟩)] w fun e w' => e = .returned c ∧ w = w' := by
  have h1 := h.cell 2
  simp at h1
  go_enter Try.func14, Try.ntmps14
  go_wp2_with fail
  go_ret
  exact ⟨rfl, rfl⟩

theorem take_more {l m : List Int} {k : Nat} {x : Int} (h : l.take k = m.take k) (h1 : l[k]? = some x) (h2 : m[k]? = some x) : l.take (k + 1) = m.take (k + 1) := by
  rw [List.take_add_one, List.take_add_one, h, h1, h2]

set_option maxHeartbeats 1600000 in
theorem common_any (t : ByteArray) (A : Option Addr) (n c : Nat) (l : List Int) (w : World) (hin : SlIn w A n (u8s l)) (ht : t.size ≤ maxLen) (hn : n ≤ maxLen) :
    Calls Try.prog 22 #[.string t, .slice A n c] w fun e w' => e = .returned (.int .i64 (cpl (bl t) l)) ∧ Below w.heap.size w w' := by
  have ht' : t.size ≤ 9223372036854775807 := ht
  have hn' : n ≤ 9223372036854775807 := hn
  have hl := hin.len8
  have HL := Lib.hid hl
  have HIN := Lib.hid hin
  clear hl hin
  go_enter Try.func22, Try.ntmps22
  go_wp2_with fail
  go_loopw [5] (fun i wr => ∃ k : Nat, k ≤ t.size ∧ k ≤ n ∧ i = .int .i64 k ∧ Hid ((bl t).take k = l.take k) ∧ ∃ y, wr = onto w y) (fun i _ => n - (intOf i).toNat)
  case atStart => exact ⟨0, by omega, by omega, rfl, Lib.hid rfl, onto_self w⟩
  case round =>
    obtain ⟨k, hk1, hk2, rfl, HK, y, rfl⟩ := hrel
    by_cases hlt : k < t.size
    · have d1 : decide ((k : Int) < t.size) = true := decide_eq_true (by omega)
      have d1' : decide (k < t.size) = true := decide_eq_true (by omega)
      by_cases hln : k < n
      · have d2 : decide ((k : Int) < n) = true := decide_eq_true (by omega)
        have d2' : decide (k < n) = true := decide_eq_true (by omega)
        obtain ⟨x, hx⟩ : ∃ x, l[k]? = some x := ⟨_, List.getElem?_eq_getElem (by rw [HL.out]; exact hln)⟩
        obtain ⟨a, rfl, hc⟩ := HIN.out.at_ (u8s_get hx)
        have hc' : ∀ z : Above w, (onto w z).cell? (a.add k) = some (.int .u8 x) := fun z => ((onto_below w z).cell (lt_of_cell hc)).trans hc
        have HX := Lib.hid hx
        clear hx hc
        by_cases he : ((t[k].toNat : Nat) : Int) = x
        · have HT := Lib.hid (take_more HK.out (bl_at t k hlt) (by rw [HX.out, he]))
          have heq : (((t[k].toNat : Nat) : Int) == x) = true := by simp [he]
          clear he HK HX
          go_wp2_with fail
          refine wp_region_onto (by kernel_rfl) (by kernel_rfl) ?_
          repeat (go_big_quiet_step (fail))
          refine wpQuiet_nil ?_
          intro _ hw'
          obtain ⟨zz, hw''⟩ := hw'
          subst hw''
          go_wp2_with fail
          go_roundw
          case rel => exact ⟨k + 1, by omega, by omega, by go_num, HT, _, rfl⟩
          case measure => simp [intOf]; omega
        · have ht2 := cpl_is (bl t) l k (by rw [bl_length]; omega) (by rw [HL.out]; omega) HK.out (fun _ _ => by rw [bl_at t k hlt, HX.out]; exact fun e => he (by injection e))
          have HT := Lib.hid ht2
          have heq : (((t[k].toNat : Nat) : Int) == x) = false := by simp [he]
          clear he HK HX ht2
          go_wp2_with fail
          refine wp_region_onto (by kernel_rfl) (by kernel_rfl) ?_
          repeat (go_big_quiet_step (fail))
          refine wpQuiet_nil ?_
          intro _ hw'
          obtain ⟨zz, hw''⟩ := hw'
          subst hw''
          go_wp2_with fail
          go_ret
          rw [HT.out]
          exact ⟨rfl, (by (repeat (first | exact Below.refl _ _ | refine up_alloc ?_ _ | refine up_onto ?_ _)))⟩
      · have hkn : k = n := by omega
        have ht2 := cpl_is (bl t) l k (by rw [bl_length]; omega) (by rw [HL.out]; omega) HK.out (fun _ h => by rw [HL.out] at h; omega)
        have HT := Lib.hid ht2
        have d2 : decide ((k : Int) < n) = false := decide_eq_false (by omega)
        have d2' : decide (k < n) = false := decide_eq_false (by omega)
        clear hkn ht2 HK
        go_wp2_with fail
        refine wp_region_onto (by kernel_rfl) (by kernel_rfl) ?_
        repeat (go_big_quiet_step (fail))
        refine wpQuiet_nil ?_
        intro _ hw'
        obtain ⟨zz, hw''⟩ := hw'
        subst hw''
        go_wp2_with fail
        go_ret
        rw [HT.out]
        exact ⟨rfl, (by (repeat (first | exact Below.refl _ _ | refine up_alloc ?_ _ | refine up_onto ?_ _)))⟩
    · have hkt : k = t.size := by omega
      have ht2 := cpl_is (bl t) l k (by rw [bl_length]; omega) (by rw [HL.out]; omega) HK.out (fun h _ => by rw [bl_length] at h; omega)
      have HT := Lib.hid ht2
      have d1 : decide ((k : Int) < t.size) = false := decide_eq_false (by omega)
      have d1' : decide (k < t.size) = false := decide_eq_false (by omega)
      clear hkt ht2 HK
      go_wp2_with fail
      refine wp_region_onto (by kernel_rfl) (by kernel_rfl) ?_
      repeat (go_big_quiet_step (fail))
      refine wpQuiet_nil ?_
      intro _ hw'
      obtain ⟨zz, hw''⟩ := hw'
      subst hw''
      go_wp2_with fail
      go_ret
      rw [HT.out]
      exact ⟨rfl, (by (repeat (first | exact Below.refl _ _ | refine up_alloc ?_ _ | refine up_onto ?_ _)))⟩
end Go.Proofs.Ytfcjljebjhjglaa

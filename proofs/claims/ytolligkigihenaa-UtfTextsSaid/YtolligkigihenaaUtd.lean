/- Layer 2: contracts of the document's own answers: which texts are a beginning of a sequence. -/
import Derived.Test.YtolligkigihenaaUtc
namespace Go.Proofs.Ytolligkigihenaa
open Go.ChangeShapes Go.WideShapes Go.ChangeAt Go.RowKit
set_option linter.unusedVariables false

theorem bl_append (a b : ByteArray) : bl (a ++ b) = bl a ++ bl b := by unfold bl; rw [ByteArray.data_append, Array.toList_append, List.map_append]
theorem bl_from (s : ByteArray) (k : Nat) : bl (s.extract k s.size) = (bl s).drop k := by
  unfold bl
  rw [ByteArray.data_extract, Array.toList_extract]
  rw [List.extract_eq_take_drop, List.map_take, List.map_drop, List.take_of_length_le]
  rw [List.length_drop, List.length_map]
  show s.data.toList.length - k ≤ s.size - k
  exact Nat.le_refl _
theorem bl_mid (s : ByteArray) (i j : Nat) : bl (s.extract i j) = ((bl s).drop i).take (j - i) := by
  unfold bl
  rw [ByteArray.data_extract, Array.toList_extract]
  rw [List.extract_eq_take_drop, List.map_take, List.map_drop]

noncomputable def utGoB (l : List Int) : Bool := @decide (utGo l) (Classical.propDecidable _)
noncomputable def utGoesB (l : List Int) : Bool := @decide (utGoes l) (Classical.propDecidable _)
theorem utGoB_iff (l : List Int) : utGoB l = true ↔ utGo l := by unfold utGoB; exact @decide_eq_true_iff _ (Classical.propDecidable _)
theorem utGoesB_iff (l : List Int) : utGoesB l = true ↔ utGoes l := by unfold utGoesB; exact @decide_eq_true_iff _ (Classical.propDecidable _)
theorem utGoAt_no {t : List Int} {a b : Nat} {n : Nat} (hn : utSize (t ++ [128 + (a : Int), 128 + (b : Int), 128]) = n) (h : n < t.length ∨ n = 0) : utGoAt t a b = false := by
  cases e : utGoAt t a b
  · rfl
  · rw [utGoAt_iff, hn] at e; omega

/-- The second number that is tried: any, or 0 alone. -/
def utMay (l : List Int) (b : Nat) : Prop := b < 64 ∧ (1 < l.length → b = 0)
theorem utGo_no {l : List Int} (h : ∀ a b : Nat, a < 64 → utMay l b → utGoAt l a b = false) : utGoB l = false := by
  cases e : utGoB l
  · rfl
  · rw [utGoB_iff] at e
    obtain ⟨a, b, ha, hb, hl, hg⟩ := e
    rw [h a b ha ⟨hb, hl⟩] at hg
    cases hg
theorem utGo_row {l : List Int} {a : Nat} (h : ∀ x b : Nat, x < a → utMay l b → utGoAt l x b = false) (hr : ∀ b, utMay l b → utGoAt l a b = false) : ∀ x b : Nat, x < a + 1 → utMay l b → utGoAt l x b = false := by
  intro x b hx hb
  by_cases e : x = a
  · subst e; exact hr b hb
  · exact h x b (by omega) hb
theorem utGo_cell {l : List Int} {a b : Nat} (h : ∀ y : Nat, y < b → utGoAt l a y = false) (hr : utGoAt l a b = false) : ∀ y : Nat, y < b + 1 → utGoAt l a y = false := by
  intro y hy
  by_cases e : y = b
  · subst e; exact hr
  · exact h y (by omega)

set_option maxHeartbeats 800000 in
theorem goes_any (s : ByteArray) (h1 : 1 ≤ s.size) (h4 : s.size ≤ 4) (w : World) : Calls Try.prog 21 #[.string s] w fun e w' => e = .returned (.bool (utGoB (bl s))) ∧ Below w.heap.size w w' := by
  have hl := bl_length s
  have HL := Lib.hid hl
  clear hl
  go_enter Try.func21, Try.ntmps21
  go_wp2_with fail
  go_loopw [3] (fun a wr => ∃ k : Nat, k ≤ 64 ∧ a = .int .i64 k ∧ Hid (∀ x b : Nat, x < k → utMay (bl s) b → utGoAt (bl s) x b = false) ∧ ∃ y, wr = onto w y) (fun a _ => 64 - (intOf a).toNat)
  case atStart => exact ⟨0, by omega, rfl, Lib.hid (by intros; omega), onto_self w⟩
  case round =>
    obtain ⟨k, hk, rfl, HK, y, rfl⟩ := hrel
    by_cases hlt : k < 64
    · have hk' : decide ((k : Int) < 64) = true := decide_eq_true (by omega)
      go_wp2_with fail
      go_loopw [4, 5, 6] (fun b _ _ wr => ∃ m : Nat, m ≤ 64 ∧ (1 < s.size → m = 0) ∧ b = .int .i64 m ∧ Hid (∀ x : Nat, x < m → utGoAt (bl s) k x = false) ∧ ∃ y, wr = onto w y) (fun b _ _ _ => 64 - (intOf b).toNat)
      case atStart => exact ⟨0, by omega, by omega, rfl, Lib.hid (by intros; omega), y, rfl⟩
      case round =>
        obtain ⟨m, hm, hm0, rfl, HM, z, rfl⟩ := hrel
        by_cases hlm : m < 64
        · have kx := fun (V : World) => run_string_list (P := Try.prog) V 26 9 5 Try.underlying26 Try.underlying5 Try.underlying9 [128 + (k : Int), 128 + (m : Int), 128] 5 3 3 rfl
          simp only [List.map_cons, List.map_nil] at kx
          have hnn : utSize (bl (s ++ toBA [128 + (k : Int), 128 + (m : Int), 128])) = utSize (bl s ++ [128 + (k : Int), 128 + (m : Int), 128]) := by
            rw [bl_append, bl_toBA _ (by intro x hx; simp only [List.mem_cons, List.not_mem_nil, or_false] at hx; omega)]
          have hsz : (s ++ toBA [128 + (k : Int), 128 + (m : Int), 128]).size ≤ maxLen := by
            rw [ByteArray.size_append]
            show s.size + 3 ≤ maxLen
            unfold maxLen; omega
          obtain ⟨n, hn⟩ : ∃ n, utSize (bl (s ++ toBA [128 + (k : Int), 128 + (m : Int), 128])) = n := ⟨_, rfl⟩
          rw [hn] at hnn
          have HN := Lib.hid hn
          have HNN := Lib.hid hnn.symm
          clear hn hnn
          by_cases hA : s.size ≤ n ∧ 0 < n
          · have hg : utGoB (bl s) = true := by
              rw [utGoB_iff]
              exact ⟨k, m, hlt, hlm, by rw [HL.out]; exact hm0, by rw [utGoAt_iff, HNN.out, HL.out]; exact hA⟩
            have HG := Lib.hid hg
            clear hg HNN
            obtain ⟨hA1, hA2⟩ := hA
            clear hm0
            have a1 : decide (s.size ≤ n) = true := decide_eq_true hA1
            have a2 : decide (0 < n) = true := decide_eq_true hA2
            go_wp2_with ((go_at_call 20; ((with_reducible refine (above (size_any _ hsz _)).mono ?_); rw [HN.out]; rintro e _ ⟨rfl, v, rfl⟩)))
            go_ret
            rw [HG.out]
            exact ⟨rfl, (by (repeat (first | exact Below.refl _ _ | refine up_alloc ?_ _ | refine up_onto ?_ _)))⟩
          · have hcell := utGoAt_no (t := bl s) (a := k) (b := m) HNN.out (by rw [HL.out]; omega)
            have HC := Lib.hid hcell
            clear hcell HNN
            by_cases hlen : 1 < s.size
            · have hrow := utGo_row HK.out (fun b hb => by obtain rfl : b = m := (hb.2 (by rw [HL.out]; exact hlen)).trans (hm0 hlen).symm; exact HC.out)
              have HR := Lib.hid hrow
              clear hrow HM HK hm0
              by_cases hA1 : s.size ≤ n
              · have hA2 : n = 0 := by omega
                omega
              · clear hA
                go_wp2_with ((go_at_call 20; ((with_reducible refine (above (size_any _ hsz _)).mono ?_); rw [HN.out]; rintro e _ ⟨rfl, v, rfl⟩)))
                go_roundw
                case rel => exact ⟨k + 1, by omega, by go_num, HR, onto_of (by (repeat (first | exact Below.refl _ _ | refine up_alloc ?_ _ | refine up_onto ?_ _)))⟩
                case measure => simp [intOf]; omega
            · have hc2 := utGo_cell HM.out HC.out
              have HC2 := Lib.hid hc2
              have hlen' : s.size ≤ 1 := by omega
              clear hc2 HM HC hm0 hlen
              by_cases hA1 : s.size ≤ n
              · have hA2 : n = 0 := by omega
                omega
              · clear hA
                go_wp2_with ((go_at_call 20; ((with_reducible refine (above (size_any _ hsz _)).mono ?_); rw [HN.out]; rintro e _ ⟨rfl, v, rfl⟩)))
                go_roundw
                case rel => exact ⟨m + 1, by omega, by omega, by go_num, HC2, onto_of (by (repeat (first | exact Below.refl _ _ | refine up_alloc ?_ _ | refine up_onto ?_ _)))⟩
                case measure => simp [intOf]; omega
        · obtain rfl : m = 64 := by omega
          have hrow := utGo_row HK.out (fun b hb => HM.out b hb.1)
          have HR := Lib.hid hrow
          clear hrow HM HK
          go_wp2_with fail
          go_roundw
          case rel => exact ⟨k + 1, by omega, by go_num, HR, z, rfl⟩
          case measure => simp [intOf]; omega
    · obtain rfl : k = 64 := by omega
      have hg : utGoB (bl s) = false := utGo_no HK.out
      have HG := Lib.hid hg
      clear hg
      go_wp2_with fail
      go_ret
      rw [HG.out]
      exact ⟨rfl, (by (repeat (first | exact Below.refl _ _ | refine up_alloc ?_ _ | refine up_onto ?_ _)))⟩
end Go.Proofs.Ytolligkigihenaa

/- Layer 2: contracts of the document's own answers: Whole, Bad. -/
import Derived.Test.YtolligkigihenaaUte
namespace Go.Proofs.Ytolligkigihenaa
open Go.ChangeShapes Go.WideShapes Go.ChangeAt Go.RowKit
set_option linter.unusedVariables false

theorem run_sub {P : Program} (w : World) (t : TypeId) (s : ByteArray) (a b : Nat) (i j : Int) (hi : i = a) (hj : j = b) (h1 : a ≤ b) (h2 : b ≤ s.size) (h : P.underlying t = some .string) :
    (Instr.slice t (.string s) (some (.int .i64 i)) (some (.int .i64 j)) none).run P w = .ok (.string (s.extract a b)) w := by
  subst hi hj
  have := run_slice_string (P := P) w t s .i64 .i64 (a : Int) (b : Int) h (by omega) (by omega) (by omega)
  simpa using this
set_option maxHeartbeats 1600000 in
theorem whole_any (s : ByteArray) (hs : s.size ≤ maxLen) (w : World) : Calls Try.prog 13 #[.string s] w fun e w' => e = .returned (.int .i64 (utWhole (bl s))) ∧ Below w.heap.size w w' := by
  have hs' : s.size ≤ 9223372036854775807 := hs
  have hl := bl_length s
  have HL := Lib.hid hl
  clear hl
  go_enter Try.func13, Try.ntmps13
  go_wp2_with fail
  go_loopw [3] (fun a wr => ∃ k : Nat, k ≤ s.size ∧ a = .int .i64 k ∧ Hid (utWhole (bl s) = k + utWhole ((bl s).drop k)) ∧ ∃ y, wr = onto w y) (fun a _ => s.size - (intOf a).toNat)
  case atStart => exact ⟨0, by omega, rfl, Lib.hid (by simp), onto_self w⟩
  case round =>
    obtain ⟨k, hk, rfl, HK, y, rfl⟩ := hrel
    by_cases hlt : k < s.size
    · have hd := bl_from s k
      have hle := utSize_le ((bl s).drop k)
      rw [List.length_drop, HL.out] at hle
      have hsz : (s.extract k s.size).size ≤ maxLen := by
        rw [ByteArray.size_extract]; unfold maxLen; omega
      obtain ⟨n, hn⟩ : ∃ n, utSize ((bl s).drop k) = n := ⟨_, rfl⟩
      rw [hn] at hle
      obtain ⟨hle1, hle2⟩ := hle
      have hv : utSize (bl (s.extract k s.size)) = n := by rw [hd, hn]
      have HN := Lib.hid hn
      have HV := Lib.hid hv
      clear hd hn hv
      by_cases hz : n = 0
      · have hw : utWhole (bl s) = k := by rw [HK.out, utWhole_0 (by rw [HN.out, hz])]; rfl
        have HW := Lib.hid hw
        subst hz
        clear hw HK HN
        go_wp2_with ((go_at_call 20; ((with_reducible refine (above (size_any _ hsz _)).mono ?_); rw [HV.out]; rintro e _ ⟨rfl, v, rfl⟩)))
        go_ret
        rw [HW.out]
        exact ⟨rfl, (by (repeat (first | exact Below.refl _ _ | refine up_alloc ?_ _ | refine up_onto ?_ _)))⟩
      · have hw : utWhole (bl s) = (k + n : Nat) + utWhole ((bl s).drop (k + n)) := by
          rw [HK.out, utWhole_pos (by rw [HN.out]; exact hz), HN.out, List.drop_drop]; omega
        have HW := Lib.hid hw
        have hz' : 0 < n := by omega
        have hz2 : decide (0 < n) = true := decide_eq_true hz'
        have hz3 : decide ((0 : Int) < (n : Int)) = true := decide_eq_true (by omega)
        clear hw HK HN hz
        go_wp2_with ((go_at_call 20; ((with_reducible refine (above (size_any _ hsz _)).mono ?_); rw [HV.out]; rintro e _ ⟨rfl, v, rfl⟩)))
        go_roundw
        case rel => exact ⟨k + n, by omega, by go_num, HW, onto_of (by (repeat (first | exact Below.refl _ _ | refine up_alloc ?_ _ | refine up_onto ?_ _)))⟩
        case measure => simp [intOf]; omega
    · have hw : utWhole (bl s) = k := by
        rw [HK.out, bl_end s k (by omega), utWhole_0 utSize_nil]; rfl
      have HW := Lib.hid hw
      clear hw HK
      go_wp2_with fail
      go_ret
      rw [HW.out]
      exact ⟨rfl, (by (repeat (first | exact Below.refl _ _ | refine up_alloc ?_ _ | refine up_onto ?_ _)))⟩

/-- The place of the first byte that doesn't go on. -/
def utRefBad (l : List Int) : Int := if utRn 0 l < l.length then utRn 0 l else -1

set_option maxHeartbeats 1600000 in
theorem refBad_any (s : ByteArray) (hs : s.size ≤ 1000000) (w : World) : Calls Try.prog 14 #[.string s] w fun e w' => e = .returned (.int .i64 (utRefBad (bl s))) ∧ Below w.heap.size w w' := by
  have hs' : s.size ≤ maxLen := by unfold maxLen; omega
  have hl := bl_length s
  obtain ⟨w1, w2, w3, w4, w5⟩ := utWhole_spec _ (bl s) (Nat.le_refl _)
  obtain ⟨m, hm⟩ : ∃ m, utWhole (bl s) = m := ⟨_, rfl⟩
  rw [hm] at w1 w3 w4
  obtain ⟨r, hr⟩ : ∃ r, utRn 0 ((bl s).drop m) = r := ⟨_, rfl⟩
  have hgo : ∀ n, 1 ≤ n → m + n ≤ s.size → (utGoesB (bl (s.extract m (m + n))) = decide (n ≤ r)) := by
    intro n h1 h2
    have h3 := ut_F3 _ w3 n h1 (by rw [List.length_drop, hl]; omega)
    rw [bl_mid, show m + n - m = n from by omega]
    rw [hr] at h3
    cases e : utGoesB (((bl s).drop m).take n)
    · rw [eq_comm, decide_eq_false_iff_not, ← h3, ← utGoesB_iff, e]; simp
    · rw [eq_comm, decide_eq_true_eq, ← h3, ← utGoesB_iff, e]
  have hrb : utRefBad (bl s) = if m + r < s.size then ((m + r : Nat) : Int) else -1 := by
    unfold utRefBad; rw [w4, hr, hl]
  rw [hl] at w1
  have hrl := utRn_le 0 ((bl s).drop m)
  rw [hr, List.length_drop, hl] at hrl
  have HGO := Lib.hid hgo
  have HRB := Lib.hid hrb
  have HM := Lib.hid hm
  clear hgo hrb hm hr hl w2 w3 w4 w5
  go_enter Try.func14, Try.ntmps14
  go_wp2_with ((go_at_call 13; ((with_reducible refine (above (whole_any _ hs' _)).mono ?_); rw [HM.out]; rintro e _ ⟨rfl, v, rfl⟩)))
  go_loopw [4] (fun a wr => ∃ k : Nat, 1 ≤ k ∧ m + k ≤ s.size + 1 ∧ k ≤ r + 1 ∧ a = .int .i64 k ∧ ∃ y, wr = onto w y) (fun a _ => s.size + 1 - (intOf a).toNat)
  case atStart => exact ⟨1, by omega, by omega, by omega, rfl, _, rfl⟩
  case round =>
    obtain ⟨k, hk1, hk2, hk3, rfl, y, rfl⟩ := hrel
    by_cases hlt : m + k ≤ s.size
    · have hsz : (s.extract m (m + k)).size ≤ maxLen := by
        rw [ByteArray.size_extract]; unfold maxLen; omega
      have hs1 : 1 ≤ (s.extract m (m + k)).size := by
        rw [ByteArray.size_extract]; omega
      have hg := HGO.out k hk1 hlt
      have hsl := fun (V : World) => run_sub (P := Try.prog) V 9 s m (m + k) (m : Int) ((m : Int) + (k : Int)) rfl (by omega) (by omega) hlt Try.underlying9
      by_cases hkr : k ≤ r
      · rw [decide_eq_true hkr] at hg
        have HG := Lib.hid hg
        clear hg
        go_wp2_with ((go_at_call 9; ((with_reducible refine (above (Goes_any _ hs1 hsz _)).mono ?_); rw [HG.out]; rintro e _ ⟨rfl, v, rfl⟩)))
        go_roundw
        case rel => exact ⟨k + 1, by omega, by omega, by omega, by go_num, onto_of (by (repeat (first | exact Below.refl _ _ | refine up_alloc ?_ _ | refine up_onto ?_ _)))⟩
        case measure => simp [intOf]; omega
      · rw [decide_eq_false hkr] at hg
        have hv : utRefBad (bl s) = (m : Int) + (k : Int) - 1 := by rw [HRB.out, if_pos (by omega)]; omega
        have HV := Lib.hid hv
        have HG := Lib.hid hg
        clear hg hv
        go_wp2_with ((go_at_call 9; ((with_reducible refine (above (Goes_any _ hs1 hsz _)).mono ?_); rw [HG.out]; rintro e _ ⟨rfl, v, rfl⟩)))
        go_ret
        rw [HV.out]
        exact ⟨ret_int (by first | rfl | omega), (by (repeat (first | exact Below.refl _ _ | refine up_alloc ?_ _ | refine up_onto ?_ _)))⟩
    · have hv : utRefBad (bl s) = -1 := by rw [HRB.out, if_neg (by omega)]
      have HV := Lib.hid hv
      clear hv
      go_wp2_with fail
      go_ret
      rw [HV.out]
      exact ⟨rfl, (by (repeat (first | exact Below.refl _ _ | refine up_alloc ?_ _ | refine up_onto ?_ _)))⟩
end Go.Proofs.Ytolligkigihenaa

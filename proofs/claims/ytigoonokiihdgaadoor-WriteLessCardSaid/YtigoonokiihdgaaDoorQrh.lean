/- Layer 10: the statement's ends; the walk of WriteLess. -/
import Derived.Test.YtigoonokiihdgaaDoorQrg
namespace Go.Proofs.YtigoonokiihdgaaDoor
open Go.ChangeShapes Go.WideShapes Go.ChangeAt Go.RowKit
set_option linter.unusedVariables false
set_option linter.unusedSimpArgs false

theorem emp_is (s : ByteArray) : s.toList.isEmpty = decide (s.size = 0) := by
  rw [ByteArray.toList_eq, Bool.eq_iff_iff, decide_eq_true_eq, List.isEmpty_iff]
  constructor
  · intro h; show s.data.toList.length = 0; rw [h]; rfl
  · intro h; exact List.length_eq_zero_iff.1 h
theorem run_from {P : Program} (w : World) (t : TypeId) (s : ByteArray) (a : Nat) (i : Int) (hi : i = a) (h : a ≤ s.size) (ht : P.underlying t = some .string) :
    (Instr.slice t (.string s) (some (.int .i64 i)) none none).run P w = .ok (.string (s.extract a s.size)) w := by
  subst hi
  rw [run_slice_string_from_if w t s .i64 (a : Int) ht, if_pos (by omega)]
  rfl
theorem run_to {P : Program} (w : World) (t : TypeId) (s : ByteArray) (a : Nat) (i : Int) (hi : i = a) (h : a ≤ s.size) (ht : P.underlying t = some .string) :
    (Instr.slice t (.string s) none (some (.int .i64 i)) none).run P w = .ok (.string (s.extract 0 a)) w := by
  subst hi
  rw [run_slice_string_to_if w t s .i64 (a : Int) ht, if_pos (by omega)]
  rfl
/-- Ends a text with another one, or is it empty? -/
def endsB (s E : ByteArray) : Bool := decide (s.size = 0) || (decide (E.size ≤ s.size) && decide (bl (s.extract (s.size - E.size) s.size) = bl E))
theorem ends_lf {s : ByteArray} {e : Int} (h : endsB s (endO e) = true) : EndsLf (bl s) := by
  unfold endsB at h
  simp only [Bool.or_eq_true, Bool.and_eq_true, decide_eq_true_eq] at h
  rcases h with h | ⟨h1, h2⟩
  · exact .inl (by have := bl_length s; rw [h] at this; exact List.length_eq_zero_iff.1 this)
  · right
    rw [bl_from, bl_endO] at h2
    have h3 : bl s = (bl s).take (s.size - (endO e).size) ++ endL e := by rw [← h2, List.take_append_drop]
    rw [h3]
    unfold endL
    split <;> simp
set_option maxHeartbeats 1600000 in
theorem ends_any (s E : ByteArray) (hs : s.size ≤ 100000) (hE : E.size ≤ 100000) (w : World) : Calls Tryd.prog 22 #[.string s, .string E] w fun x w' => x = .returned (.bool (endsB s E)) ∧ Below w.heap.size w w' := by
  have hem := emp_is s
  by_cases h0 : s.size = 0
  · have HV := Lib.hid (show endsB s E = true by unfold endsB; rw [decide_eq_true h0, Bool.true_or])
    rw [decide_eq_true h0] at hem
    clear h0
    go_enter Tryd.func22, Tryd.ntmps22
    go_wp2_with fail
    all_goals go_ret
    all_goals exact ⟨by rw [HV.out]; rfl, Below.refl _ _⟩
  · rw [decide_eq_false h0] at hem
    by_cases h1 : E.size ≤ s.size
    · have hsl := fun z => run_from (P := Tryd.prog) z 9 s (s.size - E.size) ((s.size : Int) - (E.size : Int)) (by omega) (by omega) Tryd.underlying9
      obtain ⟨X, hX⟩ : ∃ X, s.extract (s.size - E.size) s.size = X := ⟨_, rfl⟩
      rw [hX] at hsl
      obtain ⟨v, hv⟩ : ∃ v, decide (bl X = bl E) = v := ⟨_, rfl⟩
      have hXE := str_eq X E
      rw [hv] at hXE
      have HV := Lib.hid (show endsB s E = v by unfold endsB; rw [decide_eq_false h0, decide_eq_true h1, Bool.false_or, Bool.true_and, hX, hv])
      have h1' : (E.size : Int) ≤ (s.size : Int) := by omega
      clear h0 hX hv
      go_enter Tryd.func22, Tryd.ntmps22
      go_wp2_with fail
      all_goals go_ret
      all_goals exact ⟨by rw [HV.out]; rfl, Below.refl _ _⟩
    · have HV := Lib.hid (show endsB s E = false by unfold endsB; rw [decide_eq_false h0, decide_eq_false h1, Bool.false_and, Bool.false_or])
      have h1' : ¬ ((E.size : Int) ≤ (s.size : Int)) := by omega
      clear h0
      go_enter Tryd.func22, Tryd.ntmps22
      go_wp2_with fail
      all_goals go_ret
      all_goals exact ⟨by rw [HV.out]; rfl, Below.refl _ _⟩
theorem ends_is' (s E : ByteArray) (hs : s.size ≤ 100000) (hE : E.size ≤ 100000) (v : Bool) (hv : Hid (endsB s E = v)) (w : World) : Calls Tryd.prog 22 #[.string s, .string E] w fun x w' => x = .returned (.bool v) ∧ Below w.heap.size w w' := by
  rw [← hv.out]; exact ends_any s E hs hE w
end Go.Proofs.YtigoonokiihdgaaDoor

/- Layer 2: contracts of the document's own answers: Goes, State, Begin, Whole, Bad. -/
import Derived.Test.YtolligkigihenaaUtd
namespace Go.Proofs.Ytolligkigihenaa
open Go.ChangeShapes Go.WideShapes Go.ChangeAt Go.RowKit
set_option linter.unusedVariables false

theorem str_ne {s : ByteArray} (h : 0 < s.size) : s.toList.isEmpty = false := by
  rw [ByteArray.toList_eq]
  cases e : s.data.toList with
  | nil => have : s.data.toList.length = 0 := by rw [e]; rfl
           have h' : 0 < s.data.toList.length := h
           omega
  | cons => rfl

set_option maxHeartbeats 800000 in
theorem Goes_any (s : ByteArray) (h1 : 1 ≤ s.size) (hs : s.size ≤ maxLen) (w : World) : Calls Try.prog 9 #[.string s] w fun e w' => e = .returned (.bool (utGoesB (bl s))) ∧ Below w.heap.size w w' := by
  have hl := bl_length s
  have HL := Lib.hid hl
  clear hl
  have hs' : s.size ≤ 9223372036854775807 := hs
  have hne := str_ne h1
  have hne' : (s.toList == ([] : List UInt8)) = false := by
    cases e : s.toList with
    | nil => rw [e] at hne; cases hne
    | cons => rfl
  by_cases h4 : s.size ≤ 4
  · by_cases hz : utSize (bl s) = s.size
    · have hg : utGoesB (bl s) = true := by
        rw [utGoesB_iff]; exact ⟨by rw [HL.out]; exact h4, .inr (.inl (by rw [HL.out]; exact hz))⟩
      have HG := Lib.hid hg
      have HZ := Lib.hid hz
      clear hg hz
      go_enter Try.func9, Try.ntmps9
      go_wp2_with ((go_at_call 20; ((with_reducible refine (above (size_any _ hs _)).mono ?_); rw [HZ.out]; rintro e _ ⟨rfl, v, rfl⟩)))
      go_ret
      rw [HG.out]
      exact ⟨rfl, (by (repeat (first | exact Below.refl _ _ | refine up_alloc ?_ _ | refine up_onto ?_ _)))⟩
    · have hg : utGoesB (bl s) = utGoB (bl s) := by
        have : utGoes (bl s) ↔ utGo (bl s) := by
          constructor
          · rintro ⟨_, h | h | h⟩
            · have := HL.out; rw [h] at this; simp at this; omega
            · rw [HL.out] at h; exact absurd h hz
            · exact h
          · intro h; exact ⟨by rw [HL.out]; exact h4, .inr (.inr h)⟩
        cases e : utGoB (bl s)
        · cases e' : utGoesB (bl s)
          · rfl
          · rw [utGoesB_iff, this, ← utGoB_iff, e] at e'; cases e'
        · rw [utGoesB_iff, this, ← utGoB_iff, e]
      have HG := Lib.hid hg
      have hz' : (((utSize (bl s) : Nat) : Int) == (s.size : Int)) = false := by
        rw [beq_eq_false_iff_ne]; omega
      have hz2 : (utSize (bl s) == s.size) = false := by
        rw [beq_eq_false_iff_ne]; exact hz
      clear hg hz
      go_enter Try.func9, Try.ntmps9
      go_wp2_with (first | (go_at_call 20; ((with_reducible refine (above (size_any _ hs _)).mono ?_); rintro e _ ⟨rfl, v, rfl⟩)) | (go_at_call 21; ((with_reducible refine (above (goes_any _ h1 h4 _)).mono ?_); rintro e _ ⟨rfl, v2, rfl⟩)))
      go_ret
      rw [HG.out]
      exact ⟨rfl, (by (repeat (first | exact Below.refl _ _ | refine up_alloc ?_ _ | refine up_onto ?_ _)))⟩
  · have hg : utGoesB (bl s) = false := by
      cases e : utGoesB (bl s)
      · rfl
      · rw [utGoesB_iff] at e; have := e.1; rw [HL.out] at this; omega
    rw [hg]
    clear hg
    have h4' : 4 < s.size := by omega
    go_enter Try.func9, Try.ntmps9
    go_wp2_with fail
    go_ret
    exact ⟨rfl, Below.refl _ _⟩

/-! ### Begin -/
def beginL (s : Int) : List Int := if s = 0 then [] else if s = 1 then [194] else if s = 2 then [225] else if s = 3 then [241] else if s = 4 then [224] else if s = 5 then [237] else if s = 6 then [240] else [244]
theorem begin_any (s : Int) (h0 : 0 ≤ s) (h7 : s ≤ 7) (w : World) : Calls Try.prog 8 #[.int .i64 s] w fun e w' => e = .returned (.string (toBA (beginL s))) ∧ w = w' := by
  have hc : s = 0 ∨ s = 1 ∨ s = 2 ∨ s = 3 ∨ s = 4 ∨ s = 5 ∨ s = 6 ∨ s = 7 := by omega
  have hix : ∀ w, (Instr.index 40 (.agg #[.string ⟨#[]⟩, .string ⟨#[194]⟩, .string ⟨#[225]⟩, .string ⟨#[241]⟩, .string ⟨#[224]⟩, .string ⟨#[237]⟩, .string ⟨#[240]⟩, .string ⟨#[244]⟩]) (.int .i64 s)).run Try.prog w = .ok (.string (toBA (beginL s))) w := by
    intro w; rcases hc with rfl | rfl | rfl | rfl | rfl | rfl | rfl | rfl <;> kernel_rfl
  clear hc
  go_enter Try.func8, Try.ntmps8
  go_wp2_with fail
  go_ret
  exact ⟨rfl, rfl⟩

/-! ### State -/
def utState (l : List Int) : Int :=
  if utSize l = l.length then 0
  else if l.length = 1 ∧ utB l 0 = 224 then 4 else if l.length = 1 ∧ utB l 0 = 237 then 5 else if l.length = 1 ∧ utB l 0 = 240 then 6 else if l.length = 1 ∧ utB l 0 = 244 then 7
  else (if 240 ≤ utB l 0 then 3 else if 224 ≤ utB l 0 then 2 else 1) - l.length + 1

set_option maxHeartbeats 1600000 in
theorem state_any (s : ByteArray) (h1 : 1 ≤ s.size) (h9 : s.size ≤ 9) (w : World) : Calls Try.prog 11 #[.string s] w fun e w' => e = .returned (.int .i64 (utState (bl s))) ∧ Below w.heap.size w w' := by
  have hl := bl_length s
  have HL := Lib.hid hl
  clear hl
  have hs : s.size ≤ maxLen := by unfold maxLen; omega
  have hne := str_ne h1
  have hne' : (s.toList == ([] : List UInt8)) = false := by
    cases e : s.toList with
    | nil => rw [e] at hne; cases hne
    | cons => rfl
  by_cases hz : utSize (bl s) = s.size
  · have hg : utState (bl s) = 0 := by unfold utState; rw [HL.out, if_pos hz]
    have HG := Lib.hid hg
    have HZ := Lib.hid hz
    clear hg hz
    go_enter Try.func11, Try.ntmps11
    go_wp2_with ((go_at_call 20; ((with_reducible refine (above (size_any _ hs _)).mono ?_); rw [HZ.out]; rintro e _ ⟨rfl, v, rfl⟩)))
    go_ret
    rw [HG.out]
    exact ⟨rfl, (by (repeat (first | exact Below.refl _ _ | refine up_alloc ?_ _ | refine up_onto ?_ _)))⟩
  · have hg : utState (bl s) = if s.size = 1 ∧ utB (bl s) 0 = 224 then (4 : Int) else if s.size = 1 ∧ utB (bl s) 0 = 237 then 5 else if s.size = 1 ∧ utB (bl s) 0 = 240 then 6 else if s.size = 1 ∧ utB (bl s) 0 = 244 then 7
        else (if 240 ≤ utB (bl s) 0 then (3 : Int) else if 224 ≤ utB (bl s) 0 then 2 else 1) - (s.size : Int) + 1 := by unfold utState; rw [HL.out, if_neg hz]
    rw [bl_get s 0 h1] at hg
    have hz' : (((utSize (bl s) : Nat) : Int) == (s.size : Int)) = false := by
      rw [beq_eq_false_iff_ne]; omega
    have hz2 : (utSize (bl s) == s.size) = false := by
      rw [beq_eq_false_iff_ne]; exact hz
    have u0 := byte_hi s[0]
    have l0 := byte_lo s[0]
    generalize hx0 : ((s[0].toNat : Nat) : Int) = x0 at *
    have HG := Lib.hid hg
    clear hg hz
    go_enter Try.func11, Try.ntmps11
    go_wp2_with (first | (go_at_call 20; ((with_reducible refine (above (size_any _ hs _)).mono ?_); rintro e _ ⟨rfl, v, rfl⟩)))
    all_goals go_ret
    all_goals rw [HG.out]
    all_goals refine ⟨ret_int ?_, (by (repeat (first | exact Below.refl _ _ | refine up_alloc ?_ _ | refine up_onto ?_ _)))⟩
    all_goals go_light
    all_goals simp at *
    all_goals (repeat' split) <;> omega
end Go.Proofs.Ytolligkigihenaa

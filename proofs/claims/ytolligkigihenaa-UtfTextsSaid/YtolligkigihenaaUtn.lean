/- Layer 2, the plain words: the document's sequences and the states tell the same. No program. -/
import Derived.Test.YtolligkigihenaaUtm
namespace Go.Proofs.Ytolligkigihenaa
set_option linter.unusedVariables false

theorem ut_cls (a : Int) : (a ≤ 127 ∧ utOk 0 a = true ∧ utNx 0 a = 0) ∨ (194 ≤ a ∧ a ≤ 223 ∧ utOk 0 a = true ∧ utNx 0 a = 1) ∨ (a = 224 ∧ utOk 0 a = true ∧ utNx 0 a = 4) ∨ (a = 237 ∧ utOk 0 a = true ∧ utNx 0 a = 5) ∨
    (225 ≤ a ∧ a ≤ 239 ∧ a ≠ 237 ∧ utOk 0 a = true ∧ utNx 0 a = 2) ∨ (a = 240 ∧ utOk 0 a = true ∧ utNx 0 a = 6) ∨ (241 ≤ a ∧ a ≤ 243 ∧ utOk 0 a = true ∧ utNx 0 a = 3) ∨ (a = 244 ∧ utOk 0 a = true ∧ utNx 0 a = 7) ∨
    (((128 ≤ a ∧ a ≤ 193) ∨ 245 ≤ a) ∧ utOk 0 a = false ∧ utNx 0 a = 0) := by
  unfold utNx utOk utFi
  by_cases h1 : a ≤ 127
  · simp [h1]
  by_cases h2 : a ≤ 193
  · simp; omega
  by_cases h3 : a ≤ 223
  · simp; omega
  by_cases h4 : a = 224
  · simp [h4]
  by_cases h5 : a = 237
  · simp [h5]
  by_cases h6 : a ≤ 239
  · simp [h4, h5]; omega
  by_cases h7 : a = 240
  · simp [h7]
  by_cases h8 : a ≤ 243
  · simp [h4, h5, h7]; omega
  by_cases h9 : a = 244
  · simp [h9]
  · simp; omega

theorem ut_two (a b : Int) (h0 : utOk 0 a = true) (h1 : utNx 0 a ≠ 0) : (utS2 a b ∧ utOk (utNx 0 a) b = true ∧ utNx (utNx 0 a) b = 0) ∨ (utP3 a b ∧ utOk (utNx 0 a) b = true ∧ utNx (utNx 0 a) b = 1) ∨
    (utP4 a b ∧ utOk (utNx 0 a) b = true ∧ utNx (utNx 0 a) b = 2) ∨ (¬ utS2 a b ∧ ¬ utP3 a b ∧ ¬ utP4 a b ∧ utOk (utNx 0 a) b = false) := by
  rcases ut_cls a with ⟨c, _, e⟩ | ⟨c, d, _, e⟩ | ⟨c, _, e⟩ | ⟨c, _, e⟩ | ⟨c, d, f, _, e⟩ | ⟨c, _, e⟩ | ⟨c, d, _, e⟩ | ⟨c, _, e⟩ | ⟨c, d, e⟩
  · exact absurd e h1
  all_goals try (rw [d] at h0; cases h0; done)
  all_goals
    rw [e]
    clear h0 h1 e
    unfold utS2 utP3 utP4 utNx
    simp only [utOk]
    by_cases k : 128 ≤ b ∧ b ≤ 191
    all_goals simp
    all_goals omega
theorem ut_ok1 (b : Int) : utOk 1 b = decide (128 ≤ b ∧ b ≤ 191) := by simp [utOk]
theorem ut_ok2 (b : Int) : utOk 2 b = decide (128 ≤ b ∧ b ≤ 191) := by simp [utOk]
theorem ut_nx1 (b : Int) : utNx 1 b = 0 := by simp [utNx]
theorem ut_nx2 (b : Int) (h : 128 ≤ b ∧ b ≤ 191) : utNx 2 b = 1 := by simp [utNx, ut_ok2, h]
theorem ut_ok0 (a : Int) : utOk 0 a = true ↔ a ≤ 127 ∨ (194 ≤ a ∧ a ≤ 244) := by simp [utOk]
theorem ut_nx0 (a : Int) (h : utOk 0 a = true) : utNx 0 a = 0 ↔ utS1 a := by
  unfold utS1
  rcases ut_cls a with ⟨c, _, e⟩ | ⟨c, d, _, e⟩ | ⟨c, _, e⟩ | ⟨c, _, e⟩ | ⟨c, d, f, _, e⟩ | ⟨c, _, e⟩ | ⟨c, d, _, e⟩ | ⟨c, _, e⟩ | ⟨c, d, e⟩
  all_goals try (rw [d] at h; cases h; done)
  all_goals (rw [e]; constructor <;> intro <;> omega)
theorem utS2_ok {a b : Int} (h : utS2 a b) : utOk 0 a = true ∧ ¬ utS1 a := by rw [ut_ok0]; unfold utS1; unfold utS2 at h; omega
theorem utP3_ok {a b : Int} (h : utP3 a b) : utOk 0 a = true ∧ ¬ utS1 a := by rw [ut_ok0]; unfold utS1; unfold utP3 at h; omega
theorem utP4_ok {a b : Int} (h : utP4 a b) : utOk 0 a = true ∧ ¬ utS1 a := by rw [ut_ok0]; unfold utS1; unfold utP4 at h; omega
theorem ut_excl {a b : Int} : ¬ (utS2 a b ∧ utP3 a b) ∧ ¬ (utS2 a b ∧ utP4 a b) ∧ ¬ (utP3 a b ∧ utP4 a b) := by unfold utS2 utP3 utP4; omega
/-- The second byte's state. -/
theorem ut_nxS2 {a b : Int} (h : utS2 a b) : utOk (utNx 0 a) b = true ∧ utNx (utNx 0 a) b = 0 := by
  obtain ⟨o, n⟩ := utS2_ok h
  rcases ut_two a b o (fun e => n ((ut_nx0 a o).1 e)) with ⟨_, x, y⟩ | ⟨k, _⟩ | ⟨k, _⟩ | ⟨k, _⟩
  · exact ⟨x, y⟩
  · exact absurd ⟨h, k⟩ ut_excl.1
  · exact absurd ⟨h, k⟩ ut_excl.2.1
  · exact absurd h k
theorem ut_nxP3 {a b : Int} (h : utP3 a b) : utOk (utNx 0 a) b = true ∧ utNx (utNx 0 a) b = 1 := by
  obtain ⟨o, n⟩ := utP3_ok h
  rcases ut_two a b o (fun e => n ((ut_nx0 a o).1 e)) with ⟨k, _⟩ | ⟨_, x, y⟩ | ⟨k, _⟩ | ⟨_, k, _⟩
  · exact absurd ⟨k, h⟩ ut_excl.1
  · exact ⟨x, y⟩
  · exact absurd ⟨h, k⟩ ut_excl.2.2
  · exact absurd h k
theorem ut_nxP4 {a b : Int} (h : utP4 a b) : utOk (utNx 0 a) b = true ∧ utNx (utNx 0 a) b = 2 := by
  obtain ⟨o, n⟩ := utP4_ok h
  rcases ut_two a b o (fun e => n ((ut_nx0 a o).1 e)) with ⟨k, _⟩ | ⟨k, _⟩ | ⟨_, x, y⟩ | ⟨_, _, k, _⟩
  · exact absurd ⟨k, h⟩ ut_excl.2.1
  · exact absurd ⟨k, h⟩ ut_excl.2.2
  · exact ⟨x, y⟩
  · exact absurd h k

/-- Of a text that begins with a sequence: it goes on whole, and back to state 0. -/
theorem ut_F1 (l : List Int) (h : 0 < utSize l) : utRn 0 (l.take (utSize l)) = utSize l ∧ utRs 0 (l.take (utSize l)) = 0 := by
  have hS1 : ∀ a, utS1 a → utRn 0 [a] = 1 ∧ utRs 0 [a] = 0 := fun a h => by
    have o : utOk 0 a = true := by rw [ut_ok0]; unfold utS1 at h; omega
    simp [utRn, utRs, o, (ut_nx0 a o).2 h]
  have hS2 : ∀ a b, utS2 a b → utRn 0 [a, b] = 2 ∧ utRs 0 [a, b] = 0 := fun a b h => by
    obtain ⟨o, n⟩ := utS2_ok h
    obtain ⟨x, y⟩ := ut_nxS2 h
    simp [utRn, utRs, o, x, y]
  have hS3 : ∀ a b c, utS3 a b c → utRn 0 [a, b, c] = 3 ∧ utRs 0 [a, b, c] = 0 := fun a b c h => by
    obtain ⟨h, k⟩ := h
    obtain ⟨o, n⟩ := utP3_ok h
    obtain ⟨x, y⟩ := ut_nxP3 h
    simp [utRn, utRs, o, x, y, ut_ok1, ut_nx1, k]
  have hS4 : ∀ a b c d, utS4 a b c d → utRn 0 [a, b, c, d] = 4 ∧ utRs 0 [a, b, c, d] = 0 := fun a b c d h => by
    obtain ⟨h, k1, k2, k3, k4⟩ := h
    obtain ⟨o, n⟩ := utP4_ok h
    obtain ⟨x, y⟩ := ut_nxP4 h
    simp [utRn, utRs, o, x, y, ut_ok1, ut_nx1, ut_ok2, ut_nx2 c ⟨k1, k2⟩, k1, k2, k3, k4]
  rcases l with _ | ⟨a, _ | ⟨b, _ | ⟨c, _ | ⟨d, r⟩⟩⟩⟩
  · rw [utSize_nil] at h; omega
  · rw [utSize_1] at h ⊢
    split at h
    · rename_i k; simp only [if_pos k]; exact hS1 a k
    · omega
  · rw [utSize_2] at h ⊢
    split at h
    · rename_i k; simp only [if_pos k]; exact hS1 a k
    · rename_i k; simp only [if_neg k]
      split at h
      · rename_i k; simp only [if_pos k]; exact hS2 a b k
      · omega
  · rw [utSize_3] at h ⊢
    split at h
    · rename_i k; simp only [if_pos k]; exact hS1 a k
    · rename_i k; simp only [if_neg k]
      split at h
      · rename_i k; simp only [if_pos k]; exact hS2 a b k
      · rename_i k; simp only [if_neg k]
        split at h
        · rename_i k; simp only [if_pos k]; exact hS3 a b c k
        · omega
  · rw [utSize_4] at h ⊢
    split at h
    · rename_i k; simp only [if_pos k]; exact hS1 a k
    · rename_i k; simp only [if_neg k]
      split at h
      · rename_i k; simp only [if_pos k]; exact hS2 a b k
      · rename_i k; simp only [if_neg k]
        split at h
        · rename_i k; simp only [if_pos k]; exact hS3 a b c k
        · rename_i k; simp only [if_neg k]
          split at h
          · rename_i k; simp only [if_pos k]; exact hS4 a b c d k
          · omega
end Go.Proofs.Ytolligkigihenaa

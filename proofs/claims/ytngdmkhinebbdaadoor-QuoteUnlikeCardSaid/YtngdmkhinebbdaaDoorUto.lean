/- Layer 2, the plain words: which bytes go on from which state, the state behind a text, the document's sequences, and that both tell the same. No program. Layer 2, the plain words: the document's sequences and the states tell the same. No program. Layer 2, the plain words: a text that begins with no sequence; which beginnings can be one; the longest beginning. No program. -/
import Derived.Below
import Derived.Lib.Hide
namespace Go.Proofs.YtngdmkhinebbdaaDoor
set_option linter.unusedVariables false

/-- Does a byte go on from a state? -/
def utOk (s b : Int) : Bool :=
  if s = 0 then decide (b ≤ 127 ∨ (194 ≤ b ∧ b ≤ 244))
  else if s = 1 ∨ s = 2 ∨ s = 3 then decide (128 ≤ b ∧ b ≤ 191)
  else if s = 4 then decide (160 ≤ b ∧ b ≤ 191)
  else if s = 5 then decide (128 ≤ b ∧ b ≤ 159)
  else if s = 6 then decide (144 ≤ b ∧ b ≤ 191)
  else if s = 7 then decide (128 ≤ b ∧ b ≤ 143)
  else false
/-- The state of a first byte. -/
def utFi (b : Int) : Int := if b ≤ 127 then 0 else if b ≤ 223 then 1 else if b = 224 then 4 else if b = 237 then 5 else if b ≤ 239 then 2 else if b = 240 then 6 else if b ≤ 243 then 3 else 7
/-- The state behind a byte; 0 where it doesn't go on. -/
def utNx (s b : Int) : Int := if utOk s b = true then (if s = 0 then utFi b else if s = 1 then 0 else if s = 2 ∨ s = 4 ∨ s = 5 then 1 else 2) else 0

/-- The state behind as many bytes as go on. -/
def utRs : Int → List Int → Int
  | s, [] => s
  | s, b :: r => if utOk s b = true then utRs (utNx s b) r else s
/-- How many go on. -/
def utRn : Int → List Int → Nat
  | _, [] => 0
  | s, b :: r => if utOk s b = true then utRn (utNx s b) r + 1 else 0
/-- The longest beginning: state, place, the longest so far. -/
def utLon : Int → Nat → Nat → List Int → Nat
  | _, _, lg, [] => lg
  | s, k, lg, b :: r => if utOk s b = true then utLon (utNx s b) (k + 1) (if utNx s b = 0 then k + 1 else lg) r else lg

theorem utRn_le (s : Int) (l : List Int) : utRn s l ≤ l.length := by
  induction l generalizing s with
  | nil => simp [utRn]
  | cons b r ih => simp only [utRn]; split; · simpa using ih _
                   · simp
/-- All of the first text goes on: the second one goes on from there. -/
theorem utR_app (s : Int) (a b : List Int) (h : utRn s a = a.length) : utRs s (a ++ b) = utRs (utRs s a) b ∧ utRn s (a ++ b) = a.length + utRn (utRs s a) b := by
  induction a generalizing s with
  | nil => simp [utRs]
  | cons x r ih =>
    simp only [utRn] at h
    split at h
    · rename_i hx
      obtain ⟨h1, h2⟩ := ih _ (by simpa using h)
      simp only [List.cons_append, utRs, utRn, if_pos hx, h1, h2, List.length_cons]
      exact ⟨trivial, by omega⟩
    · simp at h
/-- Not all of the first text goes on: nothing of the second one does. -/
theorem utR_stop (s : Int) (a b : List Int) (h : utRn s a < a.length) : utRs s (a ++ b) = utRs s a ∧ utRn s (a ++ b) = utRn s a := by
  induction a generalizing s with
  | nil => simp at h
  | cons x r ih =>
    simp only [utRn] at h
    simp only [List.cons_append, utRs, utRn]
    split at h
    · rename_i hx
      obtain ⟨h1, h2⟩ := ih _ (by simpa using h)
      simp [hx, h1, h2]
    · rename_i hx
      simp [hx]
theorem utLon_app (s : Int) (k lg : Nat) (a b : List Int) (h : utRn s a = a.length) : utLon s k lg (a ++ b) = utLon (utRs s a) (k + a.length) (utLon s k lg a) b := by
  induction a generalizing s k lg with
  | nil => simp [utRs, utLon]
  | cons x r ih =>
    simp only [utRn] at h
    split at h
    · rename_i hx
      simp only [List.cons_append, utLon, utRs, if_pos hx, ih _ _ _ (by simpa using h), List.length_cons]
      congr 1
      omega
    · simp at h
theorem utLon_shift (s : Int) (k lg j : Nat) (l : List Int) : utLon s (k + j) (lg + j) l = utLon s k lg l + j := by
  induction l generalizing s k lg with
  | nil => simp [utLon]
  | cons x r ih =>
    simp only [utLon]
    split
    · have := ih (utNx s x) (k + 1) (if utNx s x = 0 then k + 1 else lg)
      rw [← this]
      congr 1
      · omega
      · split <;> omega
    · rfl
/-- A text that goes on whole and ends in state 0 is its own longest beginning. -/
theorem utLon_all (s : Int) (k lg : Nat) (l : List Int) (h : utRn s l = l.length) (h0 : utRs s l = 0) (hs : s = 0 → lg = k) : utLon s k lg l = k + l.length := by
  induction l generalizing s k lg with
  | nil => simp [utRs] at h0; simp [utLon, hs h0]
  | cons x r ih =>
    simp only [utRn] at h
    split at h
    · rename_i hx
      simp only [utRs, if_pos hx] at h0
      simp only [utLon, if_pos hx, List.length_cons]
      rw [ih (utNx s x) (k + 1) _ (by simpa using h) h0 (by intro e; rw [if_pos e])]
      omega
    · simp at h
theorem utLon_le (s : Int) (k lg : Nat) (l : List Int) (h : lg ≤ k) : utLon s k lg l ≤ k + l.length := by
  induction l generalizing s k lg with
  | nil => simp [utLon]; omega
  | cons x r ih =>
    simp only [utLon]
    split
    · have := ih (utNx s x) (k + 1) (if utNx s x = 0 then k + 1 else lg) (by split <;> omega)
      simp only [List.length_cons]; omega
    · omega

/-! ### The document's sequences -/
def utB (l : List Int) (i : Nat) : Int := (l[i]?).getD 0
def utS1 (a : Int) : Prop := a ≤ 127
def utS2 (a b : Int) : Prop := 194 ≤ a ∧ a ≤ 223 ∧ 128 ≤ b ∧ b ≤ 191
def utP3 (a b : Int) : Prop := (a = 224 ∧ 160 ≤ b ∧ b ≤ 191) ∨ (a = 237 ∧ 128 ≤ b ∧ b ≤ 159) ∨ (225 ≤ a ∧ a ≤ 239 ∧ a ≠ 237 ∧ 128 ≤ b ∧ b ≤ 191)
def utP4 (a b : Int) : Prop := (a = 240 ∧ 144 ≤ b ∧ b ≤ 191) ∨ (a = 244 ∧ 128 ≤ b ∧ b ≤ 143) ∨ (241 ≤ a ∧ a ≤ 243 ∧ 128 ≤ b ∧ b ≤ 191)
def utS3 (a b c : Int) : Prop := utP3 a b ∧ 128 ≤ c ∧ c ≤ 191
def utS4 (a b c d : Int) : Prop := utP4 a b ∧ 128 ≤ c ∧ c ≤ 191 ∧ 128 ≤ d ∧ d ≤ 191
instance (a : Int) : Decidable (utS1 a) := by unfold utS1; infer_instance
instance (a b : Int) : Decidable (utS2 a b) := by unfold utS2; infer_instance
instance (a b : Int) : Decidable (utP3 a b) := by unfold utP3; infer_instance
instance (a b : Int) : Decidable (utP4 a b) := by unfold utP4; infer_instance
instance (a b c : Int) : Decidable (utS3 a b c) := by unfold utS3; infer_instance
instance (a b c d : Int) : Decidable (utS4 a b c d) := by unfold utS4; infer_instance
/-- Is the beginning of n bytes a sequence? -/
def utHit (l : List Int) (n : Nat) : Bool :=
  decide (n ≤ l.length) && match n with
    | 1 => decide (utS1 (utB l 0))
    | 2 => decide (utS2 (utB l 0) (utB l 1))
    | 3 => decide (utS3 (utB l 0) (utB l 1) (utB l 2))
    | 4 => decide (utS4 (utB l 0) (utB l 1) (utB l 2) (utB l 3))
    | _ => false
def utSize (l : List Int) : Nat := if utHit l 1 = true then 1 else if utHit l 2 = true then 2 else if utHit l 3 = true then 3 else if utHit l 4 = true then 4 else 0

theorem utHit_0 (n : Nat) (h : 1 ≤ n) : utHit [] n = false := by
  match n, h with
  | n + 1, _ => simp [utHit]
theorem utSize_nil : utSize [] = 0 := by simp [utSize, utHit_0]
theorem utSize_1 (a : Int) : utSize [a] = if utS1 a then 1 else 0 := by simp [utSize, utHit, utB]
theorem utSize_2 (a b : Int) : utSize [a, b] = if utS1 a then 1 else if utS2 a b then 2 else 0 := by simp [utSize, utHit, utB]
theorem utSize_3 (a b c : Int) : utSize [a, b, c] = if utS1 a then 1 else if utS2 a b then 2 else if utS3 a b c then 3 else 0 := by simp [utSize, utHit, utB]
theorem utSize_4 (a b c d : Int) (r : List Int) : utSize (a :: b :: c :: d :: r) = if utS1 a then 1 else if utS2 a b then 2 else if utS3 a b c then 3 else if utS4 a b c d then 4 else 0 := by
  simp [utSize, utHit, utB]
theorem utSize_le (l : List Int) : utSize l ≤ l.length ∧ utSize l ≤ 4 := by
  have h : ∀ n, utHit l n = true → n ≤ l.length := fun n h => by simp only [utHit, Bool.and_eq_true, decide_eq_true_eq] at h; exact h.1
  unfold utSize
  (repeat' split) <;> first | exact ⟨h _ (by assumption), by omega⟩ | exact ⟨by omega, by omega⟩
end Go.Proofs.YtngdmkhinebbdaaDoor

namespace Go.Proofs.YtngdmkhinebbdaaDoor
set_option linter.unusedVariables false

theorem ut_cls (a : Int) : (a ≤ 127 ∧ utOk 0 a = true ∧ utNx 0 a = 0) ∨ (194 ≤ a ∧ a ≤ 223 ∧ utOk 0 a = true ∧ utNx 0 a = 1) ∨ (a = 224 ∧ utOk 0 a = true ∧ utNx 0 a = 4) ∨ (a = 237 ∧ utOk 0 a = true ∧ utNx 0 a = 5) ∨
    (225 ≤ a ∧ a ≤ 239 ∧ a ≠ 237 ∧ utOk 0 a = true ∧ utNx 0 a = 2) ∨ (a = 240 ∧ utOk 0 a = true ∧ utNx 0 a = 6) ∨ (241 ≤ a ∧ a ≤ 243 ∧ utOk 0 a = true ∧ utNx 0 a = 3) ∨ (a = 244 ∧ utOk 0 a = true ∧ utNx 0 a = 7) ∨
    (((128 ≤ a ∧ a ≤ 193) ∨ 245 ≤ a) ∧ utOk 0 a = false ∧ utNx 0 a = 0) := by
  unfold utNx utOk utFi
  by_cases h1 : a ≤ 127
  · simp [h1]
  by_cases h2 : a ≤ 193
  · simp; omega
  by_cases h3 : a ≤ 223
  · simp; omega
  by_cases h4 : a = 224
  · simp [h4]
  by_cases h5 : a = 237
  · simp [h5]
  by_cases h6 : a ≤ 239
  · simp [h4, h5]; omega
  by_cases h7 : a = 240
  · simp [h7]
  by_cases h8 : a ≤ 243
  · simp [h4, h5, h7]; omega
  by_cases h9 : a = 244
  · simp [h9]
  · simp; omega

theorem ut_two (a b : Int) (h0 : utOk 0 a = true) (h1 : utNx 0 a ≠ 0) : (utS2 a b ∧ utOk (utNx 0 a) b = true ∧ utNx (utNx 0 a) b = 0) ∨ (utP3 a b ∧ utOk (utNx 0 a) b = true ∧ utNx (utNx 0 a) b = 1) ∨
    (utP4 a b ∧ utOk (utNx 0 a) b = true ∧ utNx (utNx 0 a) b = 2) ∨ (¬ utS2 a b ∧ ¬ utP3 a b ∧ ¬ utP4 a b ∧ utOk (utNx 0 a) b = false) := by
  rcases ut_cls a with ⟨c, _, e⟩ | ⟨c, d, _, e⟩ | ⟨c, _, e⟩ | ⟨c, _, e⟩ | ⟨c, d, f, _, e⟩ | ⟨c, _, e⟩ | ⟨c, d, _, e⟩ | ⟨c, _, e⟩ | ⟨c, d, e⟩
  · exact absurd e h1
  all_goals try (rw [d] at h0; cases h0; done)
  all_goals
    rw [e]
    clear h0 h1 e
    unfold utS2 utP3 utP4 utNx
    simp only [utOk]
    by_cases k : 128 ≤ b ∧ b ≤ 191
    all_goals simp
    all_goals omega
theorem ut_ok1 (b : Int) : utOk 1 b = decide (128 ≤ b ∧ b ≤ 191) := by simp [utOk]
theorem ut_ok2 (b : Int) : utOk 2 b = decide (128 ≤ b ∧ b ≤ 191) := by simp [utOk]
theorem ut_nx1 (b : Int) : utNx 1 b = 0 := by simp [utNx]
theorem ut_nx2 (b : Int) (h : 128 ≤ b ∧ b ≤ 191) : utNx 2 b = 1 := by simp [utNx, ut_ok2, h]
theorem ut_ok0 (a : Int) : utOk 0 a = true ↔ a ≤ 127 ∨ (194 ≤ a ∧ a ≤ 244) := by simp [utOk]
theorem ut_nx0 (a : Int) (h : utOk 0 a = true) : utNx 0 a = 0 ↔ utS1 a := by
  unfold utS1
  rcases ut_cls a with ⟨c, _, e⟩ | ⟨c, d, _, e⟩ | ⟨c, _, e⟩ | ⟨c, _, e⟩ | ⟨c, d, f, _, e⟩ | ⟨c, _, e⟩ | ⟨c, d, _, e⟩ | ⟨c, _, e⟩ | ⟨c, d, e⟩
  all_goals try (rw [d] at h; cases h; done)
  all_goals (rw [e]; constructor <;> intro <;> omega)
theorem utS2_ok {a b : Int} (h : utS2 a b) : utOk 0 a = true ∧ ¬ utS1 a := by rw [ut_ok0]; unfold utS1; unfold utS2 at h; omega
theorem utP3_ok {a b : Int} (h : utP3 a b) : utOk 0 a = true ∧ ¬ utS1 a := by rw [ut_ok0]; unfold utS1; unfold utP3 at h; omega
theorem utP4_ok {a b : Int} (h : utP4 a b) : utOk 0 a = true ∧ ¬ utS1 a := by rw [ut_ok0]; unfold utS1; unfold utP4 at h; omega
theorem ut_excl {a b : Int} : ¬ (utS2 a b ∧ utP3 a b) ∧ ¬ (utS2 a b ∧ utP4 a b) ∧ ¬ (utP3 a b ∧ utP4 a b) := by unfold utS2 utP3 utP4; omega
/-- The second byte's state. -/
theorem ut_nxS2 {a b : Int} (h : utS2 a b) : utOk (utNx 0 a) b = true ∧ utNx (utNx 0 a) b = 0 := by
  obtain ⟨o, n⟩ := utS2_ok h
  rcases ut_two a b o (fun e => n ((ut_nx0 a o).1 e)) with ⟨_, x, y⟩ | ⟨k, _⟩ | ⟨k, _⟩ | ⟨k, _⟩
  · exact ⟨x, y⟩
  · exact absurd ⟨h, k⟩ ut_excl.1
  · exact absurd ⟨h, k⟩ ut_excl.2.1
  · exact absurd h k
theorem ut_nxP3 {a b : Int} (h : utP3 a b) : utOk (utNx 0 a) b = true ∧ utNx (utNx 0 a) b = 1 := by
  obtain ⟨o, n⟩ := utP3_ok h
  rcases ut_two a b o (fun e => n ((ut_nx0 a o).1 e)) with ⟨k, _⟩ | ⟨_, x, y⟩ | ⟨k, _⟩ | ⟨_, k, _⟩
  · exact absurd ⟨k, h⟩ ut_excl.1
  · exact ⟨x, y⟩
  · exact absurd ⟨h, k⟩ ut_excl.2.2
  · exact absurd h k
theorem ut_nxP4 {a b : Int} (h : utP4 a b) : utOk (utNx 0 a) b = true ∧ utNx (utNx 0 a) b = 2 := by
  obtain ⟨o, n⟩ := utP4_ok h
  rcases ut_two a b o (fun e => n ((ut_nx0 a o).1 e)) with ⟨k, _⟩ | ⟨k, _⟩ | ⟨_, x, y⟩ | ⟨_, _, k, _⟩
  · exact absurd ⟨k, h⟩ ut_excl.2.1
  · exact absurd ⟨k, h⟩ ut_excl.2.2
  · exact ⟨x, y⟩
  · exact absurd h k

/-- Of a text that begins with a sequence: it goes on whole, and back to state 0. -/
theorem ut_F1 (l : List Int) (h : 0 < utSize l) : utRn 0 (l.take (utSize l)) = utSize l ∧ utRs 0 (l.take (utSize l)) = 0 := by
  have hS1 : ∀ a, utS1 a → utRn 0 [a] = 1 ∧ utRs 0 [a] = 0 := fun a h => by
    have o : utOk 0 a = true := by rw [ut_ok0]; unfold utS1 at h; omega
    simp [utRn, utRs, o, (ut_nx0 a o).2 h]
  have hS2 : ∀ a b, utS2 a b → utRn 0 [a, b] = 2 ∧ utRs 0 [a, b] = 0 := fun a b h => by
    obtain ⟨o, n⟩ := utS2_ok h
    obtain ⟨x, y⟩ := ut_nxS2 h
    simp [utRn, utRs, o, x, y]
  have hS3 : ∀ a b c, utS3 a b c → utRn 0 [a, b, c] = 3 ∧ utRs 0 [a, b, c] = 0 := fun a b c h => by
    obtain ⟨h, k⟩ := h
    obtain ⟨o, n⟩ := utP3_ok h
    obtain ⟨x, y⟩ := ut_nxP3 h
    simp [utRn, utRs, o, x, y, ut_ok1, ut_nx1, k]
  have hS4 : ∀ a b c d, utS4 a b c d → utRn 0 [a, b, c, d] = 4 ∧ utRs 0 [a, b, c, d] = 0 := fun a b c d h => by
    obtain ⟨h, k1, k2, k3, k4⟩ := h
    obtain ⟨o, n⟩ := utP4_ok h
    obtain ⟨x, y⟩ := ut_nxP4 h
    simp [utRn, utRs, o, x, y, ut_ok1, ut_nx1, ut_ok2, ut_nx2 c ⟨k1, k2⟩, k1, k2, k3, k4]
  rcases l with _ | ⟨a, _ | ⟨b, _ | ⟨c, _ | ⟨d, r⟩⟩⟩⟩
  · rw [utSize_nil] at h; omega
  · rw [utSize_1] at h ⊢
    split at h
    · rename_i k; simp only [if_pos k]; exact hS1 a k
    · omega
  · rw [utSize_2] at h ⊢
    split at h
    · rename_i k; simp only [if_pos k]; exact hS1 a k
    · rename_i k; simp only [if_neg k]
      split at h
      · rename_i k; simp only [if_pos k]; exact hS2 a b k
      · omega
  · rw [utSize_3] at h ⊢
    split at h
    · rename_i k; simp only [if_pos k]; exact hS1 a k
    · rename_i k; simp only [if_neg k]
      split at h
      · rename_i k; simp only [if_pos k]; exact hS2 a b k
      · rename_i k; simp only [if_neg k]
        split at h
        · rename_i k; simp only [if_pos k]; exact hS3 a b c k
        · omega
  · rw [utSize_4] at h ⊢
    split at h
    · rename_i k; simp only [if_pos k]; exact hS1 a k
    · rename_i k; simp only [if_neg k]
      split at h
      · rename_i k; simp only [if_pos k]; exact hS2 a b k
      · rename_i k; simp only [if_neg k]
        split at h
        · rename_i k; simp only [if_pos k]; exact hS3 a b c k
        · rename_i k; simp only [if_neg k]
          split at h
          · rename_i k; simp only [if_pos k]; exact hS4 a b c d k
          · omega
end Go.Proofs.YtngdmkhinebbdaaDoor

namespace Go.Proofs.YtngdmkhinebbdaaDoor
set_option linter.unusedVariables false

theorem ut_true {s b : Int} (h : ¬ utOk s b = true) : utOk s b = false := by simpa using h

/-- Of a text that begins with no sequence: at most three bytes go on, and none of them ends one. -/
theorem ut_F2 (l : List Int) (h : utSize l = 0) : utLon 0 0 0 l = 0 ∧ utRn 0 l ≤ 3 ∧ (utRn 0 l = 0 ∨ utRs 0 l ≠ 0) := by
  rcases l with _ | ⟨a, l⟩
  · simp [utLon, utRn]
  cases o : utOk 0 a
  · simp [utLon, utRn, o]
  by_cases n : utS1 a
  · exfalso
    rcases l with _ | ⟨b, _ | ⟨c, _ | ⟨d, r⟩⟩⟩
    · rw [utSize_1, if_pos n] at h; cases h
    · rw [utSize_2, if_pos n] at h; cases h
    · rw [utSize_3, if_pos n] at h; cases h
    · rw [utSize_4, if_pos n] at h; cases h
  have n0 : utNx 0 a ≠ 0 := fun e => n ((ut_nx0 a o).1 e)
  rcases l with _ | ⟨b, l⟩
  · simp [utLon, utRn, utRs, o, n0]
  rcases ut_two a b o n0 with ⟨k, x, y⟩ | ⟨k, x, y⟩ | ⟨k, x, y⟩ | ⟨_, _, _, x⟩
  · exfalso
    rcases l with _ | ⟨c, _ | ⟨d, r⟩⟩
    · rw [utSize_2, if_neg n, if_pos k] at h; cases h
    · rw [utSize_3, if_neg n, if_pos k] at h; cases h
    · rw [utSize_4, if_neg n, if_pos k] at h; cases h
  · have k2 : ¬ utS2 a b := fun e => ut_excl.1 ⟨e, k⟩
    rcases l with _ | ⟨c, l⟩
    · simp [utLon, utRn, utRs, o, n0, x, y]
    by_cases z : 128 ≤ c ∧ c ≤ 191
    · exfalso
      rcases l with _ | ⟨d, r⟩
      · rw [utSize_3, if_neg n, if_neg k2, if_pos ⟨k, z⟩] at h; cases h
      · rw [utSize_4, if_neg n, if_neg k2, if_pos ⟨k, z⟩] at h; cases h
    · have z' : utOk 1 c = false := by rw [ut_ok1]; simpa using z
      simp [utLon, utRn, utRs, o, n0, x, y, z']
  · have k2 : ¬ utS2 a b := fun e => ut_excl.2.1 ⟨e, k⟩
    have k3 : ¬ utP3 a b := fun e => ut_excl.2.2 ⟨e, k⟩
    rcases l with _ | ⟨c, l⟩
    · simp [utLon, utRn, utRs, o, n0, x, y]
    by_cases z : 128 ≤ c ∧ c ≤ 191
    · have z' : utOk 2 c = true := by rw [ut_ok2]; simpa using z
      have z2 := ut_nx2 c z
      rcases l with _ | ⟨d, r⟩
      · simp [utLon, utRn, utRs, o, n0, x, y, z', z2]
      by_cases t : 128 ≤ d ∧ d ≤ 191
      · exfalso
        rw [utSize_4, if_neg n, if_neg k2, if_neg (fun e => k3 e.1), if_pos ⟨k, z.1, z.2, t⟩] at h; cases h
      · have t' : utOk 1 d = false := by rw [ut_ok1]; simpa using t
        simp [utLon, utRn, utRs, o, n0, x, y, z', z2, t']
    · have z' : utOk 2 c = false := by rw [ut_ok2]; simpa using z
      simp [utLon, utRn, utRs, o, n0, x, y, z']
  · simp [utLon, utRn, utRs, o, n0, x]

/-! ### Which texts are a beginning of a sequence -/
def utGoAt (t : List Int) (a b : Nat) : Bool := decide (t.length ≤ utSize (t ++ [128 + (a : Int), 128 + (b : Int), 128])) && decide (0 < utSize (t ++ [128 + (a : Int), 128 + (b : Int), 128]))
def utGo (t : List Int) : Prop := ∃ a b : Nat, a < 64 ∧ b < 64 ∧ (1 < t.length → b = 0) ∧ utGoAt t a b = true
def utGoes (t : List Int) : Prop := t.length ≤ 4 ∧ (t = [] ∨ utSize t = t.length ∨ utGo t)

theorem utGoAt_iff {t : List Int} {a b : Nat} : utGoAt t a b = true ↔ t.length ≤ utSize (t ++ [128 + (a : Int), 128 + (b : Int), 128]) ∧ 0 < utSize (t ++ [128 + (a : Int), 128 + (b : Int), 128]) := by
  simp [utGoAt]

theorem ut_G1 (a : Int) : utGoes [a] ↔ utOk 0 a = true := by
  rw [ut_ok0]
  unfold utGoes utGo
  simp only [utGoAt_iff, List.cons_append, List.nil_append, List.length_cons, List.length_nil, utSize_4, utSize_1]
  constructor
  · rintro ⟨_, h | h | ⟨x, y, hx, hy, _, h, h'⟩⟩
    · cases h
    · split at h
      · rename_i k; unfold utS1 at k; omega
      · omega
    · split at h
      · rename_i k; unfold utS1 at k; omega
      · split at h
        · rename_i k; unfold utS2 at k; omega
        · split at h
          · rename_i k; unfold utS3 utP3 at k; omega
          · split at h
            · rename_i k; unfold utS4 utP4 at k; omega
            · omega
  · intro h
    refine ⟨by omega, ?_⟩
    by_cases k1 : a ≤ 127
    · right; left; rw [if_pos (show utS1 a from k1)]
    right; right
    have n1 : ¬ utS1 a := k1
    by_cases k2 : a ≤ 223
    · have q : utS2 a (128 + ((0 : Nat) : Int)) := by unfold utS2; omega
      exact ⟨0, 0, by omega, by omega, by simp, by rw [if_neg n1, if_pos q]; omega, by rw [if_neg n1, if_pos q]; omega⟩
    have n2 : ∀ y, ¬ utS2 a y := by unfold utS2; omega
    by_cases k3 : a ≤ 239
    · by_cases k4 : a = 224
      · have q : utS3 a (128 + ((32 : Nat) : Int)) (128 + ((0 : Nat) : Int)) := by unfold utS3 utP3; omega
        exact ⟨32, 0, by omega, by omega, by simp, by rw [if_neg n1, if_neg (n2 _), if_pos q]; omega, by rw [if_neg n1, if_neg (n2 _), if_pos q]; omega⟩
      · have q : utS3 a (128 + ((0 : Nat) : Int)) (128 + ((0 : Nat) : Int)) := by unfold utS3 utP3; omega
        exact ⟨0, 0, by omega, by omega, by simp, by rw [if_neg n1, if_neg (n2 _), if_pos q]; omega, by rw [if_neg n1, if_neg (n2 _), if_pos q]; omega⟩
    have n3 : ∀ y z, ¬ utS3 a y z := by unfold utS3 utP3; omega
    by_cases k4 : a = 240
    · have q : utS4 a (128 + ((16 : Nat) : Int)) (128 + ((0 : Nat) : Int)) 128 := by unfold utS4 utP4; omega
      exact ⟨16, 0, by omega, by omega, by simp, by rw [if_neg n1, if_neg (n2 _), if_neg (n3 _ _), if_pos q]; omega, by rw [if_neg n1, if_neg (n2 _), if_neg (n3 _ _), if_pos q]; omega⟩
    · have q : utS4 a (128 + ((0 : Nat) : Int)) (128 + ((0 : Nat) : Int)) 128 := by unfold utS4 utP4; omega
      exact ⟨0, 0, by omega, by omega, by simp, by rw [if_neg n1, if_neg (n2 _), if_neg (n3 _ _), if_pos q]; omega, by rw [if_neg n1, if_neg (n2 _), if_neg (n3 _ _), if_pos q]; omega⟩

theorem ut_G2 (a b : Int) (n1 : ¬ utS1 a) : utGoes [a, b] ↔ utS2 a b ∨ utP3 a b ∨ utP4 a b := by
  unfold utGoes utGo
  simp only [utGoAt_iff, List.cons_append, List.nil_append, List.length_cons, List.length_nil, utSize_4, utSize_2, if_neg n1]
  constructor
  · rintro ⟨_, h | h | ⟨x, y, hx, hy, _, h, h'⟩⟩
    · cases h
    · split at h
      · left; assumption
      · omega
    · split at h
      · left; assumption
      · split at h
        · rename_i k; right; left; exact k.1
        · split at h
          · rename_i k; right; right; exact k.1
          · omega
  · intro h
    refine ⟨by omega, ?_⟩
    by_cases k2 : utS2 a b
    · right; left; rw [if_pos k2]
    right; right
    simp only [if_neg k2]
    rcases h with h | h | h
    · exact absurd h k2
    · have q : utS3 a b (128 + ((0 : Nat) : Int)) := ⟨h, by omega, by omega⟩
      exact ⟨0, 0, by omega, by omega, by simp, by rw [if_pos q]; omega, by rw [if_pos q]; omega⟩
    · have n3 : ∀ z, ¬ utS3 a b z := fun z k => ut_excl.2.2 ⟨k.1, h⟩
      have q : utS4 a b (128 + ((0 : Nat) : Int)) (128 + ((0 : Nat) : Int)) := ⟨h, by omega, by omega, by omega, by omega⟩
      exact ⟨0, 0, by omega, by omega, by simp, by rw [if_neg (n3 _), if_pos q]; omega, by rw [if_neg (n3 _), if_pos q]; omega⟩

theorem ut_G3 (a b c : Int) (n1 : ¬ utS1 a) (n2 : ¬ utS2 a b) : utGoes [a, b, c] ↔ (utP3 a b ∨ utP4 a b) ∧ 128 ≤ c ∧ c ≤ 191 := by
  unfold utGoes utGo
  simp only [utGoAt_iff, List.cons_append, List.nil_append, List.length_cons, List.length_nil, utSize_4, utSize_3, if_neg n1, if_neg n2]
  constructor
  · rintro ⟨_, h | h | ⟨x, y, hx, hy, _, h, h'⟩⟩
    · cases h
    · split at h
      · rename_i k; exact ⟨.inl k.1, k.2⟩
      · omega
    · split at h
      · rename_i k; exact ⟨.inl k.1, k.2⟩
      · split at h
        · rename_i k; exact ⟨.inr k.1, k.2.1, k.2.2.1⟩
        · omega
  · rintro ⟨h, c1, c2⟩
    refine ⟨by omega, ?_⟩
    by_cases k3 : utS3 a b c
    · right; left; rw [if_pos k3]
    right; right
    simp only [if_neg k3]
    rcases h with h | h
    · exact absurd ⟨h, c1, c2⟩ k3
    · have q : utS4 a b c (128 + ((0 : Nat) : Int)) := ⟨h, c1, c2, by omega, by omega⟩
      exact ⟨0, 0, by omega, by omega, by simp, by rw [if_pos q]; omega, by rw [if_pos q]; omega⟩

theorem ut_G4 (a b c d : Int) (n1 : ¬ utS1 a) (n2 : ¬ utS2 a b) (n3 : ¬ utS3 a b c) : utGoes [a, b, c, d] ↔ utS4 a b c d := by
  unfold utGoes utGo
  simp only [utGoAt_iff, List.cons_append, List.nil_append, List.length_cons, List.length_nil, utSize_4, if_neg n1, if_neg n2, if_neg n3]
  constructor
  · rintro ⟨_, h | h | ⟨x, y, hx, hy, _, h, h'⟩⟩
    · cases h
    · split at h
      · assumption
      · omega
    · split at h
      · assumption
      · omega
  · intro h
    exact ⟨by omega, .inr (.inl (by rw [if_pos h]))⟩

/-- Of a text that begins with no sequence: a beginning of it can be one just if it goes on whole. -/
theorem ut_F3 (l : List Int) (h : utSize l = 0) (n : Nat) (h1 : 1 ≤ n) (hn : n ≤ l.length) : utGoes (l.take n) ↔ n ≤ utRn 0 l := by
  have h3 := (ut_F2 l h).2.1
  by_cases n5 : 5 ≤ n
  · constructor
    · intro g
      have := g.1
      rw [List.length_take] at this
      omega
    · intro; omega
  rcases l with _ | ⟨a, l⟩
  · simp at hn; omega
  have s1 : ¬ utS1 a := by
    intro e
    rcases l with _ | ⟨b, _ | ⟨c, _ | ⟨d, r⟩⟩⟩
    · rw [utSize_1, if_pos e] at h; cases h
    · rw [utSize_2, if_pos e] at h; cases h
    · rw [utSize_3, if_pos e] at h; cases h
    · rw [utSize_4, if_pos e] at h; cases h
  by_cases m1 : n = 1
  · subst m1
    rw [List.take_succ_cons, List.take_zero, ut_G1]
    simp only [utRn]
    constructor
    · intro e; rw [if_pos e]; omega
    · intro e; split at e
      · assumption
      · omega
  rcases l with _ | ⟨b, l⟩
  · simp at hn; omega
  have s2 : ¬ utS2 a b := by
    intro e
    rcases l with _ | ⟨c, _ | ⟨d, r⟩⟩
    · rw [utSize_2, if_neg s1, if_pos e] at h; cases h
    · rw [utSize_3, if_neg s1, if_pos e] at h; cases h
    · rw [utSize_4, if_neg s1, if_pos e] at h; cases h
  have two : (utP3 a b ∧ utOk 0 a = true ∧ utOk (utNx 0 a) b = true ∧ utNx (utNx 0 a) b = 1) ∨ (utP4 a b ∧ utOk 0 a = true ∧ utOk (utNx 0 a) b = true ∧ utNx (utNx 0 a) b = 2) ∨
      (¬ utP3 a b ∧ ¬ utP4 a b ∧ utRn 0 (a :: b :: l) ≤ 1) := by
    by_cases o : utOk 0 a = true
    · rcases ut_two a b o (fun e => s1 ((ut_nx0 a o).1 e)) with ⟨k, _⟩ | ⟨k, x, y⟩ | ⟨k, x, y⟩ | ⟨_, p3, p4, x⟩
      · exact absurd k s2
      · exact .inl ⟨k, o, x, y⟩
      · exact .inr (.inl ⟨k, o, x, y⟩)
      · exact .inr (.inr ⟨p3, p4, by simp [utRn, o, x]⟩)
    · exact .inr (.inr ⟨fun k => o (utP3_ok k).1, fun k => o (utP4_ok k).1, by simp [utRn, ut_true o]⟩)
  by_cases m2 : n = 2
  · subst m2
    rw [List.take_succ_cons, List.take_succ_cons, List.take_zero, ut_G2 a b s1]
    rcases two with ⟨k, o, x, y⟩ | ⟨k, o, x, y⟩ | ⟨p3, p4, x⟩
    · simp [utRn, o, x, k]
    · simp [utRn, o, x, k]
    · constructor
      · rintro (k | k | k)
        · exact absurd k s2
        · exact absurd k p3
        · exact absurd k p4
      · intro; omega
  rcases l with _ | ⟨c, l⟩
  · simp at hn; omega
  have s3 : ¬ utS3 a b c := by
    intro e
    rcases l with _ | ⟨d, r⟩
    · rw [utSize_3, if_neg s1, if_neg s2, if_pos e] at h; cases h
    · rw [utSize_4, if_neg s1, if_neg s2, if_pos e] at h; cases h
  by_cases m3 : n = 3
  · subst m3
    rw [List.take_succ_cons, List.take_succ_cons, List.take_succ_cons, List.take_zero, ut_G3 a b c s1 s2]
    rcases two with ⟨k, o, x, y⟩ | ⟨k, o, x, y⟩ | ⟨p3, p4, x⟩
    · constructor
      · intro e; exact absurd ⟨k, e.2⟩ s3
      · intro e
        have : ¬ (128 ≤ c ∧ c ≤ 191) := fun z => s3 ⟨k, z⟩
        have z' : utOk 1 c = false := by rw [ut_ok1]; simpa using this
        simp [utRn, o, x, y, z'] at e
    · by_cases z : 128 ≤ c ∧ c ≤ 191
      · have z' : utOk 2 c = true := by rw [ut_ok2]; simpa using z
        simp [utRn, o, x, y, z', k, z]
      · have z' : utOk 2 c = false := by rw [ut_ok2]; simpa using z
        constructor
        · intro e; exact absurd e.2 z
        · intro e; simp [utRn, o, x, y, z'] at e
    · constructor
      · rintro ⟨k | k, _⟩
        · exact absurd k p3
        · exact absurd k p4
      · intro; omega
  obtain rfl : n = 4 := by omega
  rcases l with _ | ⟨d, r⟩
  · simp at hn
  rw [List.take_succ_cons, List.take_succ_cons, List.take_succ_cons, List.take_succ_cons, List.take_zero, ut_G4 a b c d s1 s2 s3]
  constructor
  · intro e
    rw [utSize_4, if_neg s1, if_neg s2, if_neg s3, if_pos e] at h; cases h
  · intro; omega

/-! ### The longest beginning that is well formed -/
def utWhole (l : List Int) : Nat := if h : utSize l = 0 then 0 else utSize l + utWhole (l.drop (utSize l))
termination_by l.length
decreasing_by
  have := (utSize_le l).1
  simp only [List.length_drop]
  omega

theorem utWhole_0 {l : List Int} (h : utSize l = 0) : utWhole l = 0 := by rw [utWhole, dif_pos h]
theorem utWhole_pos {l : List Int} (h : utSize l ≠ 0) : utWhole l = utSize l + utWhole (l.drop (utSize l)) := by rw [utWhole, dif_neg h]
/-- All at once: the longest beginning; that the run comes to state 0 behind it; that what is behind begins with no sequence. -/
theorem utWhole_spec (m : Nat) : ∀ l : List Int, l.length ≤ m → utWhole l ≤ l.length ∧ utLon 0 0 0 l = utWhole l ∧ utSize (l.drop (utWhole l)) = 0 ∧ utRn 0 l = utWhole l + utRn 0 (l.drop (utWhole l)) ∧ utRs 0 l = utRs 0 (l.drop (utWhole l)) := by
  induction m with
  | zero =>
    intro l hl
    have : l = [] := List.eq_nil_of_length_eq_zero (by omega)
    subst this
    simp [utWhole_0 utSize_nil, utLon, utSize_nil]
  | succ m ih =>
    intro l hl
    by_cases h : utSize l = 0
    · simp [utWhole_0 h, (ut_F2 l h).1, h]
    · have hle := (utSize_le l).1
      obtain ⟨f1, f2⟩ := ut_F1 l (by omega)
      have hlen : (l.take (utSize l)).length = utSize l := by rw [List.length_take]; omega
      have hsp : l = l.take (utSize l) ++ l.drop (utSize l) := (List.take_append_drop _ _).symm
      obtain ⟨i1, i2, i3, i4, i5⟩ := ih (l.drop (utSize l)) (by rw [List.length_drop]; omega)
      have hw := utWhole_pos h
      have hd : l.drop (utWhole l) = (l.drop (utSize l)).drop (utWhole (l.drop (utSize l))) := by rw [List.drop_drop, hw]
      have hlon : utLon 0 0 0 l = utSize l + utLon 0 0 0 (l.drop (utSize l)) := by
        conv => lhs; rw [hsp]
        rw [utLon_app _ _ _ _ _ (by rw [f1, hlen]), f2, hlen, utLon_all 0 0 0 _ (by rw [f1, hlen]) f2 (fun _ => rfl), hlen, utLon_shift]
        omega
      obtain ⟨r1, r2⟩ := utR_app 0 (l.take (utSize l)) (l.drop (utSize l)) (by rw [f1, hlen])
      rw [← hsp, f2] at r1 r2
      rw [hlen] at r2
      refine ⟨?_, ?_, ?_, ?_, ?_⟩
      · rw [List.length_drop] at i1; omega
      · rw [hlon, hw, i2]
      · rw [hd]; exact i3
      · rw [r2, hd, hw, i4]; omega
      · rw [r1, hd, i5]
end Go.Proofs.YtngdmkhinebbdaaDoor

/- Layer 2, the plain words: which bytes go on from which state, the state behind a text, the document's sequences, and that both tell the same. No program. -/
import Derived.Below
import Derived.Lib.Hide
namespace Go.Proofs.Ytolligkigihenaa
set_option linter.unusedVariables false

/-- Does a byte go on from a state? -/
def utOk (s b : Int) : Bool :=
  if s = 0 then decide (b ≤ 127 ∨ (194 ≤ b ∧ b ≤ 244))
  else if s = 1 ∨ s = 2 ∨ s = 3 then decide (128 ≤ b ∧ b ≤ 191)
  else if s = 4 then decide (160 ≤ b ∧ b ≤ 191)
  else if s = 5 then decide (128 ≤ b ∧ b ≤ 159)
  else if s = 6 then decide (144 ≤ b ∧ b ≤ 191)
  else if s = 7 then decide (128 ≤ b ∧ b ≤ 143)
  else false
/-- The state of a first byte. -/
def utFi (b : Int) : Int := if b ≤ 127 then 0 else if b ≤ 223 then 1 else if b = 224 then 4 else if b = 237 then 5 else if b ≤ 239 then 2 else if b = 240 then 6 else if b ≤ 243 then 3 else 7
/-- The state behind a byte; 0 where it doesn't go on. -/
def utNx (s b : Int) : Int := if utOk s b = true then (if s = 0 then utFi b else if s = 1 then 0 else if s = 2 ∨ s = 4 ∨ s = 5 then 1 else 2) else 0

/-- The state behind as many bytes as go on. -/
def utRs : Int → List Int → Int
  | s, [] => s
  | s, b :: r => if utOk s b = true then utRs (utNx s b) r else s
/-- How many go on. -/
def utRn : Int → List Int → Nat
  | _, [] => 0
  | s, b :: r => if utOk s b = true then utRn (utNx s b) r + 1 else 0
/-- The longest beginning: state, place, the longest so far. -/
def utLon : Int → Nat → Nat → List Int → Nat
  | _, _, lg, [] => lg
  | s, k, lg, b :: r => if utOk s b = true then utLon (utNx s b) (k + 1) (if utNx s b = 0 then k + 1 else lg) r else lg

theorem utRn_le (s : Int) (l : List Int) : utRn s l ≤ l.length := by
  induction l generalizing s with
  | nil => simp [utRn]
  | cons b r ih => simp only [utRn]; split; · simpa using ih _
                   · simp
/-- All of the first text goes on: the second one goes on from there. -/
theorem utR_app (s : Int) (a b : List Int) (h : utRn s a = a.length) : utRs s (a ++ b) = utRs (utRs s a) b ∧ utRn s (a ++ b) = a.length + utRn (utRs s a) b := by
  induction a generalizing s with
  | nil => simp [utRs]
  | cons x r ih =>
    simp only [utRn] at h
    split at h
    · rename_i hx
      obtain ⟨h1, h2⟩ := ih _ (by simpa using h)
      simp only [List.cons_append, utRs, utRn, if_pos hx, h1, h2, List.length_cons]
      exact ⟨trivial, by omega⟩
    · simp at h
/-- Not all of the first text goes on: nothing of the second one does. -/
theorem utR_stop (s : Int) (a b : List Int) (h : utRn s a < a.length) : utRs s (a ++ b) = utRs s a ∧ utRn s (a ++ b) = utRn s a := by
  induction a generalizing s with
  | nil => simp at h
  | cons x r ih =>
    simp only [utRn] at h
    simp only [List.cons_append, utRs, utRn]
    split at h
    · rename_i hx
      obtain ⟨h1, h2⟩ := ih _ (by simpa using h)
      simp [hx, h1, h2]
    · rename_i hx
      simp [hx]
theorem utLon_app (s : Int) (k lg : Nat) (a b : List Int) (h : utRn s a = a.length) : utLon s k lg (a ++ b) = utLon (utRs s a) (k + a.length) (utLon s k lg a) b := by
  induction a generalizing s k lg with
  | nil => simp [utRs, utLon]
  | cons x r ih =>
    simp only [utRn] at h
    split at h
    · rename_i hx
      simp only [List.cons_append, utLon, utRs, if_pos hx, ih _ _ _ (by simpa using h), List.length_cons]
      congr 1
      omega
    · simp at h
theorem utLon_shift (s : Int) (k lg j : Nat) (l : List Int) : utLon s (k + j) (lg + j) l = utLon s k lg l + j := by
  induction l generalizing s k lg with
  | nil => simp [utLon]
  | cons x r ih =>
    simp only [utLon]
    split
    · have := ih (utNx s x) (k + 1) (if utNx s x = 0 then k + 1 else lg)
      rw [← this]
      congr 1
      · omega
      · split <;> omega
    · rfl
/-- A text that goes on whole and ends in state 0 is its own longest beginning. -/
theorem utLon_all (s : Int) (k lg : Nat) (l : List Int) (h : utRn s l = l.length) (h0 : utRs s l = 0) (hs : s = 0 → lg = k) : utLon s k lg l = k + l.length := by
  induction l generalizing s k lg with
  | nil => simp [utRs] at h0; simp [utLon, hs h0]
  | cons x r ih =>
    simp only [utRn] at h
    split at h
    · rename_i hx
      simp only [utRs, if_pos hx] at h0
      simp only [utLon, if_pos hx, List.length_cons]
      rw [ih (utNx s x) (k + 1) _ (by simpa using h) h0 (by intro e; rw [if_pos e])]
      omega
    · simp at h
theorem utLon_le (s : Int) (k lg : Nat) (l : List Int) (h : lg ≤ k) : utLon s k lg l ≤ k + l.length := by
  induction l generalizing s k lg with
  | nil => simp [utLon]; omega
  | cons x r ih =>
    simp only [utLon]
    split
    · have := ih (utNx s x) (k + 1) (if utNx s x = 0 then k + 1 else lg) (by split <;> omega)
      simp only [List.length_cons]; omega
    · omega

/-! ### The document's sequences -/
def utB (l : List Int) (i : Nat) : Int := (l[i]?).getD 0
def utS1 (a : Int) : Prop := a ≤ 127
def utS2 (a b : Int) : Prop := 194 ≤ a ∧ a ≤ 223 ∧ 128 ≤ b ∧ b ≤ 191
def utP3 (a b : Int) : Prop := (a = 224 ∧ 160 ≤ b ∧ b ≤ 191) ∨ (a = 237 ∧ 128 ≤ b ∧ b ≤ 159) ∨ (225 ≤ a ∧ a ≤ 239 ∧ a ≠ 237 ∧ 128 ≤ b ∧ b ≤ 191)
def utP4 (a b : Int) : Prop := (a = 240 ∧ 144 ≤ b ∧ b ≤ 191) ∨ (a = 244 ∧ 128 ≤ b ∧ b ≤ 143) ∨ (241 ≤ a ∧ a ≤ 243 ∧ 128 ≤ b ∧ b ≤ 191)
def utS3 (a b c : Int) : Prop := utP3 a b ∧ 128 ≤ c ∧ c ≤ 191
def utS4 (a b c d : Int) : Prop := utP4 a b ∧ 128 ≤ c ∧ c ≤ 191 ∧ 128 ≤ d ∧ d ≤ 191
instance (a : Int) : Decidable (utS1 a) := by unfold utS1; infer_instance
instance (a b : Int) : Decidable (utS2 a b) := by unfold utS2; infer_instance
instance (a b : Int) : Decidable (utP3 a b) := by unfold utP3; infer_instance
instance (a b : Int) : Decidable (utP4 a b) := by unfold utP4; infer_instance
instance (a b c : Int) : Decidable (utS3 a b c) := by unfold utS3; infer_instance
instance (a b c d : Int) : Decidable (utS4 a b c d) := by unfold utS4; infer_instance
/-- Is the beginning of n bytes a sequence? -/
def utHit (l : List Int) (n : Nat) : Bool :=
  decide (n ≤ l.length) && match n with
    | 1 => decide (utS1 (utB l 0))
    | 2 => decide (utS2 (utB l 0) (utB l 1))
    | 3 => decide (utS3 (utB l 0) (utB l 1) (utB l 2))
    | 4 => decide (utS4 (utB l 0) (utB l 1) (utB l 2) (utB l 3))
    | _ => false
def utSize (l : List Int) : Nat := if utHit l 1 = true then 1 else if utHit l 2 = true then 2 else if utHit l 3 = true then 3 else if utHit l 4 = true then 4 else 0

theorem utHit_0 (n : Nat) (h : 1 ≤ n) : utHit [] n = false := by
  match n, h with
  | n + 1, _ => simp [utHit]
theorem utSize_nil : utSize [] = 0 := by simp [utSize, utHit_0]
theorem utSize_1 (a : Int) : utSize [a] = if utS1 a then 1 else 0 := by simp [utSize, utHit, utB]
theorem utSize_2 (a b : Int) : utSize [a, b] = if utS1 a then 1 else if utS2 a b then 2 else 0 := by simp [utSize, utHit, utB]
theorem utSize_3 (a b c : Int) : utSize [a, b, c] = if utS1 a then 1 else if utS2 a b then 2 else if utS3 a b c then 3 else 0 := by simp [utSize, utHit, utB]
theorem utSize_4 (a b c d : Int) (r : List Int) : utSize (a :: b :: c :: d :: r) = if utS1 a then 1 else if utS2 a b then 2 else if utS3 a b c then 3 else if utS4 a b c d then 4 else 0 := by
  simp [utSize, utHit, utB]
theorem utSize_le (l : List Int) : utSize l ≤ l.length ∧ utSize l ≤ 4 := by
  have h : ∀ n, utHit l n = true → n ≤ l.length := fun n h => by simp only [utHit, Bool.and_eq_true, decide_eq_true_eq] at h; exact h.1
  unfold utSize
  (repeat' split) <;> first | exact ⟨h _ (by assumption), by omega⟩ | exact ⟨by omega, by omega⟩
end Go.Proofs.Ytolligkigihenaa

/- Layer 2, the plain words: a text that begins with no sequence; which beginnings can be one; the longest beginning. No program. -/
import Derived.Test.YtolligkigihenaaUtn
namespace Go.Proofs.Ytolligkigihenaa
set_option linter.unusedVariables false

theorem ut_true {s b : Int} (h : ¬ utOk s b = true) : utOk s b = false := by simpa using h

/-- Of a text that begins with no sequence: at most three bytes go on, and none of them ends one. -/
theorem ut_F2 (l : List Int) (h : utSize l = 0) : utLon 0 0 0 l = 0 ∧ utRn 0 l ≤ 3 ∧ (utRn 0 l = 0 ∨ utRs 0 l ≠ 0) := by
  rcases l with _ | ⟨a, l⟩
  · simp [utLon, utRn]
  cases o : utOk 0 a
  · simp [utLon, utRn, o]
  by_cases n : utS1 a
  · exfalso
    rcases l with _ | ⟨b, _ | ⟨c, _ | ⟨d, r⟩⟩⟩
    · rw [utSize_1, if_pos n] at h; cases h
    · rw [utSize_2, if_pos n] at h; cases h
    · rw [utSize_3, if_pos n] at h; cases h
    · rw [utSize_4, if_pos n] at h; cases h
  have n0 : utNx 0 a ≠ 0 := fun e => n ((ut_nx0 a o).1 e)
  rcases l with _ | ⟨b, l⟩
  · simp [utLon, utRn, utRs, o, n0]
  rcases ut_two a b o n0 with ⟨k, x, y⟩ | ⟨k, x, y⟩ | ⟨k, x, y⟩ | ⟨_, _, _, x⟩
  · exfalso
    rcases l with _ | ⟨c, _ | ⟨d, r⟩⟩
    · rw [utSize_2, if_neg n, if_pos k] at h; cases h
    · rw [utSize_3, if_neg n, if_pos k] at h; cases h
    · rw [utSize_4, if_neg n, if_pos k] at h; cases h
  · have k2 : ¬ utS2 a b := fun e => ut_excl.1 ⟨e, k⟩
    rcases l with _ | ⟨c, l⟩
    · simp [utLon, utRn, utRs, o, n0, x, y]
    by_cases z : 128 ≤ c ∧ c ≤ 191
    · exfalso
      rcases l with _ | ⟨d, r⟩
      · rw [utSize_3, if_neg n, if_neg k2, if_pos ⟨k, z⟩] at h; cases h
      · rw [utSize_4, if_neg n, if_neg k2, if_pos ⟨k, z⟩] at h; cases h
    · have z' : utOk 1 c = false := by rw [ut_ok1]; simpa using z
      simp [utLon, utRn, utRs, o, n0, x, y, z']
  · have k2 : ¬ utS2 a b := fun e => ut_excl.2.1 ⟨e, k⟩
    have k3 : ¬ utP3 a b := fun e => ut_excl.2.2 ⟨e, k⟩
    rcases l with _ | ⟨c, l⟩
    · simp [utLon, utRn, utRs, o, n0, x, y]
    by_cases z : 128 ≤ c ∧ c ≤ 191
    · have z' : utOk 2 c = true := by rw [ut_ok2]; simpa using z
      have z2 := ut_nx2 c z
      rcases l with _ | ⟨d, r⟩
      · simp [utLon, utRn, utRs, o, n0, x, y, z', z2]
      by_cases t : 128 ≤ d ∧ d ≤ 191
      · exfalso
        rw [utSize_4, if_neg n, if_neg k2, if_neg (fun e => k3 e.1), if_pos ⟨k, z.1, z.2, t⟩] at h; cases h
      · have t' : utOk 1 d = false := by rw [ut_ok1]; simpa using t
        simp [utLon, utRn, utRs, o, n0, x, y, z', z2, t']
    · have z' : utOk 2 c = false := by rw [ut_ok2]; simpa using z
      simp [utLon, utRn, utRs, o, n0, x, y, z']
  · simp [utLon, utRn, utRs, o, n0, x]

/-! ### Which texts are a beginning of a sequence -/
def utGoAt (t : List Int) (a b : Nat) : Bool := decide (t.length ≤ utSize (t ++ [128 + (a : Int), 128 + (b : Int), 128])) && decide (0 < utSize (t ++ [128 + (a : Int), 128 + (b : Int), 128]))
def utGo (t : List Int) : Prop := ∃ a b : Nat, a < 64 ∧ b < 64 ∧ (1 < t.length → b = 0) ∧ utGoAt t a b = true
def utGoes (t : List Int) : Prop := t.length ≤ 4 ∧ (t = [] ∨ utSize t = t.length ∨ utGo t)

theorem utGoAt_iff {t : List Int} {a b : Nat} : utGoAt t a b = true ↔ t.length ≤ utSize (t ++ [128 + (a : Int), 128 + (b : Int), 128]) ∧ 0 < utSize (t ++ [128 + (a : Int), 128 + (b : Int), 128]) := by
  simp [utGoAt]

theorem ut_G1 (a : Int) : utGoes [a] ↔ utOk 0 a = true := by
  rw [ut_ok0]
  unfold utGoes utGo
  simp only [utGoAt_iff, List.cons_append, List.nil_append, List.length_cons, List.length_nil, utSize_4, utSize_1]
  constructor
  · rintro ⟨_, h | h | ⟨x, y, hx, hy, _, h, h'⟩⟩
    · cases h
    · split at h
      · rename_i k; unfold utS1 at k; omega
      · omega
    · split at h
      · rename_i k; unfold utS1 at k; omega
      · split at h
        · rename_i k; unfold utS2 at k; omega
        · split at h
          · rename_i k; unfold utS3 utP3 at k; omega
          · split at h
            · rename_i k; unfold utS4 utP4 at k; omega
            · omega
  · intro h
    refine ⟨by omega, ?_⟩
    by_cases k1 : a ≤ 127
    · right; left; rw [if_pos (show utS1 a from k1)]
    right; right
    have n1 : ¬ utS1 a := k1
    by_cases k2 : a ≤ 223
    · have q : utS2 a (128 + ((0 : Nat) : Int)) := by unfold utS2; omega
      exact ⟨0, 0, by omega, by omega, by simp, by rw [if_neg n1, if_pos q]; omega, by rw [if_neg n1, if_pos q]; omega⟩
    have n2 : ∀ y, ¬ utS2 a y := by unfold utS2; omega
    by_cases k3 : a ≤ 239
    · by_cases k4 : a = 224
      · have q : utS3 a (128 + ((32 : Nat) : Int)) (128 + ((0 : Nat) : Int)) := by unfold utS3 utP3; omega
        exact ⟨32, 0, by omega, by omega, by simp, by rw [if_neg n1, if_neg (n2 _), if_pos q]; omega, by rw [if_neg n1, if_neg (n2 _), if_pos q]; omega⟩
      · have q : utS3 a (128 + ((0 : Nat) : Int)) (128 + ((0 : Nat) : Int)) := by unfold utS3 utP3; omega
        exact ⟨0, 0, by omega, by omega, by simp, by rw [if_neg n1, if_neg (n2 _), if_pos q]; omega, by rw [if_neg n1, if_neg (n2 _), if_pos q]; omega⟩
    have n3 : ∀ y z, ¬ utS3 a y z := by unfold utS3 utP3; omega
    by_cases k4 : a = 240
    · have q : utS4 a (128 + ((16 : Nat) : Int)) (128 + ((0 : Nat) : Int)) 128 := by unfold utS4 utP4; omega
      exact ⟨16, 0, by omega, by omega, by simp, by rw [if_neg n1, if_neg (n2 _), if_neg (n3 _ _), if_pos q]; omega, by rw [if_neg n1, if_neg (n2 _), if_neg (n3 _ _), if_pos q]; omega⟩
    · have q : utS4 a (128 + ((0 : Nat) : Int)) (128 + ((0 : Nat) : Int)) 128 := by unfold utS4 utP4; omega
      exact ⟨0, 0, by omega, by omega, by simp, by rw [if_neg n1, if_neg (n2 _), if_neg (n3 _ _), if_pos q]; omega, by rw [if_neg n1, if_neg (n2 _), if_neg (n3 _ _), if_pos q]; omega⟩

theorem ut_G2 (a b : Int) (n1 : ¬ utS1 a) : utGoes [a, b] ↔ utS2 a b ∨ utP3 a b ∨ utP4 a b := by
  unfold utGoes utGo
  simp only [utGoAt_iff, List.cons_append, List.nil_append, List.length_cons, List.length_nil, utSize_4, utSize_2, if_neg n1]
  constructor
  · rintro ⟨_, h | h | ⟨x, y, hx, hy, _, h, h'⟩⟩
    · cases h
    · split at h
      · left; assumption
      · omega
    · split at h
      · left; assumption
      · split at h
        · rename_i k; right; left; exact k.1
        · split at h
          · rename_i k; right; right; exact k.1
          · omega
  · intro h
    refine ⟨by omega, ?_⟩
    by_cases k2 : utS2 a b
    · right; left; rw [if_pos k2]
    right; right
    simp only [if_neg k2]
    rcases h with h | h | h
    · exact absurd h k2
    · have q : utS3 a b (128 + ((0 : Nat) : Int)) := ⟨h, by omega, by omega⟩
      exact ⟨0, 0, by omega, by omega, by simp, by rw [if_pos q]; omega, by rw [if_pos q]; omega⟩
    · have n3 : ∀ z, ¬ utS3 a b z := fun z k => ut_excl.2.2 ⟨k.1, h⟩
      have q : utS4 a b (128 + ((0 : Nat) : Int)) (128 + ((0 : Nat) : Int)) := ⟨h, by omega, by omega, by omega, by omega⟩
      exact ⟨0, 0, by omega, by omega, by simp, by rw [if_neg (n3 _), if_pos q]; omega, by rw [if_neg (n3 _), if_pos q]; omega⟩

theorem ut_G3 (a b c : Int) (n1 : ¬ utS1 a) (n2 : ¬ utS2 a b) : utGoes [a, b, c] ↔ (utP3 a b ∨ utP4 a b) ∧ 128 ≤ c ∧ c ≤ 191 := by
  unfold utGoes utGo
  simp only [utGoAt_iff, List.cons_append, List.nil_append, List.length_cons, List.length_nil, utSize_4, utSize_3, if_neg n1, if_neg n2]
  constructor
  · rintro ⟨_, h | h | ⟨x, y, hx, hy, _, h, h'⟩⟩
    · cases h
    · split at h
      · rename_i k; exact ⟨.inl k.1, k.2⟩
      · omega
    · split at h
      · rename_i k; exact ⟨.inl k.1, k.2⟩
      · split at h
        · rename_i k; exact ⟨.inr k.1, k.2.1, k.2.2.1⟩
        · omega
  · rintro ⟨h, c1, c2⟩
    refine ⟨by omega, ?_⟩
    by_cases k3 : utS3 a b c
    · right; left; rw [if_pos k3]
    right; right
    simp only [if_neg k3]
    rcases h with h | h
    · exact absurd ⟨h, c1, c2⟩ k3
    · have q : utS4 a b c (128 + ((0 : Nat) : Int)) := ⟨h, c1, c2, by omega, by omega⟩
      exact ⟨0, 0, by omega, by omega, by simp, by rw [if_pos q]; omega, by rw [if_pos q]; omega⟩

theorem ut_G4 (a b c d : Int) (n1 : ¬ utS1 a) (n2 : ¬ utS2 a b) (n3 : ¬ utS3 a b c) : utGoes [a, b, c, d] ↔ utS4 a b c d := by
  unfold utGoes utGo
  simp only [utGoAt_iff, List.cons_append, List.nil_append, List.length_cons, List.length_nil, utSize_4, if_neg n1, if_neg n2, if_neg n3]
  constructor
  · rintro ⟨_, h | h | ⟨x, y, hx, hy, _, h, h'⟩⟩
    · cases h
    · split at h
      · assumption
      · omega
    · split at h
      · assumption
      · omega
  · intro h
    exact ⟨by omega, .inr (.inl (by rw [if_pos h]))⟩

/-- Of a text that begins with no sequence: a beginning of it can be one just if it goes on whole. -/
theorem ut_F3 (l : List Int) (h : utSize l = 0) (n : Nat) (h1 : 1 ≤ n) (hn : n ≤ l.length) : utGoes (l.take n) ↔ n ≤ utRn 0 l := by
  have h3 := (ut_F2 l h).2.1
  by_cases n5 : 5 ≤ n
  · constructor
    · intro g
      have := g.1
      rw [List.length_take] at this
      omega
    · intro; omega
  rcases l with _ | ⟨a, l⟩
  · simp at hn; omega
  have s1 : ¬ utS1 a := by
    intro e
    rcases l with _ | ⟨b, _ | ⟨c, _ | ⟨d, r⟩⟩⟩
    · rw [utSize_1, if_pos e] at h; cases h
    · rw [utSize_2, if_pos e] at h; cases h
    · rw [utSize_3, if_pos e] at h; cases h
    · rw [utSize_4, if_pos e] at h; cases h
  by_cases m1 : n = 1
  · subst m1
    rw [List.take_succ_cons, List.take_zero, ut_G1]
    simp only [utRn]
    constructor
    · intro e; rw [if_pos e]; omega
    · intro e; split at e
      · assumption
      · omega
  rcases l with _ | ⟨b, l⟩
  · simp at hn; omega
  have s2 : ¬ utS2 a b := by
    intro e
    rcases l with _ | ⟨c, _ | ⟨d, r⟩⟩
    · rw [utSize_2, if_neg s1, if_pos e] at h; cases h
    · rw [utSize_3, if_neg s1, if_pos e] at h; cases h
    · rw [utSize_4, if_neg s1, if_pos e] at h; cases h
  have two : (utP3 a b ∧ utOk 0 a = true ∧ utOk (utNx 0 a) b = true ∧ utNx (utNx 0 a) b = 1) ∨ (utP4 a b ∧ utOk 0 a = true ∧ utOk (utNx 0 a) b = true ∧ utNx (utNx 0 a) b = 2) ∨
      (¬ utP3 a b ∧ ¬ utP4 a b ∧ utRn 0 (a :: b :: l) ≤ 1) := by
    by_cases o : utOk 0 a = true
    · rcases ut_two a b o (fun e => s1 ((ut_nx0 a o).1 e)) with ⟨k, _⟩ | ⟨k, x, y⟩ | ⟨k, x, y⟩ | ⟨_, p3, p4, x⟩
      · exact absurd k s2
      · exact .inl ⟨k, o, x, y⟩
      · exact .inr (.inl ⟨k, o, x, y⟩)
      · exact .inr (.inr ⟨p3, p4, by simp [utRn, o, x]⟩)
    · exact .inr (.inr ⟨fun k => o (utP3_ok k).1, fun k => o (utP4_ok k).1, by simp [utRn, ut_true o]⟩)
  by_cases m2 : n = 2
  · subst m2
    rw [List.take_succ_cons, List.take_succ_cons, List.take_zero, ut_G2 a b s1]
    rcases two with ⟨k, o, x, y⟩ | ⟨k, o, x, y⟩ | ⟨p3, p4, x⟩
    · simp [utRn, o, x, k]
    · simp [utRn, o, x, k]
    · constructor
      · rintro (k | k | k)
        · exact absurd k s2
        · exact absurd k p3
        · exact absurd k p4
      · intro; omega
  rcases l with _ | ⟨c, l⟩
  · simp at hn; omega
  have s3 : ¬ utS3 a b c := by
    intro e
    rcases l with _ | ⟨d, r⟩
    · rw [utSize_3, if_neg s1, if_neg s2, if_pos e] at h; cases h
    · rw [utSize_4, if_neg s1, if_neg s2, if_pos e] at h; cases h
  by_cases m3 : n = 3
  · subst m3
    rw [List.take_succ_cons, List.take_succ_cons, List.take_succ_cons, List.take_zero, ut_G3 a b c s1 s2]
    rcases two with ⟨k, o, x, y⟩ | ⟨k, o, x, y⟩ | ⟨p3, p4, x⟩
    · constructor
      · intro e; exact absurd ⟨k, e.2⟩ s3
      · intro e
        have : ¬ (128 ≤ c ∧ c ≤ 191) := fun z => s3 ⟨k, z⟩
        have z' : utOk 1 c = false := by rw [ut_ok1]; simpa using this
        simp [utRn, o, x, y, z'] at e
    · by_cases z : 128 ≤ c ∧ c ≤ 191
      · have z' : utOk 2 c = true := by rw [ut_ok2]; simpa using z
        simp [utRn, o, x, y, z', k, z]
      · have z' : utOk 2 c = false := by rw [ut_ok2]; simpa using z
        constructor
        · intro e; exact absurd e.2 z
        · intro e; simp [utRn, o, x, y, z'] at e
    · constructor
      · rintro ⟨k | k, _⟩
        · exact absurd k p3
        · exact absurd k p4
      · intro; omega
  obtain rfl : n = 4 := by omega
  rcases l with _ | ⟨d, r⟩
  · simp at hn
  rw [List.take_succ_cons, List.take_succ_cons, List.take_succ_cons, List.take_succ_cons, List.take_zero, ut_G4 a b c d s1 s2 s3]
  constructor
  · intro e
    rw [utSize_4, if_neg s1, if_neg s2, if_neg s3, if_pos e] at h; cases h
  · intro; omega

/-! ### The longest beginning that is well formed -/
def utWhole (l : List Int) : Nat := if h : utSize l = 0 then 0 else utSize l + utWhole (l.drop (utSize l))
termination_by l.length
decreasing_by
  have := (utSize_le l).1
  simp only [List.length_drop]
  omega

theorem utWhole_0 {l : List Int} (h : utSize l = 0) : utWhole l = 0 := by rw [utWhole, dif_pos h]
theorem utWhole_pos {l : List Int} (h : utSize l ≠ 0) : utWhole l = utSize l + utWhole (l.drop (utSize l)) := by rw [utWhole, dif_neg h]
/-- All at once: the longest beginning; that the run comes to state 0 behind it; that what is behind begins with no sequence. -/
theorem utWhole_spec (m : Nat) : ∀ l : List Int, l.length ≤ m → utWhole l ≤ l.length ∧ utLon 0 0 0 l = utWhole l ∧ utSize (l.drop (utWhole l)) = 0 ∧ utRn 0 l = utWhole l + utRn 0 (l.drop (utWhole l)) ∧ utRs 0 l = utRs 0 (l.drop (utWhole l)) := by
  induction m with
  | zero =>
    intro l hl
    have : l = [] := List.eq_nil_of_length_eq_zero (by omega)
    subst this
    simp [utWhole_0 utSize_nil, utLon, utSize_nil]
  | succ m ih =>
    intro l hl
    by_cases h : utSize l = 0
    · simp [utWhole_0 h, (ut_F2 l h).1, h]
    · have hle := (utSize_le l).1
      obtain ⟨f1, f2⟩ := ut_F1 l (by omega)
      have hlen : (l.take (utSize l)).length = utSize l := by rw [List.length_take]; omega
      have hsp : l = l.take (utSize l) ++ l.drop (utSize l) := (List.take_append_drop _ _).symm
      obtain ⟨i1, i2, i3, i4, i5⟩ := ih (l.drop (utSize l)) (by rw [List.length_drop]; omega)
      have hw := utWhole_pos h
      have hd : l.drop (utWhole l) = (l.drop (utSize l)).drop (utWhole (l.drop (utSize l))) := by rw [List.drop_drop, hw]
      have hlon : utLon 0 0 0 l = utSize l + utLon 0 0 0 (l.drop (utSize l)) := by
        conv => lhs; rw [hsp]
        rw [utLon_app _ _ _ _ _ (by rw [f1, hlen]), f2, hlen, utLon_all 0 0 0 _ (by rw [f1, hlen]) f2 (fun _ => rfl), hlen, utLon_shift]
        omega
      obtain ⟨r1, r2⟩ := utR_app 0 (l.take (utSize l)) (l.drop (utSize l)) (by rw [f1, hlen])
      rw [← hsp, f2] at r1 r2
      rw [hlen] at r2
      refine ⟨?_, ?_, ?_, ?_, ?_⟩
      · rw [List.length_drop] at i1; omega
      · rw [hlon, hw, i2]
      · rw [hd]; exact i3
      · rw [r2, hd, hw, i4]; omega
      · rw [r1, hd, i5]
end Go.Proofs.Ytolligkigihenaa

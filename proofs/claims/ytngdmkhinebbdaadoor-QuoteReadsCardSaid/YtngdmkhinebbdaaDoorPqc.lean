/- Layer 9, plain: each byte c of a text replaced (repl); pairs of c; what Count and ReplaceAll tell of them; a text is one that repl made just if all its c stand in pairs. -/
import Derived.Test.YtngdmkhinebbdaaDoorPqa
import Derived.Test.YtngdmkhinebbdaaDoorKit3
import Derived.Lib.ReplaceLaws
namespace Go.Proofs.YtngdmkhinebbdaaDoor
set_option linter.unusedVariables false
set_option linter.unusedSimpArgs false

/-- Each byte c replaced by n. -/
def repl (c : UInt8) (n : List UInt8) : List UInt8 → List UInt8
  | [] => []
  | b :: r => if b = c then n ++ repl c n r else b :: repl c n r
theorem repl_append (c : UInt8) (n : List UInt8) : ∀ a b, repl c n (a ++ b) = repl c n a ++ repl c n b
  | [], b => rfl
  | x :: a, b => by
    rw [List.cons_append, repl, repl, repl_append c n a b]
    split <;> simp
theorem repl_none (c : UInt8) (n : List UInt8) : ∀ l : List UInt8, c ∉ l → repl c n l = l
  | [], _ => rfl
  | b :: r, h => by
    rw [repl, if_neg (fun e => h (by rw [e]; exact List.mem_cons_self ..)), repl_none c n r (fun hc => h (List.mem_cons_of_mem _ hc))]
theorem repl_len (c : UInt8) (n : List UInt8) : ∀ l : List UInt8, (repl c n l).length + l.count c = l.length + l.count c * n.length
  | [] => by simp [repl]
  | b :: r => by
    have ih := repl_len c n r
    rw [repl]
    by_cases h : b = c
    · rw [if_pos h, h, List.count_cons_self, List.length_append, List.length_cons, Nat.add_mul, Nat.one_mul]
      omega
    · rw [if_neg h, List.count_cons_of_ne (by simpa using h), List.length_cons, List.length_cons]
      omega
/-- Where the first c stands. -/
theorem index_split (c : UInt8) : ∀ l : List UInt8, (Lib.indexByte l c = -1 ∧ c ∉ l) ∨ ∃ i : Nat, Lib.indexByte l c = i ∧ i < l.length ∧ l = l.take i ++ c :: l.drop (i + 1) ∧ c ∉ l.take i
  | [] => .inl ⟨rfl, by simp⟩
  | b :: r => by
    by_cases h : b = c
    · refine .inr ⟨0, ?_, by simp, by simp [h], by simp⟩
      rw [Lib.indexByte, if_pos (by simpa using h)]; rfl
    · rcases index_split c r with ⟨h1, h2⟩ | ⟨i, h1, h2, h3, h4⟩
      · refine .inl ⟨?_, by simp only [List.mem_cons, not_or]; exact ⟨fun e => h e.symm, h2⟩⟩
        rw [Lib.indexByte, if_neg (by simpa using h), h1]; rfl
      · refine .inr ⟨i + 1, ?_, by simp; omega, ?_, ?_⟩
        · rw [Lib.indexByte, if_neg (by simpa using h), h1, if_neg (by simp <;> omega)]; rfl
        · rw [List.take_succ_cons, List.drop_succ_cons, List.cons_append, ← h3]
        · rw [List.take_succ_cons]; simp only [List.mem_cons, not_or]; exact ⟨fun e => h e.symm, h4⟩
theorem index_hit {c : UInt8} {l : List UInt8} (h : 0 < l.count c) : ∃ i : Nat, Lib.indexByte l c = i ∧ i < l.length ∧ l.count c = (l.drop (i + 1)).count c + 1 ∧ ∀ n, repl c n l = l.take i ++ n ++ repl c n (l.drop (i + 1)) := by
  rcases index_split c l with ⟨h1, h2⟩ | ⟨i, h1, h2, h3, h4⟩
  · exact absurd (List.count_eq_zero.2 h2) (by omega)
  · refine ⟨i, h1, h2, ?_, fun n => ?_⟩
    · have e : l.count c = (l.take i ++ c :: l.drop (i + 1)).count c := by rw [← h3]
      rw [e, List.count_append, List.count_eq_zero.2 h4, List.count_cons_self]; omega
    · have e : repl c n l = repl c n (l.take i ++ c :: l.drop (i + 1)) := by rw [← h3]
      rw [e, repl_append, repl_none c n _ h4, repl, if_pos rfl, List.append_assoc]
/-! ### As numbers -/
theorem repl_dbl (c : UInt8) : ∀ l : List UInt8, (repl c [c, c] l).map (fun b => (b.toNat : Int)) = dbl (c.toNat : Int) (l.map fun b => (b.toNat : Int))
  | [] => rfl
  | b :: r => by
    rw [repl, List.map_cons, dbl, ← repl_dbl c r]
    by_cases h : b = c
    · rw [if_pos h, if_pos (by rw [h])]; rfl
    · rw [if_neg h, if_neg (fun e => h (UInt8.toNat_inj.1 (by omega)))]; rfl
/-! ### Pairs -/
/-- How many pairs of c stand in a text, from the left. -/
def pairs (c : UInt8) : List UInt8 → Nat
  | [] => 0
  | [_] => 0
  | b :: d :: r => if b = c ∧ d = c then 1 + pairs c r else pairs c (d :: r)
/-- One c for each pair. -/
def ones (c : UInt8) : List UInt8 → List UInt8
  | [] => []
  | [b] => [b]
  | b :: d :: r => if b = c ∧ d = c then c :: ones c r else b :: ones c (d :: r)
theorem pairs_skip {c b : UInt8} (h : b ≠ c) (r : List UInt8) : pairs c (b :: r) = pairs c r := by
  cases r with
  | nil => rfl
  | cons d r => rw [pairs, if_neg (fun e => h e.1)]
theorem ones_skip {c b : UInt8} (h : b ≠ c) (r : List UInt8) : ones c (b :: r) = b :: ones c r := by
  cases r with
  | nil => rfl
  | cons d r => rw [ones, if_neg (fun e => h e.1)]
theorem pairs_le (c : UInt8) : ∀ (k : Nat) (l : List UInt8), l.length ≤ k → 2 * pairs c l ≤ l.count c
  | _, [], _ => by simp [pairs]
  | _, [b], _ => by simp [pairs]
  | 0, b :: d :: r, hk => by simp at hk
  | k + 1, b :: d :: r, hk => by
    rw [pairs]
    split
    · rename_i h
      have ih := pairs_le c k r (by simp at hk; omega)
      rw [h.1, h.2, List.count_cons_self, List.count_cons_self]; omega
    · have ih := pairs_le c k (d :: r) (by simp at hk ⊢; omega)
      have : (d :: r).count c ≤ (b :: d :: r).count c := List.count_le_count_cons ..
      omega
theorem pairs_repl (c : UInt8) : ∀ g : List UInt8, 2 * pairs c (repl c [c, c] g) = (repl c [c, c] g).count c ∧ ones c (repl c [c, c] g) = g
  | [] => ⟨rfl, rfl⟩
  | b :: r => by
    obtain ⟨h1, h2⟩ := pairs_repl c r
    rw [repl]
    by_cases h : b = c
    · rw [if_pos h]
      show 2 * pairs c (c :: c :: repl c [c, c] r) = (c :: c :: repl c [c, c] r).count c ∧ ones c (c :: c :: repl c [c, c] r) = _
      rw [pairs, ones, if_pos ⟨rfl, rfl⟩, if_pos ⟨rfl, rfl⟩, List.count_cons_self, List.count_cons_self, h2, h]
      exact ⟨by omega, rfl⟩
    · rw [if_neg h, pairs_skip h, ones_skip h, List.count_cons_of_ne (by simpa using h), h2]
      exact ⟨h1, rfl⟩
theorem repl_pairs (c : UInt8) : ∀ (k : Nat) (l : List UInt8), l.length ≤ k → l.count c = 2 * pairs c l → l = repl c [c, c] (ones c l)
  | _, [], _, _ => rfl
  | _, [b], _, h => by
    rw [ones, repl, if_neg (fun e => by rw [e] at h; simp [pairs] at h)]; rfl
  | 0, b :: d :: r, hk, _ => by simp at hk
  | k + 1, b :: d :: r, hk, h => by
    rw [pairs] at h
    rw [ones]
    split at h
    · rename_i hb
      rw [if_pos hb, repl, if_pos rfl]
      rw [hb.1, hb.2, List.count_cons_self, List.count_cons_self] at h
      have ih := repl_pairs c k r (by simp at hk; omega) (by omega)
      rw [← ih, hb.1, hb.2]; rfl
    · rename_i hb
      rw [if_neg hb]
      have hle := pairs_le c (d :: r).length (d :: r) (Nat.le_refl _)
      by_cases hc : b = c
      · exfalso
        rw [hc, List.count_cons_self] at h; omega
      · rw [repl, if_neg hc]
        rw [List.count_cons_of_ne (by simpa using hc)] at h
        have ih := repl_pairs c k (d :: r) (by simp at hk ⊢; omega) h
        rw [← ih]
/-! ### What the library's words tell of pairs -/
theorem isPre_two (c : UInt8) (b d : UInt8) (r : List UInt8) : ([c, c].isPrefixOf (b :: d :: r)) = decide (b = c ∧ d = c) := by
  rw [Bool.eq_iff_iff]
  simp only [List.isPrefixOf_cons_cons, List.isPrefixOf_nil_left, Bool.and_true, Bool.and_eq_true, beq_iff_eq, decide_eq_true_eq]
  exact ⟨fun h => ⟨h.1.symm, h.2.symm⟩, fun h => ⟨h.1.symm, h.2.symm⟩⟩
theorem count_pre {sub : List UInt8} (hs : sub ≠ []) {l : List UInt8} (h : sub.isPrefixOf l = true) : Lib.count l sub = 1 + Lib.count (l.drop sub.length) sub := by
  have h0 : Lib.index l sub = ((0 : Nat) : Int) := Lib.index_first (Nat.zero_le _) (by simpa [Lib.occAt] using h) (fun j hj => by omega)
  have := Lib.count_hit hs h0
  rw [this, Nat.zero_add]
theorem index_skip {sub : List UInt8} {b : UInt8} {l : List UInt8} (h : sub.isPrefixOf (b :: l) = false) : Lib.index (b :: l) sub = if Lib.index l sub = -1 then -1 else Lib.index l sub + 1 := by
  rw [Lib.index, h]
  by_cases h1 : Lib.index l sub = -1
  · simp [h1]
  · simp [h1]
theorem count_skip {sub : List UInt8} (hs : sub ≠ []) {b : UInt8} {l : List UInt8} (h : sub.isPrefixOf (b :: l) = false) : Lib.count (b :: l) sub = Lib.count l sub := by
  have hk := index_skip h
  have hge := Lib.index_ge l sub
  by_cases h1 : Lib.index l sub = -1
  · rw [if_pos h1] at hk
    rw [Lib.count_miss hk, Lib.count_miss h1]
  · obtain ⟨i, hi⟩ : ∃ i : Nat, Lib.index l sub = i := ⟨(Lib.index l sub).toNat, by omega⟩
    rw [if_neg h1, hi] at hk
    have hk' : Lib.index (b :: l) sub = ((i + 1 : Nat) : Int) := by rw [hk]; rfl
    rw [Lib.count_hit hs hk', Lib.count_hit hs hi, show i + 1 + sub.length = (i + sub.length) + 1 by omega, List.drop_succ_cons]
theorem count_nil {sub : List UInt8} (hs : sub ≠ []) : Lib.count [] sub = 0 := Lib.count_miss (by
  rw [Lib.index]; cases sub with
  | nil => exact absurd rfl hs
  | cons => rfl)
theorem count_pairs (c : UInt8) : ∀ (k : Nat) (l : List UInt8), l.length ≤ k → Lib.count l [c, c] = pairs c l
  | _, [], _ => count_nil (by simp)
  | _, [b], _ => by
    rw [count_skip (by simp) (by simp [List.isPrefixOf]), count_nil (by simp)]; rfl
  | 0, b :: d :: r, hk => by simp at hk
  | k + 1, b :: d :: r, hk => by
    rw [pairs]
    by_cases h : b = c ∧ d = c
    · rw [if_pos h, count_pre (by simp) (by rw [isPre_two, decide_eq_true h])]
      show 1 + Lib.count r [c, c] = _
      rw [count_pairs c k r (by simp at hk; omega)]
    · rw [if_neg h, count_skip (by simp) (by rw [isPre_two, decide_eq_false h]), count_pairs c k (d :: r) (by simp at hk ⊢; omega)]
theorem replaceK_skip {old new : List UInt8} (k : Nat) {b : UInt8} {l : List UInt8} (h : old.isPrefixOf (b :: l) = false) : Lib.replaceK old new k (b :: l) = b :: Lib.replaceK old new k l := by
  cases k with
  | zero => rfl
  | succ k =>
    have hk := index_skip h
    have hge := Lib.index_ge l old
    by_cases h1 : Lib.index l old = -1
    · rw [if_pos h1] at hk
      rw [Lib.replaceK, if_pos (by rw [hk]; rfl), Lib.replaceK, if_pos (by rw [h1]; rfl)]
    · obtain ⟨i, hi⟩ : ∃ i : Nat, Lib.index l old = i := ⟨(Lib.index l old).toNat, by omega⟩
      rw [if_neg h1, hi] at hk
      have hk' : Lib.index (b :: l) old = ((i + 1 : Nat) : Int) := by rw [hk]; rfl
      rw [Lib.replaceK_hit _ _ _ _ _ hk', Lib.replaceK_hit _ _ _ _ _ hi, show i + 1 + old.length = (i + old.length) + 1 by omega, List.drop_succ_cons, List.take_succ_cons]
      rfl
theorem replaceK_pre {old new : List UInt8} (k : Nat) {l : List UInt8} (h : old.isPrefixOf l = true) : Lib.replaceK old new (k + 1) l = new ++ Lib.replaceK old new k (l.drop old.length) := by
  have h0 : Lib.index l old = ((0 : Nat) : Int) := Lib.index_first (Nat.zero_le _) (by simpa [Lib.occAt] using h) (fun j hj => by omega)
  rw [Lib.replaceK_hit _ _ _ _ _ h0, List.take_zero, Nat.zero_add]; rfl
theorem replaceK_ones (c : UInt8) : ∀ (k : Nat) (l : List UInt8), l.length ≤ k → Lib.replaceK [c, c] [c] (pairs c l) l = ones c l
  | _, [], _ => rfl
  | _, [b], _ => rfl
  | 0, b :: d :: r, hk => by simp at hk
  | k + 1, b :: d :: r, hk => by
    rw [pairs, ones]
    by_cases h : b = c ∧ d = c
    · rw [if_pos h, if_pos h, Nat.add_comm, replaceK_pre _ (by rw [isPre_two, decide_eq_true h])]
      show [c] ++ Lib.replaceK [c, c] [c] (pairs c r) r = _
      rw [replaceK_ones c k r (by simp at hk; omega)]; rfl
    · rw [if_neg h, if_neg h, replaceK_skip _ (by rw [isPre_two, decide_eq_false h]), replaceK_ones c k (d :: r) (by simp at hk ⊢; omega)]
theorem replaceAll_ones (c : UInt8) (l : List UInt8) : Lib.replaceAll l [c, c] [c] = ones c l := by
  unfold Lib.replaceAll Lib.replace Lib.replaceNum
  rw [if_neg (by simp), if_pos (.inl (by omega)), count_pairs c l.length l (Nat.le_refl _), replaceK_ones c l.length l (Nat.le_refl _)]
/-! ### A text behind its first Quote -/
theorem unq_suffix {c : UInt8} {l : List UInt8} (h : Lib.hasSuffix l [c] = true) : l = Lib.trimSuffix l [c] ++ [c] := by
  unfold Lib.trimSuffix
  rw [if_pos h]
  obtain ⟨t, ht⟩ := List.isSuffixOf_iff_suffix.1 h
  subst ht
  simp
theorem unq_nosuffix {c : UInt8} {l : List UInt8} (h : Lib.hasSuffix l [c] = false) (t : List UInt8) : l ≠ t ++ [c] := fun e => by
  have : Lib.hasSuffix l [c] = true := List.isSuffixOf_iff_suffix.2 ⟨t, e.symm⟩
  rw [h] at this; cases this
end Go.Proofs.YtngdmkhinebbdaaDoor

/- Layer 6: all bytes of a text, and whether they go on (mchU); the first fault of both. -/
import Derived.Test.YtngdmkhinebbdaaDoorPes
import Derived.Test.YtngdmkhinebbdaaDoorUto
namespace Go.Proofs.YtngdmkhinebbdaaDoor
open Go.RowKit
set_option linter.unusedVariables false
set_option linter.unusedSimpArgs false

/-- As mch, and each byte must go on, first of all. -/
def mchU (d q e : Int) : Int → Int → Mk → Nat → List Int → Got
  | u, t, m, i, [] =>
    if u ≠ 0 then ⟨[], 12, i⟩
    else if closeK t ≠ 0 then ⟨[], closeK t, i⟩
    else if (mTake (closeE t) m).er ≠ 0 then ⟨[], (mTake (closeE t) m).er, i⟩
    else if mTold (closeE t) m = true then ⟨[(mRec (closeE t) m, i)], 0, 0⟩ else ⟨[], 0, 0⟩
  | u, t, m, i, b :: r =>
    if utOk u b = false then ⟨[], 3, i⟩
    else if (stepR d q e t b).k ≠ 0 then ⟨[], (stepR d q e t b).k, i⟩
    else if (mTake (stepR d q e t b).ev m).er ≠ 0 then ⟨[], (mTake (stepR d q e t b).ev m).er, i⟩
    else if mTold (stepR d q e t b).ev m = true then (mchU d q e (utNx u b) (stepR d q e t b).n (mTake (stepR d q e t b).ev m) (i + 1) r).more (mRec (stepR d q e t b).ev m) i
    else mchU d q e (utNx u b) (stepR d q e t b).n (mTake (stepR d q e t b).ev m) (i + 1) r
/-- The records that are whole ahead of a place, and a fault there. -/
def Got.upto (g : Got) (k : Int) (n : Nat) : Got := ⟨g.rs.filter fun p => decide (p.2 < n), k, n⟩
/-- The first fault of the text's bytes (they go on up to place n; u: the state behind the last one; N: the text's end) and of its grammar. -/
def Got.merge (g : Got) (n N : Nat) (u : Int) : Got :=
  if n < N then (if g.k ≠ 0 ∧ g.at_ < n then g else g.upto 3 n)
  else if u ≠ 0 ∧ ¬ (g.k ≠ 0 ∧ g.at_ < N) then g.upto 12 N else g

section
variable {d q e : Int}
theorem mch_from : ∀ (l : List Int) (t : Int) (m : Mk) (i : Nat), ((mch d q e t m i l).k ≠ 0 → i ≤ (mch d q e t m i l).at_) ∧ ∀ p ∈ (mch d q e t m i l).rs, i ≤ p.2
  | [], t, m, i => by
    rw [mch]
    split
    · exact ⟨fun _ => Nat.le_refl _, by simp⟩
    · split
      · exact ⟨fun _ => Nat.le_refl _, by simp⟩
      · split
        · exact ⟨fun h => absurd rfl h, by simp⟩
        · exact ⟨fun h => absurd rfl h, by simp⟩
  | b :: r, t, m, i => by
    have ih := mch_from r (stepR d q e t b).n (mTake (stepR d q e t b).ev m) (i + 1)
    rw [mch]
    split
    · exact ⟨fun _ => Nat.le_refl _, by simp⟩
    · split
      · exact ⟨fun _ => Nat.le_refl _, by simp⟩
      · split
        · refine ⟨fun h => Nat.le_trans (Nat.le_succ i) (ih.1 h), fun p hp => ?_⟩
          rcases List.mem_cons.1 hp with rfl | hp
          · exact Nat.le_refl _
          · exact Nat.le_trans (Nat.le_succ i) (ih.2 p hp)
        · exact ⟨fun h => Nat.le_trans (Nat.le_succ i) (ih.1 h), fun p hp => Nat.le_trans (Nat.le_succ i) (ih.2 p hp)⟩
theorem filter_none {l : List (List ByteArray × Nat)} {n : Nat} (h : ∀ p ∈ l, n ≤ p.2) : l.filter (fun p => decide (p.2 < n)) = [] := by
  rw [List.filter_eq_nil_iff]
  intro p hp
  have := h p hp
  simp; omega
theorem more_merge {g : Got} {r : List ByteArray} {i n N : Nat} {u : Int} (h : i < n) (hN : i < N) : (g.more r i).merge n N u = (g.merge n N u).more r i := by
  unfold Got.merge Got.more Got.upto
  dsimp only
  split
  · split
    · rfl
    · simp [h]
  · split
    · simp [hN]
    · rfl
/-- Both faults at once are the first one of each. -/
theorem mchU_is : ∀ (l : List Int) (u t : Int) (m : Mk) (i : Nat), mchU d q e u t m i l = (mch d q e t m i l).merge (i + utRn u l) (i + l.length) (utRs u l)
  | [], u, t, m, i => by
    have hf := mch_from (d := d) (q := q) (e := e) [] t m i
    have hL : mchU d q e u t m i [] = if u ≠ 0 then ⟨[], 12, i⟩ else mch d q e t m i [] := by rw [mchU, mch]
    have hg : ∀ g : Got, g.merge (i + 0) (i + 0) u = if u ≠ 0 ∧ ¬ (g.k ≠ 0 ∧ g.at_ < i + 0) then g.upto 12 (i + 0) else g := fun g => by
      unfold Got.merge; rw [if_neg (by omega)]
    rw [hL, utRs, utRn]
    show _ = (mch d q e t m i []).merge (i + 0) (i + 0) u
    rw [hg]
    by_cases hu : u = 0
    · rw [if_neg (by simpa using hu), if_neg (by rintro ⟨h, _⟩; exact h hu)]
    · have : ¬ ((mch d q e t m i []).k ≠ 0 ∧ (mch d q e t m i []).at_ < i + 0) := by
        rintro ⟨h1, h2⟩
        have := hf.1 h1
        omega
      rw [if_pos hu, if_pos ⟨hu, this⟩, Got.upto, filter_none (by simpa using hf.2)]
      simp
  | b :: r, u, t, m, i => by
    rw [mchU]
    cases hu : utOk u b
    · rw [if_pos rfl, utRn, if_neg (by simp [hu]), utRs, if_neg (by simp [hu]), Got.merge, if_pos (by simp)]
      have hf := mch_from (d := d) (q := q) (e := e) (b :: r) t m i
      rw [if_neg (by rintro ⟨h1, h2⟩; have := hf.1 h1; omega), Got.upto, filter_none (by simpa using hf.2)]
      simp
    · rw [if_neg (by simp), utRn, if_pos hu, utRs, if_pos hu]
      have e1 : i + (utRn (utNx u b) r + 1) = (i + 1) + utRn (utNx u b) r := by omega
      have e2 : i + (b :: r).length = (i + 1) + r.length := by simp; omega
      rw [e1, e2, mch]
      have one : ∀ k : Int, k ≠ 0 → (⟨[], k, i⟩ : Got).merge (i + 1 + utRn (utNx u b) r) (i + 1 + r.length) (utRs (utNx u b) r) = ⟨[], k, i⟩ := fun k hk => by
        unfold Got.merge
        split
        · rw [if_pos ⟨hk, by show i < _; omega⟩]
        · rw [if_neg (by rintro ⟨_, h⟩; exact h ⟨hk, by show i < _; omega⟩)]
      split
      · rename_i h; rw [one _ h]
      · split
        · rename_i h; rw [one _ h]
        · split
          · rw [mchU_is r, more_merge (by omega) (by omega)]
          · rw [mchU_is r]
end
end Go.Proofs.YtngdmkhinebbdaaDoor

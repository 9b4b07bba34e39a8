/- Layer 6: the walk of the statement WholeParses: the Go text returns true and leaves all that was there as it was. -/
import Derived.Test.YtbglecaahopgdaaWki
import Derived.Test.YtbglecaahopgdaaWkj
namespace Go.Proofs.Ytbglecaahopgdaa
open Go.ChangeShapes Go.WideShapes Go.ChangeAt Go.RowKit
set_option linter.unusedVariables false
set_option linter.unusedSimpArgs false

theorem mchU_wide {d q e : Int} : ∀ (l : List Int) (u t : Int) (m : Mk) (i N : Nat), m.Ok N → ∀ p ∈ (mchU d q e u t m i l).rs, p.1.length ≤ 2 * (N + l.length + 1)
  | [], u, t, m, i, N, ok, p, hp => by
    rw [mchU] at hp
    have hg := (few_gather (closeE t) m).rc
    have hN := ok.rcN
    have hr : (mRec (closeE t) m).length ≤ 2 * (N + 1) := by
      unfold mRec; split
      · omega
      · simp
    split at hp
    · simp at hp
    · split at hp
      · simp at hp
      · split at hp
        · simp at hp
        · split at hp
          · simp at hp; subst hp; simp; omega
          · simp at hp
  | b :: r, u, t, m, i, N, ok, p, hp => by
    have ih := mchU_wide (d := d) (q := q) (e := e) r (utNx u b) (stepR d q e t b).n (mTake (stepR d q e t b).ev m) (i + 1) (N + 1) (ok_take _ ok)
    have hg := (few_gather (stepR d q e t b).ev m).rc
    have hN := ok.rcN
    have hr : (mRec (stepR d q e t b).ev m).length ≤ 2 * (N + 1) := by
      unfold mRec; split
      · omega
      · simp
    rw [mchU] at hp
    split at hp
    · simp at hp
    · split at hp
      · simp at hp
      · split at hp
        · simp at hp
        · split at hp
          · rcases List.mem_cons.1 hp with rfl | hp
            · simp; omega
            · have := ih p hp; simp; omega
          · have := ih p hp; simp; omega
theorem GotOk.mono {G : Got} {n m : Nat} (h : GotOk G n) (hm : n ≤ m) : GotOk G m := ⟨h.k, fun p hp => Nat.le_trans (h.e p hp) hm, by have := h.len; omega, Nat.le_trans h.a hm, h.z⟩
theorem right_dia {d q e : Int} (h : rightB d q e = true) : Dia d q e := by
  simp [rightB, okB] at h
  exact ⟨by simpa using h.2.2.1, by omega, by omega, by omega, by omega⟩
theorem within_pos {n : Int} (h : withinB n = true) : 1 ≤ n := by simp [withinB] at h; exact h.1
theorem bit_is (u : Bool) : decide (bit u = 1) = u := by cases u <;> rfl
theorem bit_01 (u : Bool) : bit u = 0 ∨ bit u = 1 := by cases u <;> simp [bit]

/-- What Parse tells of a right dialect and limits is what the document's Parse tells. -/
theorem par_is (d q e a b c : Int) (u : Bool) (s : ByteArray) (hs : s.size ≤ 300) (h1 : rightB d q e = true) (h2 : (withinB a && (withinB b && withinB c)) = true) :
    ∃ G rs K A, rdGo d q e (s.size + 1) ⟨a, b, c, decide (bit u = 1), [], [], 0, 0, 0, 0⟩ 0 (bomStrip (bl s)) = G ∧ GotOk G 300 ∧ whRs G (bl s) = rs ∧ (whKA G (bl s)).1 = K ∧ (if K = 0 then 0 else ((whKA G (bl s)).2 : Int)) = A ∧ parW d q e a b c u s = ⟨rs, K, A⟩ ∧ (∀ r ∈ rs, r.length ≤ 1000) ∧ rs.length ≤ 1000 := by
  have hd := right_dia h1
  have h2' := h2
  simp only [Bool.and_eq_true] at h2'
  obtain ⟨w1, w2, w3⟩ := h2'
  have p1 := within_pos w1
  have p2 := within_pos w2
  have p3 := within_pos w3
  have hlen : (bomStrip (bl s)).length ≤ s.size := by have := whOff_len (bl s); rw [bl_length] at this; omega
  have hm : (⟨a, b, c, decide (bit u = 1), [], [], 0, 0, 0, 0⟩ : Mk) = mk0 a b c u := by rw [bit_is]; rfl
  obtain ⟨e1, e2, e3⟩ := wh_is hd (mk0 a b c u) (bl s) rfl rfl rfl (by show 0 ≤ a; omega) (by show 0 < b; omega) (by show 0 ≤ c; omega) (s.size + 1) (by omega)
  refine ⟨_, _, _, _, rfl, ?_, rfl, rfl, rfl, ?_, ?_, ?_⟩
  · rw [hm]
    exact (got_ok hd (mk0 a b c u) _ rfl rfl rfl (by show 0 ≤ a; omega) (by show 0 < b; omega) (by show 0 ≤ c; omega) (s.size + 1) (by omega)).mono (by omega)
  · rw [hm]
    unfold parW
    rw [if_neg (by rw [h1]; simp), if_neg (by rw [h2]; simp), ← e1, ← e2]
    by_cases hk : (whP d q e (mk0 a b c u) (bl s)).k = 0
    · rw [if_pos hk, if_pos hk]
    · rw [if_neg hk, if_neg hk, e3 hk]
  · rw [hm, ← e1]
    intro r hr
    obtain ⟨p, hp, rfl⟩ := List.mem_map.1 hr
    have := mchU_wide (bomStrip (bl s)) 0 0 (mk0 a b c u) (whOff (bl s)) 0 (mk0_ok a b c u h2) p hp
    omega
  · rw [hm, ← e1, List.length_map]
    have := mchU_few (d := d) (q := q) (e := e) (bomStrip (bl s)) 0 0 (mk0 a b c u) (whOff (bl s))
    unfold whP
    omega
end Go.Proofs.Ytbglecaahopgdaa

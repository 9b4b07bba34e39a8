/- Layer 6: what is whole ahead of a place doesn't hang on what stands behind it: plain. -/
import Derived.Test.YtbglecaahopgdaaPwb
namespace Go.Proofs.Ytbglecaahopgdaa
open Go.RowKit
set_option linter.unusedVariables false
set_option linter.unusedSimpArgs false

/-- The records that the bytes alone make whole. -/
def mchB (d q e : Int) : Int → Int → Mk → Nat → List Int → List (List ByteArray × Nat)
  | u, t, m, i, [] => []
  | u, t, m, i, b :: r =>
    if utOk u b = false then []
    else if (stepR d q e t b).k ≠ 0 then []
    else if (mTake (stepR d q e t b).ev m).er ≠ 0 then []
    else if mTold (stepR d q e t b).ev m = true then (mRec (stepR d q e t b).ev m, i) :: mchB d q e (utNx u b) (stepR d q e t b).n (mTake (stepR d q e t b).ev m) (i + 1) r
    else mchB d q e (utNx u b) (stepR d q e t b).n (mTake (stepR d q e t b).ev m) (i + 1) r
section
variable {d q e : Int}
theorem mchU_bytes : ∀ (l : List Int) (u t : Int) (m : Mk) (i : Nat), ∃ E, (mchU d q e u t m i l).rs = mchB d q e u t m i l ++ E ∧ E.length ≤ 1 ∧ ((mchU d q e u t m i l).k ≠ 0 → E = [])
  | [], u, t, m, i => by
    rw [mchU, mchB]
    split
    · exact ⟨[], rfl, by simp, fun _ => rfl⟩
    · split
      · exact ⟨[], rfl, by simp, fun _ => rfl⟩
      · split
        · exact ⟨[], rfl, by simp, fun _ => rfl⟩
        · split
          · exact ⟨[_], rfl, by simp, fun h => absurd rfl h⟩
          · exact ⟨[], rfl, by simp, fun _ => rfl⟩
  | b :: r, u, t, m, i => by
    obtain ⟨E, h1, h2, h3⟩ := mchU_bytes r (utNx u b) (stepR d q e t b).n (mTake (stepR d q e t b).ev m) (i + 1)
    rw [mchU, mchB]
    split
    · exact ⟨[], rfl, by simp, fun _ => rfl⟩
    · split
      · exact ⟨[], rfl, by simp, fun _ => rfl⟩
      · split
        · exact ⟨[], rfl, by simp, fun _ => rfl⟩
        · split
          · exact ⟨E, by show _ :: _ = _ :: _ ++ E; rw [h1]; rfl, h2, h3⟩
          · exact ⟨E, h1, h2, h3⟩
theorem mchB_front : ∀ (a b : List Int) (u t : Int) (m : Mk) (i : Nat), ∃ F, mchB d q e u t m i (a ++ b) = mchB d q e u t m i a ++ F
  | [], b, u, t, m, i => ⟨mchB d q e u t m i b, by rw [mchB]; rfl⟩
  | x :: a, b, u, t, m, i => by
    obtain ⟨F, h⟩ := mchB_front a b (utNx u x) (stepR d q e t x).n (mTake (stepR d q e t x).ev m) (i + 1)
    rw [List.cons_append, mchB, mchB]
    split
    · exact ⟨[], rfl⟩
    · split
      · exact ⟨[], rfl⟩
      · split
        · exact ⟨[], rfl⟩
        · split
          · exact ⟨F, by rw [h]; rfl⟩
          · exact ⟨F, h⟩
theorem mchU_from : ∀ (l : List Int) (u t : Int) (m : Mk) (i : Nat), (mchU d q e u t m i l).k ≠ 0 → i ≤ (mchU d q e u t m i l).at_
  | [], u, t, m, i => by
    rw [mchU]
    split
    · exact fun _ => Nat.le_refl _
    · split
      · exact fun _ => Nat.le_refl _
      · split
        · exact fun _ => Nat.le_refl _
        · split <;> exact fun h => absurd rfl h
  | b :: r, u, t, m, i => by
    have ih := mchU_from r (utNx u b) (stepR d q e t b).n (mTake (stepR d q e t b).ev m) (i + 1)
    rw [mchU]
    split
    · exact fun _ => Nat.le_refl _
    · split
      · exact fun _ => Nat.le_refl _
      · split
        · exact fun _ => Nat.le_refl _
        · split
          · exact fun h => Nat.le_trans (Nat.le_succ i) (ih h)
          · exact fun h => Nat.le_trans (Nat.le_succ i) (ih h)
theorem mchU_front : ∀ (a b : List Int) (u t : Int) (m : Mk) (i : Nat), (mchU d q e u t m i a).k ≠ 0 → (mchU d q e u t m i a).at_ < i + a.length →
    (mchU d q e u t m i (a ++ b)).k = (mchU d q e u t m i a).k ∧ (mchU d q e u t m i (a ++ b)).at_ = (mchU d q e u t m i a).at_
  | [], b, u, t, m, i => fun hk h => by
    have := mchU_from [] u t m i hk
    simp at h; omega
  | x :: a, b, u, t, m, i => by
    have ih := mchU_front a b (utNx u x) (stepR d q e t x).n (mTake (stepR d q e t x).ev m) (i + 1)
    rw [List.cons_append, mchU, mchU]
    have e2 : i + (x :: a).length = (i + 1) + a.length := by simp; omega
    rw [e2]
    split
    · exact fun _ _ => ⟨rfl, rfl⟩
    · split
      · exact fun _ _ => ⟨rfl, rfl⟩
      · split
        · exact fun _ _ => ⟨rfl, rfl⟩
        · split
          · exact ih
          · exact ih
/-- A beginning of a text and the text: the fault, if it lies within the beginning; the records, but the one that its end made whole. -/
theorem mchU_both (a b : List Int) (u t : Int) (m : Mk) (i : Nat) : ∀ j r, j + (if (mchU d q e u t m i a).k = 0 then 1 else 0) < (mchU d q e u t m i a).rs.length →
    (mchU d q e u t m i a).rs[j]? = some r → (mchU d q e u t m i (a ++ b)).rs[j]? = some r := by
  intro j r hj hr
  obtain ⟨E, h1, h2, h3⟩ := mchU_bytes (d := d) (q := q) (e := e) a u t m i
  obtain ⟨E', h1', _, _⟩ := mchU_bytes (d := d) (q := q) (e := e) (a ++ b) u t m i
  obtain ⟨F, hF⟩ := mchB_front (d := d) (q := q) (e := e) a b u t m i
  have hlt : j < (mchB d q e u t m i a).length := by
    have hl : (mchU d q e u t m i a).rs.length = (mchB d q e u t m i a).length + E.length := by rw [h1, List.length_append]
    by_cases hk : (mchU d q e u t m i a).k = 0
    · rw [if_pos hk] at hj; omega
    · rw [if_neg hk] at hj
      have := h3 hk
      rw [this] at hl
      simp at hl; omega
  rw [h1, List.getElem?_append_left hlt] at hr
  rw [h1', hF, List.append_assoc, List.getElem?_append_left hlt]
  exact hr
end

/-- What a beginning of k bytes tells (g), beside what all of it does (G). -/
def FrontOk (g G : Got) (k : Nat) : Prop :=
  (g.k ≠ 0 → g.at_ < k → G.k = g.k ∧ G.at_ = g.at_) ∧ ∀ j r, j + (if g.k = 0 then 1 else 0) < g.rs.length → g.rs[j]? = some r → G.rs[j]? = some r
/-- The same of whole texts, their marks taken away. -/
theorem wh_front {d q e : Int} (hd : Dia d q e) (d7 : d ≤ 127) (q7 : q ≤ 127) (m : Mk) (h0 : m.er = 0) (hf : m.fd = []) (hlf : 2 ≤ m.lf) (hbg : m.bg < m.lr) (s : List Int) (k : Nat) (hk : k ≤ s.length) :
    FrontOk (whP d q e m (s.take k)) (whP d q e m s) k := by
  have hlen : (s.take k).length = k := by rw [List.length_take]; omega
  -- the texts without their marks: the one begins the other
  have main : ∀ b, bomStrip s = bomStrip (s.take k) ++ b → whOff (s.take k) = whOff s → FrontOk (whP d q e m (s.take k)) (whP d q e m s) k := fun b hb ho => by
    have hl := whOff_len (s.take k)
    rw [hlen] at hl
    have e1 : whP d q e m s = mchU d q e 0 0 m (whOff s) (bomStrip (s.take k) ++ b) := by unfold whP; rw [hb]
    have e2 : whP d q e m (s.take k) = mchU d q e 0 0 m (whOff s) (bomStrip (s.take k)) := by unfold whP; rw [ho]
    rw [e1, e2]
    exact ⟨fun h1 h2 => mchU_front _ b 0 0 m (whOff s) h1 (by rw [ho] at hl; omega), fun j r hj hr => mchU_both _ b 0 0 m (whOff s) j r hj hr⟩
  by_cases hs : bomHad s = true
  · have hsp := bom_split hs
    by_cases hk3 : 3 ≤ k
    · have htk : s.take k = bomMk ++ (bomStrip s).take (k - 3) := by
        conv => lhs; rw [hsp]
        rw [List.take_append, List.take_of_length_le (by simp [bomMk]; omega)]
        simp [bomMk]
      have hh : bomHad (s.take k) = true := by
        unfold bomHad; rw [htk]; exact List.isPrefixOf_iff_prefix.2 ⟨_, rfl⟩
      refine main ((bomStrip s).drop (k - 3)) ?_ (by unfold whOff; rw [hs, hh])
      have : bomStrip (s.take k) = (bomStrip s).take (k - 3) := by
        conv => lhs; unfold bomStrip
        rw [if_pos hh, htk]; simp [bomMk]
      rw [this, List.take_append_drop]
    · -- a beginning of the mark alone: no record, and no fault but at its end
      have hsub : s.take k = bomMk.take k := by
        conv => lhs; rw [hsp]
        rw [List.take_append_of_le_length (by simp [bomMk]; omega)]
      have hkk : k = 0 ∨ k = 1 ∨ k = 2 := by omega
      have key : (whP d q e m (s.take k)).rs = [] ∧ ((whP d q e m (s.take k)).k ≠ 0 → (whP d q e m (s.take k)).at_ = k) := by
        rw [hsub]
        have step0 : ∀ r, mchU d q e 0 0 m 0 (239 :: r) = mchU d q e 2 2 { m with bg := m.bg + 1, fd := [239] } 1 r := fun r => by
          have s1 : stepR d q e 0 239 = ⟨{ evAdd 239 with bg := true }, 2, 0⟩ := by
            have ho : oopB e 239 = false := by simp [oopB]
            have n1 : ¬ (239 : Int) = q := by omega
            have n2 : ¬ (239 : Int) = d := by omega
            simp [stepR, ho, aheadR, firstR, n1, parB, n2]
          obtain ⟨t1, t2, t3⟩ := take_bg (m := m) h0 (v := evAdd 239) rfl hbg
          have ta := take_add (m := { m with bg := m.bg + 1 }) h0 239
          have hadd : mA true 239 { m with bg := m.bg + 1 } = { m with bg := m.bg + 1, fd := [239] } := by
            unfold mA
            rw [if_pos rfl, if_neg (by show ¬ m.lf ≤ (m.fd.length : Int); rw [hf]; simp; omega)]
            rw [hf]; rfl
          rw [mchU, if_neg (by decide), s1]
          dsimp only
          rw [t1, t2, ta.1, ta.2, hadd, if_neg (by simp), if_neg (by simpa using h0), if_neg (by simp)]
          rfl
        rcases hkk with rfl | rfl | rfl
        · refine ⟨?_, fun h => ?_⟩
          · show (mchU d q e 0 0 m 0 []).rs = []
            have t := take_0 h0
            rw [mchU, if_neg (by simp), show closeK 0 = 0 from rfl, show closeE 0 = ev0 from rfl, if_neg (by simp), if_neg (by rw [t.1]; simpa using h0), if_neg (by rw [t.2]; simp)]
          · exfalso
            apply h
            show (mchU d q e 0 0 m 0 []).k = 0
            have t := take_0 h0
            rw [mchU, if_neg (by simp), show closeK 0 = 0 from rfl, show closeE 0 = ev0 from rfl, if_neg (by simp), if_neg (by rw [t.1]; simpa using h0), if_neg (by rw [t.2]; simp)]
        · have : whP d q e m (bomMk.take 1) = ⟨[], 12, 1⟩ := by
            show mchU d q e 0 0 m 0 [239] = _
            rw [step0, mchU, if_pos (by decide)]
          rw [this]
          exact ⟨rfl, fun _ => rfl⟩
        · have : whP d q e m (bomMk.take 2) = ⟨[], 12, 2⟩ := by
            show mchU d q e 0 0 m 0 [239, 187] = _
            have s2 : stepR d q e 2 187 = ⟨evAdd 187, 2, 0⟩ := st2_b hd (by omega) (by simp [stops]; omega)
            have ta := take_add (m := { m with bg := m.bg + 1, fd := [239] }) h0 187
            have hadd : (mA true 187 { m with bg := m.bg + 1, fd := [239] }).er = 0 := by
              unfold mA
              rw [if_pos rfl, if_neg (by show ¬ m.lf ≤ (1 : Int); omega)]
              exact h0
            rw [step0, mchU, if_neg (by decide), s2]
            dsimp only
            rw [ta.1, ta.2, if_neg (by simp), if_neg (by simpa using hadd), if_neg (by simp), mchU, if_pos (by decide)]
          rw [this]
          exact ⟨rfl, fun _ => rfl⟩
      refine ⟨fun h1 h2 => ?_, fun j r hj hr => ?_⟩
      · have := key.2 h1; omega
      · rw [key.1] at hr; simp at hr
  · have hs' : bomHad s = false := by simpa using hs
    have hh : bomHad (s.take k) = false := by
      cases h : bomHad (s.take k)
      · rfl
      · exfalso
        unfold bomHad at h hs
        obtain ⟨t, ht⟩ := List.isPrefixOf_iff_prefix.1 h
        exact hs (List.isPrefixOf_iff_prefix.2 ⟨t ++ s.drop k, by rw [← List.append_assoc, ht, List.take_append_drop]⟩)
    refine main (s.drop k) ?_ (by unfold whOff; rw [hs', hh])
    have a1 : bomStrip s = s := by unfold bomStrip; rw [hs', if_neg (by simp)]
    have a2 : bomStrip (s.take k) = s.take k := by unfold bomStrip; rw [hh, if_neg (by simp)]
    rw [a1, a2, List.take_append_drop]
end Go.Proofs.Ytbglecaahopgdaa

/- Layer 6: the document's line: its plain half. -/
import Derived.Test.YtpbeodhopibbaaaRxg
namespace Go.Proofs.Ytpbeodhopibbaaa
open Go.ChangeShapes Go.WideShapes Go.ChangeAt Go.RowKit
set_option linter.unusedVariables false
set_option linter.unusedSimpArgs false

/-- The maker of the reader r, its record rc, its records T. -/
def mkOf (r : Rd) (rc : List ByteArray) (T : List (List ByteArray × Nat)) : Mk := ⟨r.lf, r.ls, r.lr, decide (r.un = 1), [], rc, r.bg, (T.length : Int), (wdOf T : Int), 0⟩
/-- What the rest of a text is behind a field that is whole. -/
def Rest (d : Int) (l : List Int) (i : Nat) (F : Fld) : Prop := ∃ n, n ≤ l.length ∧ F.i = i + n ∧ F.l = l.drop n ∧ ∀ b r, F.l = b :: r → stops d b = true
theorem bGo_rest (d q lf : Int) : ∀ (l f : List Int) (i : Nat), (bGo d q lf f i l).k = 0 → Rest d l i (bGo d q lf f i l) := by
  intro l
  induction l with
  | nil => intro f i _; exact ⟨0, Nat.le_refl _, rfl, rfl, fun b r h => by simp [bGo] at h⟩
  | cons b r ih =>
    intro f i h
    cases hs : stops d b with
    | true =>
      have e : bGo d q lf f i (b :: r) = ⟨0, f, i, b :: r⟩ := by rw [bGo, if_pos hs]
      rw [e]
      exact ⟨0, Nat.zero_le _, rfl, rfl, fun c t hc => by simp at hc; rw [← hc.1]; exact hs⟩
    | false =>
      by_cases hq : b = q
      · have e : bGo d q lf f i (b :: r) = ⟨4, f, i, []⟩ := by rw [bGo, hs, if_neg (by simp), if_pos hq]
        rw [e] at h; exact absurd h (by simp)
      · by_cases hl : (f.length : Int) = lf
        · have e : bGo d q lf f i (b :: r) = ⟨7, f, i, []⟩ := by rw [bGo, hs, if_neg (by simp), if_neg hq, if_pos hl]
          rw [e] at h; exact absurd h (by simp)
        · have e : bGo d q lf f i (b :: r) = bGo d q lf (f ++ [b]) (i + 1) r := by conv => lhs; rw [bGo, hs, if_neg (by simp), if_neg hq, if_neg hl]
          rw [e] at h ⊢
          obtain ⟨n, h1, h2, h3, h4⟩ := ih (f ++ [b]) (i + 1) h
          exact ⟨n + 1, by simp; omega, by omega, by simpa using h3, h4⟩
theorem qGo_rest (q lf : Int) : ∀ (m : Nat) (l f : List Int) (i : Nat), l.length ≤ m → (qGo q lf f i l).k = 0 → ∃ n, n ≤ l.length ∧ (qGo q lf f i l).i = i + n ∧ (qGo q lf f i l).l = l.drop n := by
  intro m
  induction m with
  | zero =>
    intro l f i hl h
    match l, hl, h with
    | [], _, h => simp [qGo] at h
  | succ m ih =>
    intro l f i hl h
    match l, hl, h with
    | [], _, h => simp [qGo] at h
    | [b], _, h =>
      by_cases hq : b = q
      · have e : qGo q lf f i [b] = ⟨0, f, i + 1, []⟩ := by rw [qGo, if_pos hq]
        rw [e]; exact ⟨1, by simp, rfl, rfl⟩
      · have : (qGo q lf f i [b]).k ≠ 0 := by
          rw [qGo, if_neg hq]; split <;> simp
        exact absurd h this
    | b :: c :: r, hl, h =>
      by_cases hq : b = q
      · by_cases hc : c = q
        · by_cases hf : (f.length : Int) = lf
          · have e : qGo q lf f i (b :: c :: r) = ⟨7, f, i + 1, []⟩ := by rw [qGo, if_pos hq, if_pos hc, if_pos hf]
            rw [e] at h; exact absurd h (by simp)
          · have e : qGo q lf f i (b :: c :: r) = qGo q lf (f ++ [c]) (i + 2) r := by conv => lhs; rw [qGo, if_pos hq, if_pos hc, if_neg hf]
            rw [e] at h ⊢
            obtain ⟨n, h1, h2, h3⟩ := ih r (f ++ [c]) (i + 2) (by simp at hl; omega) h
            exact ⟨n + 2, by simp; omega, by omega, by simpa using h3⟩
        · have e : qGo q lf f i (b :: c :: r) = ⟨0, f, i + 1, c :: r⟩ := by rw [qGo, if_pos hq, if_neg hc]
          rw [e]; exact ⟨1, by simp, rfl, rfl⟩
      · by_cases hf : (f.length : Int) = lf
        · rw [qGo_no hq hf] at h; exact absurd h (by simp)
        · rw [qGo_go hq hf] at h ⊢
          obtain ⟨n, h1, h2, h3⟩ := ih (c :: r) (f ++ [b]) (i + 1) (by simp at hl ⊢; omega) h
          exact ⟨n + 1, by simp at h1 ⊢; omega, by omega, by simpa using h3⟩
theorem behind_rest {d : Int} {l : List Int} {i : Nat} {x : Fld} (hx : x.k = 0 → ∃ n, n ≤ l.length ∧ x.i = i + n ∧ x.l = l.drop n) (h : (behind d x).k = 0) : Rest d l i (behind d x) := by
  by_cases h0 : x.k = 0
  · obtain ⟨n, h1, h2, h3⟩ := hx h0
    unfold behind at h ⊢
    rw [if_neg (by simp [h0])] at h ⊢
    match hl : x.l, h with
    | [], _ => exact ⟨n, h1, h2, by rw [← h3], fun b r e => by rw [hl] at e; cases e⟩
    | b :: r, h =>
      dsimp only at h ⊢
      by_cases hs : stops d b = true
      · rw [if_pos hs]
        exact ⟨n, h1, h2, by rw [← h3], fun c t e => by rw [hl] at e; injection e with e _; rw [← e]; exact hs⟩
      · rw [if_neg hs] at h; exact absurd h (by simp)
  · unfold behind at h; rw [if_pos h0] at h; exact absurd h h0
theorem fGo_rest (d q lf : Int) (i : Nat) (l : List Int) (h : (fGo d q lf i l).k = 0) : Rest d l i (fGo d q lf i l) := by
  match l, h with
  | [], h => exact bGo_rest d q lf [] [] i h
  | b :: r, h =>
    unfold fGo at h ⊢
    dsimp only at h ⊢
    by_cases hq : b = q
    · rw [if_pos hq] at h ⊢
      obtain ⟨n, h1, h2, h3, h4⟩ := behind_rest (d := d) (l := r) (i := i + 1) (qGo_rest q lf r.length r [] (i + 1) (Nat.le_refl _)) h
      exact ⟨n + 1, by simp; omega, by omega, by simpa using h3, h4⟩
    · rw [if_neg hq] at h ⊢
      exact bGo_rest d q lf (b :: r) [] i h
/-- The same of a text, at a place. -/
theorem fGo_at (d q lf : Int) (i : Nat) (s : ByteArray) (hi : i ≤ s.size) {F : Fld} (hF : fGo d q lf i ((bl s).drop i) = F) (h : F.k = 0) : i ≤ F.i ∧ F.i ≤ s.size ∧ F.l = (bl s).drop F.i ∧ ∀ b r, F.l = b :: r → stops d b = true := by
  subst hF
  obtain ⟨n, h1, h2, h3, h4⟩ := fGo_rest d q lf i _ h
  rw [List.length_drop, bl_length] at h1
  refine ⟨by omega, by omega, ?_, h4⟩
  rw [h3, h2, List.drop_drop]

section
variable {d q e : Int} {n : Nat} {m : Mk} {i : Nat} {l : List Int} {F : Fld}
theorem lnGo_bad (hF : fGo d q m.lf i l = F) (h : F.k ≠ 0) : lnGo d q e (n + 1) m i l = ⟨F.k, F.i, [], 0, 0, []⟩ := by
  rw [lnGo, hF, if_pos h]
theorem lnGo_stop (hF : fGo d q m.lf i l = F) (h : F.k = 0) (hl : ∀ b r, F.l = b :: r → b ≠ d) : lnGo d q e (n + 1) m i l = lnEnd e { m with rc := m.rc ++ [toBA F.f] } F.i F.l := by
  rw [lnGo, hF, if_neg (by simp [h])]
  match hh : F.l with
  | [] => rfl
  | b :: r => dsimp only; rw [if_neg (hl b r hh)]
theorem lnGo_8 (hF : fGo d q m.lf i l = F) (h : F.k = 0) {r : List Int} (hl : F.l = d :: r) (h8 : (m.rc.length : Int) + 1 = m.ls) : lnGo d q e (n + 1) m i l = ⟨8, F.i, [], 0, 0, []⟩ := by
  rw [lnGo, hF, if_neg (by simp [h]), hl]; dsimp only; rw [if_pos rfl, if_pos h8]
theorem lnGo_10 (hF : fGo d q m.lf i l = F) (h : F.k = 0) {r : List Int} (hl : F.l = d :: r) (h8 : ¬ (m.rc.length : Int) + 1 = m.ls) (h10 : mBound m = true ∧ (m.rc.length : Int) + 1 = m.wd) : lnGo d q e (n + 1) m i l = ⟨10, F.i, [], 0, 0, []⟩ := by
  rw [lnGo, hF, if_neg (by simp [h]), hl]; dsimp only; rw [if_pos rfl, if_neg h8, if_pos h10]
theorem lnGo_go (hF : fGo d q m.lf i l = F) (h : F.k = 0) {r : List Int} (hl : F.l = d :: r) (h8 : ¬ (m.rc.length : Int) + 1 = m.ls) (h10 : ¬ (mBound m = true ∧ (m.rc.length : Int) + 1 = m.wd)) : lnGo d q e (n + 1) m i l = lnGo d q e n { m with rc := m.rc ++ [toBA F.f] } (F.i + 1) r := by
  conv => lhs; rw [lnGo, hF, if_neg (by simp [h]), hl]
  dsimp only; rw [if_pos rfl, if_neg h8, if_neg h10]
/-- Is the record as wide as it must be? -/
def wOk (m : Mk) : Bool := !decide (mBound m = true ∧ (m.rc.length : Int) ≠ m.wd)
theorem wOk_no (h : wOk m = false) : mBound m = true ∧ (m.rc.length : Int) ≠ m.wd := by simpa [wOk] using h
theorem wOk_yes (h : wOk m = true) : ¬ (mBound m = true ∧ (m.rc.length : Int) ≠ m.wd) := by
  unfold wOk at h
  rw [Bool.not_eq_true', decide_eq_false_iff_not] at h
  exact h
theorem lnEnd_nil_no (h : wOk m = false) : lnEnd e m i [] = ⟨10, i, [], 0, 0, []⟩ := by rw [lnEnd, if_pos (wOk_no h)]
theorem lnEnd_nil (h : wOk m = true) : lnEnd e m i [] = ⟨0, 0, m.rc, i, i, []⟩ := by rw [lnEnd, if_neg (wOk_yes h)]
theorem lnEnd_0 {b : Int} {r : List Int} (h : fdN e (b == 10) = 0) : lnEnd e m i (b :: r) = ⟨6, i, [], 0, 0, []⟩ := by
  rw [lnEnd]
  by_cases hb : b = 10
  · by_cases he : e = 2
    · rw [if_pos hb, if_pos he]
    · simp [fdN, hb, he] at h
  · by_cases he : e = 1
    · rw [if_neg hb, if_pos he]
    · simp [fdN, hb, he] at h
theorem lnEnd_w {b : Int} {r : List Int} (h : fdN e (b == 10) ≠ 0) (hw : wOk m = false) : lnEnd e m i (b :: r) = ⟨10, i, [], 0, 0, []⟩ := by
  rw [lnEnd]
  by_cases hb : b = 10
  · have he : e ≠ 2 := fun he => h (by simp [fdN, hb, he])
    rw [if_pos hb, if_neg he, if_pos (wOk_no hw)]
  · have he : e ≠ 1 := fun he => h (by simp [fdN, hb, he])
    rw [if_neg hb, if_neg he, if_pos (wOk_no hw)]
theorem lnEnd_1 {b : Int} {r : List Int} (h : fdN e (b == 10) = 1) (hw : wOk m = true) : lnEnd e m i (b :: r) = ⟨0, 0, m.rc, i, i + 1, r⟩ := by
  rw [lnEnd]
  by_cases hb : b = 10
  · have he : e ≠ 2 := fun he => by simp [fdN, hb, he] at h
    rw [if_pos hb, if_neg he, if_neg (wOk_yes hw)]
  · exfalso
    by_cases he : e = 1 <;> simp [fdN, hb, he] at h
theorem lnEnd_2 {b : Int} {r : List Int} (h : fdN e (b == 10) = 2) (hw : wOk m = true) : lnEnd e m i (b :: r) = lnCr m i r := by
  rw [lnEnd]
  by_cases hb : b = 10
  · exfalso
    by_cases he : e = 2 <;> simp [fdN, hb, he] at h
  · have he : e ≠ 1 := fun he => by simp [fdN, hb, he] at h
    rw [if_neg hb, if_neg he, if_neg (wOk_yes hw)]
theorem lnCr_no {s : ByteArray} (hl : (bl s).drop (i + 1) = l) (h : isB s (i + 1) 10 = false) : lnCr m i l = ⟨6, i + 1, [], 0, 0, []⟩ := by
  match l, hl with
  | [], _ => rfl
  | c :: r, hl =>
    rw [isB_drop hl] at h
    rw [lnCr, if_neg (by simpa using h)]
theorem lnCr_yes {s : ByteArray} (hl : (bl s).drop (i + 1) = l) (h : isB s (i + 1) 10 = true) : lnCr m i l = ⟨0, 0, m.rc, i + 1, i + 2, (bl s).drop (i + 2)⟩ := by
  match l, hl with
  | [], hl =>
    have : s.size ≤ i + 1 := by
      have := congrArg List.length hl
      simp [bl_length] at this; omega
    rw [isB_end this] at h; cases h
  | c :: r, hl =>
    rw [isB_drop hl] at h
    rw [lnCr, if_pos (by simpa using h), (get_drop hl).2.1]
theorem fdN_cases (e : Int) (b : Bool) : fdN e b = 0 ∨ fdN e b = 1 ∨ fdN e b = 2 := by
  unfold fdN; split <;> split <;> simp
/-- The width, said of the maker that is the reader's. -/
theorem wOk_of (r : Rd) (rc : List ByteArray) (T : List (List ByteArray × Nat)) : wOk (mkOf r rc T) = !decide (r.un = 1 ∧ 0 < T.length ∧ rc.length ≠ wdOf T) := by
  unfold wOk mkOf mBound
  congr 1
  rw [decide_eq_decide]
  simp [and_assoc]
  intro _ _
  omega
end
end Go.Proofs.Ytpbeodhopibbaaa

/- Layer 6: the table and the maker come to what the grammar says: fields. Layer 6: the table and the maker come to what the grammar says: lines, and all of a text. Layer 6: the table and the maker come to what the grammar says: all lines of a text. -/
import Derived.Test.YtngdmkhinebbdaaDoorPgr
namespace Go.Proofs.YtngdmkhinebbdaaDoor
open Go.RowKit
set_option linter.unusedVariables false
set_option linter.unusedSimpArgs false

/-! ### What each event comes to -/
theorem mThen_noF (s : Mk) : mThen s (mF false) = s := by unfold mThen; split <;> rfl
theorem mThen_noL (s : Mk) : mThen s (mL false) = s := by unfold mThen; split <;> rfl
theorem mThen_noA (s : Mk) (v : Int) : mThen s (mA false v) = s := by unfold mThen; split <;> rfl
theorem gat_add {m : Mk} (h : m.er = 0) (b : Int) : mGather (evAdd b) m = mA true b m := by
  show mThen (mThen (mThen m (mA true b)) (mF false)) (mL false) = _
  rw [mThen_noL, mThen_noF, mThen_go h]
theorem gat_fi {m : Mk} (h : m.er = 0) : mGather ⟨false, false, true, false, false, 0⟩ m = mEndF m := by
  show mThen (mThen (mThen m (mA false 0)) (mF true)) (mL false) = _
  rw [mThen_noL, mThen_noA, mThen_go h]; rfl
theorem gat_li {m : Mk} (h : m.er = 0) (r : Bool) : mGather ⟨false, false, false, true, r, 0⟩ m = mEndL m := by
  show mThen (mThen (mThen m (mA false 0)) (mF false)) (mL true) = _
  rw [mThen_noA, mThen_noF, mThen_go h]; rfl
theorem gat_0 {m : Mk} (r : Bool) : mGather ⟨false, false, false, false, r, 0⟩ m = m := by
  show mThen (mThen (mThen m (mA false 0)) (mF false)) (mL false) = _
  rw [mThen_noA, mThen_noF, mThen_noL]
theorem take_add {m : Mk} (h : m.er = 0) (b : Int) : mTake (evAdd b) m = mA true b m ∧ mTold (evAdd b) m = false :=
  ⟨(mTake2 h rfl).trans (gat_add h b), (mRec2 rfl).2⟩
theorem take_fi {m : Mk} (h : m.er = 0) : mTake ⟨false, false, true, false, false, 0⟩ m = mEndF m ∧ mTold ⟨false, false, true, false, false, 0⟩ m = false :=
  ⟨(mTake2 h rfl).trans (gat_fi h), (mRec2 rfl).2⟩
theorem take_li {m : Mk} (h : m.er = 0) : mTake ⟨false, false, false, true, false, 0⟩ m = mEndL m ∧ mTold ⟨false, false, false, true, false, 0⟩ m = false :=
  ⟨(mTake2 h rfl).trans (gat_li h false), (mRec2 rfl).2⟩
theorem take_0 {m : Mk} (h : m.er = 0) : mTake ev0 m = m ∧ mTold ev0 m = false :=
  ⟨(mTake2 h rfl).trans (gat_0 false), (mRec2 rfl).2⟩
theorem take_re {m : Mk} (h : m.er = 0) : mTake ⟨false, false, false, false, true, 0⟩ m = mOut m ∧ mTold ⟨false, false, false, false, true, 0⟩ m = true ∧ mRec ⟨false, false, false, false, true, 0⟩ m = m.rc := by
  have g := gat_0 (m := m) true
  have e1 : (mGather ⟨false, false, false, false, true, 0⟩ m).er = 0 := by rw [g]; exact h
  obtain ⟨r1, r2⟩ := mRec3 h e1 rfl
  exact ⟨(mTake3 h e1 rfl).trans (by rw [g]), r2, r1.trans (by rw [g])⟩
theorem take_rec1 {m : Mk} (h : m.er = 0) (h1 : (mEndL m).er = 0) : mTake evRec m = mOut (mEndL m) ∧ mTold evRec m = true ∧ mRec evRec m = (mEndL m).rc := by
  have g : mGather evRec m = mEndL m := gat_li h true
  have e1 : (mGather evRec m).er = 0 := by rw [g]; exact h1
  obtain ⟨r1, r2⟩ := mRec3 h e1 rfl
  exact ⟨(mTake3 h e1 rfl).trans (by rw [g]), r2, r1.trans (by rw [g])⟩
theorem take_rec2 {m : Mk} (h : m.er = 0) (h1 : (mEndL m).er ≠ 0) : mTake evRec m = mEndL m ∧ mTold evRec m = false := by
  have g : mGather evRec m = mEndL m := gat_li h true
  have e1 : (mGather evRec m).er ≠ 0 := by rw [g]; exact h1
  exact ⟨(mTake1 h e1).trans g, (mRec1 e1).2⟩

/-! ### One byte of the table -/
section
variable {d q e t : Int} {m : Mk} {i : Nat} {b : Int} {r : List Int} {v : Ev} {n k : Int}
theorem mch_k (hs : stepR d q e t b = ⟨v, n, k⟩) (hk : k ≠ 0) : mch d q e t m i (b :: r) = ⟨[], k, i⟩ := by
  rw [mch, hs, if_pos hk]
theorem mch_e (hs : stepR d q e t b = ⟨v, n, 0⟩) (he : (mTake v m).er ≠ 0) : mch d q e t m i (b :: r) = ⟨[], (mTake v m).er, i⟩ := by
  rw [mch, hs, if_neg (by simp), if_pos he]
theorem mch_go (hs : stepR d q e t b = ⟨v, n, 0⟩) (he : (mTake v m).er = 0) (ht : mTold v m = false) : mch d q e t m i (b :: r) = mch d q e n (mTake v m) (i + 1) r := by
  rw [mch, hs, if_neg (by simp), if_neg (by simpa using he), if_neg (by simp [ht])]
theorem mch_rec (hs : stepR d q e t b = ⟨v, n, 0⟩) (he : (mTake v m).er = 0) (ht : mTold v m = true) : mch d q e t m i (b :: r) = (mch d q e n (mTake v m) (i + 1) r).more (mRec v m) i := by
  rw [mch, hs, if_neg (by simp), if_neg (by simpa using he), if_pos ht]
end

/-- A dialect that is right. -/
structure Dia (d q e : Int) : Prop where
  dq : d ≠ q
  d10 : d ≠ 10
  d13 : d ≠ 13
  q10 : q ≠ 10
  q13 : q ≠ 13
/-- A maker in the midst of a record: nothing is wrong. -/
structure Mid (m : Mk) : Prop where
  er : m.er = 0
  fd : (m.fd.length : Int) ≤ m.lf
  rc : (m.rc.length : Int) < m.ls

section
variable {d q e : Int}
theorem st3_q : stepR d q e 3 q = ⟨ev0, 4, 0⟩ := by simp [stepR, quotedR]
theorem st3_b {b : Int} (h : b ≠ q) : stepR d q e 3 b = ⟨evAdd b, 3, 0⟩ := by simp [stepR, quotedR, h]
theorem st4_q (h : Dia d q e) : stepR d q e 4 q = ⟨evAdd q, 3, 0⟩ := by
  have : oopB e q = false := by simp [oopB, h.q10, h.q13]
  simp [stepR, this, closingR]
theorem st2_b (h : Dia d q e) {b : Int} (hq : b ≠ q) (hs : stops d b = false) : stepR d q e 2 b = ⟨evAdd b, 2, 0⟩ := by
  simp [stops] at hs
  have : oopB e b = false := by simp [oopB, hs.2.1, hs.2.2]
  simp [stepR, this, bareR, hq, firstR, parB, hs]
theorem st2_q (h : Dia d q e) : stepR d q e 2 q = ⟨ev0, 0, 4⟩ := by
  have : oopB e q = false := by simp [oopB, h.q10, h.q13]
  simp [stepR, this, bareR]
theorem st4_5 (h : Dia d q e) {b : Int} (hq : b ≠ q) (hs : stops d b = false) : stepR d q e 4 b = ⟨ev0, 0, 5⟩ := by
  simp [stops] at hs
  have : oopB e b = false := by simp [oopB, hs.2.1, hs.2.2]
  simp [stepR, this, closingR, hq, parB, hs]
/-- What stands behind a field is the same behind a bare one, a quoted one, and one that has no byte. -/
theorem st_same (h : Dia d q e) {b : Int} (hs : stops d b = true) : stepR d q e 4 b = stepR d q e 2 b ∧ stepR d q e 1 b = stepR d q e 2 b := by
  have hq : b ≠ q := by
    rintro rfl
    simp [stops, h.q10, h.q13] at hs
    exact h.dq hs.symm
  have hp : parB d b = true := by simp [stops] at hs; simp [parB]; omega
  cases ho : oopB e b <;> simp [stepR, ho, closingR, bareR, firstR, hq, hp]
theorem st1_b (h : Dia d q e) {b : Int} (hq : b ≠ q) : stepR d q e 1 b = stepR d q e 2 b := by
  cases ho : oopB e b <;> simp [stepR, ho, bareR, firstR, hq]
theorem st1_q (h : Dia d q e) : stepR d q e 1 q = ⟨ev0, 3, 0⟩ := by
  have : oopB e q = false := by simp [oopB, h.q10, h.q13]
  simp [stepR, this, firstR]
end

theorem add_ok {m : Mk} (h : ¬ (m.fd.length : Int) = m.lf) (hm : Mid m) (b : Int) : mA true b m = { m with fd := m.fd ++ [b] } ∧ Mid { m with fd := m.fd ++ [b] } := by
  have := hm.fd
  have h' : ¬ m.lf ≤ (m.fd.length : Int) := by omega
  refine ⟨?_, ⟨hm.er, ?_, hm.rc⟩⟩
  · unfold mA; rw [if_pos rfl, if_neg h']
  · simp; omega
theorem add_no {m : Mk} (h : (m.fd.length : Int) = m.lf) (b : Int) : (mA true b m).er = 7 := by
  unfold mA; rw [if_pos rfl, if_pos (by omega)]

section
variable {d q e : Int} (hd : Dia d q e)
include hd
/-- A quoted field. -/
theorem mch_q : ∀ (n : Nat) (l : List Int) (m : Mk) (i : Nat), l.length ≤ n → Mid m →
    ((qGo q m.lf m.fd i l).k ≠ 0 → mch d q e 3 m i l = ⟨[], (qGo q m.lf m.fd i l).k, (qGo q m.lf m.fd i l).i⟩) ∧
    ((qGo q m.lf m.fd i l).k = 0 → mch d q e 3 m i l = mch d q e 4 { m with fd := (qGo q m.lf m.fd i l).f } (qGo q m.lf m.fd i l).i (qGo q m.lf m.fd i l).l ∧
      Mid { m with fd := (qGo q m.lf m.fd i l).f } ∧ (∀ b r, (qGo q m.lf m.fd i l).l = b :: r → b ≠ q) ∧ (qGo q m.lf m.fd i l).l.length ≤ l.length)
  | n, [], m, i, hn, hm => by
    rw [qGo]
    exact ⟨fun _ => by rw [mch, if_pos (by decide)]; rfl, fun h => by cases h⟩
  | n, [b], m, i, hn, hm => by
    rw [qGo]
    by_cases hb : b = q
    · replace hb := hb.symm
      subst hb
      rw [if_pos rfl]
      refine ⟨fun h => absurd rfl h, fun _ => ⟨?_, hm, (fun b r h => by cases h), by simp⟩⟩
      have t := take_0 hm.er
      rw [mch_go st3_q (by rw [t.1]; exact hm.er) t.2, t.1]
    · rw [if_neg hb]
      have t := take_add hm.er b
      by_cases hl : (m.fd.length : Int) = m.lf
      · rw [if_pos hl]
        refine ⟨fun _ => ?_, fun h => by cases h⟩
        have e7 := add_no hl b
        rw [mch_e (st3_b hb) (by rw [t.1, e7]; decide), t.1, e7]
      · rw [if_neg hl]
        refine ⟨fun _ => ?_, fun h => by cases h⟩
        obtain ⟨a1, a2⟩ := add_ok hl hm b
        rw [mch_go (st3_b hb) (by rw [t.1, a1]; exact hm.er) t.2, mch, if_pos (by decide)]; rfl
  | 0, b :: c :: r, m, i, hn, hm => by simp at hn
  | n + 1, b :: c :: r, m, i, hn, hm => by
    rw [qGo]
    simp only [List.length_cons] at hn
    by_cases hb : b = q
    · replace hb := hb.symm
      subst hb
      rw [if_pos rfl]
      have t := take_0 hm.er
      have s1 : mch d q e 3 m i (q :: c :: r) = mch d q e 4 m (i + 1) (c :: r) := by
        rw [mch_go st3_q (by rw [t.1]; exact hm.er) t.2, t.1]
      by_cases hc : c = q
      · replace hc := hc.symm
        subst hc
        rw [if_pos rfl, s1]
        have t2 := take_add hm.er q
        by_cases hl : (m.fd.length : Int) = m.lf
        · rw [if_pos hl]
          refine ⟨fun _ => ?_, fun h => by cases h⟩
          have e7 := add_no hl q
          rw [mch_e (st4_q hd) (by rw [t2.1, e7]; decide), t2.1, e7]
        · rw [if_neg hl]
          obtain ⟨a1, a2⟩ := add_ok hl hm q
          rw [mch_go (st4_q hd) (by rw [t2.1, a1]; exact hm.er) t2.2, t2.1, a1]
          obtain ⟨i1, i2⟩ := mch_q n r _ (i + 2) (by omega) a2
          refine ⟨i1, fun h => ?_⟩
          obtain ⟨j1, j2, j3, j4⟩ := i2 h
          exact ⟨j1, j2, j3, Nat.le_trans j4 (by simp; omega)⟩
      · rw [if_neg hc]
        refine ⟨fun h => absurd rfl h, fun _ => ⟨s1, hm, fun b' r' h => ?_, by simp⟩⟩
        injection h with h1 h2
        subst h1; exact hc
    · rw [if_neg hb]
      have t := take_add hm.er b
      by_cases hl : (m.fd.length : Int) = m.lf
      · rw [if_pos hl]
        refine ⟨fun _ => ?_, fun h => by cases h⟩
        have e7 := add_no hl b
        rw [mch_e (st3_b hb) (by rw [t.1, e7]; decide), t.1, e7]
      · rw [if_neg hl]
        obtain ⟨a1, a2⟩ := add_ok hl hm b
        rw [mch_go (st3_b hb) (by rw [t.1, a1]; exact hm.er) t.2, t.1, a1]
        obtain ⟨i1, i2⟩ := mch_q n (c :: r) _ (i + 1) (by simp; omega) a2
        refine ⟨i1, fun h => ?_⟩
        obtain ⟨j1, j2, j3, j4⟩ := i2 h
        exact ⟨j1, j2, j3, Nat.le_trans j4 (by simp)⟩
/-- A field that isn't quoted, from its second byte on. -/
theorem mch_b : ∀ (l : List Int) (m : Mk) (i : Nat), Mid m →
    ((bGo d q m.lf m.fd i l).k ≠ 0 → mch d q e 2 m i l = ⟨[], (bGo d q m.lf m.fd i l).k, (bGo d q m.lf m.fd i l).i⟩) ∧
    ((bGo d q m.lf m.fd i l).k = 0 → mch d q e 2 m i l = mch d q e 2 { m with fd := (bGo d q m.lf m.fd i l).f } (bGo d q m.lf m.fd i l).i (bGo d q m.lf m.fd i l).l ∧
      Mid { m with fd := (bGo d q m.lf m.fd i l).f } ∧ (∀ b r, (bGo d q m.lf m.fd i l).l = b :: r → stops d b = true) ∧ (bGo d q m.lf m.fd i l).l.length ≤ l.length)
  | [], m, i, hm => by
    rw [bGo]
    exact ⟨fun h => absurd rfl h, fun _ => ⟨rfl, hm, fun b r h => (by cases h), Nat.le_refl _⟩⟩
  | b :: r, m, i, hm => by
    rw [bGo]
    cases hs : stops d b
    · rw [if_neg (by simp)]
      by_cases hb : b = q
      · replace hb := hb.symm
        subst hb
        rw [if_pos rfl]
        exact ⟨fun _ => mch_k (st2_q hd) (show (4 : Int) ≠ 0 by decide), fun h => by cases h⟩
      · rw [if_neg hb]
        have t := take_add hm.er b
        by_cases hl : (m.fd.length : Int) = m.lf
        · rw [if_pos hl]
          refine ⟨fun _ => ?_, fun h => by cases h⟩
          have e7 := add_no hl b
          rw [mch_e (st2_b hd hb hs) (by rw [t.1, e7]; decide), t.1, e7]
        · rw [if_neg hl]
          obtain ⟨a1, a2⟩ := add_ok hl hm b
          rw [mch_go (st2_b hd hb hs) (by rw [t.1, a1]; exact hm.er) t.2, t.1, a1]
          obtain ⟨i1, i2⟩ := mch_b r _ (i + 1) a2
          refine ⟨i1, fun h => ?_⟩
          obtain ⟨j1, j2, j3, j4⟩ := i2 h
          exact ⟨j1, j2, j3, Nat.le_trans j4 (by simp)⟩
    · rw [if_pos rfl]
      refine ⟨fun h => absurd rfl h, fun _ => ⟨rfl, hm, fun b' r' h => ?_, Nat.le_refl _⟩⟩
      injection h with h1 h2
      subst h1; exact hs
end
end Go.Proofs.YtngdmkhinebbdaaDoor

namespace Go.Proofs.YtngdmkhinebbdaaDoor
open Go.RowKit
set_option linter.unusedVariables false
set_option linter.unusedSimpArgs false

section
variable {d q e : Int}
theorem mch_st {t t' b : Int} {m : Mk} {i : Nat} {r : List Int} (h : stepR d q e t b = stepR d q e t' b) : mch d q e t m i (b :: r) = mch d q e t' m i (b :: r) := by
  rw [mch, mch, h]
theorem mch_nil12 {m : Mk} {i : Nat} : mch d q e 1 m i [] = mch d q e 2 m i [] := by
  rw [mch, mch, show closeK 1 = closeK 2 from rfl, show closeE 1 = closeE 2 from rfl]
theorem mch_nil42 {m : Mk} {i : Nat} : mch d q e 4 m i [] = mch d q e 2 m i [] := by
  rw [mch, mch, show closeK 4 = closeK 2 from rfl, show closeE 4 = closeE 2 from rfl]
theorem mch_nil0 {m : Mk} {i : Nat} (h : m.er = 0) : mch d q e 0 m i [] = ⟨[], 0, 0⟩ := by
  have t := take_0 h
  rw [mch, show closeK 0 = 0 from rfl, show closeE 0 = ev0 from rfl, if_neg (by simp), if_neg (by rw [t.1]; simpa using h), if_neg (by rw [t.2]; simp)]

variable (hd : Dia d q e)
include hd
/-- A field, from its first byte on. -/
theorem mch_f (l : List Int) (m : Mk) (i : Nat) (hm : Mid m) (hf : m.fd = []) :
    ((fGo d q m.lf i l).k ≠ 0 → mch d q e 1 m i l = ⟨[], (fGo d q m.lf i l).k, (fGo d q m.lf i l).i⟩) ∧
    ((fGo d q m.lf i l).k = 0 → mch d q e 1 m i l = mch d q e 2 { m with fd := (fGo d q m.lf i l).f } (fGo d q m.lf i l).i (fGo d q m.lf i l).l ∧
      Mid { m with fd := (fGo d q m.lf i l).f } ∧ (∀ b r, (fGo d q m.lf i l).l = b :: r → stops d b = true) ∧ (fGo d q m.lf i l).l.length ≤ l.length) := by
  match l with
  | [] =>
    have := mch_b hd [] m i hm
    rw [hf] at this
    rw [fGo, mch_nil12]
    exact this
  | b :: r =>
    rw [fGo]
    by_cases hb : b = q
    · rw [if_pos hb, hb]
      have t := take_0 hm.er
      rw [mch_go (st1_q hd) (by rw [t.1]; exact hm.er) t.2, t.1]
      obtain ⟨q1, q2⟩ := mch_q hd r.length r m (i + 1) (Nat.le_refl _) hm
      rw [hf] at q1 q2
      generalize hx : qGo q m.lf [] (i + 1) r = x at q1 q2 ⊢
      obtain ⟨k, f, i', l'⟩ := x
      dsimp only at q1 q2
      by_cases hk : k = 0
      · obtain ⟨j1, j2, j3, j4⟩ := q2 hk
        subst hk
        rw [j1]
        match l', j3, j4 with
        | [], j3, j4 =>
          simp only [behind]
          refine ⟨fun h => absurd rfl h, fun _ => ⟨mch_nil42, j2, (fun b r h => by cases h), by simp⟩⟩
        | c :: r', j3, j4 =>
          simp only [List.length_cons] at j4
          cases hs : stops d c
          · simp only [behind, hs]
            exact ⟨fun _ => mch_k (st4_5 hd (j3 c r' rfl) hs) (show (5 : Int) ≠ 0 by decide), fun h => by simp at h⟩
          · simp only [behind, hs]
            refine ⟨fun h => absurd rfl h, fun _ => ⟨mch_st (st_same hd hs).1, j2, (fun b r h => ?_), by simp; omega⟩⟩
            injection h with h1 h2
            rw [← h1]; exact hs
      · rw [q1 hk]
        have : behind d ⟨k, f, i', l'⟩ = ⟨k, f, i', l'⟩ := if_pos hk
        rw [this]
        exact ⟨fun _ => rfl, fun h => absurd h hk⟩
    · rw [if_neg hb, mch_st (st1_b hd hb)]
      have := mch_b hd (b :: r) m i hm
      rw [hf] at this
      exact this
end

theorem mEndL_ok {m : Mk} (h : ¬ (mBound m = true ∧ ((mPut m).rc.length : Int) ≠ m.wd)) : mEndL m = mPut m := by
  unfold mEndL
  rw [mPut_len] at h
  rw [if_neg (by intro h'; exact h ⟨h'.1, by have := h'.2; omega⟩)]
theorem mEndL_no {m : Mk} (h : mBound m = true ∧ ((mPut m).rc.length : Int) ≠ m.wd) : (mEndL m).er = 10 := by
  unfold mEndL
  rw [mPut_len] at h
  rw [if_pos ⟨h.1, by have := h.2; omega⟩]
theorem mPut_er {m : Mk} (h : m.er = 0) : (mPut m).er = 0 := h

section
variable {d q e : Int} (hd : Dia d q e)
include hd
theorem st2_10 (he : e ≠ 2) : stepR d q e 2 10 = ⟨evRec, 0, 0⟩ := by
  have ho : oopB e 10 = false := by simp [oopB, he]
  simp [stepR, ho, bareR, firstR, Ne.symm hd.q10, parB, parE, parN, Ne.symm hd.d10]
theorem st2_13 (he : e ≠ 1) : stepR d q e 2 13 = ⟨⟨false, false, false, true, false, 0⟩, 5, 0⟩ := by
  have ho : oopB e 13 = false := by simp [oopB, he]
  simp [stepR, ho, bareR, firstR, Ne.symm hd.q13, parB, parE, parN, Ne.symm hd.d13]
theorem st2_d : stepR d q e 2 d = ⟨⟨false, false, true, false, false, 0⟩, 1, 0⟩ := by
  have ho : oopB e d = false := by simp [oopB, hd.d10, hd.d13]
  simp [stepR, ho, bareR, firstR, hd.dq, parB, parE, parN]
omit hd in
theorem st_oop10 (he : e = 2) (t : Int) (ht : t = 0 ∨ t = 2) : stepR d q e t 10 = ⟨ev0, 0, 6⟩ := by
  have ho : oopB e 10 = true := by simp [oopB, he]
  rcases ht with rfl | rfl <;> simp [stepR, ho]
omit hd in
theorem st_oop13 (he : e = 1) (t : Int) (ht : t = 0 ∨ t = 2) : stepR d q e t 13 = ⟨ev0, 0, 6⟩ := by
  have ho : oopB e 13 = true := by simp [oopB, he]
  rcases ht with rfl | rfl <;> simp [stepR, ho]
omit hd in
theorem st5_10 : stepR d q e 5 10 = ⟨⟨false, false, false, false, true, 0⟩, 0, 0⟩ := by simp [stepR, feedR]
omit hd in
theorem st5_b {b : Int} (h : b ≠ 10) : stepR d q e 5 b = ⟨ev0, 0, 6⟩ := by simp [stepR, feedR, h]

/-- What stands behind a record's last field. -/
theorem mch_end (m : Mk) (i : Nat) (l : List Int) (hm : m.er = 0) (hl : ∀ b r, l = b :: r → b = 10 ∨ b = 13) :
    ((lnEnd e (mPut m) i l).k ≠ 0 → mch d q e 2 m i l = ⟨[], (lnEnd e (mPut m) i l).k, (lnEnd e (mPut m) i l).at_⟩) ∧
    ((lnEnd e (mPut m) i l).k = 0 → mch d q e 2 m i l = (mch d q e 0 (mOut (mPut m)) (lnEnd e (mPut m) i l).i (lnEnd e (mPut m) i l).l).more (mPut m).rc (lnEnd e (mPut m) i l).e ∧
      (lnEnd e (mPut m) i l).rc = (mPut m).rc ∧ (lnEnd e (mPut m) i l).l.length ≤ l.length - 1) := by
  have hb : mBound (mPut m) = mBound m := rfl
  have hw : (mPut m).wd = m.wd := rfl
  have h0 : (mPut m).er = 0 := hm
  match l, hl with
  | [], hl =>
    rw [lnEnd, hb, hw]
    by_cases hx : mBound m = true ∧ ((mPut m).rc.length : Int) ≠ m.wd
    · rw [if_pos hx]
      have e10 := mEndL_no hx
      have t := take_rec2 hm (by rw [e10]; decide)
      refine ⟨fun _ => ?_, fun h => by cases h⟩
      rw [mch, show closeK 2 = 0 from rfl, show closeE 2 = evRec from rfl, if_neg (by simp), if_pos (by rw [t.1, e10]; decide), t.1, e10]
    · rw [if_neg hx]
      have eo := mEndL_ok hx
      have t := take_rec1 hm (by rw [eo]; exact h0)
      rw [eo] at t
      refine ⟨fun h => absurd rfl h, fun _ => ⟨?_, rfl, Nat.le_refl _⟩⟩
      have h9 : (mOut (mPut m)).er = 0 := h0
      rw [mch_nil0 h9, mch, show closeK 2 = 0 from rfl, show closeE 2 = evRec from rfl, if_neg (by simp), if_neg (by rw [t.1]; simpa using h9), if_pos t.2.1, t.2.2]
      rfl
  | b :: r, hl =>
    rw [lnEnd, hb, hw]
    by_cases h10 : b = 10
    · rw [if_pos h10, h10]
      by_cases he : e = 2
      · rw [if_pos he]
        exact ⟨fun _ => mch_k (st_oop10 he 2 (.inr rfl)) (show (6 : Int) ≠ 0 by decide), fun h => by cases h⟩
      · rw [if_neg he]
        by_cases hx : mBound m = true ∧ ((mPut m).rc.length : Int) ≠ m.wd
        · rw [if_pos hx]
          have e10 := mEndL_no hx
          have t := take_rec2 hm (by rw [e10]; decide)
          refine ⟨fun _ => ?_, fun h => by cases h⟩
          rw [mch_e (st2_10 hd he) (by rw [t.1, e10]; decide), t.1, e10]
        · rw [if_neg hx]
          have eo := mEndL_ok hx
          have t := take_rec1 hm (by rw [eo]; exact h0)
          rw [eo] at t
          refine ⟨fun h => absurd rfl h, fun _ => ⟨?_, rfl, by simp⟩⟩
          rw [mch_rec (st2_10 hd he) (by rw [t.1]; exact h0) t.2.1, t.1, t.2.2]
    · have h13 : b = 13 := (hl b r rfl).resolve_left h10
      rw [if_neg h10, h13]
      by_cases he : e = 1
      · rw [if_pos he]
        exact ⟨fun _ => mch_k (st_oop13 he 2 (.inr rfl)) (show (6 : Int) ≠ 0 by decide), fun h => by cases h⟩
      · rw [if_neg he]
        have t := take_li hm
        by_cases hx : mBound m = true ∧ ((mPut m).rc.length : Int) ≠ m.wd
        · rw [if_pos hx]
          have e10 := mEndL_no hx
          refine ⟨fun _ => ?_, fun h => by cases h⟩
          rw [mch_e (st2_13 hd he) (by rw [t.1, e10]; decide), t.1, e10]
        · rw [if_neg hx]
          have eo := mEndL_ok hx
          have s1 : mch d q e 2 m i (13 :: r) = mch d q e 5 (mPut m) (i + 1) r := by
            rw [mch_go (st2_13 hd he) (by rw [t.1, eo]; exact h0) t.2, t.1, eo]
          rw [s1]
          match r with
          | [] => exact ⟨fun _ => by rw [mch, if_pos (by decide)]; rfl, fun h => by cases h⟩
          | c :: r' =>
            rw [lnCr]
            by_cases hc : c = 10
            · rw [if_pos hc, hc]
              have t2 := take_re h0
              refine ⟨fun h => absurd rfl h, fun _ => ⟨?_, rfl, by simp⟩⟩
              rw [mch_rec st5_10 (by rw [t2.1]; exact h0) t2.2.1, t2.1, t2.2.2]
            · rw [if_neg hc]
              exact ⟨fun _ => mch_k (st5_b hc) (show (6 : Int) ≠ 0 by decide), fun h => by cases h⟩
end
end Go.Proofs.YtngdmkhinebbdaaDoor

namespace Go.Proofs.YtngdmkhinebbdaaDoor
open Go.RowKit
set_option linter.unusedVariables false
set_option linter.unusedSimpArgs false

theorem mPut_with {m : Mk} (hf : m.fd = []) (f : List Int) : mPut { m with fd := f } = { m with rc := m.rc ++ [toBA f] } := by
  cases m; dsimp only at hf; subst hf; rfl
theorem mEndF8 {m : Mk} (h : m.ls ≤ (m.rc.length : Int) + 1) : (mEndF m).er = 8 := by unfold mEndF; rw [if_pos h]
theorem mEndF10 {m : Mk} (h : ¬ m.ls ≤ (m.rc.length : Int) + 1) (k : mBound m = true ∧ (m.rc.length : Int) + 1 = m.wd) : (mEndF m).er = 10 := by unfold mEndF; rw [if_neg h, if_pos k]
theorem mEndF_go {m : Mk} (h : ¬ m.ls ≤ (m.rc.length : Int) + 1) (k : ¬ (mBound m = true ∧ (m.rc.length : Int) + 1 = m.wd)) : mEndF m = mPut m := by unfold mEndF; rw [if_neg h, if_neg k]
section
variable {d q e : Int} (hd : Dia d q e)
include hd
theorem mch_line : ∀ (n : Nat) (l : List Int) (m : Mk) (i : Nat), l.length < n → Mid m → m.fd = [] →
    ((lnGo d q e n m i l).k ≠ 0 → mch d q e 1 m i l = ⟨[], (lnGo d q e n m i l).k, (lnGo d q e n m i l).at_⟩) ∧
    ((lnGo d q e n m i l).k = 0 → mch d q e 1 m i l = (mch d q e 0 (mOut { m with rc := (lnGo d q e n m i l).rc }) (lnGo d q e n m i l).i (lnGo d q e n m i l).l).more (lnGo d q e n m i l).rc (lnGo d q e n m i l).e ∧
      (lnGo d q e n m i l).l.length ≤ l.length - 1)
  | 0, l, m, i, hn, hm, hf => by omega
  | n + 1, l, m, i, hn, hm, hf => by
    obtain ⟨f1, f2⟩ := mch_f hd l m i hm hf
    rw [lnGo]
    generalize fGo d q m.lf i l = F at f1 f2 ⊢
    obtain ⟨k, f, i', l'⟩ := F
    dsimp only at f1 f2 ⊢
    by_cases hk : k = 0
    · subst hk
      rw [if_neg (by simp)]
      obtain ⟨g1, g2, g3, g4⟩ := f2 rfl
      rw [g1]
      have hp := mPut_with hf f
      match l', g2, g3, g4 with
      | [], g2, g3, g4 =>
        have h := mch_end hd { m with fd := f } i' [] g2.er (fun b r h => by cases h)
        rw [hp] at h
        refine ⟨h.1, fun hk => ?_⟩
        obtain ⟨h1, h2, h3⟩ := h.2 hk
        dsimp only at h1 h2 h3 ⊢
        refine ⟨?_, Nat.le_trans h3 (by simp)⟩
        rw [h1, h2]
      | b :: r, g2, g3, g4 =>
        simp only [List.length_cons] at g4
        by_cases hb : b = d
        · dsimp only
          rw [if_pos hb, hb]
          have t := take_fi (m := { m with fd := f }) g2.er
          have h8 := g2.rc
          dsimp only at h8
          by_cases hl : (m.rc.length : Int) + 1 = m.ls
          · rw [if_pos hl]
            have e8 : (mEndF { m with fd := f }).er = 8 := mEndF8 (show m.ls ≤ (m.rc.length : Int) + 1 by omega)
            refine ⟨fun _ => ?_, fun h => by cases h⟩
            rw [mch_e (st2_d hd) (by rw [t.1, e8]; decide), t.1, e8]
          · rw [if_neg hl]
            by_cases hw : mBound m = true ∧ (m.rc.length : Int) + 1 = m.wd
            · rw [if_pos hw]
              have e10 : (mEndF { m with fd := f }).er = 10 := mEndF10 (show ¬ m.ls ≤ (m.rc.length : Int) + 1 by omega) hw
              refine ⟨fun _ => ?_, fun h => by cases h⟩
              rw [mch_e (st2_d hd) (by rw [t.1, e10]; decide), t.1, e10]
            · rw [if_neg hw]
              have eo : mEndF { m with fd := f } = mPut { m with fd := f } := mEndF_go (show ¬ m.ls ≤ (m.rc.length : Int) + 1 by omega) hw
              have hm2 : Mid { m with rc := m.rc ++ [toBA f] } := ⟨hm.er, hm.fd, by simp; omega⟩
              rw [mch_go (st2_d hd) (by rw [t.1, eo]; exact hm.er) t.2, t.1, eo, hp]
              obtain ⟨i1, i2⟩ := mch_line n r { m with rc := m.rc ++ [toBA f] } (i' + 1) (by omega) hm2 hf
              refine ⟨i1, fun h => ?_⟩
              obtain ⟨j1, j2⟩ := i2 h
              exact ⟨j1, by omega⟩
        · dsimp only
          rw [if_neg hb]
          have hs := g3 b r rfl
          have h := mch_end hd { m with fd := f } i' (b :: r) g2.er (fun b' r' h => by
            injection h with h1 h2
            subst h1
            simp [stops] at hs; omega)
          rw [hp] at h
          refine ⟨h.1, fun hk => ?_⟩
          obtain ⟨h1, h2, h3⟩ := h.2 hk
          dsimp only at h1 h2
          simp only [List.length_cons] at h3
          refine ⟨?_, by omega⟩
          rw [h1, h2]
    · rw [if_pos hk, f1 hk]
      exact ⟨fun _ => rfl, fun h => absurd h hk⟩

omit hd in
theorem st0_10 (he : e ≠ 2) : stepR d q e 0 10 = ⟨ev0, 0, 0⟩ := by
  have ho : oopB e 10 = false := by simp [oopB, he]
  simp [stepR, ho, aheadR]
omit hd in
theorem st0_13 (he : e ≠ 1) : stepR d q e 0 13 = ⟨ev0, 6, 0⟩ := by
  have ho : oopB e 13 = false := by simp [oopB, he]
  simp [stepR, ho, aheadR]
omit hd in
theorem st6_10 : stepR d q e 6 10 = ⟨ev0, 0, 0⟩ := by simp [stepR, feedR]
omit hd in
theorem st6_b {b : Int} (h : b ≠ 10) : stepR d q e 6 b = ⟨ev0, 0, 6⟩ := by simp [stepR, feedR, h]
omit hd in
theorem st0_b {b : Int} (h10 : b ≠ 10) (h13 : b ≠ 13) : stepR d q e 0 b = ⟨{ (stepR d q e 1 b).ev with bg := true }, (stepR d q e 1 b).n, 0⟩ ∧ (stepR d q e 1 b).k = 0 ∧ (stepR d q e 1 b).ev.bg = false := by
  have ho : oopB e b = false := by simp [oopB, h10, h13]
  have h0 : stepR d q e 0 b = aheadR d q b := by simp [stepR, ho]
  have h1 : stepR d q e 1 b = firstR d q b := by simp [stepR, ho]
  have hk : (firstR d q b).k = 0 := by unfold firstR; (repeat' split) <;> rfl
  have hb : (firstR d q b).ev.bg = false := by
    unfold firstR parE evRec evAdd ev0
    (repeat' split) <;> rfl
  rw [h0, h1]
  refine ⟨?_, hk, hb⟩
  unfold aheadR
  rw [if_neg h13, if_neg h10, hk]
omit hd in
theorem take_bg {m : Mk} (h : m.er = 0) {v : Ev} (hv : v.bg = false) (hb : m.bg < m.lr) : mTake { v with bg := true } m = mTake v { m with bg := m.bg + 1 } ∧ mTold { v with bg := true } m = mTold v { m with bg := m.bg + 1 } ∧ mRec { v with bg := true } m = mRec v { m with bg := m.bg + 1 } := by
  have h1 : mB true m = { m with bg := m.bg + 1 } := by unfold mB; rw [if_pos rfl, if_neg (by omega)]
  have h2 : mB false { m with bg := m.bg + 1 } = { m with bg := m.bg + 1 } := rfl
  have hg : mGather { v with bg := true } m = mGather v { m with bg := m.bg + 1 } := by
    unfold mGather
    dsimp only
    rw [h1, hv, h2]
  have h3 : mTold { v with bg := true } m = mTold v { m with bg := m.bg + 1 } := by
    unfold mTold
    rw [hg]
  refine ⟨?_, h3, ?_⟩
  · unfold mTake
    rw [mThen_go h, mThen_go (show ({ m with bg := m.bg + 1 } : Mk).er = 0 from h), hg]
  · unfold mRec
    rw [h3, hg]
omit hd in
theorem take_bg9 {m : Mk} (h : m.er = 0) {v : Ev} (hb : m.bg = m.lr) : (mTake { v with bg := true } m).er = 9 := by
  have h1 : mB true m = { m with er := 9 } := by unfold mB; rw [if_pos rfl, if_pos (by omega)]
  have hg : mGather { v with bg := true } m = { m with er := 9 } := by
    unfold mGather
    dsimp only
    have s9 : ({ m with er := 9 } : Mk).er ≠ 0 := by show (9 : Int) ≠ 0; decide
    rw [h1, mThen_stop s9, mThen_stop s9, mThen_stop s9]
  rw [mTake1 h (by rw [hg]; simp), hg]

/-- All bytes of a text, one by one, come to what its grammar says. -/
theorem mch_all : ∀ (n : Nat) (l : List Int) (m : Mk) (i : Nat), l.length < n → m.er = 0 → m.fd = [] → m.rc = [] → 0 ≤ m.lf → 0 < m.ls → m.bg ≤ m.lr → mch d q e 0 m i l = rdGo d q e n m i l
  | 0, l, m, i, hn, _, _, _, _, _, _ => by omega
  | n + 1, [], m, i, hn, h0, _, _, _, _, _ => by rw [mch_nil0 h0, rdGo]
  | n + 1, b :: r, m, i, hn, h0, hf, hr, hlf, hls, hbg => by
    simp only [List.length_cons] at hn
    rw [rdGo]
    have t := take_0 h0
    by_cases h10 : b = 10
    · rw [if_pos h10, h10]
      by_cases he : e = 2
      · rw [if_pos he]; exact mch_k (st_oop10 he 0 (.inl rfl)) (show (6 : Int) ≠ 0 by decide)
      · rw [if_neg he, mch_go (st0_10 he) (by rw [t.1]; exact h0) t.2, t.1]
        exact mch_all n r m (i + 1) (by omega) h0 hf hr hlf hls hbg
    · rw [if_neg h10]
      by_cases h13 : b = 13
      · rw [if_pos h13, h13]
        by_cases he : e = 1
        · rw [if_pos he]; exact mch_k (st_oop13 he 0 (.inl rfl)) (show (6 : Int) ≠ 0 by decide)
        · rw [if_neg he, mch_go (st0_13 he) (by rw [t.1]; exact h0) t.2, t.1]
          match r with
          | [] => rw [if_neg (by simp), mch, if_pos (by decide)]; rfl
          | c :: r' =>
            simp only [List.length_cons] at hn
            by_cases hc : c = 10
            · rw [if_pos (by rw [hc]; rfl), hc, mch_go st6_10 (by rw [t.1]; exact h0) t.2, t.1]
              exact mch_all n r' m (i + 2) (by omega) h0 hf hr hlf hls hbg
            · rw [if_neg (by simpa using hc)]; exact mch_k (st6_b hc) (show (6 : Int) ≠ 0 by decide)
      · rw [if_neg h13]
        obtain ⟨s1, s2, s3⟩ := st0_b (d := d) (q := q) (e := e) h10 h13
        by_cases hb : m.bg = m.lr
        · rw [if_pos hb, mch_e s1 (by rw [take_bg9 h0 hb]; decide), take_bg9 h0 hb]
        · rw [if_neg hb]
          obtain ⟨t1, t2, t3⟩ := take_bg h0 s3 (by omega)
          have hs : mch d q e 0 m i (b :: r) = mch d q e 1 { m with bg := m.bg + 1 } i (b :: r) := by
            rw [mch, mch, s1, s2]
            dsimp only
            rw [t1, t2, t3]
          rw [hs]
          have hm1 : Mid { m with bg := m.bg + 1 } := ⟨h0, by show (m.fd.length : Int) ≤ m.lf; rw [hf]; simpa using hlf, by show (m.rc.length : Int) < m.ls; rw [hr]; simpa using hls⟩
          obtain ⟨l1, l2⟩ := mch_line hd (r.length + 2) (b :: r) { m with bg := m.bg + 1 } i (by simp) hm1 hf
          by_cases hk : (lnGo d q e (r.length + 2) { m with bg := m.bg + 1 } i (b :: r)).k = 0
          · rw [if_neg (by simpa using hk)]
            obtain ⟨j1, j2⟩ := l2 hk
            rw [j1]
            simp only [List.length_cons] at j2
            congr 1
            exact mch_all n _ _ _ (by omega) h0 hf rfl hlf hls (by show m.bg + 1 ≤ m.lr; omega)
          · rw [if_pos hk, l1 hk]
end
end Go.Proofs.YtngdmkhinebbdaaDoor

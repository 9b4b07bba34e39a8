/- The maker (layer 5), as plain functions. -/
import Derived.Test.YtngdmkhinebbdaaDoorPev
namespace Go.Proofs.YtngdmkhinebbdaaDoor
open Go.RowKit
set_option linter.unusedVariables false
set_option linter.unusedSimpArgs false

/-- What a maker has. -/
structure Mk where
  lf : Int
  ls : Int
  lr : Int
  u : Bool
  fd : List Int
  rc : List ByteArray
  bg : Int
  ct : Int
  wd : Int
  er : Int

def mPut (s : Mk) : Mk := { s with fd := [], rc := s.rc ++ [toBA s.fd] }
def mBound (s : Mk) : Bool := s.u && decide (0 < s.ct)
def mB (b : Bool) (s : Mk) : Mk := if b = true then (if s.lr ≤ s.bg then { s with er := 9 } else { s with bg := s.bg + 1 }) else s
def mA (a : Bool) (v : Int) (s : Mk) : Mk := if a = true then (if s.lf ≤ (s.fd.length : Int) then { s with er := 7 } else { s with fd := s.fd ++ [v] }) else s
def mEndF (s : Mk) : Mk := if s.ls ≤ (s.rc.length : Int) + 1 then { mPut s with er := 8 } else if mBound s = true ∧ (s.rc.length : Int) + 1 = s.wd then { mPut s with er := 10 } else mPut s
def mEndL (s : Mk) : Mk := if mBound s = true ∧ (s.rc.length : Int) + 1 ≠ s.wd then { mPut s with er := 10 } else mPut s
def mF (f : Bool) (s : Mk) : Mk := if f = true then mEndF s else s
def mL (l : Bool) (s : Mk) : Mk := if l = true then mEndL s else s
def mThen (s : Mk) (f : Mk → Mk) : Mk := if s.er = 0 then f s else s
def mGather (e : Ev) (s : Mk) : Mk := mThen (mThen (mThen (mB e.bg s) (mA e.ad e.b)) (mF e.fi)) (mL e.li)
def mOut (s : Mk) : Mk := { s with rc := [], wd := if s.ct = 0 then (s.rc.length : Int) else s.wd, ct := s.ct + 1 }
def mTake (e : Ev) (s : Mk) : Mk := mThen s fun s => mThen (mGather e s) fun t => if e.re = true then mOut t else t
def mTold (e : Ev) (s : Mk) : Bool := decide (s.er = 0) && (decide ((mGather e s).er = 0) && e.re)
def mRec (e : Ev) (s : Mk) : List ByteArray := if mTold e s = true then (mGather e s).rc else []

theorem mThen_go {s : Mk} (h : s.er = 0) (f : Mk → Mk) : mThen s f = f s := if_pos h
theorem mThen_stop {s : Mk} (h : s.er ≠ 0) (f : Mk → Mk) : mThen s f = s := if_neg h
/-- Stopped, it does nothing. -/
theorem mTake_stop {s : Mk} (h : s.er ≠ 0) (e : Ev) : mTake e s = s ∧ mTold e s = false ∧ mRec e s = [] := by
  have h2 : mTold e s = false := by simp [mTold, h]
  exact ⟨mThen_stop h _, h2, by simp [mRec, h2]⟩
theorem mPut_len (s : Mk) : (mPut s).rc.length = s.rc.length + 1 := by simp [mPut]
def mZ (s : Mk) : Mk := { s with er := 0 }
theorem mZ_self {s : Mk} (h : s.er = 0) : mZ s = s := by cases s; simp only [mZ] at *; subst h; rfl
theorem mZ_er {s : Mk} (v : Int) (h : s.er = 0) : mZ { s with er := v } = s := by cases s; simp only [mZ] at *; subst h; rfl
theorem mZ_endF {s : Mk} (h : s.er = 0) : mZ (mEndF s) = mPut s := by
  have h' : (mPut s).er = 0 := h
  unfold mEndF
  split
  · exact mZ_er 8 h'
  · split
    · exact mZ_er 10 h'
    · exact mZ_self h'
theorem mZ_endL {s : Mk} (h : s.er = 0) : mZ (mEndL s) = mPut s := by
  have h' : (mPut s).er = 0 := h
  unfold mEndL
  split
  · exact mZ_er 10 h'
  · exact mZ_self h'
theorem mEndF_ok {s : Mk} (h : (mEndF s).er = 0) : mEndF s = mPut s := by
  unfold mEndF at h ⊢
  split at h
  · cases h
  · split at h
    · cases h
    · rename_i h1 h2; rw [if_neg h1, if_neg h2]
theorem mGather1 {e : Ev} {s s1 : Mk} (h1 : mB e.bg s = s1) (hn : s1.er ≠ 0) : mGather e s = s1 := by
  unfold mGather; rw [h1, mThen_stop hn, mThen_stop hn, mThen_stop hn]
theorem mGather2 {e : Ev} {s s1 s2 : Mk} (h1 : mB e.bg s = s1) (e1 : s1.er = 0) (h2 : mA e.ad e.b s1 = s2) (hn : s2.er ≠ 0) : mGather e s = s2 := by
  unfold mGather; rw [h1, mThen_go e1, h2, mThen_stop hn, mThen_stop hn]
theorem mGather3 {e : Ev} {s s1 s2 s3 : Mk} (h1 : mB e.bg s = s1) (e1 : s1.er = 0) (h2 : mA e.ad e.b s1 = s2) (e2 : s2.er = 0) (h3 : mF e.fi s2 = s3) (hn : s3.er ≠ 0) : mGather e s = s3 := by
  unfold mGather; rw [h1, mThen_go e1, h2, mThen_go e2, h3, mThen_stop hn]
theorem mGather4 {e : Ev} {s s1 s2 s3 : Mk} (h1 : mB e.bg s = s1) (e1 : s1.er = 0) (h2 : mA e.ad e.b s1 = s2) (e2 : s2.er = 0) (h3 : mF e.fi s2 = s3) (e3 : s3.er = 0) : mGather e s = mL e.li s3 := by
  unfold mGather; rw [h1, mThen_go e1, h2, mThen_go e2, h3, mThen_go e3]

/-- A maker's numbers, as they come: no sum of them wraps. -/
structure Mk.Ok (s : Mk) (N : Nat) : Prop where
  lr : s.lr ≤ 2147483648
  bg : 0 ≤ s.bg
  bgN : s.bg ≤ N
  ct : 0 ≤ s.ct
  ctN : s.ct ≤ N
  fdN : s.fd.length ≤ N
  rcN : s.rc.length ≤ 2 * N

/-- What a part of an event turns at most. -/
structure Few (s t : Mk) (i j k : Nat) : Prop where
  lf : t.lf = s.lf
  ls : t.ls = s.ls
  lr : t.lr = s.lr
  u : t.u = s.u
  ct : t.ct = s.ct
  bg : s.bg ≤ t.bg
  bgi : t.bg ≤ s.bg + i
  fd : t.fd.length ≤ s.fd.length + j
  rc : t.rc.length ≤ s.rc.length + k
theorem Few.refl (s : Mk) (i j k : Nat) : Few s s i j k := ⟨rfl, rfl, rfl, rfl, rfl, Int.le_refl _, by omega, by omega, by omega⟩
theorem Few.trans {s t v : Mk} {i j k i' j' k' : Nat} (h : Few s t i j k) (q : Few t v i' j' k') : Few s v (i + i') (j + j') (k + k') :=
  ⟨q.lf.trans h.lf, q.ls.trans h.ls, q.lr.trans h.lr, q.u.trans h.u, q.ct.trans h.ct, by have := h.bg; have := q.bg; omega, by have := h.bgi; have := q.bgi; omega, by have := h.fd; have := q.fd; omega, by have := h.rc; have := q.rc; omega⟩
theorem Few.then_ {s t : Mk} {f : Mk → Mk} {i j k i' j' k' : Nat} (h : Few s t i j k) (q : Few t (f t) i' j' k') : Few s (mThen t f) (i + i') (j + j') (k + k') := by
  unfold mThen
  split
  · exact h.trans q
  · exact h.trans (Few.refl t i' j' k')
theorem few_er {s t : Mk} {i j k : Nat} (v : Int) (h : Few s t i j k) : Few s { t with er := v } i j k := ⟨h.lf, h.ls, h.lr, h.u, h.ct, h.bg, h.bgi, h.fd, h.rc⟩
theorem few_put (s : Mk) : Few s (mPut s) 0 0 1 := ⟨rfl, rfl, rfl, rfl, rfl, Int.le_refl _, by show s.bg ≤ s.bg + (0 : Nat); omega, by simp [mPut], by rw [mPut_len]; exact Nat.le_refl _⟩
theorem few_B (b : Bool) (s : Mk) : Few s (mB b s) 1 0 0 := by
  unfold mB
  split
  · split
    · exact few_er 9 (Few.refl s 1 0 0)
    · exact ⟨rfl, rfl, rfl, rfl, rfl, by show s.bg ≤ s.bg + 1; omega, by show s.bg + 1 ≤ s.bg + (1 : Nat); omega, by simp, by simp⟩
  · exact Few.refl s 1 0 0
theorem few_A (b : Bool) (v : Int) (s : Mk) : Few s (mA b v s) 0 1 0 := by
  unfold mA
  split
  · split
    · exact few_er 7 (Few.refl s 0 1 0)
    · exact ⟨rfl, rfl, rfl, rfl, rfl, Int.le_refl _, by show s.bg ≤ s.bg + (0 : Nat); omega, by simp, by simp⟩
  · exact Few.refl s 0 1 0
theorem few_F (b : Bool) (s : Mk) : Few s (mF b s) 0 0 1 := by
  unfold mF mEndF
  split
  · split
    · exact few_er 8 (few_put s)
    · split
      · exact few_er 10 (few_put s)
      · exact few_put s
  · exact Few.refl s 0 0 1
theorem few_L (b : Bool) (s : Mk) : Few s (mL b s) 0 0 1 := by
  unfold mL mEndL
  split
  · split
    · exact few_er 10 (few_put s)
    · exact few_put s
  · exact Few.refl s 0 0 1
theorem few_gather (e : Ev) (s : Mk) : Few s (mGather e s) 1 1 2 :=
  (((few_B e.bg s).then_ (few_A e.ad e.b _)).then_ (few_F e.fi _)).then_ (few_L e.li _)
theorem Few.ok {s t : Mk} {N : Nat} (h : Few s t 1 1 2) (ok : s.Ok N) : t.Ok (N + 1) :=
  ⟨by rw [h.lr]; exact ok.lr, by have := ok.bg; have := h.bg; omega, by have := ok.bgN; have := h.bgi; omega, by rw [h.ct]; exact ok.ct, by rw [h.ct]; have := ok.ctN; omega, by have := ok.fdN; have := h.fd; omega, by have := ok.rcN; have := h.rc; omega⟩
theorem mTake1 {e : Ev} {s : Mk} (h : s.er = 0) (h1 : (mGather e s).er ≠ 0) : mTake e s = mGather e s := by
  unfold mTake; rw [mThen_go h, mThen_stop h1]
theorem mTake2 {e : Ev} {s : Mk} (h : s.er = 0) (hr : e.re = false) : mTake e s = mGather e s := by
  unfold mTake
  rw [mThen_go h]
  by_cases q : (mGather e s).er = 0
  · rw [mThen_go q, if_neg (by simp [hr])]
  · rw [mThen_stop q]
theorem mTake3 {e : Ev} {s : Mk} (h : s.er = 0) (h1 : (mGather e s).er = 0) (hr : e.re = true) : mTake e s = mOut (mGather e s) := by
  unfold mTake; rw [mThen_go h, mThen_go h1, if_pos hr]
theorem mRec1 {e : Ev} {s : Mk} (h1 : (mGather e s).er ≠ 0) : mRec e s = [] ∧ mTold e s = false := by
  have : mTold e s = false := by simp [mTold, h1]
  exact ⟨by simp [mRec, this], this⟩
theorem mRec2 {e : Ev} {s : Mk} (hr : e.re = false) : mRec e s = [] ∧ mTold e s = false := by
  have : mTold e s = false := by simp [mTold, hr]
  exact ⟨by simp [mRec, this], this⟩
theorem mRec3 {e : Ev} {s : Mk} (h : s.er = 0) (h1 : (mGather e s).er = 0) (hr : e.re = true) : mRec e s = (mGather e s).rc ∧ mTold e s = true := by
  have : mTold e s = true := by simp [mTold, h, h1, hr]
  exact ⟨by simp [mRec, this], this⟩
theorem ok_take (e : Ev) {s : Mk} {N : Nat} (ok : s.Ok N) : (mTake e s).Ok (N + 1) := by
  have h0 : s.Ok (N + 1) := (Few.refl s 1 1 2).ok ok
  have h1 := (few_gather e s).ok ok
  by_cases e0 : s.er = 0
  · by_cases e1 : (mGather e s).er = 0
    · cases hr : e.re
      · rw [mTake2 e0 hr]; exact h1
      · rw [mTake3 e0 e1 hr]
        refine ⟨h1.lr, h1.bg, h1.bgN, ?_, ?_, h1.fdN, by simp [mOut]⟩
        · show 0 ≤ (mGather e s).ct + 1; have := h1.ct; omega
        · show (mGather e s).ct + 1 ≤ _; rw [(few_gather e s).ct]; have := ok.ctN; omega
    · rw [mTake1 e0 e1]; exact h1
  · rw [(mTake_stop e0 e).1]; exact h0

def withinB (n : Int) : Bool := decide (1 ≤ n) && decide (n ≤ 2147483648)
/-- A maker that was handed nothing. -/
def mk0 (a b c : Int) (u : Bool) : Mk := ⟨a, b, c, u, [], [], 0, 0, 0, 0⟩
theorem mk0_ok (a b c : Int) (u : Bool) (h : (withinB a && (withinB b && withinB c)) = true) : (mk0 a b c u).Ok 0 := by
  simp [withinB] at h
  exact ⟨by show c ≤ _; omega, Int.le_refl _, Int.le_refl _, Int.le_refl _, Int.le_refl _, Nat.le_refl _, Nat.le_refl _⟩
/-- A maker within the limits of 1000 each, not stopped. -/
structure Wide (s : Mk) : Prop where
  lf : s.lf = 1000
  ls : s.ls = 1000
  lr : s.lr = 1000
  u : s.u = false
  er : s.er = 0
def wB (b : Bool) (s : Mk) : Mk := if b = true then { s with bg := s.bg + 1 } else s
def wA (a : Bool) (v : Int) (s : Mk) : Mk := if a = true then { s with fd := s.fd ++ [v] } else s
def wP (f : Bool) (s : Mk) : Mk := if f = true then mPut s else s
def wGather (e : Ev) (s : Mk) : Mk := wP e.li (wP e.fi (wA e.ad e.b (wB e.bg s)))
theorem wide_B {s : Mk} (h : Wide s) (hb : s.bg < 1000) (b : Bool) : mB b s = wB b s ∧ Wide (wB b s) := by
  cases b
  · exact ⟨rfl, h⟩
  · refine ⟨?_, ⟨h.lf, h.ls, h.lr, h.u, h.er⟩⟩
    unfold mB wB
    rw [if_pos rfl, if_pos rfl, if_neg (by rw [h.lr]; omega)]
theorem wide_A {s : Mk} (h : Wide s) (hb : s.fd.length < 1000) (b : Bool) (v : Int) : mA b v s = wA b v s ∧ Wide (wA b v s) := by
  cases b
  · exact ⟨rfl, h⟩
  · refine ⟨?_, ⟨h.lf, h.ls, h.lr, h.u, h.er⟩⟩
    unfold mA wA
    rw [if_pos rfl, if_pos rfl, if_neg (by rw [h.lf]; omega)]
theorem wide_F {s : Mk} (h : Wide s) (hb : s.rc.length + 1 < 1000) (b : Bool) : mF b s = wP b s ∧ Wide (wP b s) := by
  cases b
  · exact ⟨rfl, h⟩
  · refine ⟨?_, ⟨h.lf, h.ls, h.lr, h.u, h.er⟩⟩
    unfold mF wP mEndF
    rw [if_pos rfl, if_pos rfl, if_neg (by rw [h.ls]; omega), if_neg (by simp [mBound, h.u])]
theorem wide_L {s : Mk} (h : Wide s) (b : Bool) : mL b s = wP b s ∧ Wide (wP b s) := by
  cases b
  · exact ⟨rfl, h⟩
  · refine ⟨?_, ⟨h.lf, h.ls, h.lr, h.u, h.er⟩⟩
    unfold mL wP mEndL
    rw [if_pos rfl, if_pos rfl, if_neg (by simp [mBound, h.u])]
theorem wB_sizes (b : Bool) (s : Mk) : (wB b s).fd = s.fd ∧ (wB b s).rc = s.rc := by cases b <;> exact ⟨rfl, rfl⟩
theorem wA_sizes (b : Bool) (v : Int) (s : Mk) : (wA b v s).rc = s.rc := by cases b <;> rfl
theorem wP_sizes (b : Bool) (s : Mk) : (wP b s).rc.length ≤ s.rc.length + 1 := by
  cases b
  · exact Nat.le_succ _
  · show (mPut s).rc.length ≤ _; rw [mPut_len]; exact Nat.le_refl _
theorem wide_gather {s : Mk} {N : Nat} (h : Wide s) (ok : s.Ok N) (hN : N ≤ 400) (e : Ev) : mGather e s = wGather e s ∧ Wide (wGather e s) := by
  obtain ⟨a1, a2⟩ := wide_B h (by have := ok.bgN; omega) e.bg
  obtain ⟨z1, z2⟩ := wB_sizes e.bg s
  obtain ⟨b1, b2⟩ := wide_A a2 (by rw [z1]; have := ok.fdN; omega) e.ad e.b
  have z3 := wA_sizes e.ad e.b (wB e.bg s)
  obtain ⟨c1, c2⟩ := wide_F b2 (by rw [z3, z2]; have := ok.rcN; omega) e.fi
  obtain ⟨d1, d2⟩ := wide_L c2 e.li
  refine ⟨?_, d2⟩
  unfold mGather wGather
  rw [a1, mThen_go a2.er, b1, mThen_go b2.er, c1, mThen_go c2.er, d1]
def wTake (e : Ev) (s : Mk) : Mk := if e.re = true then mOut (wGather e s) else wGather e s
def wRec (e : Ev) (s : Mk) : List ByteArray := if e.re = true then (wGather e s).rc else []
theorem wide_take {s : Mk} {N : Nat} (h : Wide s) (ok : s.Ok N) (hN : N ≤ 400) (e : Ev) : mTake e s = wTake e s ∧ mRec e s = wRec e s ∧ mTold e s = e.re ∧ Wide (wTake e s) ∧ (wTake e s).Ok (N + 1) ∧ (wTake e s).er = 0 := by
  obtain ⟨g1, g2⟩ := wide_gather h ok hN e
  have e1 : (mGather e s).er = 0 := by rw [g1]; exact g2.er
  have hk := ok_take e ok
  unfold wTake wRec
  cases hr : e.re
  · obtain ⟨r1, r2⟩ := mRec2 (s := s) hr
    have t := mTake2 h.er hr
    rw [t, g1] at hk
    rw [t, r1, r2, g1]
    exact ⟨rfl, rfl, rfl, g2, hk, g2.er⟩
  · obtain ⟨r1, r2⟩ := mRec3 h.er e1 hr
    have t := mTake3 h.er e1 hr
    rw [t, g1] at hk
    rw [t, r1, r2, g1]
    exact ⟨rfl, rfl, rfl, ⟨g2.lf, g2.ls, g2.lr, g2.u, g2.er⟩, hk, g2.er⟩
theorem wide_mk0 : Wide (mk0 1000 1000 1000 false) := ⟨rfl, rfl, rfl, rfl, rfl⟩

end Go.Proofs.YtngdmkhinebbdaaDoor

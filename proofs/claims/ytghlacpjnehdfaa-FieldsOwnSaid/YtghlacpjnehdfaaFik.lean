/- Layer 5: within wide limits: what an event comes to; a slice of events read. -/
import Derived.Test.YtghlacpjnehdfaaFij
namespace Go.Proofs.Ytghlacpjnehdfaa
open Go.ChangeShapes Go.WideShapes Go.ChangeAt Go.RowKit
set_option linter.unusedVariables false
set_option linter.unusedSimpArgs false

/-- A maker within the limits of 1000 each, not stopped. -/
structure Wide (s : Mk) : Prop where
  lf : s.lf = 1000
  ls : s.ls = 1000
  lr : s.lr = 1000
  u : s.u = false
  er : s.er = 0
def wB (b : Bool) (s : Mk) : Mk := if b = true then { s with bg := s.bg + 1 } else s
def wA (a : Bool) (v : Int) (s : Mk) : Mk := if a = true then { s with fd := s.fd ++ [v] } else s
def wP (f : Bool) (s : Mk) : Mk := if f = true then mPut s else s
def wGather (e : Ev) (s : Mk) : Mk := wP e.li (wP e.fi (wA e.ad e.b (wB e.bg s)))
theorem wide_B {s : Mk} (h : Wide s) (hb : s.bg < 1000) (b : Bool) : mB b s = wB b s ∧ Wide (wB b s) := by
  cases b
  · exact ⟨rfl, h⟩
  · refine ⟨?_, ⟨h.lf, h.ls, h.lr, h.u, h.er⟩⟩
    unfold mB wB
    rw [if_pos rfl, if_pos rfl, if_neg (by rw [h.lr]; omega)]
theorem wide_A {s : Mk} (h : Wide s) (hb : s.fd.length < 1000) (b : Bool) (v : Int) : mA b v s = wA b v s ∧ Wide (wA b v s) := by
  cases b
  · exact ⟨rfl, h⟩
  · refine ⟨?_, ⟨h.lf, h.ls, h.lr, h.u, h.er⟩⟩
    unfold mA wA
    rw [if_pos rfl, if_pos rfl, if_neg (by rw [h.lf]; omega)]
theorem wide_F {s : Mk} (h : Wide s) (hb : s.rc.length + 1 < 1000) (b : Bool) : mF b s = wP b s ∧ Wide (wP b s) := by
  cases b
  · exact ⟨rfl, h⟩
  · refine ⟨?_, ⟨h.lf, h.ls, h.lr, h.u, h.er⟩⟩
    unfold mF wP mEndF
    rw [if_pos rfl, if_pos rfl, if_neg (by rw [h.ls]; omega), if_neg (by simp [mBound, h.u])]
theorem wide_L {s : Mk} (h : Wide s) (b : Bool) : mL b s = wP b s ∧ Wide (wP b s) := by
  cases b
  · exact ⟨rfl, h⟩
  · refine ⟨?_, ⟨h.lf, h.ls, h.lr, h.u, h.er⟩⟩
    unfold mL wP mEndL
    rw [if_pos rfl, if_pos rfl, if_neg (by simp [mBound, h.u])]
theorem wB_sizes (b : Bool) (s : Mk) : (wB b s).fd = s.fd ∧ (wB b s).rc = s.rc := by cases b <;> exact ⟨rfl, rfl⟩
theorem wA_sizes (b : Bool) (v : Int) (s : Mk) : (wA b v s).rc = s.rc := by cases b <;> rfl
theorem wP_sizes (b : Bool) (s : Mk) : (wP b s).rc.length ≤ s.rc.length + 1 := by
  cases b
  · exact Nat.le_succ _
  · show (mPut s).rc.length ≤ _; rw [mPut_len]; exact Nat.le_refl _
theorem wide_gather {s : Mk} {N : Nat} (h : Wide s) (ok : s.Ok N) (hN : N ≤ 400) (e : Ev) : mGather e s = wGather e s ∧ Wide (wGather e s) := by
  obtain ⟨a1, a2⟩ := wide_B h (by have := ok.bgN; omega) e.bg
  obtain ⟨z1, z2⟩ := wB_sizes e.bg s
  obtain ⟨b1, b2⟩ := wide_A a2 (by rw [z1]; have := ok.fdN; omega) e.ad e.b
  have z3 := wA_sizes e.ad e.b (wB e.bg s)
  obtain ⟨c1, c2⟩ := wide_F b2 (by rw [z3, z2]; have := ok.rcN; omega) e.fi
  obtain ⟨d1, d2⟩ := wide_L c2 e.li
  refine ⟨?_, d2⟩
  unfold mGather wGather
  rw [a1, mThen_go a2.er, b1, mThen_go b2.er, c1, mThen_go c2.er, d1]
def wTake (e : Ev) (s : Mk) : Mk := if e.re = true then mOut (wGather e s) else wGather e s
def wRec (e : Ev) (s : Mk) : List ByteArray := if e.re = true then (wGather e s).rc else []
theorem wide_take {s : Mk} {N : Nat} (h : Wide s) (ok : s.Ok N) (hN : N ≤ 400) (e : Ev) : mTake e s = wTake e s ∧ mRec e s = wRec e s ∧ mTold e s = e.re ∧ Wide (wTake e s) ∧ (wTake e s).Ok (N + 1) ∧ (wTake e s).er = 0 := by
  obtain ⟨g1, g2⟩ := wide_gather h ok hN e
  have e1 : (mGather e s).er = 0 := by rw [g1]; exact g2.er
  have hk := ok_take e ok
  unfold wTake wRec
  cases hr : e.re
  · obtain ⟨r1, r2⟩ := mRec2 (s := s) hr
    have t := mTake2 h.er hr
    rw [t, g1] at hk
    rw [t, r1, r2, g1]
    exact ⟨rfl, rfl, rfl, g2, hk, g2.er⟩
  · obtain ⟨r1, r2⟩ := mRec3 h.er e1 hr
    have t := mTake3 h.er e1 hr
    rw [t, g1] at hk
    rw [t, r1, r2, g1]
    exact ⟨rfl, rfl, rfl, ⟨g2.lf, g2.ls, g2.lr, g2.u, g2.er⟩, hk, g2.er⟩
theorem wide_mk0 : Wide (mk0 1000 1000 1000 false) := ⟨rfl, rfl, rfl, rfl, rfl⟩

theorem flat_length (l : List Ev) : (flat l).length = l.length * 6 := by
  induction l with
  | nil => rfl
  | cons a r ih => unfold flat at ih ⊢; rw [List.flatMap_cons, List.length_append, ih]; simp [evCells]; omega
theorem flat_get {l : List Ev} {k : Nat} {x : Ev} (h : l[k]? = some x) (j : Nat) (hj : j < 6) : (flat l)[k * 6 + j]? = (evCells x)[j]? := by
  induction l generalizing k with
  | nil => simp at h
  | cons a r ih =>
    unfold flat at ih ⊢
    rw [List.flatMap_cons]
    cases k with
    | zero =>
      simp at h; subst h
      rw [List.getElem?_append_left (by simp [evCells]; omega)]; simp
    | succ k =>
      rw [List.getElem?_append_right (by simp [evCells]; omega)]
      have := ih (k := k) (by simpa using h)
      rw [← this]
      congr 1
      simp [evCells]; omega
/-- The cells of one event of a slice. -/
theorem ev_at {w : World} {A : Option Addr} {n k : Nat} {l : List Ev} {x : Ev} (h : SlIn w A (n * 6) (flat l)) (hk : l[k]? = some x) : ∃ a, A = some a ∧ ∀ j v, (evArr x)[j]? = some v → w.cell? ((a.add (k * 6)).add j) = some v := by
  have h0 : (flat l)[k * 6 + 0]? = some (.bool x.bg) := flat_get hk 0 (by omega)
  obtain ⟨a, ha, _⟩ := h.at_ h0
  refine ⟨a, ha, fun j v hv => ?_⟩
  have hj : j < 6 := by
    have := (Array.getElem?_eq_some_iff.1 hv).1
    simpa [evArr] using this
  have : (flat l)[k * 6 + j]? = some v := by rw [flat_get hk j hj]; simpa [evArr, evCells] using hv
  obtain ⟨a', ha', hc⟩ := h.at_ this
  rw [ha] at ha'
  injection ha' with ha'
  subst ha'
  rw [add_twice]; exact hc
/-- The same, in the walk's own spelling. -/
theorem ev_at6 {w : World} {A : Option Addr} {n k : Nat} {l : List Ev} {bg ad fi li re : Bool} {pb : Int} (h : SlIn w A (n * 6) (flat l)) (hk : l[k]? = some ⟨bg, ad, fi, li, re, pb⟩) : ∃ a, A = some a ∧
    w.cell? (a.add (k * 6)) = some (.bool bg) ∧ w.cell? ⟨(a.add (k * 6)).block, (a.add (k * 6)).off + 1, none⟩ = some (.bool ad) ∧ w.cell? ⟨(a.add (k * 6)).block, (a.add (k * 6)).off + 2, none⟩ = some (.bool fi) ∧
    w.cell? ⟨(a.add (k * 6)).block, (a.add (k * 6)).off + 3, none⟩ = some (.bool li) ∧ w.cell? ⟨(a.add (k * 6)).block, (a.add (k * 6)).off + 4, none⟩ = some (.bool re) ∧ w.cell? ⟨(a.add (k * 6)).block, (a.add (k * 6)).off + 5, none⟩ = some (.int .u8 pb) := by
  obtain ⟨a, ha, hc⟩ := ev_at h hk
  exact ⟨a, ha, hc 0 _ rfl, hc 1 _ rfl, hc 2 _ rfl, hc 3 _ rfl, hc 4 _ rfl, hc 5 _ rfl⟩
end Go.Proofs.Ytghlacpjnehdfaa

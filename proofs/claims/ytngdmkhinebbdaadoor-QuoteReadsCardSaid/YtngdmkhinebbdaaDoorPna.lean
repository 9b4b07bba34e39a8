/- Layer 8, plain: a record none of whose fields must be quoted, laid with Delims between and an end of line behind, is read as it was (nd_plain). No program. -/
import Derived.Test.YtngdmkhinebbdaaDoorPwb
namespace Go.Proofs.YtngdmkhinebbdaaDoor
open Go.RowKit
set_option linter.unusedVariables false
set_option linter.unusedSimpArgs false

/-- None of these bytes parts, quotes, or ends a line. -/
def bareL (d q : Int) (f : List Int) : Prop := ∀ b ∈ f, stops d b = false ∧ b ≠ q
/-- Fields, laid with Delims between. -/
def layL (d : Int) : List (List Int) → List Int
  | [] => []
  | [f] => f
  | f :: g :: r => f ++ d :: layL d (g :: r)
def endL (e : Int) : List Int := if e = 2 then [13, 10] else [10]

section
variable {d q e lf : Int}
theorem bGo_run : ∀ (l f : List Int) (i : Nat) (c : Int) (rest : List Int), bareL d q l → stops d c = true → (f.length : Int) + l.length < lf + 1 →
    bGo d q lf f i (l ++ c :: rest) = ⟨0, f ++ l, i + l.length, c :: rest⟩
  | [], f, i, c, rest, _, hc, _ => by simp [bGo, hc]
  | b :: l, f, i, c, rest, hl, hc, hf => by
    obtain ⟨h1, h2⟩ := hl b (List.mem_cons_self ..)
    have hlen : ¬ (f.length : Int) = lf := by simp at hf; omega
    rw [List.cons_append, bGo, if_neg (by rw [h1]; simp), if_neg h2, if_neg hlen, bGo_run l (f ++ [b]) (i + 1) c rest (fun x hx => hl x (List.mem_cons_of_mem _ hx)) hc (by simp at hf ⊢; omega)]
    simp; omega
theorem fGo_run (hd : Dia d q e) (l : List Int) (i : Nat) (c : Int) (rest : List Int) (hl : bareL d q l) (hc : stops d c = true) (hf : (l.length : Int) < lf + 1) : fGo d q lf i (l ++ c :: rest) = ⟨0, l, i + l.length, c :: rest⟩ := by
  have hcq : c ≠ q := by
    rintro rfl
    simp [stops] at hc
    have := hd.dq; have := hd.q10; have := hd.q13
    omega
  have h := bGo_run l [] i c rest hl hc (by simpa using hf)
  cases l with
  | nil => rw [List.nil_append] at h ⊢; rw [fGo, if_neg hcq]; simpa using h
  | cons b r => rw [List.cons_append] at h ⊢; rw [fGo, if_neg (hl b (List.mem_cons_self ..)).2]; simpa using h
theorem endL_cons (e : Int) : ∃ c rest, endL e = c :: rest ∧ (c = 10 ∨ c = 13) := by
  unfold endL; split
  · exact ⟨13, [10], rfl, .inr rfl⟩
  · exact ⟨10, [], rfl, .inl rfl⟩
theorem lnEnd_run (he : e = 1 ∨ e = 2 ∨ e = 3) (m : Mk) (hu : m.u = false) (i : Nat) : ∃ e' i', lnEnd e m i (endL e) = ⟨0, 0, m.rc, e', i', []⟩ := by
  have hb : mBound m = false := by simp [mBound, hu]
  rcases he with rfl | rfl | rfl
  · exact ⟨i, i + 1, by simp [endL, lnEnd, hb]⟩
  · exact ⟨i + 1, i + 2, by simp [endL, lnEnd, hb, lnCr]⟩
  · exact ⟨i, i + 1, by simp [endL, lnEnd, hb]⟩
theorem lnGo_run (hd : Dia d q e) (he : e = 1 ∨ e = 2 ∨ e = 3) : ∀ (r : List (List Int)) (n : Nat) (m : Mk) (i : Nat), r ≠ [] → (∀ f ∈ r, bareL d q f ∧ (f.length : Int) < m.lf + 1) → m.u = false → (m.rc.length : Int) + r.length < m.ls + 1 → r.length ≤ n →
    ∃ e' i', lnGo d q e n m i (layL d r ++ endL e) = ⟨0, 0, m.rc ++ r.map toBA, e', i', []⟩
  | [], _, _, _, h, _, _, _, _ => absurd rfl h
  | [f], n, m, i, _, hf, hu, hs, hn => by
    obtain ⟨n, rfl⟩ : ∃ k, n = k + 1 := ⟨n - 1, by simp at hn; omega⟩
    obtain ⟨c, rest, hE, hc⟩ := endL_cons e
    obtain ⟨h1, h2⟩ := hf f (List.mem_cons_self ..)
    have hst : stops d c = true := by rcases hc with rfl | rfl <;> simp [stops]
    have hcd : c ≠ d := by
      have := hd.d10; have := hd.d13
      rcases hc with rfl | rfl <;> omega
    have hx := fGo_run hd f i c rest h1 hst h2
    obtain ⟨e', i', hend⟩ := lnEnd_run he { m with rc := m.rc ++ [toBA f] } hu (i + f.length)
    refine ⟨e', i', ?_⟩
    rw [layL, hE, lnGo, hx]
    simp only [ne_eq, not_true_eq_false, if_false, hcd]
    rw [← hE, hend]
    rfl
  | f :: g :: r, n, m, i, _, hf, hu, hs, hn => by
    obtain ⟨n, rfl⟩ : ∃ k, n = k + 1 := ⟨n - 1, by simp at hn; omega⟩
    obtain ⟨h1, h2⟩ := hf f (List.mem_cons_self ..)
    have hst : stops d d = true := by simp [stops]
    have hx := fGo_run hd f i d (layL d (g :: r) ++ endL e) h1 hst h2
    obtain ⟨e', i', ih⟩ := lnGo_run hd he (g :: r) n { m with rc := m.rc ++ [toBA f] } (i + f.length + 1) (by simp) (fun x hx => hf x (List.mem_cons_of_mem _ hx)) hu (by simp at hs ⊢; omega) (by simp at hn ⊢; omega)
    refine ⟨e', i', ?_⟩
    have hls : ¬ (m.rc.length : Int) + 1 = m.ls := by simp at hs; omega
    have hb : mBound m = false := by simp [mBound, hu]
    rw [layL, List.append_assoc, List.cons_append, lnGo, hx]
    simp only [ne_eq, not_true_eq_false, if_false, if_true, hls, hb, Bool.false_eq_true, false_and]
    rw [ih]
    simp
theorem rdGo_run (hd : Dia d q e) (he : e = 1 ∨ e = 2 ∨ e = 3) (r : List (List Int)) (n : Nat) (m : Mk) (i : Nat) (h0 : r ≠ []) (h1 : r ≠ [[]]) (hf : ∀ f ∈ r, bareL d q f ∧ (f.length : Int) < m.lf + 1) (hu : m.u = false) (hrc : m.rc = []) (hs : (r.length : Int) < m.ls + 1) (hbg : ¬ m.bg = m.lr) (hn : 2 ≤ n) :
    ∃ j, rdGo d q e n m i (layL d r ++ endL e) = ⟨[(r.map toBA, j)], 0, 0⟩ := by
  obtain ⟨n, rfl⟩ : ∃ k, n = k + 2 := ⟨n - 2, by omega⟩
  obtain ⟨b, t, hbt, hb⟩ : ∃ b t, layL d r ++ endL e = b :: t ∧ b ≠ 10 ∧ b ≠ 13 := by
    have head : ∀ (f : List Int) (x : Int) (y : List Int), f = x :: y → f ∈ r → x ≠ 10 ∧ x ≠ 13 := fun f x y hx hm => by
      have := ((hf f hm).1 x (by rw [hx]; exact List.mem_cons_self ..)).1
      simp [stops] at this
      exact this.2
    match r, h0, h1, hf, head with
    | [f], _, h1, hf, head =>
      cases f with
      | nil => exact absurd rfl h1
      | cons x y => exact ⟨x, y ++ endL e, by simp [layL], head _ x y rfl (List.mem_cons_self ..)⟩
    | f :: g :: r, _, _, hf, head =>
      cases f with
      | nil => exact ⟨d, layL d (g :: r) ++ endL e, by simp [layL], hd.d10, hd.d13⟩
      | cons x y => exact ⟨x, y ++ d :: layL d (g :: r) ++ endL e, by simp [layL], head _ x y rfl (List.mem_cons_self ..)⟩
  have hlen : r.length ≤ t.length + 2 := by
    have h2 : ∀ r : List (List Int), r.length ≤ (layL d r).length + 1 := by
      intro r
      induction r with
      | nil => simp
      | cons f r ih =>
        cases r with
        | nil => simp
        | cons g r => simp [layL] at ih ⊢; omega
    have h3 := congrArg List.length hbt
    have h4 := h2 r
    have h5 : 1 ≤ (endL e).length := by unfold endL; split <;> simp
    simp at h3; omega
  obtain ⟨e', i', hln⟩ := lnGo_run hd he r (t.length + 2) { m with bg := m.bg + 1 } i h0 hf hu (by rw [hrc]; simpa using hs) hlen
  rw [hbt] at hln ⊢
  refine ⟨e', ?_⟩
  rw [rdGo, if_neg hb.1, if_neg hb.2, if_neg hbg, hln]
  simp only [ne_eq, not_true_eq_false, if_false]
  rw [rdGo, hrc]
  rfl
end
end Go.Proofs.YtngdmkhinebbdaaDoor

/- Layers 9 and 10, plain: a field quoted (quoL), a text taken apart (unqL); fields written, bare or quoted, with Delims between and an end of line or nothing behind, are read as they were. -/
import Derived.Test.YtngdmkhinebbdaaDoorPgr
import Derived.Test.YtngdmkhinebbdaaDoorPes
import Derived.Test.YtngdmkhinebbdaaDoorPna
namespace Go.Proofs.YtngdmkhinebbdaaDoor
open Go.RowKit
set_option linter.unusedVariables false
set_option linter.unusedSimpArgs false

/-- A field's bytes, each Quote twice. -/
def dbl (q : Int) : List Int → List Int
  | [] => []
  | b :: r => if b = q then q :: q :: dbl q r else b :: dbl q r
/-- A field quoted. -/
def quoL (q : Int) (f : List Int) : List Int := q :: (dbl q f ++ [q])
/-- What a text behind its first Quote is the rest of, if of anything. -/
def unqL (q : Int) : List Int → Option (List Int)
  | [] => none
  | [b] => if b = q then some [] else none
  | b :: c :: r => if b = q then (if c = q then (unqL q r).map (q :: ·) else none) else (unqL q (c :: r)).map (b :: ·)
theorem dbl_append (q : Int) : ∀ a b, dbl q (a ++ b) = dbl q a ++ dbl q b
  | [], b => rfl
  | x :: a, b => by
    rw [List.cons_append, dbl, dbl, dbl_append q a b]
    split <;> rfl
theorem dbl_nil {q : Int} {f : List Int} (h : dbl q f = []) : f = [] := by
  cases f with
  | nil => rfl
  | cons b r => rw [dbl] at h; split at h <;> cases h
theorem dbl_len (q : Int) : ∀ f : List Int, f.length ≤ (dbl q f).length ∧ (dbl q f).length ≤ 2 * f.length
  | [] => ⟨Nat.le_refl _, Nat.le_refl _⟩
  | b :: r => by
    have := dbl_len q r
    rw [dbl]
    split <;> simp <;> omega
theorem quoL_len (q : Int) (f : List Int) : (quoL q f).length = (dbl q f).length + 2 := by simp [quoL]
theorem unqL_dbl (q : Int) : ∀ f : List Int, unqL q (dbl q f ++ [q]) = some f
  | [] => by simp [dbl, unqL]
  | b :: r => by
    have ih := unqL_dbl q r
    rw [dbl]
    split
    · rename_i h
      subst h
      rw [List.cons_append, List.cons_append, unqL, if_pos rfl, if_pos rfl, ih]
      rfl
    · rename_i h
      rw [List.cons_append]
      cases hd : dbl q r ++ [q] with
      | nil => simp at hd
      | cons c t =>
        rw [unqL, if_neg h, ← hd, ih]
        rfl
theorem unqL_some (q : Int) : ∀ (n : Nat) (t f : List Int), t.length ≤ n → unqL q t = some f → t = dbl q f ++ [q]
  | _, [], f, _, h => by simp [unqL] at h
  | _, [b], f, _, h => by
    rw [unqL] at h
    split at h
    · rename_i hb
      injection h with h
      subst h hb
      rfl
    · cases h
  | 0, b :: c :: r, f, hn, h => by simp at hn
  | n + 1, b :: c :: r, f, hn, h => by
    rw [unqL] at h
    split at h
    · rename_i hb
      split at h
      · rename_i hc
        cases hu : unqL q r with
        | none => rw [hu] at h; cases h
        | some g =>
          rw [hu] at h
          injection h with h
          subst h
          have := unqL_some q n r g (by simp at hn; omega) hu
          rw [dbl, if_pos rfl, hb, hc, this]
          rfl
      · cases h
    · rename_i hb
      cases hu : unqL q (c :: r) with
      | none => rw [hu] at h; cases h
      | some g =>
        rw [hu] at h
        injection h with h
        subst h
        have := unqL_some q n (c :: r) g (by simp at hn ⊢; omega) hu
        rw [dbl, if_neg hb, this]
        rfl
theorem unqL_iff (q : Int) (t f : List Int) : unqL q t = some f ↔ t = dbl q f ++ [q] := ⟨unqL_some q _ t f (Nat.le_refl _), fun h => h ▸ unqL_dbl q f⟩
theorem dbl_inj {q : Int} {f g : List Int} (h : dbl q f = dbl q g) : f = g := by
  have h1 := unqL_dbl q f
  rw [h, unqL_dbl q g] at h1
  injection h1 with h1
  exact h1.symm
theorem quoL_inj {q : Int} {f g : List Int} (h : quoL q f = quoL q g) : f = g := by
  unfold quoL at h
  injection h with _ h
  exact dbl_inj (List.append_cancel_right h)

/-! ### It is read as it was -/
section
variable {d q e lf : Int}
theorem qGo_run : ∀ (l f : List Int) (i : Nat) (rest : List Int), (rest = [] ∨ ∃ c r, rest = c :: r ∧ c ≠ q) → (f.length : Int) + l.length < lf + 1 →
    qGo q lf f i (dbl q l ++ q :: rest) = ⟨0, f ++ l, i + (dbl q l).length + 1, rest⟩
  | [], f, i, rest, hr, hf => by
    rcases hr with rfl | ⟨c, r, rfl, hc⟩
    · simp [dbl, qGo]
    · simp [dbl, qGo, hc]
  | b :: l, f, i, rest, hr, hf => by
    have hlen : ¬ (f.length : Int) = lf := by simp at hf; omega
    rw [dbl]
    split
    · rename_i h
      rw [List.cons_append, List.cons_append, qGo, if_pos rfl, if_pos rfl, if_neg hlen, qGo_run l (f ++ [q]) (i + 2) rest hr (by simp at hf ⊢; omega), h]
      simp; omega
    · rename_i h
      have ih := qGo_run l (f ++ [b]) (i + 1) rest hr (by simp at hf ⊢; omega)
      rw [List.cons_append]
      cases hd : dbl q l ++ q :: rest with
      | nil => simp at hd
      | cons c t =>
        rw [qGo, if_neg h, if_neg hlen, ← hd, ih]
        simp; omega
/-- What stands behind a field: nothing, or a stop. -/
def Stop (d : Int) (rest : List Int) : Prop := rest = [] ∨ ∃ c r, rest = c :: r ∧ stops d c = true
/-- A field f, written so. -/
def Wr (d q : Int) (f t : List Int) : Prop := (bareL d q f ∧ t = f) ∨ t = quoL q f
theorem bGo_stop : ∀ (l f : List Int) (i : Nat) (rest : List Int), bareL d q l → Stop d rest → (f.length : Int) + l.length < lf + 1 → bGo d q lf f i (l ++ rest) = ⟨0, f ++ l, i + l.length, rest⟩ := by
  intro l f i rest hl hr hf
  rcases hr with rfl | ⟨c, r, rfl, hc⟩
  · induction l generalizing f i with
    | nil => simp [bGo]
    | cons b l ih =>
      obtain ⟨h1, h2⟩ := hl b (List.mem_cons_self ..)
      have hlen : ¬ (f.length : Int) = lf := by simp at hf; omega
      have := ih (f ++ [b]) (i + 1) (fun x hx => hl x (List.mem_cons_of_mem _ hx)) (by simp at hf ⊢; omega)
      rw [List.cons_append, bGo, if_neg (by rw [h1]; simp), if_neg h2, if_neg hlen, this]
      simp; omega
  · exact bGo_run l f i c r hl hc hf
theorem fGo_wr (hd : Dia d q e) {f t : List Int} (hw : Wr d q f t) (i : Nat) (rest : List Int) (hr : Stop d rest) (hf : (f.length : Int) < lf + 1) : fGo d q lf i (t ++ rest) = ⟨0, f, i + t.length, rest⟩ := by
  have hq : ∀ c r, rest = c :: r → c ≠ q := by
    rintro c r rfl
    rcases hr with h | ⟨c', r', h, hc⟩
    · cases h
    · injection h with h1 h2
      subst h1
      rintro rfl
      simp [stops] at hc
      have := hd.dq; have := hd.q10; have := hd.q13
      omega
  rcases hw with ⟨hb, rfl⟩ | rfl
  · have h := bGo_stop (lf := lf) t [] i rest hb hr (by simpa using hf)
    cases t with
    | nil =>
      rw [List.nil_append] at h ⊢
      cases rest with
      | nil => simpa [fGo] using h
      | cons c r => rw [fGo, if_neg (hq c r rfl)]; simpa using h
    | cons b r => rw [List.cons_append] at h ⊢; rw [fGo, if_neg (hb b (List.mem_cons_self ..)).2]; simpa using h
  · have h := qGo_run (q := q) (lf := lf) f [] (i + 1) rest (by
      cases rest with
      | nil => exact .inl rfl
      | cons c r => exact .inr ⟨c, r, rfl, hq c r rfl⟩) (by simpa using hf)
    have he : quoL q f ++ rest = q :: (dbl q f ++ q :: rest) := by simp [quoL]
    rw [he, fGo, if_pos rfl, h, quoL_len]
    unfold behind
    rcases hr with rfl | ⟨c, r, rfl, hc⟩
    · simp; omega
    · simp [hc]; omega
/-- What stands behind a record: nothing, or an end of line and more. -/
def Ends (e : Int) (rest tail : List Int) : Prop := (rest = [] ∧ tail = []) ∨ rest = endL e ++ tail
theorem Ends.stop {rest tail : List Int} (h : Ends e rest tail) : Stop d rest := by
  rcases h with ⟨rfl, _⟩ | rfl
  · exact .inl rfl
  · obtain ⟨c, r, hE, hc⟩ := endL_cons e
    exact .inr ⟨c, r ++ tail, by rw [hE]; rfl, by rcases hc with rfl | rfl <;> simp [stops]⟩
theorem lnEnd_wr (he : e = 1 ∨ e = 2 ∨ e = 3) (m : Mk) (hu : m.u = false) (i : Nat) {rest tail : List Int} (h : Ends e rest tail) : ∃ e' i', lnEnd e m i rest = ⟨0, 0, m.rc, e', i', tail⟩ := by
  have hb : mBound m = false := by simp [mBound, hu]
  rcases h with ⟨rfl, rfl⟩ | rfl
  · exact ⟨i, i, by simp [lnEnd, hb]⟩
  · rcases he with rfl | rfl | rfl
    · exact ⟨i, i + 1, by simp [endL, lnEnd, hb]⟩
    · exact ⟨i + 1, i + 2, by simp [endL, lnEnd, hb, lnCr]⟩
    · exact ⟨i, i + 1, by simp [endL, lnEnd, hb]⟩
theorem lnGo_wr (hd : Dia d q e) (he : e = 1 ∨ e = 2 ∨ e = 3) {rest tail : List Int} (hE : Ends e rest tail) : ∀ (r : List (List Int × List Int)) (n : Nat) (m : Mk) (i : Nat), r ≠ [] → (∀ p ∈ r, Wr d q p.1 p.2 ∧ (p.1.length : Int) < m.lf + 1) → m.u = false → (m.rc.length : Int) + r.length < m.ls + 1 → r.length ≤ n →
    ∃ e' i', lnGo d q e n m i (layL d (r.map (·.2)) ++ rest) = ⟨0, 0, m.rc ++ r.map (fun p => toBA p.1), e', i', tail⟩
  | [], _, _, _, h, _, _, _, _ => absurd rfl h
  | [p], n, m, i, _, hf, hu, hs, hn => by
    obtain ⟨n, rfl⟩ : ∃ k, n = k + 1 := ⟨n - 1, by simp at hn; omega⟩
    obtain ⟨h1, h2⟩ := hf p (List.mem_cons_self ..)
    have hx := fGo_wr hd h1 i rest hE.stop h2
    obtain ⟨e', i', hend⟩ := lnEnd_wr he { m with rc := m.rc ++ [toBA p.1] } hu (i + p.2.length) hE
    refine ⟨e', i', ?_⟩
    show lnGo d q e (n + 1) m i (p.2 ++ rest) = _
    rw [lnGo, hx]
    simp only [ne_eq, not_true_eq_false, if_false]
    cases rest with
    | nil => exact hend
    | cons c t =>
      have hcd : c ≠ d := by
        rcases hE with ⟨h, _⟩ | h
        · cases h
        · obtain ⟨c', r', hE', hc⟩ := endL_cons e
          rw [hE'] at h
          injection h with h1 h2
          have := hd.d10; have := hd.d13
          rcases hc with hc | hc <;> omega
      simp only [hcd, if_false]
      exact hend
  | p :: g :: r, n, m, i, _, hf, hu, hs, hn => by
    obtain ⟨n, rfl⟩ : ∃ k, n = k + 1 := ⟨n - 1, by simp at hn; omega⟩
    obtain ⟨h1, h2⟩ := hf p (List.mem_cons_self ..)
    have hx := fGo_wr hd h1 i (d :: (layL d ((g :: r).map (·.2)) ++ rest)) (.inr ⟨d, _, rfl, by simp [stops]⟩) h2
    obtain ⟨e', i', ih⟩ := lnGo_wr hd he hE (g :: r) n { m with rc := m.rc ++ [toBA p.1] } (i + p.2.length + 1) (by simp) (fun x hx => hf x (List.mem_cons_of_mem _ hx)) hu (by simp at hs ⊢; omega) (by simp at hn ⊢; omega)
    refine ⟨e', i', ?_⟩
    have hls : ¬ (m.rc.length : Int) + 1 = m.ls := by simp at hs; omega
    have hb : mBound m = false := by simp [mBound, hu]
    have hl : layL d ((p :: g :: r).map (·.2)) ++ rest = p.2 ++ d :: (layL d ((g :: r).map (·.2)) ++ rest) := by
      simp [layL]
    rw [hl, lnGo, hx]
    simp only [ne_eq, not_true_eq_false, if_false, if_true, hls, hb, Bool.false_eq_true, false_and]
    rw [ih]
    simp
/-- A record written, behind it an end of line (or nothing), behind that the rest: it is read as it was, and then the rest. -/
theorem rdGo_wr (hd : Dia d q e) (he : e = 1 ∨ e = 2 ∨ e = 3) {rest tail : List Int} (hE : Ends e rest tail) (r : List (List Int × List Int)) (n : Nat) (m : Mk) (i : Nat) (h0 : r ≠ []) (h1 : layL d (r.map (·.2)) ≠ []) (hf : ∀ p ∈ r, Wr d q p.1 p.2 ∧ (p.1.length : Int) < m.lf + 1) (hu : m.u = false) (hrc : m.rc = []) (hs : (r.length : Int) < m.ls + 1) (hbg : ¬ m.bg = m.lr) :
    ∃ e' i', rdGo d q e (n + 1) m i (layL d (r.map (·.2)) ++ rest) = (rdGo d q e n (mOut { m with bg := m.bg + 1, rc := r.map (fun p => toBA p.1) }) i' tail).more (r.map (fun p => toBA p.1)) e' := by
  have hd10 := hd.d10; have hd13 := hd.d13; have hq10 := hd.q10; have hq13 := hd.q13
  obtain ⟨b, t, hbt, hb⟩ : ∃ b t, layL d (r.map (·.2)) = b :: t ∧ b ≠ 10 ∧ b ≠ 13 := by
    have head : ∀ p ∈ r, ∀ x y, p.2 = x :: y → x ≠ 10 ∧ x ≠ 13 := fun p hp x y hx => by
      rcases (hf p hp).1 with ⟨h2, h3⟩ | h2
      · have := (h2 x (by rw [← h3, hx]; exact List.mem_cons_self ..)).1
        simp [stops] at this
        exact this.2
      · rw [hx] at h2
        injection h2 with h2 _
        omega
    match r, h0, h1, head with
    | [p], _, h1, head =>
      simp only [List.map_cons, List.map_nil, layL] at h1 ⊢
      cases hp : p.2 with
      | nil => exact absurd hp h1
      | cons x y => exact ⟨x, y, rfl, head p (List.mem_cons_self ..) x y hp⟩
    | p :: g :: r, _, _, head =>
      cases hp : p.2 with
      | nil => exact ⟨d, layL d ((g :: r).map (·.2)), by simp [layL, hp], hd10, hd13⟩
      | cons x y => exact ⟨x, y ++ d :: layL d ((g :: r).map (·.2)), by simp [layL, hp], head p (List.mem_cons_self ..) x y hp⟩
  have hlen : r.length ≤ (t ++ rest).length + 2 := by
    have h2 : ∀ r : List (List Int), r.length ≤ (layL d r).length + 1 := by
      intro r
      induction r with
      | nil => simp
      | cons f r ih =>
        cases r with
        | nil => simp
        | cons g r => simp [layL] at ih ⊢; omega
    have h3 := congrArg List.length hbt
    have h4 := h2 (r.map (·.2))
    simp at h3 h4 ⊢; omega
  obtain ⟨e', i', hln⟩ := lnGo_wr hd he hE r ((t ++ rest).length + 2) { m with bg := m.bg + 1 } i h0 hf hu (by rw [hrc]; simpa using hs) hlen
  rw [hbt, List.cons_append] at hln ⊢
  refine ⟨e', i', ?_⟩
  rw [rdGo, if_neg hb.1, if_neg hb.2, if_neg hbg, hln]
  simp [hrc]
end
end Go.Proofs.YtngdmkhinebbdaaDoor

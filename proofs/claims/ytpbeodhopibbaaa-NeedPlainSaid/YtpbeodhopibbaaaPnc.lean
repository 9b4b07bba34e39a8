/- Layer 8, plain: what must be quoted, laid bare, is not read as it was (nd_must). No program. -/
import Derived.Test.YtpbeodhopibbaaaPnb
namespace Go.Proofs.Ytpbeodhopibbaaa
open Go.RowKit
set_option linter.unusedVariables false
set_option linter.unusedSimpArgs false

section
variable {d q e lf : Int}
/-- A quoted field takes a byte more than it holds, and its last one is the quote. -/
theorem qGo_facts : ∀ (n : Nat) (l f : List Int) (i : Nat), l.length ≤ n → (qGo q lf f i l).k = 0 → (qGo q lf f i l).f.length + (qGo q lf f i l).l.length + 1 ≤ f.length + l.length ∧ ((qGo q lf f i l).l = [] → l.getLast? = some q)
  | _, [], f, i, _, h => by rw [qGo] at h; cases h
  | n, [b], f, i, _, h => by
    rw [qGo] at h ⊢
    by_cases hb : b = q
    · rw [if_pos hb] at h ⊢; exact ⟨by simp, fun _ => by rw [hb]; rfl⟩
    · rw [if_neg hb] at h
      by_cases hl : (f.length : Int) = lf
      · rw [if_pos hl] at h; cases h
      · rw [if_neg hl] at h; cases h
  | 0, _ :: _ :: _, _, _, hn, _ => by simp at hn
  | n + 1, b :: c :: r, f, i, hn, h => by
    rw [qGo] at h ⊢
    by_cases hb : b = q
    · rw [if_pos hb] at h ⊢
      by_cases hc : c = q
      · rw [if_pos hc] at h ⊢
        by_cases hl : (f.length : Int) = lf
        · rw [if_pos hl] at h; cases h
        · rw [if_neg hl] at h ⊢
          obtain ⟨h1, h2⟩ := qGo_facts n r (f ++ [c]) (i + 2) (by simp at hn; omega) h
          refine ⟨by simp at h1 ⊢; omega, fun h3 => ?_⟩
          have h4 := h2 h3
          cases r with
          | nil => simp at h4
          | cons x y => simpa [List.getLast?_cons_cons] using h4
      · rw [if_neg hc] at h ⊢
        exact ⟨by simp; omega, fun h3 => by cases h3⟩
    · rw [if_neg hb] at h ⊢
      by_cases hl : (f.length : Int) = lf
      · rw [if_pos hl] at h; cases h
      · rw [if_neg hl] at h ⊢
        obtain ⟨h1, h2⟩ := qGo_facts n (c :: r) (f ++ [b]) (i + 1) (by simp at hn ⊢; omega) h
        refine ⟨by simp at h1 ⊢; omega, fun h3 => ?_⟩
        have h4 := h2 h3
        simpa [List.getLast?_cons_cons] using h4
/-- A bare field holds what it takes, none of it a Delim, a Quote or of an end of line. -/
theorem bGo_facts : ∀ (l f : List Int) (i : Nat), (bGo d q lf f i l).k = 0 → ∃ g, (bGo d q lf f i l).f = f ++ g ∧ l = g ++ (bGo d q lf f i l).l ∧ bareL d q g ∧ ∀ c t, (bGo d q lf f i l).l = c :: t → stops d c = true
  | [], f, i, h => ⟨[], by simp [bGo], by simp [bGo], fun _ h => (by cases h), fun c t h => (by simp [bGo] at h)⟩
  | b :: r, f, i, h => by
    rw [bGo] at h ⊢
    by_cases hs : stops d b = true
    · rw [if_pos hs] at h ⊢; exact ⟨[], by simp, by simp, fun _ h => (by cases h), fun c t h => by injection h with h1 h2; rw [← h1]; exact hs⟩
    · rw [if_neg hs] at h ⊢
      by_cases hb : b = q
      · rw [if_pos hb] at h; cases h
      · rw [if_neg hb] at h ⊢
        by_cases hl : (f.length : Int) = lf
        · rw [if_pos hl] at h; cases h
        · rw [if_neg hl] at h ⊢
          obtain ⟨g, h1, h2, h3, h4⟩ := bGo_facts r (f ++ [b]) (i + 1) h
          refine ⟨b :: g, by rw [h1]; simp, by rw [List.cons_append, ← h2], fun x hx => ?_, h4⟩
          rcases List.mem_cons.1 hx with rfl | hx
          · exact ⟨by simpa using hs, hb⟩
          · exact h3 x hx
/-- How a field that was read lies in the text. -/
def FldAt (d q : Int) (l f rest : List Int) : Prop := (bareL d q f ∧ l = f ++ rest ∧ ∀ c t, rest = c :: t → stops d c = true) ∨ (f.length + rest.length + 2 ≤ l.length ∧ (rest = [] → l.getLast? = some q))
theorem fGo_facts (l : List Int) (i : Nat) (h : (fGo d q lf i l).k = 0) : FldAt d q l (fGo d q lf i l).f (fGo d q lf i l).l := by
  cases l with
  | nil =>
    rw [fGo] at h ⊢
    obtain ⟨g, h1, h2, h3, h4⟩ := bGo_facts [] [] i h
    rw [List.nil_append] at h1
    exact .inl ⟨by rw [h1]; exact h3, by rw [h1]; exact h2, h4⟩
  | cons b r =>
    rw [fGo] at h ⊢
    by_cases hb : b = q
    · rw [if_pos hb] at h ⊢
      have hx : behind d (qGo q lf [] (i + 1) r) = qGo q lf [] (i + 1) r := by
        unfold behind at h ⊢
        by_cases hk : (qGo q lf [] (i + 1) r).k ≠ 0
        · rw [if_pos hk]
        · rw [if_neg hk] at h ⊢
          split at h
          · rfl
          · rename_i c t hl
            by_cases hs : stops d c = true
            · rw [if_pos hs]
            · rw [if_neg hs] at h; cases h
      rw [hx] at h ⊢
      obtain ⟨h1, h2⟩ := qGo_facts r.length r [] (i + 1) (Nat.le_refl _) h
      refine .inr ⟨by simp at h1 ⊢; omega, fun h3 => ?_⟩
      have h4 := h2 h3
      cases r with
      | nil => simp at h4
      | cons x y => simpa [List.getLast?_cons_cons] using h4
    · rw [if_neg hb] at h ⊢
      obtain ⟨g, h1, h2, h3, h4⟩ := bGo_facts (b :: r) [] i h
      rw [List.nil_append] at h1
      exact .inl ⟨by rw [h1]; exact h3, by rw [h1]; exact h2, h4⟩
theorem lnEnd_rc {m : Mk} {i : Nat} {l : List Int} (h : (lnEnd e m i l).k = 0) : (lnEnd e m i l).rc = m.rc := by
  cases l with
  | nil =>
    rw [lnEnd] at h ⊢
    split
    · rename_i hc; rw [if_pos hc] at h; cases h
    · rfl
  | cons b r =>
    rw [lnEnd] at h ⊢
    split
    · rename_i hb
      rw [if_pos hb] at h
      split
      · rename_i he; rw [if_pos he] at h; cases h
      · rename_i he
        rw [if_neg he] at h
        split
        · rename_i hc; rw [if_pos hc] at h; cases h
        · rfl
    · rename_i hb
      rw [if_neg hb] at h
      split
      · rename_i he; rw [if_pos he] at h; cases h
      · rename_i he
        rw [if_neg he] at h
        split
        · rename_i hc; rw [if_pos hc] at h; cases h
        · rename_i hc
          rw [if_neg hc] at h
          cases r with
          | nil => rw [lnCr] at h; cases h
          | cons c t =>
            rw [lnCr] at h ⊢
            split
            · rfl
            · rename_i h10; rw [if_neg h10] at h; cases h
theorem lnGo_grows : ∀ (n : Nat) (m : Mk) (i : Nat) (l : List Int), (lnGo d q e n m i l).k = 0 → 0 < n → m.rc.length + 1 ≤ (lnGo d q e n m i l).rc.length ∨ n ≤ 0 ∨ (lnGo d q e n m i l).rc = []
  | 0, _, _, _, _, h => by omega
  | n + 1, m, i, l, h, _ => by
    rw [lnGo] at h ⊢
    by_cases hk : (fGo d q m.lf i l).k ≠ 0
    · rw [if_pos hk] at h; exact absurd h hk
    · rw [if_neg hk] at h ⊢
      split
      · rename_i hx
        rw [hx] at h
        simp only at h
        left
        rw [lnEnd_rc h]; simp
      · rename_i b r hx
        rw [hx] at h
        simp only at h
        by_cases hb : b = d
        · rw [if_pos hb] at h ⊢
          split
          · rename_i hc; rw [if_pos hc] at h; cases h
          · rename_i hc
            rw [if_neg hc] at h
            split
            · rename_i hc2; rw [if_pos hc2] at h; cases h
            · rename_i hc2
              rw [if_neg hc2] at h
              by_cases hn : 0 < n
              · rcases lnGo_grows n _ _ _ h hn with h1 | h1 | h1
                · left; simp at h1; omega
                · omega
                · exact .inr (.inr h1)
              · obtain rfl : n = 0 := by omega
                exact .inr (.inr (by rw [lnGo]))
        · rw [if_neg hb] at h ⊢
          left
          rw [lnEnd_rc h]; simp
/-- A line of one field. -/
theorem lnGo_one {n : Nat} {m : Mk} {i : Nat} {l : List Int} {F : ByteArray} (hm : m.rc = []) (hk : (lnGo d q e n m i l).k = 0) (hr : (lnGo d q e n m i l).rc = [F]) : ∃ f rest, F = toBA f ∧ FldAt d q l f rest ∧ (∀ b r, rest = b :: r → b ≠ d) := by
  cases n with
  | zero => rw [lnGo] at hr; cases hr
  | succ n =>
    rw [lnGo] at hk hr
    by_cases hf : (fGo d q m.lf i l).k ≠ 0
    · rw [if_pos hf] at hk; exact absurd hk hf
    · rw [if_neg hf] at hk hr
      have hat := fGo_facts l i (by simpa using hf)
      split at hr
      · rename_i hx
        rw [hx] at hk hat
        simp only at hk
        rw [lnEnd_rc hk, hm] at hr
        simp at hr
        exact ⟨_, [], hr.symm, hat, fun _ _ h => by cases h⟩
      · rename_i b r hx
        rw [hx] at hk hat
        simp only at hk
        by_cases hb : b = d
        · exfalso
          rw [if_pos hb] at hk hr
          split at hr
          · rename_i hc; rw [if_pos hc] at hk; cases hk
          · rename_i hc
            rw [if_neg hc] at hk
            split at hr
            · rename_i hc2; rw [if_pos hc2] at hk; cases hk
            · rename_i hc2
              rw [if_neg hc2] at hk
              by_cases hn : 0 < n
              · rcases lnGo_grows n _ _ _ hk hn with h1 | h1 | h1
                · rw [hr, hm] at h1; simp at h1
                · omega
                · rw [hr] at h1; cases h1
              · obtain rfl : n = 0 := by omega
                rw [lnGo] at hr; cases hr
        · rw [if_neg hb] at hk hr
          rw [lnEnd_rc hk, hm] at hr
          simp at hr
          exact ⟨_, b :: r, hr.symm, hat, fun c t h => by injection h with h1 h2; rw [← h1]; exact hb⟩
/-- A text that is read as one record of one field: it is bare, and not empty; or it takes three bytes more than it holds. -/
theorem rdGo_one (hd : Dia d q e) : ∀ (n : Nat) (l : List Int) (m : Mk) (i : Nat) (F : ByteArray), m.rc = [] → (rdGo d q e n m i l).k = 0 → (rdGo d q e n m i l).rs.map (·.1) = [[F]] → (l = [] ∨ l.getLast? = some 10) →
    ∃ f, F = toBA f ∧ ((bareL d q f ∧ f ≠ [] ∧ f.length ≤ l.length ∧ ∀ x ∈ f, x ∈ l) ∨ f.length + 3 ≤ l.length)
  | 0, l, m, i, F, _, _, hr, _ => by simp [rdGo] at hr
  | n + 1, [], m, i, F, _, _, hr, _ => by simp [rdGo] at hr
  | n + 1, b :: r, m, i, F, hm, hk, hr, hl => by
    have hl' : (b :: r).getLast? = some 10 := by rcases hl with h | h; cases h; exact h
    have tail : ∀ (x : Int) (t : List Int), (x :: t).getLast? = some 10 → t = [] ∨ t.getLast? = some 10 := fun x t h => by
      cases t with
      | nil => exact .inl rfl
      | cons y z => exact .inr (by rwa [List.getLast?_cons_cons] at h)
    rw [rdGo] at hk hr
    by_cases h10 : b = 10
    · rw [if_pos h10] at hk hr
      by_cases he : e = 2
      · rw [if_pos he] at hk; cases hk
      · rw [if_neg he] at hk hr
        obtain ⟨f, h1, h2⟩ := rdGo_one hd n r m _ F hm hk hr (tail b r hl')
        refine ⟨f, h1, ?_⟩
        rcases h2 with ⟨a1, a2, a3, a4⟩ | h2
        · exact .inl ⟨a1, a2, by simp; omega, fun x hx => List.mem_cons_of_mem _ (a4 x hx)⟩
        · exact .inr (by simp; omega)
    · rw [if_neg h10] at hk hr
      by_cases h13 : b = 13
      · rw [if_pos h13] at hk hr
        by_cases he : e = 1
        · rw [if_pos he] at hk; cases hk
        · rw [if_neg he] at hk hr
          by_cases hh : r.head? = some 10
          · rw [if_pos hh] at hk hr
            have ht : r.tail = [] ∨ r.tail.getLast? = some 10 := by
              rcases tail b r hl' with h | h
              · rw [h]; exact .inl rfl
              · cases r with
                | nil => exact .inl rfl
                | cons x y => exact tail x y h
            obtain ⟨f, h1, h2⟩ := rdGo_one hd n r.tail m _ F hm hk hr ht
            refine ⟨f, h1, ?_⟩
            have hlen : r.tail.length ≤ r.length := by simp
            rcases h2 with ⟨a1, a2, a3, a4⟩ | h2
            · exact .inl ⟨a1, a2, by simp at a3 ⊢; omega, fun x hx => List.mem_cons_of_mem _ (List.mem_of_mem_tail (a4 x hx))⟩
            · exact .inr (by simp at h2 ⊢; omega)
          · rw [if_neg hh] at hk; cases hk
      · rw [if_neg h13] at hk hr
        by_cases hb : m.bg = m.lr
        · rw [if_pos hb] at hk; cases hk
        · rw [if_neg hb] at hk hr
          by_cases hL : (lnGo d q e (r.length + 2) { m with bg := m.bg + 1 } i (b :: r)).k ≠ 0
          · rw [if_pos hL] at hk; exact absurd hk hL
          · rw [if_neg hL] at hk hr
            have hrc : (lnGo d q e (r.length + 2) { m with bg := m.bg + 1 } i (b :: r)).rc = [F] := by
              simp [Got.more] at hr; exact hr.1
            obtain ⟨f, rest, h1, h2, h3⟩ := lnGo_one (m := { m with bg := m.bg + 1 }) hm (by simpa using hL) hrc
            refine ⟨f, h1, ?_⟩
            rcases h2 with ⟨a1, a2, a3⟩ | ⟨a1, a2⟩
            · have hne : f ≠ [] := by
                rintro rfl
                rw [List.nil_append] at a2
                have hs := a3 b r a2.symm
                have hbd := h3 b r a2.symm
                simp [stops] at hs
                omega
              exact .inl ⟨a1, hne, by rw [a2]; simp, fun x hx => by rw [a2]; exact List.mem_append_left _ hx⟩
            · by_cases hre : rest = []
              · have := a2 hre
                rw [hl'] at this
                injection this with this
                exact absurd this.symm hd.q10
              · have : 0 < rest.length := List.length_pos_iff.2 hre
                exact .inr (by omega)
theorem endL_last (f : List Int) (e : Int) : (f ++ endL e).getLast? = some 10 := by
  unfold endL; split <;> simp
theorem endL_len (e : Int) : (endL e).length ≤ 2 := by unfold endL; split <;> simp
/-- WHAT MUST BE QUOTED, LAID BARE, IS NOT READ AS IT WAS. -/
theorem nd_must (hd : Dia d q e) (F : ByteArray) (m : Mk) (hm : m.rc = []) (n : Nat) (T : List Int) (hT : T = bl F ++ endL e) (hF : ¬ bareL d q (bl F) ∨ F.size = 0 ∨ bomHad (bl F) = true)
    (hk : (whKA (rdGo d q e n m 0 (bomStrip T)) T).1 = 0) (hr : whRs (rdGo d q e n m 0 (bomStrip T)) T = [[F]]) : False := by
  have hend : bomStrip T = [] ∨ (bomStrip T).getLast? = some 10 := by
    have h1 : T.getLast? = some 10 := by rw [hT]; exact endL_last _ _
    unfold bomStrip
    split
    · by_cases h3 : T.drop 3 = []
      · exact .inl h3
      · refine .inr ?_
        rw [← h1]
        have h4 := List.take_append_drop 3 T
        have h5 : T.getLast? = (T.take 3 ++ T.drop 3).getLast? := by rw [h4]
        rw [h5, List.getLast?_append]
        cases hx : (T.drop 3).getLast? with
        | none => exact absurd (List.getLast?_eq_none_iff.1 hx) h3
        | some y => simp
    · exact .inr h1
  have hgk : (rdGo d q e n m 0 (bomStrip T)).k = 0 := by
    by_cases hg : (rdGo d q e n m 0 (bomStrip T)).k = 0
    · exact hg
    · exfalso
      unfold whKA at hk
      dsimp only at hk
      split at hk
      · split at hk
        · simp at hk
        · exact hg hk
      · split at hk
        · simp at hk
        · exact hg hk
  have hrs : (rdGo d q e n m 0 (bomStrip T)).rs.map (·.1) = [[F]] := by
    rw [← hr]
    unfold whRs
    rw [hk]
    congr 1
    symm
    rw [List.filter_eq_self]
    intro p _
    simp
  obtain ⟨f, h1, h2⟩ := rdGo_one hd n (bomStrip T) m 0 F hm hgk hrs hend
  have hlenF : (bl F).length = f.length := by
    rw [bl_length, h1]; exact toBA_size f
  have hTl : T.length = (bl F).length + (endL e).length := by rw [hT]; simp
  have he2 := endL_len e
  have hstrip := whOff_len T
  cases hh : bomHad T
  · have hoff : whOff T = 0 := by unfold whOff; rw [hh]; simp
    rcases h2 with ⟨a1, a2, a3, a4⟩ | h2
    · have hst : bomStrip T = T := by unfold bomStrip; rw [hh]; simp
      rw [hst] at a4
      have hbd : ∀ x ∈ f, 0 ≤ x ∧ x ≤ 255 := fun x hx => by
        have h5 := a4 x hx
        rw [hT] at h5
        rcases List.mem_append.1 h5 with h6 | h6
        · unfold bl at h6
          obtain ⟨c, _, rfl⟩ := List.mem_map.1 h6
          exact ⟨byte_lo c, byte_hi c⟩
        · unfold endL at h6
          split at h6 <;> simp at h6 <;> omega
      have hbf : bl F = f := by rw [h1]; exact bl_toBA f hbd
      rw [hbf] at hF
      rcases hF with h6 | h6 | h6
      · exact h6 a1
      · have := bl_length F
        rw [hbf, h6] at this
        exact a2 (List.eq_nil_of_length_eq_zero this)
      · have h7 : bomHad T = true := by
          rw [hT, hbf]
          unfold bomHad at h6 ⊢
          rw [List.isPrefixOf_iff_prefix] at h6 ⊢
          exact h6.trans (List.prefix_append _ _)
        rw [hh] at h7; cases h7
    · omega
  · have hoff : whOff T = 3 := by unfold whOff; rw [hh]; simp
    rcases h2 with ⟨a1, a2, a3, _⟩ | h2
    · omega
    · omega
end
end Go.Proofs.Ytpbeodhopibbaaa

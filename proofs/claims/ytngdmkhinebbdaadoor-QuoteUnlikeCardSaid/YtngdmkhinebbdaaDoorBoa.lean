/- Layer 3, plain words: the mark at the head of a list of bytes; what is kept back of it, what is handed on. No condition. -/
import Derived.Test.YtngdmkhinebbdaaDoorKit4
namespace Go.Proofs.YtngdmkhinebbdaaDoor
set_option linter.unusedVariables false
set_option linter.unusedSimpArgs false

def bomMk : List Int := [239, 187, 191]
def bomPre (t : List Int) : Bool := decide (t.length ≤ 2) && t.isPrefixOf bomMk
def bomHad (t : List Int) : Bool := bomMk.isPrefixOf t
def bomHeld (t : List Int) : Nat := if bomPre t = true then t.length else 0
def bomStrip (t : List Int) : List Int := if bomHad t = true then t.drop 3 else t
def bomTold (t : List Int) : List Int := if bomPre t = true then [] else bomStrip t
def bomStage (t : List Int) : Int := if bomPre t = true then 0 else 1
def cpl : List Int → List Int → Nat
  | x :: r, y :: q => if x = y then cpl r q + 1 else 0
  | _, _ => 0

theorem bomPre_cases {t : List Int} (h : bomPre t = true) : t = [] ∨ t = [239] ∨ t = [239, 187] := by
  match t, h with
  | [], _ => exact .inl rfl
  | [x], h => simp [bomPre, bomMk, List.isPrefixOf] at h; subst h; exact .inr (.inl rfl)
  | [x, y], h => simp [bomPre, bomMk, List.isPrefixOf] at h; obtain ⟨rfl, rfl⟩ := h; exact .inr (.inr rfl)
  | x :: y :: z :: r, h => simp [bomPre] at h
theorem bomPre_take {t : List Int} (h : bomPre t = true) : t = bomMk.take t.length ∧ t.length ≤ 2 := by
  rcases bomPre_cases h with rfl | rfl | rfl <;> exact ⟨rfl, by decide⟩

theorem cpl_le (a b : List Int) : cpl a b ≤ a.length ∧ cpl a b ≤ b.length := by
  induction a generalizing b with
  | nil => cases b <;> simp [cpl]
  | cons x r ih =>
    cases b with
    | nil => simp [cpl]
    | cons y q =>
      have := ih q
      simp only [cpl, List.length_cons]
      split <;> omega
/-- What n is, that a loop finds. -/
theorem cpl_is : ∀ (a b : List Int) (n : Nat), n ≤ a.length → n ≤ b.length → a.take n = b.take n → (n < a.length → n < b.length → a[n]? ≠ b[n]?) → cpl a b = n
  | [], b, n, h1, _, _, _ => by have : n = 0 := by simpa using h1
                                subst this; cases b <;> rfl
  | x :: r, [], n, _, h2, _, _ => by have : n = 0 := by simpa using h2
                                     subst this; rfl
  | x :: r, y :: q, 0, _, _, _, h => by
    have := h (by simp) (by simp)
    simp at this
    simp [cpl, this]
  | x :: r, y :: q, n + 1, h1, h2, h3, h4 => by
    simp only [List.take_succ_cons, List.cons.injEq] at h3
    simp only [cpl, h3.1, if_true]
    rw [cpl_is r q n (by simpa using h1) (by simpa using h2) h3.2 (fun a b => by simpa using h4 (by simpa using a) (by simpa using b))]

theorem bom_cons_pre (x y z : Int) (r : List Int) : bomPre (x :: y :: z :: r) = false := by simp [bomPre]
theorem bom_feed1 {t b : List Int} (h : bomPre t = true) (hn : t.length + cpl (bomMk.drop t.length) b = 3) :
    bomHad (t ++ b) = true ∧ bomPre (t ++ b) = false ∧ bomTold (t ++ b) = b.drop (cpl (bomMk.drop t.length) b) := by
  have key : bomHad (t ++ b) = true ∧ bomPre (t ++ b) = false ∧ (t ++ b).drop 3 = b.drop (cpl (bomMk.drop t.length) b) := by
    rcases bomPre_cases h with rfl | rfl | rfl
    · match b, hn with
      | [], hn => simp [cpl, bomMk] at hn
      | [x], hn => have := (cpl_le (bomMk.drop 0) [x]).2; simp at hn this; omega
      | [x, y], hn => have := (cpl_le (bomMk.drop 0) [x, y]).2; simp at hn this; omega
      | x :: y :: z :: r, hn =>
        simp only [List.length_nil, List.drop_zero, bomMk, cpl] at hn
        by_cases e1 : 239 = x <;> by_cases e2 : 187 = y <;> by_cases e3 : 191 = z <;> simp [e1, e2, e3] at hn
        · subst e1 e2 e3; exact ⟨by simp [bomHad, bomMk, List.isPrefixOf], bom_cons_pre _ _ _ _, by simp [bomMk, cpl]⟩
    · match b, hn with
      | [], hn => simp [cpl, bomMk] at hn
      | [x], hn => have := (cpl_le (bomMk.drop 1) [x]).2; simp at hn this; omega
      | x :: y :: r, hn =>
        simp only [List.length_singleton, bomMk, List.drop_succ_cons, List.drop_zero, cpl] at hn
        by_cases e1 : 187 = x <;> by_cases e2 : 191 = y <;> simp [e1, e2] at hn
        · subst e1 e2; exact ⟨by simp [bomHad, bomMk, List.isPrefixOf], bom_cons_pre _ _ _ _, by simp [bomMk, cpl]⟩
    · match b, hn with
      | [], hn => simp [cpl, bomMk] at hn
      | x :: r, hn =>
        simp only [List.length_cons, List.length_nil, bomMk, List.drop_succ_cons, List.drop_zero, cpl] at hn
        by_cases e1 : 191 = x <;> simp [e1] at hn
        · subst e1; exact ⟨by simp [bomHad, bomMk, List.isPrefixOf], bom_cons_pre _ _ _ _, by simp [bomMk, cpl]⟩
  refine ⟨key.1, key.2.1, ?_⟩
  unfold bomTold bomStrip
  rw [key.2.1, key.1, if_neg (by simp), if_pos rfl, key.2.2]
theorem bom_had_pre {t : List Int} (h : bomPre t = true) : bomHad t = false := by
  rcases bomPre_cases h with rfl | rfl | rfl <;> rfl
theorem bom_feed2 {t b : List Int} (h : bomPre t = true) (hn : t.length + cpl (bomMk.drop t.length) b ≠ 3) (hb : cpl (bomMk.drop t.length) b = b.length) :
    bomPre (t ++ b) = true := by
  rcases bomPre_cases h with rfl | rfl | rfl
  · match b, hn, hb with
    | [], hn, hb => rfl
    | [x], hn, hb => by_cases e1 : 239 = x <;> simp [bomMk, cpl, e1] at hb; subst e1; rfl
    | [x, y], hn, hb =>
      by_cases e1 : 239 = x <;> by_cases e2 : 187 = y <;> simp [bomMk, cpl, e1, e2] at hb; subst e1 e2; rfl
    | x :: y :: z :: r, hn, hb =>
      have := (cpl_le (bomMk.drop 0) (x :: y :: z :: r)).1
      simp [bomMk] at this hn hb; omega
  · match b, hn, hb with
    | [], hn, hb => rfl
    | [x], hn, hb => by_cases e1 : 187 = x <;> simp [bomMk, cpl, e1] at hb; subst e1; rfl
    | x :: y :: r, hn, hb =>
      have := (cpl_le (bomMk.drop 1) (x :: y :: r)).1
      simp [bomMk] at this hn hb; omega
  · match b, hn, hb with
    | [], hn, hb => rfl
    | x :: r, hn, hb =>
      have := (cpl_le (bomMk.drop 2) (x :: r)).1
      simp [bomMk] at this hn hb; omega
theorem bom_feed3 {t b : List Int} (h : bomPre t = true) (hn : t.length + cpl (bomMk.drop t.length) b ≠ 3) (hb : cpl (bomMk.drop t.length) b ≠ b.length) :
    bomPre (t ++ b) = false ∧ bomHad (t ++ b) = false ∧ bomTold (t ++ b) = t ++ b := by
  have key : bomPre (t ++ b) = false ∧ bomHad (t ++ b) = false := by
    rcases bomPre_cases h with rfl | rfl | rfl
    · match b, hn, hb with
      | [], hn, hb => simp [cpl, bomMk] at hb
      | [x], hn, hb => by_cases e1 : 239 = x <;> simp [bomMk, cpl, e1] at hb; exact ⟨by simp [bomPre, bomMk, List.isPrefixOf, Ne.symm e1], by simp [bomHad, bomMk, List.isPrefixOf]⟩
      | [x, y], hn, hb =>
        refine ⟨?_, by simp [bomHad, bomMk, List.isPrefixOf]⟩
        by_cases e1 : x = 239 <;> by_cases e2 : y = 187 <;> simp [bomPre, bomMk, List.isPrefixOf, e1, e2]
        subst e1 e2; simp [bomMk, cpl] at hb
      | x :: y :: z :: r, hn, hb =>
        refine ⟨bom_cons_pre _ _ _ _, ?_⟩
        by_cases e1 : 239 = x <;> by_cases e2 : 187 = y <;> by_cases e3 : 191 = z <;> simp [bomMk, cpl, e1, e2, e3] at hn <;> simp [bomHad, bomMk, List.isPrefixOf, e1, e2, e3]
    · match b, hn, hb with
      | [], hn, hb => simp [cpl, bomMk] at hb
      | [x], hn, hb => by_cases e1 : 187 = x <;> simp [bomMk, cpl, e1] at hb; exact ⟨by simp [bomPre, bomMk, List.isPrefixOf, Ne.symm e1], by simp [bomHad, bomMk, List.isPrefixOf]⟩
      | x :: y :: r, hn, hb =>
        refine ⟨bom_cons_pre _ _ _ _, ?_⟩
        by_cases e1 : 187 = x <;> by_cases e2 : 191 = y <;> simp [bomMk, cpl, e1, e2] at hn <;> simp [bomHad, bomMk, List.isPrefixOf, e1, e2]
    · match b, hn, hb with
      | [], hn, hb => simp [cpl, bomMk] at hb
      | x :: r, hn, hb =>
        refine ⟨bom_cons_pre _ _ _ _, ?_⟩
        by_cases e1 : 191 = x <;> simp [bomMk, cpl, e1] at hn; simp [bomHad, bomMk, List.isPrefixOf, e1]
  refine ⟨key.1, key.2, ?_⟩
  unfold bomTold bomStrip
  rw [key.1, key.2, if_neg (by simp), if_neg (by simp)]
theorem bom_settled {t : List Int} (b : List Int) (h : bomPre t = false) : bomPre (t ++ b) = false ∧ bomHad (t ++ b) = bomHad t ∧ bomTold (t ++ b) = bomTold t ++ b := by
  have key : bomPre (t ++ b) = false ∧ bomHad (t ++ b) = bomHad t := by
    match t, h with
    | [], h => simp [bomPre, bomMk, List.isPrefixOf] at h
    | [x], h =>
      have e : x ≠ 239 := by simpa [bomPre, bomMk, List.isPrefixOf] using h
      have e' : (239 == x) = false := by simpa using Ne.symm e
      match b with
      | [] => exact ⟨h, rfl⟩
      | [y] => exact ⟨by simp [bomPre, bomMk, List.isPrefixOf, e], by simp [bomHad, bomMk, List.isPrefixOf]⟩
      | y :: z :: r => exact ⟨bom_cons_pre _ _ _ _, by simp [bomHad, bomMk, List.isPrefixOf, e']⟩
    | [x, y], h =>
      have e : x = 239 → y ≠ 187 := by simpa [bomPre, bomMk, List.isPrefixOf] using h
      match b with
      | [] => exact ⟨h, rfl⟩
      | z :: r =>
        refine ⟨bom_cons_pre _ _ _ _, ?_⟩
        by_cases e1 : 239 = x
        · have := Ne.symm (e e1.symm)
          simp [bomHad, bomMk, List.isPrefixOf, this]
        · simp [bomHad, bomMk, List.isPrefixOf, e1]
    | x :: y :: z :: r, h => exact ⟨bom_cons_pre _ _ _ _, by simp [bomHad, bomMk, List.isPrefixOf]⟩
  refine ⟨key.1, key.2, ?_⟩
  unfold bomTold bomStrip
  rw [key.1, key.2, h]
  simp only [Bool.false_eq_true, if_false]
  split
  · rename_i hh
    rw [List.drop_append_of_le_length]
    match t, hh with
    | [], hh => simp [bomHad, bomMk, List.isPrefixOf] at hh
    | [x], hh => simp [bomHad, bomMk, List.isPrefixOf] at hh
    | [x, y], hh => simp [bomHad, bomMk, List.isPrefixOf] at hh
    | x :: y :: z :: r, hh => simp
  · rfl
end Go.Proofs.YtngdmkhinebbdaaDoor

/- Layer 1: '==' between two dialects; what the text of a dialect says byte by byte; unlike dialects have unlike texts. -/
import Derived.Test.YtkpcebpbhacgpaaDiq
import Derived.Laws.StructEq
import Derived.Lib.IndexBytes
namespace Go.Proofs.Ytkpcebpbhacgpaa
open Go.ChangeShapes Go.WideShapes Go.ChangeAt Go.RowKit
set_option linter.unusedVariables false

def eqB (d q e d' q' e' : Int) : Bool := d == d' && (q == q' && e == e')
theorem eqB_self (d q e : Int) : eqB d q e d q e = true := by simp [eqB]
theorem dialect_eql (d q e d' q' e' : Int) (w : World) : (binOp .eql 23 (.agg #[.int .u8 d, .int .u8 q, .int .i64 e]) (.agg #[.int .u8 d', .int .u8 q', .int .i64 e'])).run Try.prog w = .ok (.bool (eqB d q e d' q' e')) w := by
  unfold eqB
  have hp : Try.prog.stoodInHeld 23 = false := by kernel_rfl
  have s0 : Try.prog.cellsOf 5 = 1 := by kernel_rfl
  have s1 : Try.prog.cellsOf 3 = 1 := by kernel_rfl
  simp [run_eql_struct, run_equalIn_agg, Program.fieldsOf, Try.underlying23, hp, Op.eqFields, go_sem]
  by_cases a : d = d' <;> by_cases b : q = q' <;> by_cases c : e = e' <;> simp [a, b, c]
theorem refDialect_eql (d q e d' q' e' : Int) (w : World) : (binOp .eql 29 (.agg #[.int .i64 d, .int .i64 q, .int .i64 e]) (.agg #[.int .i64 d', .int .i64 q', .int .i64 e'])).run Try.prog w = .ok (.bool (eqB d q e d' q' e')) w := by
  unfold eqB
  have hp : Try.prog.stoodInHeld 29 = false := by kernel_rfl
  simp [run_eql_struct, run_equalIn_agg, Program.fieldsOf, Try.underlying29, hp, Op.eqFields, go_sem]
  by_cases a : d = d' <;> by_cases b : q = q' <;> by_cases c : e = e' <;> simp [a, b, c]

theorem hexd_val (n : Int) (n0 : 0 ≤ n) (n1 : n < 16) : digB ((hexd n).toNat : Int) = true ∧ digV ((hexd n).toNat : Int) = n := by
  have h : ∀ m : Fin 16, digB ((hexd (m.1 : Int)).toNat : Int) = true ∧ digV ((hexd (m.1 : Int)).toNat : Int) = (m.1 : Int) := by decide
  have := h ⟨n.toNat, by omega⟩
  rwa [show ((n.toNat : Nat) : Int) = n from by omega] at this
set_option maxRecDepth 100000 in
theorem hexd_of (c : UInt8) (h : digB (c.toNat : Int) = true) : hexd (digV (c.toNat : Int)) = c := by
  have h' : ∀ m : Fin 256, digB (m.1 : Int) = true → hexd (digV (m.1 : Int)) = UInt8.ofNat m.1 := by decide
  have := h' ⟨c.toNat, c.toNat_lt⟩ h
  simpa using this
theorem text_list (d q e : Int) : (textS d q e).data.toList = [hexd (d / 16), hexd (d % 16), 32, hexd (q / 16), hexd (q % 16), 32] ++ (wordS e).data.toList := by
  simp [textS, hexS, ByteArray.data_append]
theorem end_word (e : Int) (h : e = 1 ∨ e = 2 ∨ e = 3) : endOf (wordS e).data.toList = e := by
  rcases h with rfl | rfl | rfl <;> decide
theorem word_end (l : List UInt8) (h : endOf l ≠ 0) : (endOf l = 1 ∨ endOf l = 2 ∨ endOf l = 3) ∧ (wordS (endOf l)).data.toList = l := by
  unfold endOf at h ⊢
  split
  · rename_i h1; simp at h1; subst h1; decide
  · split
    · rename_i h1; simp at h1; subst h1; decide
    · split
      · rename_i h1; simp at h1; subst h1; decide
      · rename_i a b c; simp only [a, b, c] at h; exact absurd rfl h
theorem size_list (s : ByteArray) : s.size = s.data.toList.length := by rw [Array.length_toList]; rfl
theorem get_list (s : ByteArray) (i : Nat) (h : i < s.size) : s[i] = s.data.toList[i]'(by rw [← size_list]; exact h) := by
  rw [Array.getElem_toList]; rfl
/-- What stands in a dialect's text. -/
theorem text_at (d q e : Int) (he : e = 1 ∨ e = 2 ∨ e = 3) : 8 ≤ (textS d q e).size ∧ (textS d q e).size ≤ 12 := by
  rw [size_list, text_list]
  rcases he with rfl | rfl | rfl <;> simp [wordS]
/-- Parse of Text is the dialect. -/
theorem parse_text (d q e : Int) (d0 : 0 ≤ d) (d1 : d ≤ 255) (q0 : 0 ≤ q) (q1 : q ≤ 255) (h : rightB d q e = true) (w : World) :
    Calls Try.prog 19 #[.string (textS d q e)] w fun x w' => x = .returned (.tuple #[.agg #[.int .u8 d, .int .u8 q, .int .i64 e], .int .i64 0]) ∧ Below w.heap.size w w' := by
  have he := right_ends h
  obtain ⟨z0, z1⟩ := text_at d q e he
  have ha := hexd_val (d / 16) (by omega) (by omega)
  have hb := hexd_val (d % 16) (by omega) (by omega)
  have hc := hexd_val (q / 16) (by omega) (by omega)
  have hd := hexd_val (q % 16) (by omega) (by omega)
  have g : ∀ (i : Nat) (hi : i < (textS d q e).size), (textS d q e)[i] = ([hexd (d / 16), hexd (d % 16), 32, hexd (q / 16), hexd (q % 16), 32] ++ (wordS e).data.toList)[i]'(by rw [← text_list, ← size_list]; exact hi) := by
    intro i hi; rw [get_list]; simp only [text_list]
  have hE : endOf ((textS d q e).extract 6 (textS d q e).size).toList = e := by
    rw [ByteArray.toList_eq, Lib.extract_to_end, text_list]
    exact end_word e he
  have hn : ∀ a : Int, 16 * (a / 16) + a % 16 = a := fun a => by omega
  have := parse_ok (textS d q e) (by omega) (by omega) ((hexd (d / 16)).toNat) ((hexd (d % 16)).toNat) 32 ((hexd (q / 16)).toNat) ((hexd (q % 16)).toNat) 32
    (by rw [g]; rfl) (by rw [g]; rfl) (by rw [g]; rfl) (by rw [g]; rfl) (by rw [g]; rfl) (by rw [g]; rfl) e hE
    (by simp only [formB, ha.1, hb.1, hc.1, hd.1]; rcases he with rfl | rfl | rfl <;> decide)
    (by rw [ha.2, hb.2, hc.2, hd.2, hn, hn]; exact h) w
  rw [ha.2, hb.2, hc.2, hd.2, hn, hn] at this
  exact this
theorem text_inj {d q e d' q' e' : Int} (d0 : 0 ≤ d) (d1 : d ≤ 255) (q0 : 0 ≤ q) (q1 : q ≤ 255) (he : e = 1 ∨ e = 2 ∨ e = 3) (d0' : 0 ≤ d') (d1' : d' ≤ 255) (q0' : 0 ≤ q') (q1' : q' ≤ 255) (he' : e' = 1 ∨ e' = 2 ∨ e' = 3)
    (h : textS d q e = textS d' q' e') : d = d' ∧ q = q' ∧ e = e' := by
  have h1 := congrArg (fun s : ByteArray => s.data.toList) h
  simp only [text_list, List.cons_append, List.nil_append, List.cons.injEq] at h1
  obtain ⟨a, b, _, c, f, _, g⟩ := h1
  have k : ∀ x y : Int, 0 ≤ x → x < 16 → 0 ≤ y → y < 16 → hexd x = hexd y → x = y := by
    intro x y x0 x1 y0 y1 hxy
    rw [← (hexd_val x x0 x1).2, ← (hexd_val y y0 y1).2, hxy]
  have ka := k _ _ (by omega) (by omega) (by omega) (by omega) a
  have kb := k _ _ (by omega) (by omega) (by omega) (by omega) b
  have kc := k _ _ (by omega) (by omega) (by omega) (by omega) c
  have kf := k _ _ (by omega) (by omega) (by omega) (by omega) f
  have ke : e = e' := by rw [← end_word e he, ← end_word e' he', g]
  exact ⟨by omega, by omega, ke⟩
end Go.Proofs.Ytkpcebpbhacgpaa

/- Layer 1: a text has a dialect's form just if it is that dialect's text. -/
import Derived.Test.YtkpcebpbhacgpaaDir
namespace Go.Proofs.Ytkpcebpbhacgpaa
open Go.ChangeShapes Go.WideShapes Go.ChangeAt Go.RowKit
set_option linter.unusedVariables false

theorem list6 {α : Type} (l : List α) (h : 6 ≤ l.length) : ∃ a b c d e f r, l = a :: b :: c :: d :: e :: f :: r := by
  match l, h with
  | a :: b :: c :: d :: e :: f :: r, _ => exact ⟨a, b, c, d, e, f, r, rfl⟩
theorem hexd_pair (a b : UInt8) (ha : digB (a.toNat : Int) = true) (hb : digB (b.toNat : Int) = true) : hexd ((16 * digV (a.toNat : Int) + digV (b.toNat : Int)) / 16) = a ∧ hexd ((16 * digV (a.toNat : Int) + digV (b.toNat : Int)) % 16) = b := by
  have h1 := digV_lt (a.toNat : Int)
  have h2 := digV_lt (b.toNat : Int)
  rw [show (16 * digV (a.toNat : Int) + digV (b.toNat : Int)) / 16 = digV (a.toNat : Int) from by omega, show (16 * digV (a.toNat : Int) + digV (b.toNat : Int)) % 16 = digV (b.toNat : Int) from by omega]
  exact ⟨hexd_of a ha, hexd_of b hb⟩
theorem extract_toList (s : ByteArray) (a : Nat) : (s.extract a s.size).toList = s.data.toList.drop a := by
  rw [ByteArray.toList_eq, Lib.extract_to_end]
theorem byte_int {a : UInt8} {n : Int} (h : (a.toNat : Int) = n) (n0 : 0 ≤ n) (n1 : n ≤ 255) : a = UInt8.ofNat n.toNat := by
  subst h; simp
theorem form_text (s : ByteArray) (n : 6 ≤ s.size) (x0 x1 x2 x3 x4 x5 : Int) (e0 : ((s[0]'(by omega)).toNat : Int) = x0) (e1 : ((s[1]'(by omega)).toNat : Int) = x1) (e2 : ((s[2]'(by omega)).toNat : Int) = x2)
    (e3 : ((s[3]'(by omega)).toNat : Int) = x3) (e4 : ((s[4]'(by omega)).toNat : Int) = x4) (e5 : ((s[5]'(by omega)).toNat : Int) = x5) (e : Int) (he : endOf (s.extract 6 s.size).toList = e) (h : formB x0 x1 x2 x3 x4 x5 e = true) :
    textS (16 * digV x0 + digV x1) (16 * digV x3 + digV x4) e = s ∧ (e = 1 ∨ e = 2 ∨ e = 3) := by
  obtain ⟨h2, h5, hA, hB, hE⟩ := form_parts h
  simp only [Bool.and_eq_true] at hA hB
  rw [extract_toList] at he
  have hw := word_end (s.data.toList.drop 6) (by rw [he]; simpa using hE)
  rw [he] at hw
  refine ⟨?_, hw.1⟩
  apply ByteArray.ext
  apply Array.toList_inj.1
  rw [text_list, hw.2]
  rw [get_list] at e0 e1 e2 e3 e4 e5
  have hl : 6 ≤ s.data.toList.length := by rw [← size_list]; exact n
  obtain ⟨a, b, c, d, f, g, r, hr⟩ := list6 _ hl
  simp only [hr, List.getElem_cons_zero, List.getElem_cons_succ] at e0 e1 e2 e3 e4 e5
  rw [hr]
  subst e0 e1 e3 e4
  obtain ⟨k1, k2⟩ := hexd_pair a b hA.1 hA.2
  obtain ⟨k3, k4⟩ := hexd_pair d f hB.1 hB.2
  rw [k1, k2, k3, k4]
  have hc : c = 32 := byte_int (n := 32) (by rw [e2]; simpa using h2) (by decide) (by decide)
  have hg : g = 32 := byte_int (n := 32) (by rw [e5]; simpa using h5) (by decide) (by decide)
  rw [hc, hg]
  rfl
theorem text_form (s : ByteArray) (n : 6 ≤ s.size) (x0 x1 x2 x3 x4 x5 : Int) (e0 : ((s[0]'(by omega)).toNat : Int) = x0) (e1 : ((s[1]'(by omega)).toNat : Int) = x1) (e2 : ((s[2]'(by omega)).toNat : Int) = x2)
    (e3 : ((s[3]'(by omega)).toNat : Int) = x3) (e4 : ((s[4]'(by omega)).toNat : Int) = x4) (e5 : ((s[5]'(by omega)).toNat : Int) = x5) (D Q E : Int) (hE : E = 1 ∨ E = 2 ∨ E = 3) (ht : textS D Q E = s) (hA : (digB x0 && digB x1) = true) (hB : (digB x3 && digB x4) = true) :
    formB x0 x1 x2 x3 x4 x5 (endOf (s.extract 6 s.size).toList) = true := by
  rw [extract_toList]
  rw [get_list] at e2 e5
  subst ht
  simp only [text_list] at e2 e5 ⊢
  have e2' : x2 = 32 := by rw [← e2]; rfl
  have e5' : x5 = 32 := by rw [← e5]; rfl
  rw [show ([hexd (D / 16), hexd (D % 16), 32, hexd (Q / 16), hexd (Q % 16), 32] ++ (wordS E).data.toList).drop 6 = (wordS E).data.toList from rfl, end_word E hE]
  simp only [formB, hA, hB, e2', e5']
  rcases hE with rfl | rfl | rfl <;> decide
end Go.Proofs.Ytkpcebpbhacgpaa

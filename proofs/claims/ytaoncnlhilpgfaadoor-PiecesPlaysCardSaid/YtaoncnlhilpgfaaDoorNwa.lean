/- strings.ContainsAny(s, "\r\n") at whatever text, UTF-8 or not: whether one of the two bytes stands in it. Plain facts of the decoding, IndexRune at what is no ASCII, then IndexAny. -/
import Derived.Test.YtaoncnlhilpgfaaDoorRows
import Derived.Test.YtaoncnlhilpgfaaDoorZk
import Derived.Test.YtaoncnlhilpgfaaDoorZp
import Derived.Test.YtaoncnlhilpgfaaDoorShelf
import Derived.Laws.RangeAny
import Derived.Lib.DecodeN
import Derived.Deep.LoopGhost
import Derived.LoopTactic
namespace Go.Proofs.YtaoncnlhilpgfaaDoor
open Go.ChangeShapes Go.WideShapes Go.ChangeAt Go.RowKit
set_option linter.unusedVariables false
set_option linter.unusedSimpArgs false

/-- Each byte of a rune that is no ASCII is 80 or above. -/
theorem decode_span (s : ByteArray) (pos : Nat) (h : pos < s.size) (ha : 128 ≤ (s[pos]'h).toNat) (j : Nat) (hj : j < (Utf8.decode s pos).2) : pos + j < s.size ∧ 128 ≤ (s.get! (pos + j)).toNat := by
  have e0 : s.get! pos = s[pos]'h := get_at s pos h
  rw [Lib.decode_at, e0] at hj
  unfold Lib.decodeN at hj
  have d3 : j = 0 ∨ j = 1 ∨ j = 2 ∨ j = 3 ∨ 4 ≤ j := by omega
  split at hj
  · exact absurd ha (by omega)
  · repeat' split at hj
    all_goals
      simp only at hj
      rcases d3 with rfl | rfl | rfl | rfl | hj4
      all_goals first
        | (exfalso; omega)
        | (refine ⟨by omega, ?_⟩; rw [Nat.add_zero, e0]; exact ha)
        | exact ⟨by omega, by omega⟩

def crlfL : List UInt8 := [13, 10]
theorem not_crlf {x : UInt8} (h : 128 ≤ x.toNat) : crlfL.contains x = false := by
  unfold crlfL
  simp only [List.contains_cons, List.contains_nil, Bool.or_false, Bool.or_eq_false_iff, beq_eq_false_iff_ne]
  exact ⟨fun e => by rw [e] at h; exact absurd h (by decide), fun e => by rw [e] at h; exact absurd h (by decide)⟩
theorem get_data (s : ByteArray) (k : Nat) (x : UInt8) (h : s.data.toList[k]? = some x) : s.get! k = x := by
  have hk : k < s.size := by
    rcases List.getElem?_eq_some_iff.1 h with ⟨h1, _⟩
    exact h1
  have e := get_at s k hk
  have e2 := Lib.data_getElem? s k hk
  rw [h] at e2
  have e3 : s.get! k = s.get! (k + 0) := rfl
  rw [e3, e]
  exact (Option.some.inj e2).symm
/-- Over a rune that is no ASCII none of the two stands. -/
theorem noAny_span {s : ByteArray} {i : Nat} (hn : Lib.NoAny s.data.toList crlfL i) (h : i < s.size) (ha : 128 ≤ (s[i]'h).toNat) : Lib.NoAny s.data.toList crlfL (i + (Utf8.decode s i).2) := by
  intro j b hj hb
  by_cases hji : j < i
  · exact hn j b hji hb
  · have := decode_span s i h ha (j - i) (by omega)
    rw [show i + (j - i) = j by omega, get_data s j b hb] at this
    exact not_crlf this.2
theorem decode_fits (s : ByteArray) (i : Nat) (h : i < s.size) (ha : 128 ≤ (s[i]'h).toNat) : i + (Utf8.decode s i).2 ≤ s.size := by
  have h1 := (decode_high s i h ha).2
  have := (decode_span s i h ha ((Utf8.decode s i).2 - 1) (by omega)).1
  omega

/-- The bytes of a rune that is no ASCII: two to four, the last one 80 or above. -/
theorem encode_high (r : Int) (h : 128 ≤ r) (hr : r ≤ 2147483647) : ∃ (E : ByteArray) (n : Nat) (hn : n - 1 < E.size), Utf8.encode r = E ∧ E.size = n ∧ 2 ≤ n ∧ n ≤ 4 ∧ 128 ≤ (E[n - 1]'hn).toNat := by
  have hlast : ∀ c : Nat, 128 ≤ (UInt8.ofNat (128 + c % 64)).toNat := by
    intro c
    rw [UInt8.toNat_ofNat']
    omega
  unfold Utf8.encode
  generalize hc : (if Utf8.valid r = true then r.toNat else Utf8.runeError) = c
  have c128 : ¬ c < 128 := by
    rw [← hc]; split
    · omega
    · decide
  simp only [c128, if_false]
  by_cases h2 : c < 2048
  · simp only [h2, if_true]
    exact ⟨_, 2, (by show (1 : Nat) < 2; decide), rfl, rfl, by omega, by omega, hlast c⟩
  · simp only [h2, if_false]
    by_cases h3 : c < 65536
    · simp only [h3, if_true]
      exact ⟨_, 3, (by show (2 : Nat) < 3; decide), rfl, rfl, by omega, by omega, hlast c⟩
    · simp only [h3, if_false]
      exact ⟨_, 4, (by show (3 : Nat) < 4; decide), rfl, rfl, by omega, by omega, hlast c⟩

set_option maxHeartbeats 1000000 in
theorem validRune_any (r : Int) (w : World) : Calls Tryd.prog 89 #[.int .i32 r] w fun e w' => e = .returned (.bool ((decide (0 ≤ r) && decide (r < 55296)) || (decide (57343 < r) && decide (r ≤ 1114111)))) ∧ w' = w := by
  by_cases h0 : 0 ≤ r
  · by_cases h1 : r < 55296
    · go_enter Tryd.func89, Tryd.ntmps89
      go_wp2_with fail
      go_ret
      (first | (simp_all; done) | (simp_all; omega))
    · by_cases h2 : 57343 < r
      · go_enter Tryd.func89, Tryd.ntmps89
        go_wp2_with fail
        all_goals go_ret
        all_goals (first | (simp_all; done) | (simp_all; omega))
      · go_enter Tryd.func89, Tryd.ntmps89
        go_wp2_with fail
        all_goals go_ret
        all_goals (first | (simp_all; done) | (simp_all; omega))
  · by_cases h2 : 57343 < r
    · exfalso; omega
    · go_enter Tryd.func89, Tryd.ntmps89
      go_wp2_with fail
      all_goals go_ret
      all_goals (first | (simp_all; done) | (simp_all; omega))
end Go.Proofs.YtaoncnlhilpgfaaDoor

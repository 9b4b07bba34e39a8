/- Layer 7: contracts of the document's Held, Count, and of joined. -/
import Derived.Test.YtjpemelnnemmiaaRows
import Derived.Test.YtjpemelnnemmiaaKit8
import Derived.Test.YtjpemelnnemmiaaPev
import Derived.Test.YtjpemelnnemmiaaPcu
namespace Go.Proofs.Ytjpemelnnemmiaa
open Go.ChangeShapes Go.WideShapes Go.ChangeAt Go.RowKit
set_option linter.unusedVariables false
set_option linter.unusedSimpArgs false

theorem refHeld_any (n : Int) (m : Nat) (w : World) : Calls Try.prog 22 #[.int .i64 n, .int .i64 (m : Int)] w fun x w' => x = .returned (.int .i64 ((holdN m n : Nat) : Int)) ∧ Below w.heap.size w w' := by
  by_cases h0 : n < 0
  · have HV := Lib.hid (show holdN m n = 0 by unfold holdN; rw [if_pos h0])
    go_enter Try.func22, Try.ntmps22
    go_wp2_with fail
    go_ret
    exact ⟨by rw [HV.out]; rfl, Below.refl _ _⟩
  · by_cases h1 : (m : Int) < n
    · have HV := Lib.hid (show holdN m n = m by unfold holdN; rw [if_neg h0, if_pos h1])
      go_enter Try.func22, Try.ntmps22
      go_wp2_with fail
      go_ret
      exact ⟨by rw [HV.out]; rfl, Below.refl _ _⟩
    · have HV := Lib.hid (show ((holdN m n : Nat) : Int) = n by unfold holdN; rw [if_neg h0, if_neg h1]; omega)
      go_enter Try.func22, Try.ntmps22
      go_wp2_with fail
      go_ret
      exact ⟨by rw [HV.out]; rfl, Below.refl _ _⟩

/-- How many ways; the error's number. -/
def waysC (n : Int) : Nat := if n < 0 then 0 else if 16 < n then 0 else waysN n.toNat
def waysE (n : Int) : Int := if n < 0 then 22 else if 16 < n then 26 else 0
theorem two_pow_le {k : Nat} (h : k ≤ 15) : 2 ^ k ≤ 32768 := Nat.pow_le_pow_right (by omega) h
theorem refCount_any (n : Int) (w : World) : Calls Try.prog 16 #[.int .i64 n] w fun x w' => x = .returned (.tuple #[.int .i64 ((waysC n : Nat) : Int), .int .i64 (waysE n)]) ∧ Below w.heap.size w w' := by
  by_cases h0 : n < 0
  · go_enter Try.func16, Try.ntmps16
    go_wp2_with fail
    go_ret2
    exact ⟨by simp [waysC, waysE, h0], Below.refl _ _⟩
  · by_cases h1 : 16 < n
    · go_enter Try.func16, Try.ntmps16
      go_wp2_with fail
      go_ret2
      exact ⟨by simp [waysC, waysE, h0, h1], Below.refl _ _⟩
    · obtain ⟨N, rfl⟩ : ∃ N : Nat, n = N := ⟨n.toNat, by omega⟩
      have HE := Lib.hid (show waysC (N : Int) = waysN N ∧ waysE (N : Int) = 0 by simp [waysC, waysE, h0, h1])
      go_enter Try.func16, Try.ntmps16
      go_wp2_with fail
      go_loopw [4, 5] (fun c i wr => ∃ k m : Nat, k ≤ N ∧ k ≤ 16 ∧ i = .int .i64 ((k : Int) + 1) ∧ c = .int .i64 m ∧ m ≤ 65536 ∧ Hid (m = 2 ^ k ∧ (k ≠ 0 → k + 1 ≤ N)) ∧ Hid (∃ y, wr = onto w y)) (fun _ i _ => N + 1 - (intOf i).toNat)
      case atStart => exact ⟨0, 1, by omega, by omega, rfl, rfl, by omega, Lib.hid ⟨rfl, fun h => absurd rfl h⟩, Lib.hid (onto_self w)⟩
      case round =>
        obtain ⟨k, m, hk, hk16, rfl, rfl, hm, HM, HY⟩ := hrel
        obtain ⟨y, rfl⟩ := HY.out
        clear HY
        by_cases hlt : k + 1 < N
        · have hm2 : m ≤ 32768 := by rw [HM.out.1]; exact two_pow_le (by omega)
          have hli : (k : Int) + 1 < N := by omega
          go_wp2_with fail
          go_roundw
          case rel => exact ⟨k + 1, 2 * m, by omega, by omega, by go_num, by go_num, by omega, Lib.hid ⟨by rw [HM.out.1, Nat.pow_succ]; omega, fun _ => by omega⟩, Lib.hid ⟨_, rfl⟩⟩
          case measure => simp [intOf]; omega
        · have hli : ¬ (k : Int) + 1 < N := by omega
          have hw : m = waysN N := by
            rw [HM.out.1]; unfold waysN
            have := HM.out.2
            by_cases hz : N = 0
            · rw [if_pos hz]; have : k = 0 := by omega
              rw [this]
            · rw [if_neg hz]; have : k = N - 1 := by omega
              rw [this]
          have HW := Lib.hid hw
          clear hw
          go_wp2_with fail
          go_ret2
          exact ⟨by rw [HE.out.1, HE.out.2, HW.out]; rfl, onto_below w y⟩

set_option maxHeartbeats 800000 in
theorem joined_any (A : Option Addr) (n c : Nat) (l : List ByteArray) (w : World) (ha : Hid (SlIn w A n (strs l))) (hn : n ≤ 1000000) (hf : Hid ((jn l).size ≤ 9223372036854775807)) :
    Calls Try.prog 12 #[.slice A n c] w fun x w' => x = .returned (.string (jn l)) ∧ Below w.heap.size w w' := by
  have HL := Lib.hid ha.out.lenS
  go_enter Try.func12, Try.ntmps12
  go_wp2_with fail
  go_loopw [3, 8] (fun t i wr => ∃ (k : Nat) (T : ByteArray), k ≤ n ∧ i = .int .i64 k ∧ t = .string T ∧ Hid (T = jn (l.take k)) ∧ Hid (∃ y, wr = onto w y)) (fun _ i _ => n - (intOf i).toNat)
  case atStart => exact ⟨0, _, Nat.zero_le _, rfl, rfl, Lib.hid rfl, Lib.hid (onto_self w)⟩
  case round =>
    obtain ⟨k, T, hk, rfl, rfl, HT, HY⟩ := hrel
    obtain ⟨y, rfl⟩ := HY.out
    clear HY
    by_cases hlt : k < n
    · obtain ⟨s, hs⟩ : ∃ s, l[k]? = some s := ⟨_, List.getElem?_eq_getElem (by rw [HL.out]; exact hlt)⟩
      obtain ⟨a, rfl, hca⟩ := ha.out.at_ (strs_get hs)
      have za : ∀ z, (onto w z).cell? (a.add k) = some (.string s) := fun z => (mem_cell (onto_below w z) hca)
      have HS := Lib.hid hs
      have hsz : T.size + s.size ≤ 9223372036854775807 := by
        have h1 : l.take (k + 1) = l.take k ++ [s] := by rw [List.take_add_one, hs]; rfl
        have h2 := jn_take_le l (k + 1)
        rw [h1, jn_snoc, ← HT.out, ByteArray.size_append] at h2
        have := hf.out; omega
      clear hs hca
      go_wp2_with fail
      go_roundw
      case rel => exact ⟨k + 1, T ++ s, by omega, by go_num, rfl, Lib.hid (by rw [HT.out, List.take_add_one, HS.out]; exact (jn_snoc _ _).symm), Lib.hid ⟨y, rfl⟩⟩
      case measure => simp [intOf]; omega
    · obtain rfl : k = n := by omega
      have HW := Lib.hid (show T = jn l by rw [HT.out, List.take_of_length_le (by rw [HL.out]; omega)])
      clear hlt
      go_wp2_with fail
      go_ret
      exact ⟨by rw [HW.out]; rfl, onto_below w y⟩
end Go.Proofs.Ytjpemelnnemmiaa

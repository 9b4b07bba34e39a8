/- Layer 5, over a seat without its maker: the contract of Same, where both are one; a store into a slice of one's own. -/
import Derived.Test.YtjpemelnnemmiaaRows
import Derived.Test.YtjpemelnnemmiaaKit8
import Derived.Test.YtjpemelnnemmiaaPev
namespace Go.Proofs.Ytjpemelnnemmiaa
open Go.ChangeShapes Go.WideShapes Go.ChangeAt Go.RowKit
set_option linter.unusedVariables false
set_option linter.unusedSimpArgs false

set_option maxHeartbeats 1600000 in
theorem same_yes (A B : Option Addr) (n c d : Nat) (l : List ByteArray) (w : World) (ha : SlIn w A n (strs l)) (hb : SlIn w B n (strs l)) (hn : n ≤ 1000000) :
    Calls Try.prog 10 #[.slice A n c, .slice B n d] w fun e w' => e = .returned (.bool true) ∧ Below w.heap.size w w' := by
  have HA := Lib.hid ha
  have HB := Lib.hid hb
  have hl := ha.lenS
  have HL := Lib.hid hl
  clear ha hb hl
  go_enter Try.func10, Try.ntmps10
  go_wp2_with fail
  go_loopw [13] (fun i wr => ∃ k : Nat, k ≤ n ∧ i = .int .i64 k ∧ Hid (∃ y, wr = onto w y)) (fun i _ => n - (intOf i).toNat)
  case atStart => exact ⟨0, Nat.zero_le _, rfl, Lib.hid (onto_self w)⟩
  case round =>
    obtain ⟨k, hk, rfl, HY⟩ := hrel
    obtain ⟨y, rfl⟩ := HY.out
    clear HY
    by_cases hlt : k < n
    · obtain ⟨s, hs⟩ : ∃ s, l[k]? = some s := ⟨_, List.getElem?_eq_getElem (by rw [HL.out]; exact hlt)⟩
      obtain ⟨a, rfl, hca⟩ := HA.out.at_ (strs_get hs)
      obtain ⟨b, rfl, hcb⟩ := HB.out.at_ (strs_get hs)
      have za : ∀ z, (onto w z).cell? (a.add k) = some (.string s) := fun z => (mem_cell (onto_below w z) hca)
      have zb : ∀ z, (onto w z).cell? (b.add k) = some (.string s) := fun z => (mem_cell (onto_below w z) hcb)
      have ne : (s.toList == s.toList) = true := by simp
      clear hs hca hcb
      go_wp2_with fail
      refine wp_region_onto (by kernel_rfl) (by kernel_rfl) ?_
      repeat (go_big_quiet_step (fail))
      refine wpQuiet_nil ?_
      intro _ hw'
      obtain ⟨x1, hw''⟩ := hw'
      subst hw''
      go_wp2_with fail
      go_roundw
      case rel => exact ⟨k + 1, by omega, by go_num, Lib.hid ⟨y.up x1, rfl⟩⟩
      case measure => simp [intOf]; omega
    · obtain rfl : k = n := by omega
      clear hlt
      go_wp2_with fail
      go_ret
      exact ⟨rfl, onto_below w y⟩
end Go.Proofs.Ytjpemelnnemmiaa

/- Layer 3: contracts of the document's own answers: Has, Strip. -/
import Derived.Test.YtaoncnlhilpgfaaDoorRows
import Derived.Test.YtaoncnlhilpgfaaDoorZk
import Derived.Test.YtaoncnlhilpgfaaDoorZp
import Derived.LoopTactic
namespace Go.Proofs.YtaoncnlhilpgfaaDoor
open Go.ChangeShapes Go.WideShapes Go.ChangeAt Go.RowKit
set_option linter.unusedVariables false

theorem pre_short {p l : List Int} (h : l.length < p.length) : p.isPrefixOf l = false := by
  cases e : p.isPrefixOf l
  · rfl
  · rw [List.isPrefixOf_iff_prefix] at e; have := e.length_le; omega

/-! ### The document's -/
def mkB (k : Nat) : Int := if k = 0 then 239 else if k = 1 then 187 else 191
theorem has_step {l : List Int} {k : Nat} {x : Int} (hk : k < 3) (hl : l[k]? = some x) (h : (bomMk.take k).isPrefixOf l = true) : (bomMk.take (k + 1)).isPrefixOf l = decide (x = mkB k) := by
  have : k = 0 ∨ k = 1 ∨ k = 2 := by omega
  rcases this with rfl | rfl | rfl
  · match l, hl with
    | a :: r, hl => simp at hl; subst hl; by_cases e : a = 239 <;> simp [bomMk, List.isPrefixOf, mkB, e]; exact Ne.symm e
  · match l, hl with
    | a :: b :: r, hl => simp at hl; subst hl; simp [bomMk, List.isPrefixOf] at h; by_cases e : b = 187 <;> simp [bomMk, List.isPrefixOf, mkB, h, e]; exact Ne.symm e
  · match l, hl with
    | a :: b :: c :: r, hl => simp at hl; subst hl; simp [bomMk, List.isPrefixOf] at h; by_cases e : c = 191 <;> simp [bomMk, List.isPrefixOf, mkB, h, e]; exact Ne.symm e
theorem has_no {l : List Int} {k n : Nat} (hkn : k ≤ n) (h : (bomMk.take k).isPrefixOf l = false) : (bomMk.take n).isPrefixOf l = false := by
  cases e : (bomMk.take n).isPrefixOf l
  · rfl
  · rw [List.isPrefixOf_iff_prefix] at e
    have : bomMk.take k <+: l := (List.take_prefix_take_left hkn).trans e
    rw [← List.isPrefixOf_iff_prefix, h] at this; cases this
theorem bl_at (s : ByteArray) (k : Nat) (h : k < s.size) : (bl s)[k]? = some ((s[k].toNat : Nat) : Int) := by
  have h' : k < (bl s).length := by rw [bl_length]; exact h
  rw [List.getElem?_eq_getElem h']
  simp [bl]
  rfl
theorem mk_index (k : Nat) (hk : k < 3) (w : World) : (Instr.index 98 (.agg #[.int .u8 239, .int .u8 187, .int .u8 191]) (.int .i64 k)).run Tryd.prog w = .ok (.int .u8 (mkB k)) w := by
  have h0 : ∀ w, (Instr.index 98 (.agg #[.int .u8 239, .int .u8 187, .int .u8 191]) (.int .i64 0)).run Tryd.prog w = .ok (.int .u8 239) w := fun _ => by kernel_rfl
  have h1 : ∀ w, (Instr.index 98 (.agg #[.int .u8 239, .int .u8 187, .int .u8 191]) (.int .i64 1)).run Tryd.prog w = .ok (.int .u8 187) w := fun _ => by kernel_rfl
  have h2 : ∀ w, (Instr.index 98 (.agg #[.int .u8 239, .int .u8 187, .int .u8 191]) (.int .i64 2)).run Tryd.prog w = .ok (.int .u8 191) w := fun _ => by kernel_rfl
  have : k = 0 ∨ k = 1 ∨ k = 2 := by omega
  rcases this with rfl | rfl | rfl
  · exact h0 w
  · exact h1 w
  · exact h2 w
set_option maxHeartbeats 800000 in
theorem refHas_any (s : ByteArray) (n : Nat) (hn : n ≤ 3) (hs : s.size ≤ maxLen) (w : World) :
    Calls Tryd.prog 52 #[.string s, .int .i64 n] w fun e w' => e = .returned (.bool ((bomMk.take n).isPrefixOf (bl s))) ∧ Below w.heap.size w w' := by
  have hs' : s.size ≤ 9223372036854775807 := hs
  by_cases hsh : s.size < n
  · have hk := pre_short (p := bomMk.take n) (l := bl s) (by rw [bl_length, List.length_take]; simp [bomMk]; omega)
    have HK := Lib.hid hk
    clear hk
    go_enter Tryd.func52, Tryd.ntmps52
    go_wp2_with fail
    go_ret
    rw [HK.out]
    exact ⟨rfl, Below.refl _ _⟩
  · go_enter Tryd.func52, Tryd.ntmps52
    go_wp2_with fail
    go_loopw [5] (fun i wr => ∃ k : Nat, k ≤ n ∧ i = .int .i64 k ∧ Hid ((bomMk.take k).isPrefixOf (bl s) = true) ∧ ∃ y, wr = onto w y) (fun i _ => n - (intOf i).toNat)
    case atStart => exact ⟨0, by omega, rfl, Lib.hid rfl, onto_self w⟩
    case round =>
      obtain ⟨k, hk, rfl, HK, y, rfl⟩ := hrel
      by_cases hlt : k < n
      · have hks : k < s.size := by omega
        have hks' : (k : Int) < s.size := by omega
        have hst := has_step (by omega) (bl_at s k hks) HK.out
        have hix := mk_index k (by omega)
        obtain ⟨x, hx⟩ : ∃ x : Int, mkB k = x := ⟨_, rfl⟩
        rw [hx] at hst hix
        clear hx
        have hkn : decide ((k : Int) < n) = true := decide_eq_true (by omega)
        by_cases he : ((s[k].toNat : Nat) : Int) = x
        · have ht : (bomMk.take (k + 1)).isPrefixOf (bl s) = true := by rw [hst, decide_eq_true he]
          have HT := Lib.hid ht
          have hne : (((s[k].toNat : Nat) : Int) != x) = false := by simp [he]
          clear ht hst he HK
          go_wp2_with fail
          refine wp_region_onto (by kernel_rfl) (by kernel_rfl) ?_
          repeat (go_big_quiet_step (fail))
          refine wpQuiet_nil ?_
          intro _ hw'
          obtain ⟨zz, hw''⟩ := hw'
          subst hw''
          go_wp2_with fail
          go_roundw
          case rel => exact ⟨k + 1, by omega, by go_num, HT, _, rfl⟩
          case measure => simp [intOf]; omega
        · have ht : (bomMk.take n).isPrefixOf (bl s) = false := has_no (k := k + 1) (by omega) (by rw [hst, decide_eq_false he])
          have HT := Lib.hid ht
          have hne : (((s[k].toNat : Nat) : Int) != x) = true := by simp [he]
          clear ht hst he HK
          go_wp2_with fail
          refine wp_region_onto (by kernel_rfl) (by kernel_rfl) ?_
          repeat (go_big_quiet_step (fail))
          refine wpQuiet_nil ?_
          intro _ hw'
          obtain ⟨zz, hw''⟩ := hw'
          subst hw''
          go_wp2_with fail
          go_ret
          rw [HT.out]
          exact ⟨rfl, (by (repeat (first | exact Below.refl _ _ | refine up_alloc ?_ _ | refine up_onto ?_ _)))⟩
      · obtain rfl : k = n := by omega
        go_wp2_with fail
        go_ret
        rw [HK.out]
        exact ⟨rfl, (by (repeat (first | exact Below.refl _ _ | refine up_alloc ?_ _ | refine up_onto ?_ _)))⟩
theorem refHas_is (s : ByteArray) (n : Nat) (hn : n ≤ 3) (hs : s.size ≤ maxLen) (b : Bool) (hb : Hid ((bomMk.take n).isPrefixOf (bl s) = b)) (w : World) :
    Calls Tryd.prog 52 #[.string s, .int .i64 n] w fun e w' => e = .returned (.bool b) ∧ Below w.heap.size w w' := by
  rw [← hb.out]; exact refHas_any s n hn hs w
end Go.Proofs.YtaoncnlhilpgfaaDoor

namespace Go.Proofs.YtaoncnlhilpgfaaDoor
open Go.ChangeShapes Go.WideShapes Go.ChangeAt Go.RowKit
set_option linter.unusedVariables false

end Go.Proofs.YtaoncnlhilpgfaaDoor

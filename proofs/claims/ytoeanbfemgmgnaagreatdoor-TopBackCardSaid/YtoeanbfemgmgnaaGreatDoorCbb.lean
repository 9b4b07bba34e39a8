/- Layer 3: contracts: strings.CutPrefix as far as it is used, and bom.Strip (the document's own Has and Strip: Ndb). -/
import Derived.Test.YtoeanbfemgmgnaaGreatDoorRows
import Derived.Test.YtoeanbfemgmgnaaGreatDoorZn
namespace Go.Proofs.YtoeanbfemgmgnaaGreatDoor
open Go.ChangeShapes Go.WideShapes Go.ChangeAt Go.RowKit
set_option linter.unusedVariables false
set_option linter.unusedSimpArgs false

set_option maxHeartbeats 400000 in
theorem hasPrefix_any (s p : ByteArray) (hs : s.size ≤ maxLen) (hp : p.size ≤ maxLen) (w : World) :
    Calls Tryz.prog 114 #[.string s, .string p] w fun e w' => e = .returned (.bool ((bl p).isPrefixOf (bl s))) ∧ w = w' := by
  have hs' : s.size ≤ 9223372036854775807 := hs
  have hp' : p.size ≤ 9223372036854775807 := hp
  by_cases h : p.size ≤ s.size
  · have hk := pre_take (bl p) (bl s)
    rw [bl_length, ← bl_take] at hk
    have HK := Lib.hid hk
    clear hk
    go_enter Tryz.func114, Tryz.ntmps114
    go_wp2_with fail
    go_ret
    refine ⟨ret_bool ?_, rfl⟩
    rw [← HK.out, ← str_eq]
  · have hk := pre_short (p := bl p) (l := bl s) (by rw [bl_length, bl_length]; omega)
    have HK := Lib.hid hk
    clear hk
    go_enter Tryz.func114, Tryz.ntmps114
    go_wp2_with fail
    go_ret
    rw [HK.out]
    exact ⟨rfl, rfl⟩
theorem hasPrefix_is (s p : ByteArray) (hs : s.size ≤ maxLen) (hp : p.size ≤ maxLen) (b : Bool) (hb : Hid ((bl p).isPrefixOf (bl s) = b)) (w : World) :
    Calls Tryz.prog 114 #[.string s, .string p] w fun e w' => e = .returned (.bool b) ∧ w = w' := by
  rw [← hb.out]; exact hasPrefix_any s p hs hp w
theorem liteCut_any (s p : ByteArray) (hs : s.size ≤ maxLen) (hp : p.size ≤ maxLen) (w : World) :
    Calls Tryz.prog 103 #[.string s, .string p] w fun e w' => e = .returned (.tuple #[.string (cutO s p), .bool ((bl p).isPrefixOf (bl s))]) ∧ w = w' := by
  have hs' : s.size ≤ 9223372036854775807 := hs
  have hp' : p.size ≤ 9223372036854775807 := hp
  unfold cutO
  cases h : (bl p).isPrefixOf (bl s)
  · have H := Lib.hid h
    clear h
    go_enter Tryz.func103, Tryz.ntmps103
    go_wp2_with (go_at_call 114; ((with_reducible refine (hasPrefix_is _ _ hs hp _ H _).mono ?_); rintro e w' ⟨rfl, rfl⟩))
    go_ret2
    exact ⟨by simp, rfl⟩
  · have hle : p.size ≤ s.size := by
      rw [List.isPrefixOf_iff_prefix] at h; have := h.length_le; rw [bl_length, bl_length] at this; exact this
    have H := Lib.hid h
    clear h
    go_enter Tryz.func103, Tryz.ntmps103
    go_wp2_with (go_at_call 114; ((with_reducible refine (hasPrefix_is _ _ hs hp _ H _).mono ?_); rintro e w' ⟨rfl, rfl⟩))
    go_ret2
    exact ⟨by simp, rfl⟩
theorem cutPrefix_any (s p : ByteArray) (hs : s.size ≤ maxLen) (hp : p.size ≤ maxLen) (w : World) :
    Calls Tryz.prog 84 #[.string s, .string p] w fun e w' => e = .returned (.tuple #[.string (cutO s p), .bool ((bl p).isPrefixOf (bl s))]) ∧ w = w' := by
  go_enter Tryz.func84, Tryz.ntmps84
  go_wp2_with (go_at_call 103; ((with_reducible refine (liteCut_any _ _ hs hp _).mono ?_); rintro e w' ⟨rfl, rfl⟩))
  go_ret2
  exact ⟨rfl, rfl⟩
theorem bomStrip_any (s : ByteArray) (hs : s.size ≤ maxLen) (w : World) :
    Calls Tryz.prog 69 #[.string s] w fun e w' => e = .returned (.tuple #[.string (bomO s), .bool (bomHad (bl s))]) ∧ w = w' := by
  have hm : bomM.size ≤ maxLen := by decide
  go_enter Tryz.func69, Tryz.ntmps69
  go_wp2_with (go_at_call 84; ((refine (cutPrefix_any _ bomM hs hm _).mono ?_); rintro e w' ⟨rfl, rfl⟩))
  go_ret2
  exact ⟨rfl, rfl⟩
theorem bomStrip_is (s t : ByteArray) (hs : s.size ≤ maxLen) (b : Bool) (ht : Hid (bomO s = t)) (hb : Hid (bomHad (bl s) = b)) (w : World) :
    Calls Tryz.prog 69 #[.string s] w fun e w' => e = .returned (.tuple #[.string t, .bool b]) ∧ w = w' := by
  rw [← ht.out, ← hb.out]; exact bomStrip_any s hs w
end Go.Proofs.YtoeanbfemgmgnaaGreatDoor

/- Layer 3: the walk of the statement BomStrips: the Go text returns true and leaves all that was there as it was. -/
import Derived.Test.YtfcjljebjhjglaaBog
namespace Go.Proofs.Ytfcjljebjhjglaa
open Go.ChangeShapes Go.WideShapes Go.ChangeAt Go.RowKit
set_option linter.unusedVariables false

theorem bomStrip_is (s : ByteArray) (hs : s.size ≤ maxLen) (o : ByteArray) (b : Bool) (ho : Hid (bomO s = o)) (hb : Hid (bomHad (bl s) = b)) (w : World) :
    Calls Try.prog 6 #[.string s] w fun e w' => e = .returned (.tuple #[.string o, .bool b]) ∧ w = w' := by
  rw [← ho.out, ← hb.out]; exact bomStrip_any s hs w

set_option maxHeartbeats 800000 in
theorem bomStrips_walk (s : ByteArray) (w : World) (hs : s.size ≤ maxLen) : Calls Try.prog 3 #[.string s] w fun e w' => e = .returned (.bool true) ∧ Below w.heap.size w w' := by
  obtain ⟨o, ho⟩ : ∃ o, bomO s = o := ⟨_, rfl⟩
  have HO := Lib.hid ho
  cases hb : bomHad (bl s)
  · have HN := Lib.hid (show had01 (bl s) = 0 by unfold had01; rw [hb]; rfl)
    have HB := Lib.hid hb
    clear ho hb
    go_enter Try.func3, Try.ntmps3
    go_wp2_with (first
      | (go_at_call 6; ((with_reducible refine (bomStrip_is s hs _ _ HO HB _).mono ?_); rintro e w' ⟨rfl, rfl⟩))
      | (go_at_call 7; ((with_reducible refine (above (refStrip_is s hs _ _ HO HN _)).mono ?_); rintro e _ ⟨rfl, y, rfl⟩))
      | (go_at_call 8; ((with_reducible refine (above (bomAwake_any _)).mono ?_); rintro x _ ⟨rfl, y, rfl⟩)))
    go_ret
    exact ⟨rfl, (by (repeat (first | exact Below.refl _ _ | refine up_alloc ?_ _ | refine up_onto ?_ _)))⟩
  · have HN := Lib.hid (show had01 (bl s) = 1 by unfold had01; rw [hb]; rfl)
    have HB := Lib.hid hb
    clear ho hb
    go_enter Try.func3, Try.ntmps3
    go_wp2_with (first
      | (go_at_call 6; ((with_reducible refine (bomStrip_is s hs _ _ HO HB _).mono ?_); rintro e w' ⟨rfl, rfl⟩))
      | (go_at_call 7; ((with_reducible refine (above (refStrip_is s hs _ _ HO HN _)).mono ?_); rintro e _ ⟨rfl, y, rfl⟩))
      | (go_at_call 8; ((with_reducible refine (above (bomAwake_any _)).mono ?_); rintro x _ ⟨rfl, y, rfl⟩)))
    go_ret
    exact ⟨rfl, (by (repeat (first | exact Below.refl _ _ | refine up_alloc ?_ _ | refine up_onto ?_ _)))⟩
end Go.Proofs.Ytfcjljebjhjglaa

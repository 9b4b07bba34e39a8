/- Layer 3: contracts of the document's own Strip, Held, Told. -/
import Derived.Test.YtfcjljebjhjglaaBob
namespace Go.Proofs.Ytfcjljebjhjglaa
open Go.ChangeShapes Go.WideShapes Go.ChangeAt Go.RowKit
set_option linter.unusedVariables false

theorem ret_si {a b : ByteArray} {x y : Int} (h : a = b) (h' : x = y) : Ending.returned (.tuple #[.string a, .int .i64 x]) = .returned (.tuple #[.string b, .int .i64 y]) := by rw [h, h']
theorem bom_had_take (l : List Int) : (bomMk.take 3).isPrefixOf l = bomHad l := rfl
theorem bom_had_size {s : ByteArray} (h : bomHad (bl s) = true) : 3 ≤ s.size := by
  unfold bomHad at h
  rw [List.isPrefixOf_iff_prefix] at h; have := h.length_le; rw [bl_length] at this; exact this
def had01 (l : List Int) : Int := if bomHad l = true then 1 else 0
theorem refStrip_any (s : ByteArray) (hs : s.size ≤ maxLen) (w : World) :
    Calls Try.prog 7 #[.string s] w fun e w' => e = .returned (.tuple #[.string (bomO s), .int .i64 (had01 (bl s))]) ∧ Below w.heap.size w w' := by
  have hs' : s.size ≤ 9223372036854775807 := hs
  cases h : bomHad (bl s)
  · have H := Lib.hid ((bom_had_take (bl s)).trans h)
    have hO : bomO s = s := by unfold bomO cutO; rw [bl_bomM]; unfold bomHad at h; rw [h]; rfl
    have hI : had01 (bl s) = 0 := by unfold had01; rw [h]; rfl
    have HO := Lib.hid hO; have HI := Lib.hid hI
    clear h hO hI
    go_enter Try.func7, Try.ntmps7
    go_wp2_with (go_at_call 17; ((refine (above (refHas_is s 3 (by omega) hs _ H _)).mono ?_); rintro e _ ⟨rfl, y, rfl⟩))
    go_ret2
    exact ⟨ret_si HO.out.symm HI.out.symm, (by (repeat (first | exact Below.refl _ _ | refine up_alloc ?_ _ | refine up_onto ?_ _)))⟩
  · have h3 := bom_had_size h
    have H := Lib.hid ((bom_had_take (bl s)).trans h)
    have hO : bomO s = s.extract 3 s.size := by unfold bomO cutO; rw [bl_bomM]; unfold bomHad at h; rw [h]; rfl
    have hI : had01 (bl s) = 1 := by unfold had01; rw [h]; rfl
    have HO := Lib.hid hO; have HI := Lib.hid hI
    clear h hO hI
    go_enter Try.func7, Try.ntmps7
    go_wp2_with (go_at_call 17; ((refine (above (refHas_is s 3 (by omega) hs _ H _)).mono ?_); rintro e _ ⟨rfl, y, rfl⟩))
    go_ret2
    exact ⟨ret_si HO.out.symm HI.out.symm, (by (repeat (first | exact Below.refl _ _ | refine up_alloc ?_ _ | refine up_onto ?_ _)))⟩

theorem bom_pre_take {l : List Int} (h : l.length ≤ 2) : (bomMk.take l.length).isPrefixOf l = bomPre l := by
  match l, h with
  | [], _ => rfl
  | [a], _ => simp [bomMk, List.isPrefixOf, bomPre, BEq.comm (a := a)]
  | [a, b], _ => simp [bomMk, List.isPrefixOf, bomPre, BEq.comm (a := a), BEq.comm (a := b)]
theorem bom_pre_long {l : List Int} (h : ¬ l.length ≤ 2) : bomPre l = false := by unfold bomPre; rw [decide_eq_false h]; rfl

theorem refHeld_any (s : ByteArray) (hs : s.size ≤ maxLen) (w : World) :
    Calls Try.prog 13 #[.string s] w fun e w' => e = .returned (.int .i64 (bomHeld (bl s))) ∧ Below w.heap.size w w' := by
  have hs' : s.size ≤ 9223372036854775807 := hs
  by_cases h2 : s.size ≤ 2
  · have hk := bom_pre_take (l := bl s) (by rw [bl_length]; exact h2)
    rw [bl_length] at hk
    cases h : bomPre (bl s)
    · have hE : bomHeld (bl s) = 0 := by unfold bomHeld; rw [h]; rfl
      rw [h] at hk
      have H := Lib.hid hk
      have HE := Lib.hid hE
      clear h hk hE
      go_enter Try.func13, Try.ntmps13
      go_wp2_with (go_at_call 17; ((refine (above (refHas_is s s.size (by omega) hs _ H _)).mono ?_); rintro e _ ⟨rfl, y, rfl⟩))
      go_ret
      rw [HE.out]
      exact ⟨rfl, (by (repeat (first | exact Below.refl _ _ | refine up_alloc ?_ _ | refine up_onto ?_ _)))⟩
    · have hE : bomHeld (bl s) = s.size := by unfold bomHeld; rw [h, if_pos rfl, bl_length]
      rw [h] at hk
      have H := Lib.hid hk
      have HE := Lib.hid hE
      clear h hk hE
      go_enter Try.func13, Try.ntmps13
      go_wp2_with (go_at_call 17; ((refine (above (refHas_is s s.size (by omega) hs _ H _)).mono ?_); rintro e _ ⟨rfl, y, rfl⟩))
      go_ret
      rw [HE.out]
      exact ⟨rfl, (by (repeat (first | exact Below.refl _ _ | refine up_alloc ?_ _ | refine up_onto ?_ _)))⟩
  · have hE : bomHeld (bl s) = 0 := by unfold bomHeld; rw [bom_pre_long (by rw [bl_length]; exact h2)]; rfl
    have HE := Lib.hid hE
    clear hE
    have h2' : 3 ≤ s.size := by omega
    go_enter Try.func13, Try.ntmps13
    go_wp2_with fail
    go_ret
    rw [HE.out]
    exact ⟨rfl, Below.refl _ _⟩
theorem refHeld_is (s : ByteArray) (hs : s.size ≤ maxLen) (n : Nat) (hn : Hid (bomHeld (bl s) = n)) (w : World) :
    Calls Try.prog 13 #[.string s] w fun e w' => e = .returned (.int .i64 n) ∧ Below w.heap.size w w' := by
  rw [← hn.out]; exact refHeld_any s hs w
theorem refStrip_is (s : ByteArray) (hs : s.size ≤ maxLen) (o : ByteArray) (n : Int) (ho : Hid (bomO s = o)) (hn : Hid (had01 (bl s) = n)) (w : World) :
    Calls Try.prog 7 #[.string s] w fun e w' => e = .returned (.tuple #[.string o, .int .i64 n]) ∧ Below w.heap.size w w' := by
  rw [← hn.out, ← ho.out]; exact refStrip_any s hs w

def toldO (s : ByteArray) : ByteArray := if 0 < bomHeld (bl s) then ⟨#[]⟩ else bomO s
theorem bl_nil : bl ⟨#[]⟩ = [] := rfl
theorem bl_toldO (s : ByteArray) : bl (toldO s) = bomTold (bl s) := by
  unfold toldO bomTold bomHeld
  cases h : bomPre (bl s)
  · rw [if_neg (by simp), if_neg (by simp), bl_bomO]
  · rw [if_pos rfl]
    by_cases h0 : 0 < (bl s).length
    · rw [if_pos h0, if_pos rfl]; rfl
    · have : bl s = [] := List.eq_nil_of_length_eq_zero (by omega)
      rw [if_neg h0, if_pos rfl, bl_bomO, this]; rfl
theorem toldO_size (s : ByteArray) : (toldO s).size ≤ s.size := by
  unfold toldO; split
  · exact Nat.zero_le _
  · exact bomO_size s
theorem refTold_any (s : ByteArray) (hs : s.size ≤ maxLen) (w : World) :
    Calls Try.prog 11 #[.string s] w fun e w' => e = .returned (.string (toldO s)) ∧ Below w.heap.size w w' := by
  obtain ⟨n, hn⟩ : ∃ n, bomHeld (bl s) = n := ⟨_, rfl⟩
  by_cases h : 0 < n
  · have hO : toldO s = ⟨#[]⟩ := by unfold toldO; rw [hn, if_pos h]
    have HN := Lib.hid hn; have HO := Lib.hid hO
    clear hn hO
    go_enter Try.func11, Try.ntmps11
    go_wp2_with (go_at_call 13; ((refine (above (refHeld_is s hs n HN _)).mono ?_); rintro e _ ⟨rfl, y, rfl⟩))
    go_ret
    rw [HO.out]
    exact ⟨rfl, (by (repeat (first | exact Below.refl _ _ | refine up_alloc ?_ _ | refine up_onto ?_ _)))⟩
  · have hO : toldO s = bomO s := by unfold toldO; rw [hn, if_neg h]
    obtain rfl : n = 0 := by omega
    have HN := Lib.hid hn; have HO := Lib.hid hO
    clear hn hO h
    go_enter Try.func11, Try.ntmps11
    go_wp2_with (first | (go_at_call 13; ((refine (above (refHeld_is s hs 0 HN _)).mono ?_); rintro e _ ⟨rfl, y, rfl⟩)) | (go_at_call 7; ((refine (above (refStrip_any s hs _)).mono ?_); rintro e _ ⟨rfl, y2, rfl⟩)))
    go_ret
    rw [HO.out]
    exact ⟨rfl, (by (repeat (first | exact Below.refl _ _ | refine up_alloc ?_ _ | refine up_onto ?_ _)))⟩
theorem refTold_is (s : ByteArray) (hs : s.size ≤ maxLen) (o : ByteArray) (ho : Hid (toldO s = o)) (w : World) :
    Calls Try.prog 11 #[.string s] w fun e w' => e = .returned (.string o) ∧ Below w.heap.size w w' := by
  rw [← ho.out]; exact refTold_any s hs w
end Go.Proofs.Ytfcjljebjhjglaa

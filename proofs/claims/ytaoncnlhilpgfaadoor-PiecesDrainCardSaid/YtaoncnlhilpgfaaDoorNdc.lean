/- Layer 8: contracts of the document's own answers (Has, Why) and of the statements' helpers (one, few). -/
import Derived.Test.YtaoncnlhilpgfaaDoorNda
import Derived.Test.YtaoncnlhilpgfaaDoorNdb
import Derived.Test.YtaoncnlhilpgfaaDoorZk
import Derived.Test.YtaoncnlhilpgfaaDoorZp
namespace Go.Proofs.YtaoncnlhilpgfaaDoor
open Go.ChangeShapes Go.WideShapes Go.ChangeAt Go.RowKit
set_option linter.unusedVariables false
set_option linter.unusedSimpArgs false

set_option maxHeartbeats 800000 in
theorem ref8Has_any (s : ByteArray) (b : Int) (hs : s.size ≤ maxLen) (w : World) :
    Calls Tryd.prog 51 #[.string s, .int .i64 b] w fun x w' => x = .returned (.bool (hasL (bl s) b)) ∧ Below w.heap.size w w' := by
  have hs' : s.size ≤ 9223372036854775807 := hs
  go_enter Tryd.func51, Tryd.ntmps51
  go_wp2_with fail
  go_loopw [5] (fun i wr => ∃ k : Nat, k ≤ s.size ∧ i = .int .i64 k ∧ Hid (b ∉ (bl s).take k) ∧ Hid (∃ y, wr = onto w y)) (fun i _ => s.size - (intOf i).toNat)
  case atStart => exact ⟨0, by omega, rfl, Lib.hid (by simp), Lib.hid (onto_self w)⟩
  case round =>
    obtain ⟨k, hk, rfl, HK, HY⟩ := hrel
    obtain ⟨y, rfl⟩ := HY.out
    clear HY
    by_cases hlt : k < s.size
    · have hlt' : (k : Int) < s.size := by omega
      have hw64 : wrap64 ((s[k].toNat : Nat) : Int) = ((s[k].toNat : Nat) : Int) := IntWalk.wrap64_in _ ⟨by have := s[k].toNat_lt; omega, by have := s[k].toNat_lt; omega⟩
      have ht : (bl s).take (k + 1) = (bl s).take k ++ [((s[k].toNat : Nat) : Int)] := by rw [List.take_add_one, bl_at s k hlt]; rfl
      by_cases he : ((s[k].toNat : Nat) : Int) = b
      · have hb : (((s[k].toNat : Nat) : Int) == b) = true := by simp [he]
        have HV := Lib.hid (show hasL (bl s) b = true by
          unfold hasL
          rw [decide_eq_true_eq, ← he]
          exact List.mem_of_getElem? (bl_at s k hlt))
        clear ht he
        go_wp2_with fail
        go_ret
        exact ⟨by rw [HV.out]; rfl, onto_below w y⟩
      · have hb : (((s[k].toNat : Nat) : Int) == b) = false := by simp [he]
        have HT := Lib.hid (show b ∉ (bl s).take (k + 1) by rw [ht]; simp; exact ⟨fun h => HK.out h, fun h => he h.symm⟩)
        clear ht he
        go_wp2_with fail
        go_roundw
        case rel => exact ⟨k + 1, by omega, by go_num, HT, Lib.hid ⟨_, rfl⟩⟩
        case measure => simp [intOf]; omega
    · obtain rfl : k = s.size := by omega
      have HV := Lib.hid (show hasL (bl s) b = false by
        have h1 := HK.out
        rw [List.take_of_length_le (by rw [bl_length]; exact Nat.le_refl _)] at h1
        simpa [hasL] using h1)
      clear hlt
      go_wp2_with fail
      go_ret
      exact ⟨by rw [HV.out]; rfl, onto_below w y⟩
theorem ref8Has_is (s : ByteArray) (b : Int) (hs : s.size ≤ maxLen) (v : Bool) (hv : Hid (hasL (bl s) b = v)) (w : World) :
    Calls Tryd.prog 51 #[.string s, .int .i64 b] w fun x w' => x = .returned (.bool v) ∧ Below w.heap.size w w' := by
  rw [← hv.out]; exact ref8Has_any s b hs w
theorem ref3Has_is (s : ByteArray) (hs : s.size ≤ maxLen) (b : Bool) (hb : Hid ((bomMk.take 3).isPrefixOf (bl s) = b)) (w : World) :
    Calls Tryd.prog 52 #[.string s, .int .i64 3] w fun e w' => e = .returned (.bool b) ∧ Below w.heap.size w w' := refHas_is s 3 (by omega) hs b hb w
set_option maxRecDepth 100000 in
set_option maxHeartbeats 1600000 in
theorem ref8Why_any (d q e : Int) (s : ByteArray) (al fi : Bool) (hs : s.size ≤ maxLen) (W : Int) (hW : Hid (whyN d q (bl s) al fi = W)) (w : World) :
    Calls Tryd.prog 41 #[.agg #[.int .i64 d, .int .i64 q, .int .i64 e], .string s, .int .i64 (numB al), .int .i64 (numB fi)] w fun x w' => x = .returned (.int .i64 W) ∧ Below w.heap.size w w' := by
  have hs' : s.size ≤ 9223372036854775807 := hs
  obtain ⟨v1, h1⟩ : ∃ v, hasL (bl s) d = v := ⟨_, rfl⟩
  obtain ⟨v2, h2⟩ : ∃ v, hasL (bl s) q = v := ⟨_, rfl⟩
  obtain ⟨v3, h3⟩ : ∃ v, hasL (bl s) 13 = v := ⟨_, rfl⟩
  obtain ⟨v4, h4⟩ : ∃ v, hasL (bl s) 10 = v := ⟨_, rfl⟩
  obtain ⟨v5, h5⟩ : ∃ v, (bomMk.take 3).isPrefixOf (bl s) = v := ⟨_, rfl⟩
  have H1 := Lib.hid h1
  have H2 := Lib.hid h2
  have H3 := Lib.hid h3
  have H4 := Lib.hid h4
  have H5 := Lib.hid h5
  obtain ⟨v6, h6⟩ : ∃ v, ((s.size : Int) == 0) = v := ⟨_, rfl⟩
  have hwhy : W = if v1 = true then 1 else if v2 = true then 2 else if (v3 || v4) = true then 3 else if v6 = true ∧ al = true then 4 else if fi = true ∧ v5 = true then 5 else 0 := by
    rw [← hW.out, whyN, h1, h2, h3, h4]
    have e5 : bomHad (bl s) = v5 := h5
    rw [e5]
    have e6 : bl s = [] ↔ v6 = true := by
      rw [← h6, beq_iff_eq]
      constructor
      · intro h
        have h9 : (bl s).length = 0 := by rw [h]; rfl
        rw [bl_length] at h9; omega
      · intro h; exact List.eq_nil_of_length_eq_zero (by rw [bl_length]; omega)
    simp only [e6]
  have HW := Lib.hid hwhy
  clear h1 h2 h3 h4 h5 hwhy hW
  have n1 : numB true = 1 := rfl
  have n0 : numB false = 0 := rfl
  cases v1
  case true =>
    have HV := Lib.hid (show W = 1 by rw [HW.out]; rfl)
    clear HW
    go_enter Tryd.func41, Tryd.ntmps41
    go_wp2_with (first | (go_at_call 51; with_reducible refine (above (ref8Has_is s d hs _ H1 _)).mono ?_; rintro x _ ⟨rfl, y, rfl⟩))
    all_goals go_ret
    all_goals exact ⟨by rw [HV.out]; rfl, (by (repeat (first | exact Below.refl _ _ | refine up_onto ?_ _ | refine up_alloc ?_ _)))⟩
  case false =>
   cases v2
   case true =>
    have HV := Lib.hid (show W = 2 by rw [HW.out]; rfl)
    clear HW
    go_enter Tryd.func41, Tryd.ntmps41
    go_wp2_with (first | (go_at_call 51; with_reducible refine (above (ref8Has_is s d hs _ H1 _)).mono ?_; rintro x _ ⟨rfl, y, rfl⟩) | (go_at_call 51; with_reducible refine (above (ref8Has_is s q hs _ H2 _)).mono ?_; rintro x _ ⟨rfl, y, rfl⟩))
    all_goals go_ret
    all_goals exact ⟨by rw [HV.out]; rfl, (by (repeat (first | exact Below.refl _ _ | refine up_onto ?_ _ | refine up_alloc ?_ _)))⟩
   case false =>
    cases v3
    case true =>
     have HV := Lib.hid (show W = 3 by rw [HW.out]; rfl)
     clear HW
     go_enter Tryd.func41, Tryd.ntmps41
     go_wp2_with (first | (go_at_call 51; with_reducible refine (above (ref8Has_is s d hs _ H1 _)).mono ?_; rintro x _ ⟨rfl, y, rfl⟩) | (go_at_call 51; with_reducible refine (above (ref8Has_is s q hs _ H2 _)).mono ?_; rintro x _ ⟨rfl, y, rfl⟩) | (go_at_call 51; with_reducible refine (above (ref8Has_is s 13 hs _ H3 _)).mono ?_; rintro x _ ⟨rfl, y, rfl⟩))
     all_goals go_ret
     all_goals exact ⟨by rw [HV.out]; rfl, (by (repeat (first | exact Below.refl _ _ | refine up_onto ?_ _ | refine up_alloc ?_ _)))⟩
    case false =>
     cases v4
     case true =>
      have HV := Lib.hid (show W = 3 by rw [HW.out]; rfl)
      clear HW
      go_enter Tryd.func41, Tryd.ntmps41
      go_wp2_with (first | (go_at_call 51; with_reducible refine (above (ref8Has_is s d hs _ H1 _)).mono ?_; rintro x _ ⟨rfl, y, rfl⟩) | (go_at_call 51; with_reducible refine (above (ref8Has_is s q hs _ H2 _)).mono ?_; rintro x _ ⟨rfl, y, rfl⟩) | (go_at_call 51; with_reducible refine (above (ref8Has_is s 13 hs _ H3 _)).mono ?_; rintro x _ ⟨rfl, y, rfl⟩) | (go_at_call 51; with_reducible refine (above (ref8Has_is s 10 hs _ H4 _)).mono ?_; rintro x _ ⟨rfl, y, rfl⟩))
      all_goals go_ret
      all_goals exact ⟨by rw [HV.out]; rfl, (by (repeat (first | exact Below.refl _ _ | refine up_onto ?_ _ | refine up_alloc ?_ _)))⟩
     case false =>
      cases v6 <;> cases al
      case false.false =>
        rw [n0]
        cases fi
        case false =>
          rw [n0]
          have HV := Lib.hid (show W = 0 by rw [HW.out]; rfl)
          clear HW
          go_enter Tryd.func41, Tryd.ntmps41
          go_wp2_with (first | (go_at_call 51; with_reducible refine (above (ref8Has_is s d hs _ H1 _)).mono ?_; rintro x _ ⟨rfl, y, rfl⟩) | (go_at_call 51; with_reducible refine (above (ref8Has_is s q hs _ H2 _)).mono ?_; rintro x _ ⟨rfl, y, rfl⟩) | (go_at_call 51; with_reducible refine (above (ref8Has_is s 13 hs _ H3 _)).mono ?_; rintro x _ ⟨rfl, y, rfl⟩) | (go_at_call 51; with_reducible refine (above (ref8Has_is s 10 hs _ H4 _)).mono ?_; rintro x _ ⟨rfl, y, rfl⟩) | (go_at_call 52; with_reducible refine (above (ref3Has_is s hs _ H5 _)).mono ?_; rintro x _ ⟨rfl, y, rfl⟩))
          all_goals go_ret
          all_goals exact ⟨by rw [HV.out]; rfl, (by (repeat (first | exact Below.refl _ _ | refine up_onto ?_ _ | refine up_alloc ?_ _)))⟩
        case true =>
          rw [n1]
          cases v5
          case false =>
            have HV := Lib.hid (show W = 0 by rw [HW.out]; rfl)
            clear HW
            go_enter Tryd.func41, Tryd.ntmps41
            go_wp2_with (first | (go_at_call 51; with_reducible refine (above (ref8Has_is s d hs _ H1 _)).mono ?_; rintro x _ ⟨rfl, y, rfl⟩) | (go_at_call 51; with_reducible refine (above (ref8Has_is s q hs _ H2 _)).mono ?_; rintro x _ ⟨rfl, y, rfl⟩) | (go_at_call 51; with_reducible refine (above (ref8Has_is s 13 hs _ H3 _)).mono ?_; rintro x _ ⟨rfl, y, rfl⟩) | (go_at_call 51; with_reducible refine (above (ref8Has_is s 10 hs _ H4 _)).mono ?_; rintro x _ ⟨rfl, y, rfl⟩) | (go_at_call 52; with_reducible refine (above (ref3Has_is s hs _ H5 _)).mono ?_; rintro x _ ⟨rfl, y, rfl⟩))
            all_goals go_ret
            all_goals exact ⟨by rw [HV.out]; rfl, (by (repeat (first | exact Below.refl _ _ | refine up_onto ?_ _ | refine up_alloc ?_ _)))⟩
          case true =>
            have HV := Lib.hid (show W = 5 by rw [HW.out]; rfl)
            clear HW
            go_enter Tryd.func41, Tryd.ntmps41
            go_wp2_with (first | (go_at_call 51; with_reducible refine (above (ref8Has_is s d hs _ H1 _)).mono ?_; rintro x _ ⟨rfl, y, rfl⟩) | (go_at_call 51; with_reducible refine (above (ref8Has_is s q hs _ H2 _)).mono ?_; rintro x _ ⟨rfl, y, rfl⟩) | (go_at_call 51; with_reducible refine (above (ref8Has_is s 13 hs _ H3 _)).mono ?_; rintro x _ ⟨rfl, y, rfl⟩) | (go_at_call 51; with_reducible refine (above (ref8Has_is s 10 hs _ H4 _)).mono ?_; rintro x _ ⟨rfl, y, rfl⟩) | (go_at_call 52; with_reducible refine (above (ref3Has_is s hs _ H5 _)).mono ?_; rintro x _ ⟨rfl, y, rfl⟩))
            all_goals go_ret
            all_goals exact ⟨by rw [HV.out]; rfl, (by (repeat (first | exact Below.refl _ _ | refine up_onto ?_ _ | refine up_alloc ?_ _)))⟩
      case false.true =>
        rw [n1]
        cases fi
        case false =>
          rw [n0]
          have HV := Lib.hid (show W = 0 by rw [HW.out]; rfl)
          clear HW
          go_enter Tryd.func41, Tryd.ntmps41
          go_wp2_with (first | (go_at_call 51; with_reducible refine (above (ref8Has_is s d hs _ H1 _)).mono ?_; rintro x _ ⟨rfl, y, rfl⟩) | (go_at_call 51; with_reducible refine (above (ref8Has_is s q hs _ H2 _)).mono ?_; rintro x _ ⟨rfl, y, rfl⟩) | (go_at_call 51; with_reducible refine (above (ref8Has_is s 13 hs _ H3 _)).mono ?_; rintro x _ ⟨rfl, y, rfl⟩) | (go_at_call 51; with_reducible refine (above (ref8Has_is s 10 hs _ H4 _)).mono ?_; rintro x _ ⟨rfl, y, rfl⟩) | (go_at_call 52; with_reducible refine (above (ref3Has_is s hs _ H5 _)).mono ?_; rintro x _ ⟨rfl, y, rfl⟩))
          all_goals go_ret
          all_goals exact ⟨by rw [HV.out]; rfl, (by (repeat (first | exact Below.refl _ _ | refine up_onto ?_ _ | refine up_alloc ?_ _)))⟩
        case true =>
          rw [n1]
          cases v5
          case false =>
            have HV := Lib.hid (show W = 0 by rw [HW.out]; rfl)
            clear HW
            go_enter Tryd.func41, Tryd.ntmps41
            go_wp2_with (first | (go_at_call 51; with_reducible refine (above (ref8Has_is s d hs _ H1 _)).mono ?_; rintro x _ ⟨rfl, y, rfl⟩) | (go_at_call 51; with_reducible refine (above (ref8Has_is s q hs _ H2 _)).mono ?_; rintro x _ ⟨rfl, y, rfl⟩) | (go_at_call 51; with_reducible refine (above (ref8Has_is s 13 hs _ H3 _)).mono ?_; rintro x _ ⟨rfl, y, rfl⟩) | (go_at_call 51; with_reducible refine (above (ref8Has_is s 10 hs _ H4 _)).mono ?_; rintro x _ ⟨rfl, y, rfl⟩) | (go_at_call 52; with_reducible refine (above (ref3Has_is s hs _ H5 _)).mono ?_; rintro x _ ⟨rfl, y, rfl⟩))
            all_goals go_ret
            all_goals exact ⟨by rw [HV.out]; rfl, (by (repeat (first | exact Below.refl _ _ | refine up_onto ?_ _ | refine up_alloc ?_ _)))⟩
          case true =>
            have HV := Lib.hid (show W = 5 by rw [HW.out]; rfl)
            clear HW
            go_enter Tryd.func41, Tryd.ntmps41
            go_wp2_with (first | (go_at_call 51; with_reducible refine (above (ref8Has_is s d hs _ H1 _)).mono ?_; rintro x _ ⟨rfl, y, rfl⟩) | (go_at_call 51; with_reducible refine (above (ref8Has_is s q hs _ H2 _)).mono ?_; rintro x _ ⟨rfl, y, rfl⟩) | (go_at_call 51; with_reducible refine (above (ref8Has_is s 13 hs _ H3 _)).mono ?_; rintro x _ ⟨rfl, y, rfl⟩) | (go_at_call 51; with_reducible refine (above (ref8Has_is s 10 hs _ H4 _)).mono ?_; rintro x _ ⟨rfl, y, rfl⟩) | (go_at_call 52; with_reducible refine (above (ref3Has_is s hs _ H5 _)).mono ?_; rintro x _ ⟨rfl, y, rfl⟩))
            all_goals go_ret
            all_goals exact ⟨by rw [HV.out]; rfl, (by (repeat (first | exact Below.refl _ _ | refine up_onto ?_ _ | refine up_alloc ?_ _)))⟩
      case true.false =>
        rw [n0]
        cases fi
        case false =>
          rw [n0]
          have HV := Lib.hid (show W = 0 by rw [HW.out]; rfl)
          clear HW
          go_enter Tryd.func41, Tryd.ntmps41
          go_wp2_with (first | (go_at_call 51; with_reducible refine (above (ref8Has_is s d hs _ H1 _)).mono ?_; rintro x _ ⟨rfl, y, rfl⟩) | (go_at_call 51; with_reducible refine (above (ref8Has_is s q hs _ H2 _)).mono ?_; rintro x _ ⟨rfl, y, rfl⟩) | (go_at_call 51; with_reducible refine (above (ref8Has_is s 13 hs _ H3 _)).mono ?_; rintro x _ ⟨rfl, y, rfl⟩) | (go_at_call 51; with_reducible refine (above (ref8Has_is s 10 hs _ H4 _)).mono ?_; rintro x _ ⟨rfl, y, rfl⟩) | (go_at_call 52; with_reducible refine (above (ref3Has_is s hs _ H5 _)).mono ?_; rintro x _ ⟨rfl, y, rfl⟩))
          all_goals go_ret
          all_goals exact ⟨by rw [HV.out]; rfl, (by (repeat (first | exact Below.refl _ _ | refine up_onto ?_ _ | refine up_alloc ?_ _)))⟩
        case true =>
          rw [n1]
          cases v5
          case false =>
            have HV := Lib.hid (show W = 0 by rw [HW.out]; rfl)
            clear HW
            go_enter Tryd.func41, Tryd.ntmps41
            go_wp2_with (first | (go_at_call 51; with_reducible refine (above (ref8Has_is s d hs _ H1 _)).mono ?_; rintro x _ ⟨rfl, y, rfl⟩) | (go_at_call 51; with_reducible refine (above (ref8Has_is s q hs _ H2 _)).mono ?_; rintro x _ ⟨rfl, y, rfl⟩) | (go_at_call 51; with_reducible refine (above (ref8Has_is s 13 hs _ H3 _)).mono ?_; rintro x _ ⟨rfl, y, rfl⟩) | (go_at_call 51; with_reducible refine (above (ref8Has_is s 10 hs _ H4 _)).mono ?_; rintro x _ ⟨rfl, y, rfl⟩) | (go_at_call 52; with_reducible refine (above (ref3Has_is s hs _ H5 _)).mono ?_; rintro x _ ⟨rfl, y, rfl⟩))
            all_goals go_ret
            all_goals exact ⟨by rw [HV.out]; rfl, (by (repeat (first | exact Below.refl _ _ | refine up_onto ?_ _ | refine up_alloc ?_ _)))⟩
          case true =>
            have HV := Lib.hid (show W = 5 by rw [HW.out]; rfl)
            clear HW
            go_enter Tryd.func41, Tryd.ntmps41
            go_wp2_with (first | (go_at_call 51; with_reducible refine (above (ref8Has_is s d hs _ H1 _)).mono ?_; rintro x _ ⟨rfl, y, rfl⟩) | (go_at_call 51; with_reducible refine (above (ref8Has_is s q hs _ H2 _)).mono ?_; rintro x _ ⟨rfl, y, rfl⟩) | (go_at_call 51; with_reducible refine (above (ref8Has_is s 13 hs _ H3 _)).mono ?_; rintro x _ ⟨rfl, y, rfl⟩) | (go_at_call 51; with_reducible refine (above (ref8Has_is s 10 hs _ H4 _)).mono ?_; rintro x _ ⟨rfl, y, rfl⟩) | (go_at_call 52; with_reducible refine (above (ref3Has_is s hs _ H5 _)).mono ?_; rintro x _ ⟨rfl, y, rfl⟩))
            all_goals go_ret
            all_goals exact ⟨by rw [HV.out]; rfl, (by (repeat (first | exact Below.refl _ _ | refine up_onto ?_ _ | refine up_alloc ?_ _)))⟩
      case true.true =>
        rw [n1]
        have HV := Lib.hid (show W = 4 by rw [HW.out]; rfl)
        clear HW
        go_enter Tryd.func41, Tryd.ntmps41
        go_wp2_with (first | (go_at_call 51; with_reducible refine (above (ref8Has_is s d hs _ H1 _)).mono ?_; rintro x _ ⟨rfl, y, rfl⟩) | (go_at_call 51; with_reducible refine (above (ref8Has_is s q hs _ H2 _)).mono ?_; rintro x _ ⟨rfl, y, rfl⟩) | (go_at_call 51; with_reducible refine (above (ref8Has_is s 13 hs _ H3 _)).mono ?_; rintro x _ ⟨rfl, y, rfl⟩) | (go_at_call 51; with_reducible refine (above (ref8Has_is s 10 hs _ H4 _)).mono ?_; rintro x _ ⟨rfl, y, rfl⟩))
        all_goals go_ret
        all_goals exact ⟨by rw [HV.out]; rfl, (by (repeat (first | exact Below.refl _ _ | refine up_onto ?_ _ | refine up_alloc ?_ _)))⟩
end Go.Proofs.YtaoncnlhilpgfaaDoor

/- Layer 8: the program's Why, Need. -/
import Derived.Test.YtaoncnlhilpgfaaDoorNwb
import Derived.Test.YtaoncnlhilpgfaaDoorNea

namespace Go.Proofs.YtaoncnlhilpgfaaDoor
open Go.ChangeShapes Go.WideShapes Go.ChangeAt Go.RowKit
set_option linter.unusedVariables false
set_option linter.unusedSimpArgs false

theorem indexAny_has (chars : List UInt8) : ∀ l : List UInt8, decide (0 ≤ Lib.indexAny l chars) = l.any fun b => chars.contains b
  | [] => rfl
  | b :: l => by
    have ih := indexAny_has chars l
    have hge := Lib.indexAny_ge chars l
    rw [List.any_cons, ← ih, Lib.indexAny]
    cases h : chars.contains b
    · simp only [Bool.false_eq_true, if_false, Bool.false_or]
      by_cases h1 : Lib.indexAny l chars = -1
      · rw [h1]; rfl
      · rw [if_neg (by simpa using h1)]
        exact decide_eq_decide.2 (by omega)
    · simp
theorem any_bl (s : ByteArray) (p : UInt8 → Bool) (q : Int → Bool) (h : ∀ b : UInt8, p b = q (b.toNat : Int)) : s.data.toList.any p = (bl s).any q := by
  unfold bl
  rw [List.any_map]
  congr 1
  funext b
  exact h b
theorem hasL_any (l : List Int) (d : Int) : hasL l d = l.any fun x => decide (x = d) := by
  unfold hasL
  rw [Bool.eq_iff_iff, decide_eq_true_eq, List.any_eq_true]
  constructor
  · intro h; exact ⟨d, h, by simp⟩
  · rintro ⟨x, hx, e⟩; rw [of_decide_eq_true e] at hx; exact hx
theorem byte_has (s : ByteArray) (d : Int) (d0 : 0 ≤ d) (d1 : d ≤ 255) : decide (0 ≤ Lib.indexByte s.data.toList d.toNat.toUInt8) = hasL (bl s) d := by
  rw [← Lib.indexAny_one, indexAny_has, hasL_any]
  refine any_bl s _ _ fun b => ?_
  rw [Bool.eq_iff_iff]
  simp only [List.contains_cons, List.contains_nil, Bool.or_false, beq_iff_eq, decide_eq_true_eq]
  have hb := b.toNat_lt
  constructor
  · intro h; rw [h]
    show ((UInt8.ofNat d.toNat).toNat : Int) = d
    rw [UInt8.toNat_ofNat']; omega
  · intro h; rw [← h]; simp
theorem ends_has (s : ByteArray) : decide (0 ≤ Lib.indexAny s.data.toList crlfL) = (hasL (bl s) 13 || hasL (bl s) 10) := by
  rw [indexAny_has, hasL_any, hasL_any]
  have : ∀ l : List Int, (l.any (fun x => decide (x = 13)) || l.any (fun x => decide (x = 10))) = l.any fun x => decide (x = 13) || decide (x = 10) := by
    intro l
    induction l with
    | nil => rfl
    | cons a r ih => simp only [List.any_cons]; rw [← ih]; simp only [Bool.or_assoc, Bool.or_left_comm]
  rw [this]
  refine any_bl s _ _ fun b => ?_
  rw [Bool.eq_iff_iff]
  have hb := b.toNat_lt
  unfold crlfL
  simp only [List.contains_cons, List.contains_nil, Bool.or_false, Bool.or_eq_true, beq_iff_eq, decide_eq_true_eq]
  constructor
  · rintro (h | h)
    · left; rw [h]; rfl
    · right; rw [h]; rfl
  · rintro (h | h)
    · left; exact UInt8.toNat_inj.1 (by show b.toNat = 13; omega)
    · right; exact UInt8.toNat_inj.1 (by show b.toNat = 10; omega)
theorem prefix_mark (s : ByteArray) : Lib.hasPrefix s.data.toList [239, 187, 191] = bomHad (bl s) := by
  have : ∀ (p l : List UInt8), p.isPrefixOf l = (p.map fun c => (c.toNat : Int)).isPrefixOf (l.map fun c => (c.toNat : Int)) := by
    intro p
    induction p with
    | nil => intro l; rfl
    | cons a r ih =>
      intro l
      cases l with
      | nil => rfl
      | cons b l =>
        simp only [List.map_cons, List.isPrefixOf_cons_cons]
        rw [← ih l]
        congr 1
        rw [Bool.eq_iff_iff, beq_iff_eq, beq_iff_eq]
        exact ⟨fun h => by rw [h], fun h => UInt8.toNat_inj.1 (by omega)⟩
  show List.isPrefixOf _ _ = _
  rw [this]
  rfl
theorem byte_is (s : ByteArray) (d : Int) (d0 : 0 ≤ d) (d1 : d ≤ 255) (v : Bool) (hv : Hid (hasL (bl s) d = v)) (w : World) :
    Calls Tryd.prog 63 #[.string s, .int .u8 d] w fun x w' => (∃ n, x = .returned (.int .i64 n) ∧ decide (0 ≤ n) = v) ∧ w' = w :=
  (Tryd.strings_IndexByte s d w).mono fun x w' ⟨h1, h2⟩ => ⟨⟨_, h1, by rw [byte_has s d d0 d1]; exact hv.out⟩, h2⟩
theorem ends_is (s : ByteArray) (hs : s.size ≤ 1000000) (v : Bool) (hv : Hid ((hasL (bl s) 13 || hasL (bl s) 10) = v)) (w : World) :
    Calls Tryd.prog 64 #[.string s, .string ⟨#[13, 10]⟩] w fun x w' => x = .returned (.bool v) ∧ Below w.heap.size w w' :=
  (containsAny_all s w hs).mono fun x w' ⟨h1, h2⟩ => ⟨by rw [h1, ends_has, hv.out], h2⟩
theorem mark_is (s : ByteArray) (v : Bool) (hv : Hid (bomHad (bl s) = v)) (w : World) :
    Calls Tryd.prog 65 #[.string s, .string ⟨#[239, 187, 191]⟩] w fun x w' => x = .returned (.bool v) ∧ w' = w :=
  (Tryd.strings_HasPrefix s ⟨#[239, 187, 191]⟩ w).mono fun x w' ⟨h1, h2⟩ => ⟨by rw [h1, ← hv.out, ← prefix_mark s], h2⟩

set_option maxHeartbeats 1600000 in
theorem why_any : WhySays := by
  intro d q e s al fi w d0 d1 q0 q1 _ hs
  have hs' : s.size ≤ 9223372036854775807 := by omega
  obtain ⟨v1, h1⟩ : ∃ v, hasL (bl s) d = v := ⟨_, rfl⟩
  obtain ⟨v2, h2⟩ : ∃ v, hasL (bl s) q = v := ⟨_, rfl⟩
  obtain ⟨v3, h3⟩ : ∃ v, (hasL (bl s) 13 || hasL (bl s) 10) = v := ⟨_, rfl⟩
  obtain ⟨v5, h5⟩ : ∃ v, bomHad (bl s) = v := ⟨_, rfl⟩
  have H1 := Lib.hid h1
  have H2 := Lib.hid h2
  have H3 := Lib.hid h3
  have H5 := Lib.hid h5
  obtain ⟨v4, h4⟩ : ∃ v, decide (bl s = []) = v := ⟨_, rfl⟩
  have he : s.toList.isEmpty = v4 := by
    rw [← h4, ByteArray.toList_eq, Bool.eq_iff_iff]
    unfold bl
    simp
  obtain ⟨W, hW⟩ : ∃ W, W = whyN d q (bl s) al fi := ⟨_, rfl⟩
  have hW2 := hW
  unfold whyN at hW2
  have e4 : (bl s = [] ∧ al = true) ↔ (v4 && al) = true := by rw [← h4]; simp
  rw [h1, h2, h3, h5] at hW2
  simp only [e4] at hW2
  have HW := Lib.hid hW2
  rw [← hW]
  clear h1 h2 h3 h4 h5 hW hW2 e4
  cases v1
  case true =>
    have HV := Lib.hid (show W = 1 by rw [HW.out]; rfl)
    clear HW
    go_enter Tryd.func59, Tryd.ntmps59
    go_wp2_with (first
      | (go_at_call 63; with_reducible refine (byte_is s d d0 d1 _ H1 _).mono ?_; rintro x w' ⟨⟨n, rfl, hn⟩, hw⟩; rw [hw])
      | (go_at_call 63; with_reducible refine (byte_is s q q0 q1 _ H2 _).mono ?_; rintro x w' ⟨⟨m, rfl, hm⟩, hw⟩; rw [hw])
      | (go_at_call 64; with_reducible refine (above (ends_is s hs _ H3 _)).mono ?_; rintro x _ ⟨rfl, y, rfl⟩)
      | (go_at_call 65; with_reducible refine (mark_is s _ H5 _).mono ?_; rintro x w' ⟨rfl, hw⟩; rw [hw]))
    all_goals go_ret
    all_goals exact ⟨by rw [HV.out]; rfl, (by (repeat (first | exact Below.refl _ _ | refine up_onto ?_ _ | refine up_alloc ?_ _)))⟩
  case false =>
    cases v2
    case true =>
      have HV := Lib.hid (show W = 2 by rw [HW.out]; rfl)
      clear HW
      go_enter Tryd.func59, Tryd.ntmps59
      go_wp2_with (first
      | (go_at_call 63; with_reducible refine (byte_is s d d0 d1 _ H1 _).mono ?_; rintro x w' ⟨⟨n, rfl, hn⟩, hw⟩; rw [hw])
      | (go_at_call 63; with_reducible refine (byte_is s q q0 q1 _ H2 _).mono ?_; rintro x w' ⟨⟨m, rfl, hm⟩, hw⟩; rw [hw])
      | (go_at_call 64; with_reducible refine (above (ends_is s hs _ H3 _)).mono ?_; rintro x _ ⟨rfl, y, rfl⟩)
      | (go_at_call 65; with_reducible refine (mark_is s _ H5 _).mono ?_; rintro x w' ⟨rfl, hw⟩; rw [hw]))
      all_goals go_ret
      all_goals exact ⟨by rw [HV.out]; rfl, (by (repeat (first | exact Below.refl _ _ | refine up_onto ?_ _ | refine up_alloc ?_ _)))⟩
    case false =>
      cases v3
      case true =>
        have HV := Lib.hid (show W = 3 by rw [HW.out]; rfl)
        clear HW
        go_enter Tryd.func59, Tryd.ntmps59
        go_wp2_with (first
      | (go_at_call 63; with_reducible refine (byte_is s d d0 d1 _ H1 _).mono ?_; rintro x w' ⟨⟨n, rfl, hn⟩, hw⟩; rw [hw])
      | (go_at_call 63; with_reducible refine (byte_is s q q0 q1 _ H2 _).mono ?_; rintro x w' ⟨⟨m, rfl, hm⟩, hw⟩; rw [hw])
      | (go_at_call 64; with_reducible refine (above (ends_is s hs _ H3 _)).mono ?_; rintro x _ ⟨rfl, y, rfl⟩)
      | (go_at_call 65; with_reducible refine (mark_is s _ H5 _).mono ?_; rintro x w' ⟨rfl, hw⟩; rw [hw]))
        all_goals go_ret
        all_goals exact ⟨by rw [HV.out]; rfl, (by (repeat (first | exact Below.refl _ _ | refine up_onto ?_ _ | refine up_alloc ?_ _)))⟩
      case false =>
        cases v4
        case true =>
          cases al
          case true =>
            have HV := Lib.hid (show W = 4 by rw [HW.out]; rfl)
            clear HW
            go_enter Tryd.func59, Tryd.ntmps59
            go_wp2_with (first
      | (go_at_call 63; with_reducible refine (byte_is s d d0 d1 _ H1 _).mono ?_; rintro x w' ⟨⟨n, rfl, hn⟩, hw⟩; rw [hw])
      | (go_at_call 63; with_reducible refine (byte_is s q q0 q1 _ H2 _).mono ?_; rintro x w' ⟨⟨m, rfl, hm⟩, hw⟩; rw [hw])
      | (go_at_call 64; with_reducible refine (above (ends_is s hs _ H3 _)).mono ?_; rintro x _ ⟨rfl, y, rfl⟩)
      | (go_at_call 65; with_reducible refine (mark_is s _ H5 _).mono ?_; rintro x w' ⟨rfl, hw⟩; rw [hw]))
            all_goals go_ret
            all_goals exact ⟨by rw [HV.out]; rfl, (by (repeat (first | exact Below.refl _ _ | refine up_onto ?_ _ | refine up_alloc ?_ _)))⟩
          case false =>
            cases fi
            case false =>
              have HV := Lib.hid (show W = 0 by rw [HW.out]; rfl)
              clear HW
              go_enter Tryd.func59, Tryd.ntmps59
              go_wp2_with (first
      | (go_at_call 63; with_reducible refine (byte_is s d d0 d1 _ H1 _).mono ?_; rintro x w' ⟨⟨n, rfl, hn⟩, hw⟩; rw [hw])
      | (go_at_call 63; with_reducible refine (byte_is s q q0 q1 _ H2 _).mono ?_; rintro x w' ⟨⟨m, rfl, hm⟩, hw⟩; rw [hw])
      | (go_at_call 64; with_reducible refine (above (ends_is s hs _ H3 _)).mono ?_; rintro x _ ⟨rfl, y, rfl⟩)
      | (go_at_call 65; with_reducible refine (mark_is s _ H5 _).mono ?_; rintro x w' ⟨rfl, hw⟩; rw [hw]))
              all_goals go_ret
              all_goals exact ⟨by rw [HV.out]; rfl, (by (repeat (first | exact Below.refl _ _ | refine up_onto ?_ _ | refine up_alloc ?_ _)))⟩
            case true =>
              cases v5
              case false =>
                have HV := Lib.hid (show W = 0 by rw [HW.out]; rfl)
                clear HW
                go_enter Tryd.func59, Tryd.ntmps59
                go_wp2_with (first
      | (go_at_call 63; with_reducible refine (byte_is s d d0 d1 _ H1 _).mono ?_; rintro x w' ⟨⟨n, rfl, hn⟩, hw⟩; rw [hw])
      | (go_at_call 63; with_reducible refine (byte_is s q q0 q1 _ H2 _).mono ?_; rintro x w' ⟨⟨m, rfl, hm⟩, hw⟩; rw [hw])
      | (go_at_call 64; with_reducible refine (above (ends_is s hs _ H3 _)).mono ?_; rintro x _ ⟨rfl, y, rfl⟩)
      | (go_at_call 65; with_reducible refine (mark_is s _ H5 _).mono ?_; rintro x w' ⟨rfl, hw⟩; rw [hw]))
                all_goals go_ret
                all_goals exact ⟨by rw [HV.out]; rfl, (by (repeat (first | exact Below.refl _ _ | refine up_onto ?_ _ | refine up_alloc ?_ _)))⟩
              case true =>
                have HV := Lib.hid (show W = 5 by rw [HW.out]; rfl)
                clear HW
                go_enter Tryd.func59, Tryd.ntmps59
                go_wp2_with (first
      | (go_at_call 63; with_reducible refine (byte_is s d d0 d1 _ H1 _).mono ?_; rintro x w' ⟨⟨n, rfl, hn⟩, hw⟩; rw [hw])
      | (go_at_call 63; with_reducible refine (byte_is s q q0 q1 _ H2 _).mono ?_; rintro x w' ⟨⟨m, rfl, hm⟩, hw⟩; rw [hw])
      | (go_at_call 64; with_reducible refine (above (ends_is s hs _ H3 _)).mono ?_; rintro x _ ⟨rfl, y, rfl⟩)
      | (go_at_call 65; with_reducible refine (mark_is s _ H5 _).mono ?_; rintro x w' ⟨rfl, hw⟩; rw [hw]))
                all_goals go_ret
                all_goals exact ⟨by rw [HV.out]; rfl, (by (repeat (first | exact Below.refl _ _ | refine up_onto ?_ _ | refine up_alloc ?_ _)))⟩
        case false =>
          cases al <;> skip
          case false =>
            cases fi
            case false =>
              have HV := Lib.hid (show W = 0 by rw [HW.out]; rfl)
              clear HW
              go_enter Tryd.func59, Tryd.ntmps59
              go_wp2_with (first
      | (go_at_call 63; with_reducible refine (byte_is s d d0 d1 _ H1 _).mono ?_; rintro x w' ⟨⟨n, rfl, hn⟩, hw⟩; rw [hw])
      | (go_at_call 63; with_reducible refine (byte_is s q q0 q1 _ H2 _).mono ?_; rintro x w' ⟨⟨m, rfl, hm⟩, hw⟩; rw [hw])
      | (go_at_call 64; with_reducible refine (above (ends_is s hs _ H3 _)).mono ?_; rintro x _ ⟨rfl, y, rfl⟩)
      | (go_at_call 65; with_reducible refine (mark_is s _ H5 _).mono ?_; rintro x w' ⟨rfl, hw⟩; rw [hw]))
              all_goals go_ret
              all_goals exact ⟨by rw [HV.out]; rfl, (by (repeat (first | exact Below.refl _ _ | refine up_onto ?_ _ | refine up_alloc ?_ _)))⟩
            case true =>
              cases v5
              case false =>
                have HV := Lib.hid (show W = 0 by rw [HW.out]; rfl)
                clear HW
                go_enter Tryd.func59, Tryd.ntmps59
                go_wp2_with (first
      | (go_at_call 63; with_reducible refine (byte_is s d d0 d1 _ H1 _).mono ?_; rintro x w' ⟨⟨n, rfl, hn⟩, hw⟩; rw [hw])
      | (go_at_call 63; with_reducible refine (byte_is s q q0 q1 _ H2 _).mono ?_; rintro x w' ⟨⟨m, rfl, hm⟩, hw⟩; rw [hw])
      | (go_at_call 64; with_reducible refine (above (ends_is s hs _ H3 _)).mono ?_; rintro x _ ⟨rfl, y, rfl⟩)
      | (go_at_call 65; with_reducible refine (mark_is s _ H5 _).mono ?_; rintro x w' ⟨rfl, hw⟩; rw [hw]))
                all_goals go_ret
                all_goals exact ⟨by rw [HV.out]; rfl, (by (repeat (first | exact Below.refl _ _ | refine up_onto ?_ _ | refine up_alloc ?_ _)))⟩
              case true =>
                have HV := Lib.hid (show W = 5 by rw [HW.out]; rfl)
                clear HW
                go_enter Tryd.func59, Tryd.ntmps59
                go_wp2_with (first
      | (go_at_call 63; with_reducible refine (byte_is s d d0 d1 _ H1 _).mono ?_; rintro x w' ⟨⟨n, rfl, hn⟩, hw⟩; rw [hw])
      | (go_at_call 63; with_reducible refine (byte_is s q q0 q1 _ H2 _).mono ?_; rintro x w' ⟨⟨m, rfl, hm⟩, hw⟩; rw [hw])
      | (go_at_call 64; with_reducible refine (above (ends_is s hs _ H3 _)).mono ?_; rintro x _ ⟨rfl, y, rfl⟩)
      | (go_at_call 65; with_reducible refine (mark_is s _ H5 _).mono ?_; rintro x w' ⟨rfl, hw⟩; rw [hw]))
                all_goals go_ret
                all_goals exact ⟨by rw [HV.out]; rfl, (by (repeat (first | exact Below.refl _ _ | refine up_onto ?_ _ | refine up_alloc ?_ _)))⟩
          case true =>
            cases fi
            case false =>
              have HV := Lib.hid (show W = 0 by rw [HW.out]; rfl)
              clear HW
              go_enter Tryd.func59, Tryd.ntmps59
              go_wp2_with (first
      | (go_at_call 63; with_reducible refine (byte_is s d d0 d1 _ H1 _).mono ?_; rintro x w' ⟨⟨n, rfl, hn⟩, hw⟩; rw [hw])
      | (go_at_call 63; with_reducible refine (byte_is s q q0 q1 _ H2 _).mono ?_; rintro x w' ⟨⟨m, rfl, hm⟩, hw⟩; rw [hw])
      | (go_at_call 64; with_reducible refine (above (ends_is s hs _ H3 _)).mono ?_; rintro x _ ⟨rfl, y, rfl⟩)
      | (go_at_call 65; with_reducible refine (mark_is s _ H5 _).mono ?_; rintro x w' ⟨rfl, hw⟩; rw [hw]))
              all_goals go_ret
              all_goals exact ⟨by rw [HV.out]; rfl, (by (repeat (first | exact Below.refl _ _ | refine up_onto ?_ _ | refine up_alloc ?_ _)))⟩
            case true =>
              cases v5
              case false =>
                have HV := Lib.hid (show W = 0 by rw [HW.out]; rfl)
                clear HW
                go_enter Tryd.func59, Tryd.ntmps59
                go_wp2_with (first
      | (go_at_call 63; with_reducible refine (byte_is s d d0 d1 _ H1 _).mono ?_; rintro x w' ⟨⟨n, rfl, hn⟩, hw⟩; rw [hw])
      | (go_at_call 63; with_reducible refine (byte_is s q q0 q1 _ H2 _).mono ?_; rintro x w' ⟨⟨m, rfl, hm⟩, hw⟩; rw [hw])
      | (go_at_call 64; with_reducible refine (above (ends_is s hs _ H3 _)).mono ?_; rintro x _ ⟨rfl, y, rfl⟩)
      | (go_at_call 65; with_reducible refine (mark_is s _ H5 _).mono ?_; rintro x w' ⟨rfl, hw⟩; rw [hw]))
                all_goals go_ret
                all_goals exact ⟨by rw [HV.out]; rfl, (by (repeat (first | exact Below.refl _ _ | refine up_onto ?_ _ | refine up_alloc ?_ _)))⟩
              case true =>
                have HV := Lib.hid (show W = 5 by rw [HW.out]; rfl)
                clear HW
                go_enter Tryd.func59, Tryd.ntmps59
                go_wp2_with (first
      | (go_at_call 63; with_reducible refine (byte_is s d d0 d1 _ H1 _).mono ?_; rintro x w' ⟨⟨n, rfl, hn⟩, hw⟩; rw [hw])
      | (go_at_call 63; with_reducible refine (byte_is s q q0 q1 _ H2 _).mono ?_; rintro x w' ⟨⟨m, rfl, hm⟩, hw⟩; rw [hw])
      | (go_at_call 64; with_reducible refine (above (ends_is s hs _ H3 _)).mono ?_; rintro x _ ⟨rfl, y, rfl⟩)
      | (go_at_call 65; with_reducible refine (mark_is s _ H5 _).mono ?_; rintro x w' ⟨rfl, hw⟩; rw [hw]))
                all_goals go_ret
                all_goals exact ⟨by rw [HV.out]; rfl, (by (repeat (first | exact Below.refl _ _ | refine up_onto ?_ _ | refine up_alloc ?_ _)))⟩

theorem need_any : NeedSays := by
  intro d q e s al fi w d0 d1 q0 q1 hr hs
  have HY := Lib.hid (fun w => why_any d q e s al fi w d0 d1 q0 q1 hr hs)
  obtain ⟨W, hW⟩ : ∃ W, whyN d q (bl s) al fi = W := ⟨_, rfl⟩
  obtain ⟨V, hV⟩ : ∃ V, (W != 0) = V := ⟨_, rfl⟩
  have hnv : needB d q s al fi = V := by unfold needB; rw [hW, ← hV]; rw [Bool.eq_iff_iff]; simp
  rw [hW] at HY
  rw [hnv]
  clear hW hnv
  go_enter Tryd.func54, Tryd.ntmps54
  go_wp2_with (go_at_call 59; with_reducible refine (above (HY.out _)).mono ?_; rintro x _ ⟨rfl, y, rfl⟩)
  go_ret
  exact ⟨rfl, (by (repeat (first | exact Below.refl _ _ | refine up_onto ?_ _ | refine up_alloc ?_ _)))⟩

end Go.Proofs.YtaoncnlhilpgfaaDoor

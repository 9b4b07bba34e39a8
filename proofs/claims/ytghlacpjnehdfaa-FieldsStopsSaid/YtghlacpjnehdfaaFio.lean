/- Layer 5: the walk of the statement FieldsStops. -/
import Derived.Test.YtghlacpjnehdfaaFil
import Derived.Test.YtghlacpjnehdfaaFin
import Derived.Test.YtghlacpjnehdfaaKit2
namespace Go.Proofs.Ytghlacpjnehdfaa
open Go.ChangeShapes Go.WideShapes Go.ChangeAt Go.RowKit
set_option linter.unusedVariables false
set_option linter.unusedSimpArgs false

/-- take_is of a maker whose state behind it doesn't matter. -/
theorem take_some (g : Nat) (bg ad fi li re : Bool) (pb : Int) (s : Mk) (S : Nat → Prop) (N : Nat) (hN : N ≤ 400) (ok : Hid (s.Ok N)) (b0 : 0 ≤ pb) (b1 : pb ≤ 255) (w : World) (h : Hid (MkB w g s S)) :
    Calls Try.prog 8 #[.pointer (some ⟨g, 0, none⟩), .agg #[.bool bg, .bool ad, .bool fi, .bool li, .bool re, .int .u8 pb]] w fun x w' => ∃ A c n t r s', x = .returned (.tuple #[.slice A n c, .bool t, .int .i64 r]) ∧ Hid (Turned g s' S w w') ∧ Hid (s'.Ok (N + 1)) := by
  refine (take_any g ⟨bg, ad, fi, li, re, pb⟩ s S N (by omega) w h.out ok.out b0 b1).mono ?_
  rintro x w' ⟨A, c, rfl, _, S', m, t, u, _⟩
  exact ⟨A, c, _, _, _, _, rfl, Lib.hid ⟨S', m, t, u⟩, Lib.hid (ok_take _ ok.out)⟩
/-- take_is of a stopped maker. -/
theorem take_stopped (g : Nat) (bg ad fi li re : Bool) (pb : Int) (s : Mk) (S : Nat → Prop) (N : Nat) (hN : N ≤ 400) (ok : Hid (s.Ok N)) (r : Int) (hr : Hid (s.er = r)) (h0 : Hid (r ≠ 0)) (b0 : 0 ≤ pb) (b1 : pb ≤ 255) (w : World) (h : Hid (MkB w g s S)) :
    Calls Try.prog 8 #[.pointer (some ⟨g, 0, none⟩), .agg #[.bool bg, .bool ad, .bool fi, .bool li, .bool re, .int .u8 pb]] w fun x w' => ∃ A c, x = .returned (.tuple #[.slice A 0 c, .bool false, .int .i64 r]) ∧ Hid (Turned g s S w w') := by
  obtain ⟨e1, e2, e3⟩ := mTake_stop (s := s) (by rw [hr.out]; exact h0.out) ⟨bg, ad, fi, li, re, pb⟩
  refine (take_is g ⟨bg, ad, fi, li, re, pb⟩ s S N (by omega) ok b0 b1 s [] 0 false r (Lib.hid e1) (Lib.hid e3) (Lib.hid rfl) (Lib.hid e2) hr w h).mono ?_
  rintro x w' ⟨A, c, rfl, hh⟩
  obtain ⟨_, S', m, t, u, _⟩ := hh.out
  exact ⟨A, c, rfl, Lib.hid ⟨S', m, t, u⟩⟩
theorem Turned.from_alloc_h {g : Nat} {s : Mk} {S : Nat → Prop} {w w' : World} {o : Obj} (h : Hid (Turned g s S (w.alloc o) w')) : Turned g s S w w' := h.out.from_alloc

set_option maxHeartbeats 6400000 in
set_option maxRecDepth 100000 in
theorem stops_walk (x0 x1 x2 : Int) (u : Bool) (A : Option Addr) (n c : Nat) (l : List Ev) (B : Option Addr) (m d : Nat) (l2 : List Ev) (w : World) (wx0 : (Lit.int .i64 x0).wf = true) (wx1 : (Lit.int .i64 x1).wf = true) (wx2 : (Lit.int .i64 x2).wf = true)
    (nc : n ≤ c) (cm : c ≤ maxLen) (hin : SlIn w A (n * 6) (flat l)) (hb : ∀ x ∈ l, 0 ≤ x.b ∧ x.b ≤ 255) (nd : m ≤ d) (dm : d ≤ maxLen) (hin2 : SlIn w B (m * 6) (flat l2)) (hb2 : ∀ x ∈ l2, 0 ≤ x.b ∧ x.b ≤ 255) :
    Calls Try.prog 4 #[.agg #[.int .i64 x0, .int .i64 x1, .int .i64 x2, .bool u], .slice A n c, .slice B m d] w fun e w' => e = .returned (.bool true) ∧ Below w.heap.size w w' := by
  have hl : l.length = n := by have := hin.1; rw [flat_length] at this; omega
  have hl2 : l2.length = m := by have := hin2.1; rw [flat_length] at this; omega
  have HIN := Lib.hid hin
  have HL := Lib.hid hl
  have HBB := Lib.hid hb
  have HIN2 := Lib.hid hin2
  have HL2 := Lib.hid hl2
  have HBB2 := Lib.hid hb2
  unfold maxLen at cm dm
  clear hin hl hb hin2 hl2 hb2 wx0 wx1 wx2
  cases hy : (withinB x0 && (withinB x1 && withinB x2))
  · have HY := Lib.hid hy
    clear hy
    by_cases hn : 150 < n
    · have hd : decide (150 < (n : Int)) = true := by rw [decide_eq_true_eq]; omega
      go_enter Try.func4, Try.ntmps4
      go_wp2_with (first | (go_at_call 6; ((with_reducible refine (above (new_no x0 x1 x2 u HY _)).mono ?_); rintro x _ ⟨rfl, y, rfl⟩)) | (go_at_call 7; ((with_reducible refine (above (awake_any _)).mono ?_); rintro x _ ⟨rfl, y2, rfl⟩)))
      go_ret
      exact ⟨rfl, up_onto (up_alloc (Below.refl _ _) _) _⟩
    · have hd : decide (150 < (n : Int)) = false := by rw [decide_eq_false_iff_not]; omega
      by_cases hm : 150 < m
      all_goals
        have hd2 : decide (150 < (m : Int)) = decide (150 < m) := by rw [decide_eq_decide]; omega
        simp only [hm, decide_true, decide_false] at hd2
        go_enter Try.func4, Try.ntmps4
        go_wp2_with (first | (go_at_call 6; ((with_reducible refine (above (new_no x0 x1 x2 u HY _)).mono ?_); rintro x _ ⟨rfl, y, rfl⟩)) | (go_at_call 7; ((with_reducible refine (above (awake_any _)).mono ?_); rintro x _ ⟨rfl, y2, rfl⟩)))
        go_ret
        exact ⟨rfl, up_onto (up_alloc (Below.refl _ _) _) _⟩
  · have HY := Lib.hid hy
    clear hy
    by_cases hbig : 150 < n ∨ 150 < m
    · have hcase : (decide (150 < (n : Int)) = true) ∨ (decide (150 < (n : Int)) = false ∧ decide (150 < (m : Int)) = true) := by
        rw [decide_eq_true_eq, decide_eq_false_iff_not, decide_eq_true_eq]; omega
      rcases hcase with hd | ⟨hd, hd2⟩
      all_goals
        go_enter Try.func4, Try.ntmps4
        go_wp2_with fail
        refine (new_yes x0 x1 x2 u HY _).mono ?_
        rintro x w1 ⟨g, S0, rfl, m0, hS0, hb0⟩
        have hb1 := Lib.hid (up_call0 (up_alloc (Below.refl _ w) _) hb0.out)
        clear hb0
        go_wp2_with (go_at_call 7; ((with_reducible refine (above (awake_any _)).mono ?_); rintro x _ ⟨rfl, y2, rfl⟩))
        go_ret
        exact ⟨rfl, hb1.out.trans ((onto_below w1 y2).mono hb1.out.size)⟩
    · have hd : decide (150 < (n : Int)) = false := by rw [decide_eq_false_iff_not]; omega
      have hd2 : decide (150 < (m : Int)) = false := by rw [decide_eq_false_iff_not]; omega
      have hn : n ≤ 150 := by omega
      have hm : m ≤ 150 := by omega
      clear hbig
      go_enter Try.func4, Try.ntmps4
      go_wp2_with fail
      refine (new_yes x0 x1 x2 u HY _).mono ?_
      rintro x w1 ⟨g, S0, rfl, m0, hS0, hb0⟩
      have hb1 := Lib.hid (up_call0 (up_alloc (Below.refl _ w) _) hb0.out)
      have hS1 := Lib.hid (show ∀ j, S0 j → w.heap.size ≤ j from fun j hj => by have := hS0.out j hj; simp at this; omega)
      clear hb0 hS0
      go_wp2_with fail
      go_loopw [47] (fun i wr => ∃ (k : Nat) (s : Mk) (S : Nat → Prop), k ≤ n ∧ i = .int .i64 k ∧ Hid (MkB wr g s S) ∧ Hid (s.Ok k) ∧ Hid (∀ j, S j → w.heap.size ≤ j) ∧ Hid (Below w.heap.size w wr)) (fun i _ => n - (intOf i).toNat)
      case atStart => exact ⟨0, _, S0, Nat.zero_le _, rfl, m0, Lib.hid (mk0_ok _ _ _ _ HY.out), hS1, hb1⟩
      case round =>
        clear m0 hS1 hb1
        obtain ⟨k, s, S, hk, rfl, HM, HOK, HS, HB⟩ := hrel
        by_cases hlt : k < n
        · obtain ⟨⟨bg, ad, fi, li, re, pb⟩, hx⟩ : ∃ x, l[k]? = some x := ⟨_, List.getElem?_eq_getElem (by rw [HL.out]; exact hlt)⟩
          obtain ⟨a, rfl, y0, y1, y2, y3, y4, y5⟩ := ev_at6 (HIN.out.below HB.out) hx
          obtain ⟨b0, b1⟩ := HBB.out _ (List.mem_of_getElem? hx)
          dsimp only at b0 b1
          clear hx
          have HM' := Lib.hid (HM.out.below ((Below.refl _ wr).alloc (Nat.le_refl _) (.cells #[.bool bg, .bool ad, .bool fi, .bool li, .bool re, .int .u8 pb] 31)))
          go_wp2_with fail
          refine (take_some g bg ad fi li re pb s S k (by omega) HOK b0 b1 _ HM').mono ?_
          rintro x w3 ⟨A3, c3, n3, t3, r3, s', rfl, ht, HOK'⟩
          obtain ⟨S3, m3, t3, u3⟩ := Turned.from_alloc_h ht
          have M3 := Lib.hid m3
          have S3' := Lib.hid (show ∀ j, S3 j → w.heap.size ≤ j from fun j hj => by
            rcases u3 j hj with h | h
            · exact HS.out j h
            · have := HB.out.size; omega)
          have B3 := Lib.hid (HB.out.trans (t3.below HB.out.size HS.out))
          clear ht m3 t3 u3 y0 y1 y2 y3 y4 y5
          go_wp2_with fail
          go_roundw
          case rel => exact ⟨k + 1, s', S3, by omega, by go_num, M3, HOK', S3', B3⟩
          case measure => simp [intOf]; omega
        · obtain rfl : k = n := by omega
          clear hlt
          obtain ⟨r, hr⟩ : ∃ r, s.er = r := ⟨_, rfl⟩
          have HR := Lib.hid hr
          clear hr
          by_cases h0 : r = 0
          · subst h0
            go_wp2_with fail
            refine (stopped_is g s S 0 HR wr HM).mono ?_
            rintro x _ ⟨rfl, rfl⟩
            go_wp2_with (go_at_call 7; ((with_reducible refine (above (awake_any _)).mono ?_); rintro x _ ⟨rfl, y2, rfl⟩))
            go_ret
            exact ⟨rfl, HB.out.trans ((onto_below wr y2).mono HB.out.size)⟩
          · have hd3 : (r == 0) = false := by simpa using h0
            have H0 := Lib.hid h0
            clear h0
            go_wp2_with fail
            refine (stopped_is g s S r HR wr HM).mono ?_
            rintro x _ ⟨rfl, rfl⟩
            obtain ⟨q, hq⟩ : ∃ q, s.rc.length = q := ⟨_, rfl⟩
            have HQ := Lib.hid hq
            obtain ⟨t, ht⟩ : ∃ t, toBA s.fd = t := ⟨_, rfl⟩
            have HT := Lib.hid ht
            obtain ⟨cn, hcn⟩ : ∃ cn, s.ct = cn := ⟨_, rfl⟩
            have HCN := Lib.hid hcn
            obtain ⟨kn, hkn⟩ : ∃ kn, s.bg = kn := ⟨_, rfl⟩
            have HKN := Lib.hid hkn
            have hqq : q ≤ 1000000 := by rw [← hq]; have := HOK.out.rcN; omega
            have hqs : s.rc.length ≤ 1000000 := by omega
            clear hq ht hcn hkn
            go_wp2_with fail
            refine (open_is g s S hqs q t HQ HT wr HM).mono ?_
            rintro x w4 ⟨A4, c4, rfl, ho, hb4⟩
            have HM4 := Lib.hid (HM.out.below hb4.out)
            have HB4 := Lib.hid (HB.out.trans (hb4.out.mono HB.out.size))
            have HA4 := Lib.hid (show ∀ j, blkOf A4 = some j → ¬ S j from fun j hj hs => by
              have h1 := (ho.out.blk j hj).1
              have h2 := HM.out.lt j hs
              omega)
            have HO4 := Lib.hid (ho.out.mono (Nat.zero_le _))
            clear ho hb4
            go_wp2_with fail
            refine (count_is g s S cn HCN w4 HM4).mono ?_
            rintro x _ ⟨rfl, rfl⟩
            go_wp2_with fail
            refine (begun_is g s S kn HKN w4 HM4).mono ?_
            rintro x _ ⟨rfl, rfl⟩
            go_wp2_with fail
            refine (stopped_is g s S r HR w4 HM4).mono ?_
            rintro x _ ⟨rfl, rfl⟩
            go_wp2_with fail
            go_loopw [72] (fun i wr2 => ∃ (k2 : Nat) (S2 : Nat → Prop), k2 ≤ m ∧ i = .int .i64 k2 ∧ Hid (MkB wr2 g s S2) ∧ Hid (∀ j, blkOf A4 = some j → ¬ S2 j) ∧ Hid (∀ j, S2 j → w.heap.size ≤ j) ∧ Hid (SlOwn wr2 0 9 A4 q c4 (strs s.rc)) ∧ Hid (Below w.heap.size w wr2)) (fun i _ => m - (intOf i).toNat)
            case atStart => exact ⟨0, S, Nat.zero_le _, rfl, HM4, HA4, HS, HO4, HB4⟩
            case round =>
              clear HM4 HA4 HS HO4 HB4 HM HB
              obtain ⟨k2, S2, hk2, rfl, HM, HA, HS, HO, HB⟩ := hrel
              by_cases hlt : k2 < m
              · obtain ⟨⟨bg, ad, fi, li, re, pb⟩, hx⟩ : ∃ x, l2[k2]? = some x := ⟨_, List.getElem?_eq_getElem (by rw [HL2.out]; exact hlt)⟩
                obtain ⟨a, rfl, y0, y1, y2, y3, y4, y5⟩ := ev_at6 (HIN2.out.below HB.out) hx
                obtain ⟨b0, b1⟩ := HBB2.out _ (List.mem_of_getElem? hx)
                dsimp only at b0 b1
                clear hx
                have HM' := Lib.hid (HM.out.below ((Below.refl _ wr).alloc (Nat.le_refl _) (.cells #[.bool bg, .bool ad, .bool fi, .bool li, .bool re, .int .u8 pb] 31)))
                go_wp2_with fail
                refine (take_stopped g bg ad fi li re pb s S2 k (by omega) HOK r HR H0 b0 b1 _ HM').mono ?_
                rintro x w5 ⟨A5, c5, rfl, ht⟩
                obtain ⟨S3, m3, t3, u3⟩ := Turned.from_alloc_h ht
                have M3 := Lib.hid m3
                have S3' := Lib.hid (show ∀ j, S3 j → w.heap.size ≤ j from fun j hj => by
                  rcases u3 j hj with h | h
                  · exact HS.out j h
                  · have := HB.out.size; omega)
                have A3' := Lib.hid (show ∀ j, blkOf A4 = some j → ¬ S3 j from fun j hj hs => by
                  rcases u3 j hs with h | h
                  · exact HA.out j hj h
                  · have := (HO.out.blk j hj).2; omega)
                have B3 := Lib.hid (HB.out.trans (t3.below HB.out.size HS.out))
                have O3 := Lib.hid (HO.out.touch t3 HA.out)
                clear ht m3 t3 u3 y0 y1 y2 y3 y4 y5
                go_wp2_with fail
                go_roundw
                case rel => exact ⟨k2 + 1, S3, by omega, by go_num, M3, A3', S3', O3, B3⟩
                case measure => simp [intOf]; omega
              · obtain rfl : k2 = m := by omega
                clear hlt
                have hte : (t.toList == t.toList) = true := by simp
                go_wp2_with fail
                refine (open_is g s S2 hqs q t HQ HT wr HM).mono ?_
                rintro x w6 ⟨A6, c6, rfl, ho, hb6⟩
                have HM6 := Lib.hid (HM.out.below hb6.out)
                have HB6 := Lib.hid (HB.out.trans (hb6.out.mono HB.out.size))
                have HO6 := Lib.hid ho.out.toIn
                have HO4 := Lib.hid (HO.out.below hb6.out).toIn
                clear ho hb6
                go_wp2_with fail
                refine (above (same_yes A4 A6 q c4 c6 s.rc w6 HO4.out HO6.out hqq)).mono ?_
                rintro x _ ⟨rfl, z, rfl⟩
                have HM7 := Lib.hid (HM6.out.below (onto_below w6 z))
                go_wp2_with fail
                refine (count_is g s S2 cn HCN _ HM7).mono ?_
                rintro x _ ⟨rfl, rfl⟩
                go_wp2_with fail
                refine (begun_is g s S2 kn HKN _ HM7).mono ?_
                rintro x _ ⟨rfl, rfl⟩
                go_wp2_with (go_at_call 7; ((with_reducible refine (above (awake_any _)).mono ?_); rintro x _ ⟨rfl, y2, rfl⟩))
                go_ret
                exact ⟨rfl, HB6.out.trans (((onto_below w6 z).trans ((onto_below _ y2).mono (onto_size w6 z))).mono HB6.out.size)⟩
end Go.Proofs.Ytghlacpjnehdfaa

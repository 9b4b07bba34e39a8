/- Layer 5: the walk of the statement FieldsWide. -/
import Derived.Test.YtghlacpjnehdfaaFim
namespace Go.Proofs.Ytghlacpjnehdfaa
open Go.ChangeShapes Go.WideShapes Go.ChangeAt Go.RowKit
set_option linter.unusedVariables false
set_option linter.unusedSimpArgs false

theorem infoEv : (Try.prog.info? 31).map (·.size) = some 6 := by kernel_rfl
/-- take_is within wide limits. -/
theorem take_wide (g : Nat) (bg ad fi li re : Bool) (pb : Int) (s : Mk) (S : Nat → Prop) (N : Nat) (hN : N ≤ 400) (ok : Hid (s.Ok N)) (hw : Hid (Wide s)) (b0 : 0 ≤ pb) (b1 : pb ≤ 255) (w : World) (h : Hid (MkB w g s S)) :
    Calls Try.prog 8 #[.pointer (some ⟨g, 0, none⟩), .agg #[.bool bg, .bool ad, .bool fi, .bool li, .bool re, .int .u8 pb]] w fun x w' => ∃ A c, x = .returned (.tuple #[.slice A (wRec ⟨bg, ad, fi, li, re, pb⟩ s).length c, .bool re, .int .i64 0]) ∧ Hid (Handed A c (wRec ⟨bg, ad, fi, li, re, pb⟩ s) g (wTake ⟨bg, ad, fi, li, re, pb⟩ s) S w w') := by
  obtain ⟨h1, h2, h3, h4, h5, h6⟩ := wide_take hw.out ok.out hN ⟨bg, ad, fi, li, re, pb⟩
  exact take_is g ⟨bg, ad, fi, li, re, pb⟩ s S N (by omega) ok b0 b1 _ _ _ _ 0 (Lib.hid h1) (Lib.hid h2) (Lib.hid rfl) (Lib.hid h3) (Lib.hid h6) w h

set_option maxHeartbeats 3200000 in
theorem wide_walk (A : Option Addr) (n c : Nat) (l : List Ev) (w : World) (nc : n ≤ c) (cm : c ≤ maxLen) (hin : SlIn w A (n * 6) (flat l)) (hb : ∀ x ∈ l, 0 ≤ x.b ∧ x.b ≤ 255) :
    Calls Try.prog 3 #[.slice A n c] w fun e w' => e = .returned (.bool true) ∧ Below w.heap.size w w' := by
  have HY := Lib.hid (show (withinB 1000 && (withinB 1000 && withinB 1000)) = true by decide)
  have hl : l.length = n := by have := hin.1; rw [flat_length] at this; omega
  have HIN := Lib.hid hin
  have HL := Lib.hid hl
  have HBB := Lib.hid hb
  have hi6 := Lib.hid infoEv
  unfold maxLen at cm
  clear hin hl hb
  by_cases hn : 150 < n
  · have hd : decide (150 < (n : Int)) = true := by rw [decide_eq_true_eq]; omega
    go_enter Try.func3, Try.ntmps3
    go_wp2_with fail
    refine (new_yes 1000 1000 1000 false HY w).mono ?_
    rintro x w1 ⟨g, S0, rfl, m0, hS0, hb0⟩
    go_wp2_with fail
    refine (awake_any _).mono ?_
    rintro x w2 ⟨rfl, hb2⟩
    go_wp2_with fail
    go_ret
    exact ⟨rfl, hb0.out.trans (hb2.mono hb0.out.size)⟩
  · have hd : decide (150 < (n : Int)) = false := by rw [decide_eq_false_iff_not]; omega
    go_enter Try.func3, Try.ntmps3
    go_wp2_with fail
    refine (new_yes 1000 1000 1000 false HY w).mono ?_
    rintro x w1 ⟨g, S0, rfl, m0, hS0, hb0⟩
    go_wp2_with fail
    go_loopw [37] (fun i wr => ∃ (k : Nat) (s : Mk) (S : Nat → Prop), k ≤ n ∧ i = .int .i64 k ∧ Hid (MkB wr g s S) ∧ Hid (Wide s) ∧ Hid (s.Ok k) ∧ Hid (∀ j, S j → w.heap.size ≤ j) ∧ Hid (Below w.heap.size w wr)) (fun i _ => n - (intOf i).toNat)
    case atStart => exact ⟨0, _, S0, Nat.zero_le _, rfl, m0, Lib.hid wide_mk0, Lib.hid (mk0_ok _ _ _ _ HY.out), hS0, hb0⟩
    case round =>
      obtain ⟨k, s, S, hk, rfl, HM, HW, HOK, HS, HB⟩ := hrel
      by_cases hlt : k < n
      · obtain ⟨⟨bg, ad, fi, li, re, pb⟩, hx⟩ : ∃ x, l[k]? = some x := ⟨_, List.getElem?_eq_getElem (by rw [HL.out]; exact hlt)⟩
        obtain ⟨a, rfl, y0, y1, y2, y3, y4, y5⟩ := ev_at6 (HIN.out.below HB.out) hx
        obtain ⟨b0, b1⟩ := HBB.out _ (List.mem_of_getElem? hx)
        dsimp only at b0 b1
        clear hx
        obtain ⟨_, _, _, h4, h5, h6⟩ := wide_take HW.out HOK.out (by omega) ⟨bg, ad, fi, li, re, pb⟩
        have HW' := Lib.hid h4
        have HOK' := Lib.hid h5
        clear h4 h5 h6
        have HM' := Lib.hid (HM.out.below ((Below.refl _ wr).alloc (Nat.le_refl _) (.cells #[.bool bg, .bool ad, .bool fi, .bool li, .bool re, .int .u8 pb] 31)))
        go_wp2_with fail
        refine (take_wide g bg ad fi li re pb s S k (by omega) HOK HW b0 b1 _ HM').mono ?_
        rintro x w3 ⟨A3, c3, rfl, hh⟩
        obtain ⟨_, S3, m3, t3, u3, _⟩ := (Handed.from_alloc hh.out)
        have M3 := Lib.hid m3
        have S3' := Lib.hid (show ∀ j, S3 j → w.heap.size ≤ j from fun j hj => by
          rcases u3 j hj with h | h
          · exact HS.out j h
          · have := HB.out.size; omega)
        have B3 := Lib.hid (HB.out.trans (t3.below HB.out.size HS.out))
        clear hh m3 t3 u3 y0 y1 y2 y3 y4 y5
        go_wp2_with fail
        go_roundw
        case rel => exact ⟨k + 1, _, S3, by omega, by go_num, M3, HW', HOK', S3', B3⟩
        case measure => simp [intOf]; omega
      · have hE := Lib.hid HW.out.er
        obtain rfl : k = n := by omega
        clear hlt
        go_wp2_with fail
        refine (stopped_is g s S 0 hE wr HM).mono ?_
        rintro x _ ⟨rfl, rfl⟩
        go_wp2_with fail
        refine (awake_any _).mono ?_
        rintro x w2 ⟨rfl, hb2⟩
        go_wp2_with fail
        go_ret
        exact ⟨rfl, HB.out.trans (hb2.mono HB.out.size)⟩
end Go.Proofs.Ytghlacpjnehdfaa

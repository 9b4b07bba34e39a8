/- Layer 5: the walk of the statement FieldsOwn. -/
import Derived.Test.YtghlacpjnehdfaaFis
import Derived.Test.YtghlacpjnehdfaaFin
import Derived.Test.YtghlacpjnehdfaaKit2
namespace Go.Proofs.Ytghlacpjnehdfaa
open Go.ChangeShapes Go.WideShapes Go.ChangeAt Go.RowKit
set_option linter.unusedVariables false
set_option linter.unusedSimpArgs false

set_option maxHeartbeats 12800000 in
set_option maxRecDepth 100000 in
theorem own_walk (A : Option Addr) (n c : Nat) (l : List Ev) (w : World) (nc : n ≤ c) (cm : c ≤ maxLen) (hin : SlIn w A (n * 6) (flat l)) (hb : ∀ x ∈ l, 0 ≤ x.b ∧ x.b ≤ 255) :
    Calls Try.prog 5 #[.slice A n c] w fun e w' => e = .returned (.bool true) ∧ Below w.heap.size w w' := by
  have HY := Lib.hid (show (withinB 1000 && (withinB 1000 && withinB 1000)) = true by decide)
  have hl : l.length = n := by have := hin.1; rw [flat_length] at this; omega
  have HIN := Lib.hid hin
  have HL := Lib.hid hl
  have HBB := Lib.hid hb
  unfold maxLen at cm
  clear hin hl hb
  by_cases hn : 150 < n
  · have hd : decide (150 < (n : Int)) = true := by rw [decide_eq_true_eq]; omega
    go_enter Try.func5, Try.ntmps5
    go_wp2_with fail
    refine (new_yes 1000 1000 1000 false HY _).mono ?_
    rintro x w1 ⟨g, S0, rfl, m0, hS0, hb0⟩
    have hb1 := Lib.hid (up_call0 (up_alloc (Below.refl _ w) _) hb0.out)
    clear hb0
    go_wp2_with fail
    refine (awake_any _).mono ?_
    rintro x w2 ⟨rfl, hb2⟩
    go_wp2_with fail
    go_ret
    exact ⟨rfl, hb1.out.trans (hb2.mono hb1.out.size)⟩
  · have hd : decide (150 < (n : Int)) = false := by rw [decide_eq_false_iff_not]; omega
    have hn' : n ≤ 150 := by omega
    go_enter Try.func5, Try.ntmps5
    go_wp2_with fail
    refine (new_yes 1000 1000 1000 false HY _).mono ?_
    rintro x w1 ⟨g, S0, rfl, m0, hS0, hb0⟩
    have hb1 := Lib.hid (up_call0 (up_alloc (Below.refl _ w) _) hb0.out)
    have hS1 := Lib.hid (show ∀ j, S0 j → w.heap.size ≤ j from fun j hj => by have := hS0.out j hj; simp at this; omega)
    have c0 : w1.cell? ⟨w.heap.size, 0, none⟩ = some (.int .i64 1000) := (hb0.out.cell (p := ⟨w.heap.size, 0, none⟩) (by simp)).trans (by simp [go_sem])
    have c1 : w1.cell? ⟨w.heap.size, 1, none⟩ = some (.int .i64 1000) := (hb0.out.cell (p := ⟨w.heap.size, 1, none⟩) (by simp)).trans (by simp [go_sem])
    have c2 : w1.cell? ⟨w.heap.size, 2, none⟩ = some (.int .i64 1000) := (hb0.out.cell (p := ⟨w.heap.size, 2, none⟩) (by simp)).trans (by simp [go_sem])
    have c3 : w1.cell? ⟨w.heap.size, 3, none⟩ = some (.bool false) := (hb0.out.cell (p := ⟨w.heap.size, 3, none⟩) (by simp)).trans (by simp [go_sem])
    clear hb0 hS0
    go_wp2_with fail
    refine (above (refLimits_any 1000 1000 1000 false w1)).mono ?_
    rintro x _ ⟨rfl, y, rfl⟩
    go_wp2_with fail
    have HO := Lib.hid (show OwnAt w ((onto w1 y).alloc (.cells (rkCells (mk0 1000 1000 1000 false) none 0) 47)) g (onto w1 y).heap.size (mk0 1000 1000 1000 false) (mk0 1000 1000 1000 false) S0 (fun k => k = (onto w1 y).heap.size ∨ blkOf none = some k) from by
      have hz := onto_size w1 y
      have hz1 := hb1.out.size
      refine ⟨m0.out.below (up_alloc (onto_below w1 y) _), ⟨none, 0, StB.new _ _ _, SlOwn.nothing _ _ _, fun k => Iff.rfl⟩, hS1.out, fun j hj => ?_, fun j hj h2 => ?_, up_alloc (hb1.out.trans ((onto_below w1 y).mono hb1.out.size)) _⟩
      · rcases hj with rfl | hj
        · omega
        · cases hj
      · have := m0.out.lt j hj
        rcases h2 with rfl | h2
        · omega
        · cases h2)
    clear c0 c1 c2 c3 hb1 hS1 m0
    obtain ⟨h, hh⟩ : ∃ h, h = (onto w1 y).heap.size := ⟨_, rfl⟩
    rw [← hh] at HO
    rw [← hh]
    have HH := Lib.hid hh
    clear hh
    go_loopw [52] (fun i wr => ∃ (k : Nat) (s : Mk) (S S2 : Nat → Prop), k ≤ n ∧ i = .int .i64 k ∧ Hid (OwnAt w wr g h s s S S2) ∧ Hid (Wide s) ∧ Hid (s.Ok k)) (fun i _ => n - (intOf i).toNat)
    case atStart => exact ⟨0, _, S0, _, Nat.zero_le _, rfl, HO, Lib.hid wide_mk0, Lib.hid (mk0_ok _ _ _ _ HY.out)⟩
    case round =>
      clear HO HH
      obtain ⟨k, s, S, S2, hk, rfl, HO, HW, HOK⟩ := hrel
      by_cases hlt : k < n
      · obtain ⟨⟨bg, ad, fi, li, re, pb⟩, hx⟩ : ∃ x, l[k]? = some x := ⟨_, List.getElem?_eq_getElem (by rw [HL.out]; exact hlt)⟩
        obtain ⟨a, rfl, y0, y1, y2, y3, y4, y5⟩ := ev_at6 (HIN.out.below HO.out.below) hx
        obtain ⟨b0, b1⟩ := HBB.out _ (List.mem_of_getElem? hx)
        dsimp only at b0 b1
        clear hx
        obtain ⟨_, _, _, h4, h5, h6⟩ := wide_take HW.out HOK.out (by omega) ⟨bg, ad, fi, li, re, pb⟩
        have hlen := wrec_le HW.out HOK.out (by omega) ⟨bg, ad, fi, li, re, pb⟩
        obtain ⟨s', hs'⟩ : ∃ s', wTake ⟨bg, ad, fi, li, re, pb⟩ s = s' := ⟨_, rfl⟩
        obtain ⟨rl, hrl⟩ : ∃ rl, wRec ⟨bg, ad, fi, li, re, pb⟩ s = rl := ⟨_, rfl⟩
        obtain ⟨rn, hrn⟩ : ∃ rn, rl.length = rn := ⟨_, rfl⟩
        rw [hs'] at h4 h5
        rw [hrl, hrn] at hlen
        have HSN := Lib.hid hs'
        have HRL := Lib.hid hrl
        have HRN := Lib.hid hrn
        have HW' := Lib.hid h4
        have HOK' := Lib.hid h5
        clear h4 h5 h6 hs' hrl hrn
        have HM' := Lib.hid (HO.out.mm.below ((Below.refl _ wr).alloc (Nat.le_refl _) (.cells #[.bool bg, .bool ad, .bool fi, .bool li, .bool re, .int .u8 pb] 31)))
        go_wp2_with fail
        refine (take_let g bg ad fi li re pb s s' rl rn HSN HRL HRN S k (by omega) HOK HW b0 b1 _ HM').mono ?_
        rintro x w3 ⟨A3, c3, rfl, hh⟩
        have hst : StB w3 wr.heap.size 31 #[.bool bg, .bool ad, .bool fi, .bool li, .bool re, .int .u8 pb] := by
          obtain ⟨_, S9, _, t9, _, _⟩ := hh.out
          exact (StB.new wr _ _).touch t9 fun hs => by have := HO.out.mm.lt _ hs; omega
        obtain ⟨S3, o3, own3, ap3⟩ := HO.out.take hh.out.from_alloc
        rw [HRN.out] at own3
        have O3 := Lib.hid o3
        have W3 := Lib.hid own3
        have P3 := Lib.hid ap3
        have e0 : w3.cell? ⟨wr.heap.size, 0, none⟩ = some (.bool bg) := hst.cell 0
        have e1 : w3.cell? ⟨wr.heap.size, 1, none⟩ = some (.bool ad) := hst.cell 1
        have e2 : w3.cell? ⟨wr.heap.size, 2, none⟩ = some (.bool fi) := hst.cell 2
        have e3 : w3.cell? ⟨wr.heap.size, 3, none⟩ = some (.bool li) := hst.cell 3
        have e4 : w3.cell? ⟨wr.heap.size, 4, none⟩ = some (.bool re) := hst.cell 4
        have e5 : w3.cell? ⟨wr.heap.size, 5, none⟩ = some (.int .u8 pb) := hst.cell 5
        clear hh hst o3 own3 ap3 y0 y1 y2 y3 y4 y5
        go_wp2_with fail
        refine (above (refEv_any bg ad fi li re pb b0 b1 w3)).mono ?_
        rintro x _ ⟨rfl, z, rfl⟩
        have O3' := Lib.hid (O3.out.later (onto_below w3 z))
        have W3' := Lib.hid (W3.out.below (onto_below w3 z))
        have R3 := Lib.hid O3'.out.rk
        go_wp2_with fail
        refine (rtake_let h bg ad fi li re pb s s' rl rn HSN HRL HRN S2 k (by omega) HOK HW b0 b1 _ R3).mono ?_
        rintro x w4 ⟨A4, c4, rfl, hh⟩
        obtain ⟨S4, o4, own4, ap4, own5⟩ := O3'.out.rtake W3'.out P3.out hh.out
        rw [HRN.out] at own5
        have O4 := Lib.hid o4
        have W4 := Lib.hid own4
        have P4 := Lib.hid ap4
        have I5 := Lib.hid own5.toIn
        have I4 := Lib.hid own4.toIn
        clear hh o4 own4 ap4 own5 e0 e1 e2 e3 e4 e5 O3 W3 P3 O3' W3' R3
        go_wp2_with fail
        refine (above (same_yes A3 A4 rn c3 c4 rl w4 I4.out I5.out (by omega))).mono ?_
        rintro x _ ⟨rfl, z2, rfl⟩
        have O5 := Lib.hid (O4.out.later (onto_below w4 z2))
        have W5 := Lib.hid (W4.out.below (onto_below w4 z2))
        clear O4 W4 I4 I5
        go_wp2_with fail
        go_loopw [76] (fun i wr2 => ∃ (k2 : Nat) (xs : List Value), k2 ≤ rn ∧ i = .int .i64 k2 ∧ Hid (OwnAt w wr2 g h s' s' S3 S4) ∧ Hid (SlOwn wr2 0 9 A3 rn c3 xs)) (fun i _ => rn - (intOf i).toNat)
        case atStart => exact ⟨0, _, Nat.zero_le _, rfl, O5, W5⟩
        case round =>
          clear O5 W5
          obtain ⟨k2, xs, hk2, rfl, O6, W6⟩ := hrel
          by_cases hlt2 : k2 < rn
          · obtain ⟨q, u, rfl, _, hq, _, hc, hf⟩ := W6.out.cellAt hlt2
            go_wp2_with fail
            go_roundw
            case rel => exact ⟨k2 + 1, _, by omega, by go_num, Lib.hid (O6.out.store W6.out P4.out hlt2 _).1, Lib.hid (O6.out.store W6.out P4.out hlt2 _).2⟩
            case measure => simp [intOf]; omega
          · obtain rfl : k2 = rn := by omega
            clear hlt2
            obtain ⟨on, hon⟩ : ∃ on, s'.rc.length = on := ⟨_, rfl⟩
            have HON := Lib.hid hon
            have hqs : s'.rc.length ≤ 1000000 := by have := HOK'.out.rcN; omega
            have hon1 : on ≤ 1000000 := by omega
            clear hon
            have M6 := Lib.hid O6.out.mm
            go_wp2_with fail
            refine (open_is g s' S3 hqs on _ HON (Lib.hid rfl) _ M6).mono ?_
            rintro x w7 ⟨A7, c7, rfl, ho, hb7⟩
            obtain ⟨o7, own7, ap7⟩ := O6.out.opened ho.out hb7.out
            have O7 := Lib.hid o7
            have W7 := Lib.hid own7
            have P7 := Lib.hid ap7
            clear ho hb7 o7 own7 ap7 O6 W6 M6
            go_wp2_with fail
            go_loopw [90] (fun i wr3 => ∃ (k3 : Nat) (xs : List Value), k3 ≤ on ∧ i = .int .i64 k3 ∧ Hid (OwnAt w wr3 g h s' s' S3 S4) ∧ Hid (SlOwn wr3 0 9 A7 on c7 xs)) (fun i _ => on - (intOf i).toNat)
            case atStart => exact ⟨0, _, Nat.zero_le _, rfl, O7, W7⟩
            case round =>
              clear O7 W7
              obtain ⟨k3, xs, hk3, rfl, O8, W8⟩ := hrel
              by_cases hlt3 : k3 < on
              · obtain ⟨q, u, rfl, _, hq, _, hc, hf⟩ := W8.out.cellAt hlt3
                go_wp2_with fail
                go_roundw
                case rel => exact ⟨k3 + 1, _, by omega, by go_num, Lib.hid (O8.out.store W8.out P7.out hlt3 _).1, Lib.hid (O8.out.store W8.out P7.out hlt3 _).2⟩
                case measure => simp [intOf]; omega
              · obtain rfl : k3 = on := by omega
                clear hlt3
                go_wp2_with fail
                go_roundw
                case rel => exact ⟨k + 1, s', S3, S4, by omega, by go_num, O8, HW', HOK'⟩
                case measure => simp [intOf]; omega
      · obtain rfl : k = n := by omega
        clear hlt
        obtain ⟨on, hon⟩ : ∃ on, s.rc.length = on := ⟨_, rfl⟩
        have HON := Lib.hid hon
        have hqs : s.rc.length ≤ 1000000 := by have := HOK.out.rcN; omega
        have hon1 : on ≤ 1000000 := by omega
        clear hon
        have M6 := Lib.hid HO.out.mm
        go_wp2_with fail
        refine (open_is g s S hqs on _ HON (Lib.hid rfl) _ M6).mono ?_
        rintro x w7 ⟨A7, c7, rfl, ho, hb7⟩
        obtain ⟨o7, own7, ap7⟩ := HO.out.opened ho.out hb7.out
        have O7 := Lib.hid o7
        have I7 := Lib.hid own7.toIn
        obtain ⟨B, d, k1, k3, k4⟩ := o7.rk
        have hg := k1.lt
        have v5 : w7.cell? ⟨h, 5, none⟩ = some (.slice B on d) := by have := k1.cell 5; rw [this, ← HON.out]; rfl
        have I8 := Lib.hid (show SlIn w7 B on (strs s.rc) by have := k3.toIn; rw [HON.out] at this; exact this)
        clear ho hb7 o7 own7 ap7 M6 k1 k3 k4
        go_wp2_with fail
        refine (above (same_yes A7 B on c7 d s.rc w7 I7.out I8.out hon1)).mono ?_
        rintro x _ ⟨rfl, z2, rfl⟩
        go_wp2_with fail
        refine (above (awake_any _)).mono ?_
        rintro x _ ⟨rfl, z3, rfl⟩
        go_wp2_with fail
        go_ret
        have O9 := (O7.out.later (onto_below w7 z2)).later (onto_below (onto w7 z2) z3)
        exact ⟨rfl, O9.below⟩
end Go.Proofs.Ytghlacpjnehdfaa

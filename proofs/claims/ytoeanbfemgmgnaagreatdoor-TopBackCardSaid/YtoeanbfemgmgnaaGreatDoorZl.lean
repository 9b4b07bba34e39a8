/- Layer 10: the program's line, Line. Layer 10: the program's Line and Table. -/
import Derived.Test.YtoeanbfemgmgnaaGreatDoorZz
import Derived.Test.YtoeanbfemgmgnaaGreatDoorZk
import Derived.Test.YtoeanbfemgmgnaaGreatDoorZy
namespace Go.Proofs.YtoeanbfemgmgnaaGreatDoor
open Go.ChangeShapes Go.WideShapes Go.ChangeAt Go.RowKit
set_option linter.unusedVariables false
set_option linter.unusedSimpArgs false

theorem nums_data (s : ByteArray) : nums s.data.toList = bl s := rfl
theorem cells_str (acc : List UInt8) (s : ByteArray) : Lib.byteCells acc ++ Lib.strCells s = Lib.byteCells (acc ++ s.data.toList) := by rw [Lib.strCells_eq, ← Lib.byteCells_append]
theorem cells_byte {d : Int} (d0 : 0 ≤ d) (d1 : d ≤ 255) (acc : List UInt8) : Lib.byteCells acc ++ [.int .u8 d] = Lib.byteCells (acc ++ [UInt8.ofNat d.toNat]) := by
  rw [Lib.byteCells_append]
  congr 1
  show _ = [Value.int .u8 ((UInt8.ofNat d.toNat).toNat : Int)]
  rw [byte_back d0 d1]
theorem nums_byte {d : Int} (d0 : 0 ≤ d) (d1 : d ≤ 255) (acc : List UInt8) : nums (acc ++ [UInt8.ofNat d.toNat]) = nums acc ++ [d] := by
  rw [nums_append]
  congr 1
  show [((UInt8.ofNat d.toNat).toNat : Int)] = _
  rw [byte_back d0 d1]
theorem wri_bare {d q : Int} {s : ByteArray} {al fi : Bool} (h : needB d q s al fi = false) : wriL d q (bl s) al fi = bl s := by
  unfold needB at h; unfold wriL
  rw [if_pos (by simpa using h)]
theorem wri_quo {d q : Int} (q0 : 0 ≤ q) (q1 : q ≤ 255) {s : ByteArray} {al fi : Bool} (h : needB d q s al fi = true) : wriL d q (bl s) al fi = bl (quoO q s) := by
  unfold needB at h; unfold wriL
  rw [if_neg (by simpa using h), bl_quoO q0 q1]

set_option maxRecDepth 100000 in
set_option maxHeartbeats 3200000 in
theorem line_own (d q e : Int) (d0 : 0 ≤ d) (d1 : d ≤ 255) (q0 : 0 ≤ q) (q1 : q ≤ 255) (hr : rightB d q e = true) (l : List ByteArray) (A : Option Addr) (n c : Nat) (fi : Bool) (w : World) (hn : n ≤ 1000) (hsz : lenL l ≤ 1000) (hin : Hid (SlIn w A n (strs l))) :
    Calls Tryz.prog 38 #[.agg #[.int .u8 d, .int .u8 q, .int .i64 e], .slice A n c, .bool fi] w fun x w' => x = .returned (.string (lineO d q e fi l)) ∧ Below w.heap.size w w' := by
  have HLN := Lib.hid hin.out.lenS
  have HR := Lib.hid hr
  have HSZ := Lib.hid hsz
  obtain ⟨L, hL⟩ : ∃ L, L = needL d q fi n 0 l := ⟨_, rfl⟩
  have HLL := Lib.hid (show L.length = n by rw [hL, needL_length]; exact HLN.out)
  have HLA := Lib.hid (fun k s (h : l[k]? = some s) => by have := needL_at d q fi n l 0 k s h; rw [← hL, Nat.zero_add] at this; exact this)
  obtain ⟨al, hal⟩ : ∃ al, decide (n = 1) = al := ⟨_, rfl⟩
  have HAL := Lib.hid hal
  have HPN := Lib.hid (show lineN d q e fi l = preL d q al fi l n ++ endL e by rw [lineN_pre, HLN.out, ← hal])
  obtain ⟨b, hb⟩ : ∃ b, b = w.heap.size + 1 := ⟨_, rfl⟩
  obtain ⟨W0, hW0⟩ : ∃ W0, W0 = w.alloc (.cells #[.int .u8 d, .int .u8 q, .int .i64 e] 23) := ⟨_, rfl⟩
  obtain ⟨W1, hW1⟩ : ∃ W1, W1 = W0.alloc (.cells #[.pointer none, .slice none 0 0] 105) := ⟨_, rfl⟩
  have hs0 : W0.heap.size = b := by rw [hW0, hb]; simp
  have hs1 : W1.heap.size = b + 1 := by rw [hW1, World.size_alloc, hs0]
  have HX0 := Lib.hid (show StB W0 w.heap.size 23 #[.int .u8 d, .int .u8 q, .int .i64 e] by rw [hW0]; exact StB.new _ _ _)
  have HB0 := Lib.hid (show Below w.heap.size w W0 by rw [hW0]; exact up_alloc (Below.refl _ w) _)
  have HI1 := Lib.hid (show Lib.IsBuilderF 105 5 b b (Lib.byteCells []) W1 by rw [hW1, ← hs0]; exact Lib.IsBuilderF.of (Lib.fresh_isBuilder _ _ W0))
  have HB1 := Lib.hid (show Below b W0 W1 by rw [hW1, ← hs0]; exact (Below.refl _ W0).alloc (Nat.le_refl _) _)
  have HIN1 := Lib.hid (hin.out.below (HB0.out.trans (HB1.out.mono (by rw [← hs0]; exact HB0.out.size))))
  have HOK := Lib.hid (show ∀ x ∈ l, x.size ≤ 1000000 from fun x hx => by have := lenL_mem hx; have := HSZ.out; omega)
  have HF := Lib.hid (fields_own d q e l A n c fi W1 d0 d1 q0 q1 HR.out HIN1 hn HOK)
  rw [← hL] at HF
  clear hr hsz hL hal HIN1 HOK
  go_enter Tryz.func38, Tryz.ntmps38
  go_wp2_with fail
  rw [← hW0, ← hW1, ← hb]
  clear hW0 hW1 hb
  refine HF.out.mono ?_
  rintro x w2 ⟨O, co, rfl, HO, HB⟩
  have HI2 := Lib.hid (builder_below HI1.out HB.out)
  have HB2 := Lib.hid (HB1.out.trans (HB.out.mono (by rw [hs1]; omega)))
  rw [hs1] at HO
  clear HI1 HB1 HF HB hs1
  go_wp2_with fail
  go_loopw [15] (fun i wr => ∃ (k : Nat) (acc : List UInt8), k ≤ n ∧ i = .int .i64 k ∧ acc.length ≤ 2003 * k ∧ Hid (Lib.IsBuilderF 105 5 b b (Lib.byteCells acc) wr) ∧ Hid (SlOwn wr (b + 1) 4 O n co (bools L)) ∧ Hid (Below b W0 wr) ∧ Hid (nums acc = preL d q al fi l k)) (fun i _ => n - (intOf i).toNat)
  case atStart => exact ⟨0, [], Nat.zero_le _, rfl, Nat.le_refl _, HI2, HO, HB2, Lib.hid rfl⟩
  case round =>
    obtain ⟨k, acc, hk, rfl, hal, HI, HS, HB, HP⟩ := hrel
    obtain ⟨W, hW⟩ : ∃ W, W = wr := ⟨_, rfl⟩
    subst hW
    clear HI2 HO HB2
    have HW0 := Lib.hid (show Below W0.heap.size W0 W by rw [hs0]; exact HB.out)
    have HWw := Lib.hid (show Below w.heap.size w W from HB0.out.trans (HW0.out.mono HB0.out.size))
    have hbW : b ≤ W.heap.size := by rw [← hs0]; exact HB.out.size
    by_cases hlt : k < n
    · obtain ⟨s, hs⟩ : ∃ s, l[k]? = some s := ⟨_, List.getElem?_eq_getElem (by rw [HLN.out]; exact hlt)⟩
      obtain ⟨a, rfl, hca⟩ := hin.out.at_ (strs_get hs)
      have hsz : s.size ≤ 1000 := by have := lenL_mem (List.mem_of_getElem? hs); have := HSZ.out; omega
      obtain ⟨V, hV⟩ : ∃ V, needB d q s al (fi && decide (k = 0)) = V := ⟨_, rfl⟩
      have hLk : L[k]? = some V := by rw [HLA.out k s hs, HAL.out, hV]
      obtain ⟨g, u, rfl, hg, hgs, hxu, hcu, hfu⟩ := HS.out.cellAt hlt
      obtain rfl : u = .bool V := by
        unfold bools at hxu
        rw [List.getElem?_map, hLk] at hxu
        exact (Option.some.inj hxu).symm
      have HPS := Lib.hid (preL_succ (d := d) (q := q) (al := al) (fi := fi) hs)
      have HV := Lib.hid hV
      have HCA := Lib.hid (show ∀ W', Below w.heap.size w W' → W'.cell? (a.add k) = some (.string s) from fun W' hb' => mem_cell hb' hca)
      have HXA := Lib.hid (show ∀ W', Below W0.heap.size W0 W' → StB W' w.heap.size 23 #[.int .u8 d, .int .u8 q, .int .i64 e] from fun W' hb' => HX0.out.below hb')
      have k0 : W.cell? ⟨w.heap.size, 0, none⟩ = some (.int .u8 d) := (HXA.out W HW0.out).cell 0
      have k1 : W.cell? ⟨w.heap.size, 1, none⟩ = some (.int .u8 q) := (HXA.out W HW0.out).cell 1
      have k2 : W.cell? ⟨w.heap.size, 2, none⟩ = some (.int .i64 e) := (HXA.out W HW0.out).cell 2
      have ya : W.cell? (a.add k) = some (.string s) := HCA.out W HWw.out
      clear hs hca hV hLk hxu hfu hg hgs
      by_cases hk0 : k = 0
      · have hgt : decide ((0 : Int) < (k : Int)) = false := by rw [decide_eq_false_iff_not]; omega
        have hgt2 : decide (0 < k) = false := by rw [decide_eq_false_iff_not]; omega
        have HE := Lib.hid (show preL d q al fi l (k + 1) = wriL d q (bl s) al fi by rw [HPS.out, if_pos hk0])
        have HV0 := Lib.hid (show needB d q s al fi = V by have := HV.out; rw [decide_eq_true hk0, Bool.and_true] at this; exact this)
        have HAC := Lib.hid (show acc = [] by
          have := HP.out
          rw [hk0, preL_zero] at this
          cases acc with
          | nil => rfl
          | cons x y => cases this)
        clear HPS HV hk0
        cases V
        · go_wp2_with fail
          refine (writeString_k b b _ s W HI.out (by rw [Lib.byteCells_length]; omega) hbW).mono ?_
          rintro x w4 ⟨rfl, h4, hb4, ho4⟩
          rw [cells_str] at h4
          have HI4 := Lib.hid (Or.inr h4 : Lib.IsBuilderF 105 5 b b _ w4)
          have HS4 := Lib.hid (own_kept HS.out ho4 (by decide) (by omega))
          have HB4 := Lib.hid (HB.out.trans hb4)
          clear h4 hb4 ho4
          go_wp2_with fail
          go_roundw
          case measure => simp [intOf]; omega
          case rel => exact ⟨k + 1, _, by omega, by go_num, (by rw [List.length_append, ← Lib.size_eq]; omega), HI4, HS4, HB4, Lib.hid (by rw [HE.out, wri_bare HV0.out, HAC.out]; rfl)⟩
        · obtain ⟨Q, hQ⟩ : ∃ Q, quoO q s = Q := ⟨_, rfl⟩
          have hQs : Q.size ≤ 2002 := by rw [← hQ]; have := quoO_size q0 q1 s; omega
          have HQ := Lib.hid (show ∀ W', Calls Tryz.prog 56 #[.agg #[.int .u8 d, .int .u8 q, .int .i64 e], .string s] W' fun x w' => x = .returned (.string Q) ∧ Below W'.heap.size W' w' from fun W' => by rw [← hQ]; exact quoted_any d q e s W' d0 d1 q0 q1 HR.out hsz)
          have HQB := Lib.hid (show wriL d q (bl s) al fi = bl Q by rw [← hQ]; exact wri_quo q0 q1 HV0.out)
          have f0 : ∀ z, (onto W z).cell? ⟨w.heap.size, 0, none⟩ = some (.int .u8 d) := fun z => mem_cell (onto_below W z) k0
          have f1 : ∀ z, (onto W z).cell? ⟨w.heap.size, 1, none⟩ = some (.int .u8 q) := fun z => mem_cell (onto_below W z) k1
          have f2 : ∀ z, (onto W z).cell? ⟨w.heap.size, 2, none⟩ = some (.int .i64 e) := fun z => mem_cell (onto_below W z) k2
          have f3 : ∀ z, (onto W z).cell? (a.add k) = some (.string s) := fun z => mem_cell (onto_below W z) ya
          clear hQ
          go_wp2_with fail
          refine one_in_the_middle 6 (by kernel_rfl) (by kernel_rfl) rfl ?_
          simp only [List.take_succ_cons, List.take_zero, List.drop_succ_cons, List.drop_zero]
          repeat (go_big_quiet_step (first
            | (with_reducible exact calls_onto (HQ.out _))))
          refine wpQuiet_nil ?_
          intro _ hw'
          obtain ⟨x1, hw''⟩ := hw'
          subst hw''
          intro KK hKK
          refine ⟨by rfl, ?_⟩
          unfold Oper.wp
          go_simp
          refine (writeString_k b b _ Q _ (builder_below HI.out (onto_below W x1)) (by rw [Lib.byteCells_length]; omega) (Nat.le_trans hbW (onto_below W x1).size)).mono ?_
          rintro x w4 ⟨rfl, h4, hb4, ho4⟩
          rw [cells_str] at h4
          have HI4 := Lib.hid (Or.inr h4 : Lib.IsBuilderF 105 5 b b _ w4)
          have HS4 := Lib.hid (own_kept (HS.out.below (onto_below W x1)) ho4 (by decide) (by omega))
          have HB4 := Lib.hid ((HB.out.trans ((onto_below W x1).mono hbW)).trans hb4)
          clear h4 hb4 ho4 f0 f1 f2 f3
          refine hKK _ _ ?_
          clear hKK KK
          repeat (go_big_quiet_step (fail))
          refine wpQuiet_nil ?_
          intro _ hw'
          obtain ⟨x2, hw''⟩ := hw'
          subst hw''
          have HI5 := Lib.hid (builder_below HI4.out (onto_below w4 x2))
          have HS5 := Lib.hid (HS4.out.below (onto_below w4 x2))
          have HB5 := Lib.hid (HB4.out.trans ((onto_below w4 x2).mono (by rw [← hs0]; exact HB4.out.size)))
          clear HI4 HS4 HB4
          go_wp2_with fail
          go_roundw
          case measure => simp [intOf]; omega
          case rel => exact ⟨k + 1, _, by omega, by go_num, (by rw [List.length_append, ← Lib.size_eq]; omega), HI5, HS5, HB5, Lib.hid (by rw [HE.out, HQB.out, HAC.out]; rfl)⟩
      · have hgt : decide ((0 : Int) < (k : Int)) = true := by rw [decide_eq_true_eq]; omega
        have hgt2 : decide (0 < k) = true := by rw [decide_eq_true_eq]; omega
        have HE := Lib.hid (show preL d q al fi l (k + 1) = preL d q al fi l k ++ d :: wriL d q (bl s) al false by rw [HPS.out, if_neg hk0])
        have HV0 := Lib.hid (show needB d q s al false = V by have := HV.out; rw [decide_eq_false hk0, Bool.and_false] at this; exact this)
        clear HPS HV hk0
        cases V
        · go_wp2_with fail
          refine (writeByte_k b b _ d W HI.out (by rw [Lib.byteCells_length]; omega) hbW).mono ?_
          rintro x w3 ⟨rfl, h3, hb3, ho3⟩
          rw [cells_byte d0 d1] at h3
          have HI3 := Lib.hid (Or.inr h3 : Lib.IsBuilderF 105 5 b b _ w3)
          have HS3 := Lib.hid (own_kept HS.out ho3 (by decide) (by omega))
          have HB3 := Lib.hid (HB.out.trans hb3)
          have HW3 := Lib.hid (show Below W0.heap.size W0 w3 by rw [hs0]; exact HB3.out)
          have hbw3 : b ≤ w3.heap.size := Nat.le_trans hbW hb3.size
          have m0 : w3.cell? ⟨w.heap.size, 0, none⟩ = some (.int .u8 d) := (HXA.out w3 HW3.out).cell 0
          have m1 : w3.cell? ⟨w.heap.size, 1, none⟩ = some (.int .u8 q) := (HXA.out w3 HW3.out).cell 1
          have m2 : w3.cell? ⟨w.heap.size, 2, none⟩ = some (.int .i64 e) := (HXA.out w3 HW3.out).cell 2
          have yb : w3.cell? (a.add k) = some (.string s) := HCA.out w3 (HB0.out.trans (HW3.out.mono HB0.out.size))
          clear h3 hb3 ho3 k0 k1 k2 ya hcu HI HS HB
          go_wp2_with fail
          refine (writeString_k b b _ s w3 HI3.out (by rw [Lib.byteCells_length]; rw [List.length_append]; simp only [List.length_cons, List.length_nil]; omega) hbw3).mono ?_
          rintro x w4 ⟨rfl, h4, hb4, ho4⟩
          rw [cells_str] at h4
          have HI4 := Lib.hid (Or.inr h4 : Lib.IsBuilderF 105 5 b b _ w4)
          have HS4 := Lib.hid (own_kept HS3.out ho4 (by decide) (by omega))
          have HB4 := Lib.hid (HB3.out.trans hb4)
          clear h4 hb4 ho4
          go_wp2_with fail
          go_roundw
          case measure => simp [intOf]; omega
          case rel => exact ⟨k + 1, _, by omega, by go_num, (by rw [List.length_append, List.length_append, ← Lib.size_eq]; simp only [List.length_cons, List.length_nil]; omega), HI4, HS4, HB4, Lib.hid (by rw [HE.out, wri_bare HV0.out, nums_append, nums_byte d0 d1, HP.out, nums_data]; simp)⟩
        · go_wp2_with fail
          refine (writeByte_k b b _ d W HI.out (by rw [Lib.byteCells_length]; omega) hbW).mono ?_
          rintro x w3 ⟨rfl, h3, hb3, ho3⟩
          rw [cells_byte d0 d1] at h3
          have HI3 := Lib.hid (Or.inr h3 : Lib.IsBuilderF 105 5 b b _ w3)
          have HS3 := Lib.hid (own_kept HS.out ho3 (by decide) (by omega))
          have HB3 := Lib.hid (HB.out.trans hb3)
          have HW3 := Lib.hid (show Below W0.heap.size W0 w3 by rw [hs0]; exact HB3.out)
          have hbw3 : b ≤ w3.heap.size := Nat.le_trans hbW hb3.size
          have m0 : w3.cell? ⟨w.heap.size, 0, none⟩ = some (.int .u8 d) := (HXA.out w3 HW3.out).cell 0
          have m1 : w3.cell? ⟨w.heap.size, 1, none⟩ = some (.int .u8 q) := (HXA.out w3 HW3.out).cell 1
          have m2 : w3.cell? ⟨w.heap.size, 2, none⟩ = some (.int .i64 e) := (HXA.out w3 HW3.out).cell 2
          have yb : w3.cell? (a.add k) = some (.string s) := HCA.out w3 (HB0.out.trans (HW3.out.mono HB0.out.size))
          clear h3 hb3 ho3 k0 k1 k2 ya hcu HI HS HB
          obtain ⟨Q, hQ⟩ : ∃ Q, quoO q s = Q := ⟨_, rfl⟩
          have hQs : Q.size ≤ 2002 := by rw [← hQ]; have := quoO_size q0 q1 s; omega
          have HQ := Lib.hid (show ∀ W', Calls Tryz.prog 56 #[.agg #[.int .u8 d, .int .u8 q, .int .i64 e], .string s] W' fun x w' => x = .returned (.string Q) ∧ Below W'.heap.size W' w' from fun W' => by rw [← hQ]; exact quoted_any d q e s W' d0 d1 q0 q1 HR.out hsz)
          have HQB := Lib.hid (show wriL d q (bl s) al false = bl Q by rw [← hQ]; exact wri_quo q0 q1 HV0.out)
          have f0 : ∀ z, (onto w3 z).cell? ⟨w.heap.size, 0, none⟩ = some (.int .u8 d) := fun z => mem_cell (onto_below w3 z) m0
          have f1 : ∀ z, (onto w3 z).cell? ⟨w.heap.size, 1, none⟩ = some (.int .u8 q) := fun z => mem_cell (onto_below w3 z) m1
          have f2 : ∀ z, (onto w3 z).cell? ⟨w.heap.size, 2, none⟩ = some (.int .i64 e) := fun z => mem_cell (onto_below w3 z) m2
          have f3 : ∀ z, (onto w3 z).cell? (a.add k) = some (.string s) := fun z => mem_cell (onto_below w3 z) yb
          clear hQ
          go_wp2_with fail
          refine one_in_the_middle 6 (by kernel_rfl) (by kernel_rfl) rfl ?_
          simp only [List.take_succ_cons, List.take_zero, List.drop_succ_cons, List.drop_zero]
          repeat (go_big_quiet_step (first
            | (with_reducible exact calls_onto (HQ.out _))))
          refine wpQuiet_nil ?_
          intro _ hw'
          obtain ⟨x1, hw''⟩ := hw'
          subst hw''
          intro KK hKK
          refine ⟨by rfl, ?_⟩
          unfold Oper.wp
          go_simp
          refine (writeString_k b b _ Q _ (builder_below HI3.out (onto_below w3 x1)) (by rw [Lib.byteCells_length]; rw [List.length_append]; simp only [List.length_cons, List.length_nil]; omega) (Nat.le_trans hbw3 (onto_below w3 x1).size)).mono ?_
          rintro x w4 ⟨rfl, h4, hb4, ho4⟩
          rw [cells_str] at h4
          have HI4 := Lib.hid (Or.inr h4 : Lib.IsBuilderF 105 5 b b _ w4)
          have HS4 := Lib.hid (own_kept (HS3.out.below (onto_below w3 x1)) ho4 (by decide) (by omega))
          have HB4 := Lib.hid ((HB3.out.trans ((onto_below w3 x1).mono hbw3)).trans hb4)
          clear h4 hb4 ho4 f0 f1 f2 f3
          refine hKK _ _ ?_
          clear hKK KK
          repeat (go_big_quiet_step (fail))
          refine wpQuiet_nil ?_
          intro _ hw'
          obtain ⟨x2, hw''⟩ := hw'
          subst hw''
          have HI5 := Lib.hid (builder_below HI4.out (onto_below w4 x2))
          have HS5 := Lib.hid (HS4.out.below (onto_below w4 x2))
          have HB5 := Lib.hid (HB4.out.trans ((onto_below w4 x2).mono (by rw [← hs0]; exact HB4.out.size)))
          clear HI4 HS4 HB4
          go_wp2_with fail
          go_roundw
          case measure => simp [intOf]; omega
          case rel => exact ⟨k + 1, _, by omega, by go_num, (by rw [List.length_append, List.length_append, ← Lib.size_eq]; simp only [List.length_cons, List.length_nil]; omega), HI5, HS5, HB5, Lib.hid (by rw [HE.out, HQB.out, nums_append, nums_byte d0 d1, HP.out, nums_data]; simp)⟩
    · obtain rfl : k = n := by omega
      have k0 : W.cell? ⟨w.heap.size, 0, none⟩ = some (.int .u8 d) := (HX0.out.below HW0.out).cell 0
      have k1 : W.cell? ⟨w.heap.size, 1, none⟩ = some (.int .u8 q) := (HX0.out.below HW0.out).cell 1
      have k2 : W.cell? ⟨w.heap.size, 2, none⟩ = some (.int .i64 e) := (HX0.out.below HW0.out).cell 2
      obtain ⟨E, hE⟩ : ∃ E, endO e = E := ⟨_, rfl⟩
      have hEs : E.size ≤ 2 := by rw [← hE]; exact endO_size e
      have HT := Lib.hid (show (⟨(acc ++ E.data.toList).toArray⟩ : ByteArray) = lineO d q e fi l from bl_inj (by
        rw [bl_mk, bl_lineO d0 d1 q0 q1]
        show nums _ = _
        rw [nums_append, HP.out, HPN.out, nums_data, ← hE, bl_endO]))
      have HEN := Lib.hid (dEnd_any d q e d0 d1 q0 q1 HR.out W)
      rw [hE] at HEN
      clear hE hlt
      go_wp2_with fail
      refine HEN.out.mono ?_
      rintro x w3 ⟨rfl, hb3⟩
      have HI3 := Lib.hid (builder_below HI.out hb3)
      have HB3 := Lib.hid (HB.out.trans (hb3.mono hbW))
      have hbw3 : b ≤ w3.heap.size := Nat.le_trans hbW hb3.size
      clear hb3 HEN
      go_wp2_with fail
      refine (writeString_k b b _ E w3 HI3.out (by rw [Lib.byteCells_length]; omega) hbw3).mono ?_
      rintro x w4 ⟨rfl, h4, hb4, _⟩
      rw [cells_str] at h4
      have HI4 := Lib.hid (Or.inr h4 : Lib.IsBuilderF 105 5 b b _ w4)
      have HB4 := Lib.hid (HB3.out.trans hb4)
      have hbw4 : b ≤ w4.heap.size := Nat.le_trans hbw3 hb4.size
      clear h4 hb4
      go_wp2_with fail
      refine (string_k b b _ w4 HI4.out hbw4).mono ?_
      rintro x w5 ⟨rfl, _, hb5, _⟩
      rw [HT.out]
      have HB5 := Lib.hid (HB4.out.trans hb5)
      clear hb5
      go_wp2_with fail
      go_ret
      exact ⟨rfl, HB0.out.trans (HB5.out.mono (by rw [← hs0]; exact HB0.out.size))⟩
end Go.Proofs.YtoeanbfemgmgnaaGreatDoor

namespace Go.Proofs.YtoeanbfemgmgnaaGreatDoor
open Go.ChangeShapes Go.WideShapes Go.ChangeAt Go.RowKit
set_option linter.unusedVariables false
set_option linter.unusedSimpArgs false

set_option maxRecDepth 100000 in
set_option maxHeartbeats 1600000 in
theorem line_says : LineSays := by
  intro d q e r A n c fi w d0 d1 q0 q1 hn hsz hin
  have HSZ := Lib.hid hsz
  obtain ⟨W0, hW0⟩ : ∃ W0, W0 = w.alloc (.cells #[.int .u8 d, .int .u8 q, .int .i64 e] 23) := ⟨_, rfl⟩
  have HX0 := Lib.hid (show StB W0 w.heap.size 23 #[.int .u8 d, .int .u8 q, .int .i64 e] by rw [hW0]; exact StB.new _ _ _)
  have HB0 := Lib.hid (show Below w.heap.size w W0 by rw [hW0]; exact up_alloc (Below.refl _ w) _)
  have k0 : W0.cell? ⟨w.heap.size, 0, none⟩ = some (.int .u8 d) := HX0.out.cell 0
  have k1 : W0.cell? ⟨w.heap.size, 1, none⟩ = some (.int .u8 q) := HX0.out.cell 1
  have k2 : W0.cell? ⟨w.heap.size, 2, none⟩ = some (.int .i64 e) := HX0.out.cell 2
  cases hr : rightB d q e
  · have HE := Lib.hid (show lineE d q e r = 1 by unfold lineE; rw [hr]; rfl)
    have HS := Lib.hid (show lineS d q e fi r = ⟨#[]⟩ by unfold lineS; rw [HE.out]; rfl)
    have HC := Lib.hid (check_no d q e d0 d1 q0 q1 hr W0)
    rw [HE.out, HS.out]
    clear HE HS hr hsz
    go_enter Tryz.func21, Tryz.ntmps21
    go_wp2_with fail
    rw [← hW0]
    clear hW0
    refine (above HC.out).mono ?_
    rintro x _ ⟨rfl, y, rfl⟩
    go_wp2_with fail
    exact bodyPost_ret (v := .tuple #[.string ⟨#[]⟩, .int .i64 1]) (by simp [results, Tryz.results21, go_sem]) rfl ⟨rfl, up_onto' HB0.out y⟩
  · have HC := Lib.hid (check_yes d q e d0 d1 q0 q1 hr W0)
    have HR := Lib.hid hr
    obtain ⟨M, hM⟩ : ∃ M, mayN r = M := ⟨_, rfl⟩
    have HM := Lib.hid hM
    have HE := Lib.hid (show lineE d q e r = M by unfold lineE; rw [hr, ← hM]; rfl)
    have HOK := Lib.hid (show ∀ s ∈ r, s.size ≤ maxLen from fun x hx => by have := lenL_mem hx; have := HSZ.out; unfold maxLen; omega)
    have HWR := Lib.hid (fun (W : World) (hb : Below w.heap.size w W) => writable_any A n c r hn M HM W (Lib.hid (hin.out.below hb)) HOK)
    rw [HE.out]
    by_cases hM0 : M = 0
    · have HS := Lib.hid (show lineS d q e fi r = lineO d q e fi r by unfold lineS; rw [HE.out, if_pos hM0])
      have HLI := Lib.hid (fun (W : World) (hb : Below w.heap.size w W) => line_own d q e d0 d1 q0 q1 HR.out r A n c fi W hn HSZ.out (Lib.hid (hin.out.below hb)))
      obtain ⟨T, hT⟩ : ∃ T, lineO d q e fi r = T := ⟨_, rfl⟩
      rw [HS.out, hT]
      rw [hT] at HLI
      have hMb : (M != 0) = false := by simpa using hM0
      have hM00 : Value.int IntKind.i64 M = .int .i64 0 := by rw [hM0]
      have HM00 := Lib.hid hM0
      clear HS hT hM hr hsz hM0 hM00 HE
      go_enter Tryz.func21, Tryz.ntmps21
      go_wp2_with fail
      rw [← hW0]
      clear hW0
      refine HC.out.mono ?_
      rintro x W1 ⟨rfl, hb1⟩
      have HB1 := Lib.hid (HB0.out.trans (hb1.mono HB0.out.size))
      have HX1 := Lib.hid (HX0.out.below hb1)
      clear k0 k1 k2 hb1
      go_wp2_with fail
      refine (HWR.out W1 HB1.out).mono ?_
      rintro x W2 ⟨rfl, hb2⟩
      have HB2 := Lib.hid (HB1.out.trans (hb2.mono HB1.out.size))
      have HX2 := Lib.hid (HX1.out.below hb2)
      have k0 : W2.cell? ⟨w.heap.size, 0, none⟩ = some (.int .u8 d) := HX2.out.cell 0
      have k1 : W2.cell? ⟨w.heap.size, 1, none⟩ = some (.int .u8 q) := HX2.out.cell 1
      have k2 : W2.cell? ⟨w.heap.size, 2, none⟩ = some (.int .i64 e) := HX2.out.cell 2
      clear hb2
      go_wp2_with fail
      refine (above (HLI.out W2 HB2.out)).mono ?_
      rintro x _ ⟨rfl, y3, rfl⟩
      go_wp2_with fail
      exact bodyPost_ret (v := .tuple #[.string T, .int .i64 0]) (by simp [results, Tryz.results21, go_sem]) rfl ⟨by rw [HM00.out], up_onto' HB2.out y3⟩
    · have HS := Lib.hid (show lineS d q e fi r = ⟨#[]⟩ by unfold lineS; rw [HE.out, if_neg hM0])
      rw [HS.out]
      have hMb : (M != 0) = true := by simpa using hM0
      clear HS hM hr hsz hM0 HE
      go_enter Tryz.func21, Tryz.ntmps21
      go_wp2_with fail
      rw [← hW0]
      clear hW0
      refine HC.out.mono ?_
      rintro x W1 ⟨rfl, hb1⟩
      have HB1 := Lib.hid (HB0.out.trans (hb1.mono HB0.out.size))
      clear k0 k1 k2 hb1
      go_wp2_with fail
      refine (above (HWR.out W1 HB1.out)).mono ?_
      rintro x _ ⟨rfl, y2, rfl⟩
      go_wp2_with fail
      exact bodyPost_ret (v := .tuple #[.string ⟨#[]⟩, .int .i64 M]) (by simp [results, Tryz.results21, go_sem]) rfl ⟨rfl, up_onto' HB1.out y2⟩

end Go.Proofs.YtoeanbfemgmgnaaGreatDoor

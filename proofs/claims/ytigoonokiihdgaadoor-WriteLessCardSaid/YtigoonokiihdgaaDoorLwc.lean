/- Layer 10: the program's Line and Table. -/
import Derived.Test.YtigoonokiihdgaaDoorLwb
import Derived.Test.YtigoonokiihdgaaDoorQre
namespace Go.Proofs.YtigoonokiihdgaaDoor
open Go.ChangeShapes Go.WideShapes Go.ChangeAt Go.RowKit
set_option linter.unusedVariables false
set_option linter.unusedSimpArgs false

set_option maxRecDepth 100000 in
set_option maxHeartbeats 1600000 in
theorem line_says : LineSays := by
  intro d q e r A n c fi w d0 d1 q0 q1 hn hsz hin
  have HSZ := Lib.hid hsz
  obtain ⟨W0, hW0⟩ : ∃ W0, W0 = w.alloc (.cells #[.int .u8 d, .int .u8 q, .int .i64 e] 23) := ⟨_, rfl⟩
  have HX0 := Lib.hid (show StB W0 w.heap.size 23 #[.int .u8 d, .int .u8 q, .int .i64 e] by rw [hW0]; exact StB.new _ _ _)
  have HB0 := Lib.hid (show Below w.heap.size w W0 by rw [hW0]; exact up_alloc (Below.refl _ w) _)
  have k0 : W0.cell? ⟨w.heap.size, 0, none⟩ = some (.int .u8 d) := HX0.out.cell 0
  have k1 : W0.cell? ⟨w.heap.size, 1, none⟩ = some (.int .u8 q) := HX0.out.cell 1
  have k2 : W0.cell? ⟨w.heap.size, 2, none⟩ = some (.int .i64 e) := HX0.out.cell 2
  cases hr : rightB d q e
  · have HE := Lib.hid (show lineE d q e r = 1 by unfold lineE; rw [hr]; rfl)
    have HS := Lib.hid (show lineS d q e fi r = ⟨#[]⟩ by unfold lineS; rw [HE.out]; rfl)
    have HC := Lib.hid (check_no d q e d0 d1 q0 q1 hr W0)
    rw [HE.out, HS.out]
    clear HE HS hr hsz
    go_enter Tryd.func9, Tryd.ntmps9
    go_wp2_with fail
    rw [← hW0]
    clear hW0
    refine (above HC.out).mono ?_
    rintro x _ ⟨rfl, y, rfl⟩
    go_wp2_with fail
    exact bodyPost_ret (v := .tuple #[.string ⟨#[]⟩, .int .i64 1]) (by simp [results, Tryd.results9, go_sem]) rfl ⟨rfl, up_onto' HB0.out y⟩
  · have HC := Lib.hid (check_yes d q e d0 d1 q0 q1 hr W0)
    have HR := Lib.hid hr
    obtain ⟨M, hM⟩ : ∃ M, mayN r = M := ⟨_, rfl⟩
    have HM := Lib.hid hM
    have HE := Lib.hid (show lineE d q e r = M by unfold lineE; rw [hr, ← hM]; rfl)
    have HOK := Lib.hid (show ∀ s ∈ r, s.size ≤ maxLen from fun x hx => by have := lenL_mem hx; have := HSZ.out; unfold maxLen; omega)
    have HWR := Lib.hid (fun (W : World) (hb : Below w.heap.size w W) => writable_any A n c r hn M HM W (Lib.hid (hin.out.below hb)) HOK)
    rw [HE.out]
    by_cases hM0 : M = 0
    · have HS := Lib.hid (show lineS d q e fi r = lineO d q e fi r by unfold lineS; rw [HE.out, if_pos hM0])
      have HLI := Lib.hid (fun (W : World) (hb : Below w.heap.size w W) => line_own d q e d0 d1 q0 q1 HR.out r A n c fi W hn HSZ.out (Lib.hid (hin.out.below hb)))
      obtain ⟨T, hT⟩ : ∃ T, lineO d q e fi r = T := ⟨_, rfl⟩
      rw [HS.out, hT]
      rw [hT] at HLI
      have hMb : (M != 0) = false := by simpa using hM0
      have hM00 : Value.int IntKind.i64 M = .int .i64 0 := by rw [hM0]
      have HM00 := Lib.hid hM0
      clear HS hT hM hr hsz hM0 hM00 HE
      go_enter Tryd.func9, Tryd.ntmps9
      go_wp2_with fail
      rw [← hW0]
      clear hW0
      refine HC.out.mono ?_
      rintro x W1 ⟨rfl, hb1⟩
      have HB1 := Lib.hid (HB0.out.trans (hb1.mono HB0.out.size))
      have HX1 := Lib.hid (HX0.out.below hb1)
      clear k0 k1 k2 hb1
      go_wp2_with fail
      refine (HWR.out W1 HB1.out).mono ?_
      rintro x W2 ⟨rfl, hb2⟩
      have HB2 := Lib.hid (HB1.out.trans (hb2.mono HB1.out.size))
      have HX2 := Lib.hid (HX1.out.below hb2)
      have k0 : W2.cell? ⟨w.heap.size, 0, none⟩ = some (.int .u8 d) := HX2.out.cell 0
      have k1 : W2.cell? ⟨w.heap.size, 1, none⟩ = some (.int .u8 q) := HX2.out.cell 1
      have k2 : W2.cell? ⟨w.heap.size, 2, none⟩ = some (.int .i64 e) := HX2.out.cell 2
      clear hb2
      go_wp2_with fail
      refine (above (HLI.out W2 HB2.out)).mono ?_
      rintro x _ ⟨rfl, y3, rfl⟩
      go_wp2_with fail
      exact bodyPost_ret (v := .tuple #[.string T, .int .i64 0]) (by simp [results, Tryd.results9, go_sem]) rfl ⟨by rw [HM00.out], up_onto' HB2.out y3⟩
    · have HS := Lib.hid (show lineS d q e fi r = ⟨#[]⟩ by unfold lineS; rw [HE.out, if_neg hM0])
      rw [HS.out]
      have hMb : (M != 0) = true := by simpa using hM0
      clear HS hM hr hsz hM0 HE
      go_enter Tryd.func9, Tryd.ntmps9
      go_wp2_with fail
      rw [← hW0]
      clear hW0
      refine HC.out.mono ?_
      rintro x W1 ⟨rfl, hb1⟩
      have HB1 := Lib.hid (HB0.out.trans (hb1.mono HB0.out.size))
      clear k0 k1 k2 hb1
      go_wp2_with fail
      refine (above (HWR.out W1 HB1.out)).mono ?_
      rintro x _ ⟨rfl, y2, rfl⟩
      go_wp2_with fail
      exact bodyPost_ret (v := .tuple #[.string ⟨#[]⟩, .int .i64 M]) (by simp [results, Tryd.results9, go_sem]) rfl ⟨rfl, up_onto' HB1.out y2⟩

theorem tab_stop {d q e : Int} {t : List (List ByteArray)} {k : Nat} {r : List ByteArray} (hr : rightB d q e = true) (h1 : ∀ j x, j < k → t[j]? = some x → mayN x = 0) (ht : t[k]? = some r) (hm : mayN r ≠ 0) :
    tabE d q e t = mayN r ∧ tabS d q e t = ⟨#[]⟩ ∧ tabN d q e t = k := by
  have hlt : k < t.length := (List.getElem?_eq_some_iff.1 ht).1
  have hf := frontN_at t k h1 (by omega) (.inr ⟨r, ht, hm⟩)
  have hE : tabE d q e t = mayN r := by unfold tabE; rw [if_pos hr, hf, ht]
  refine ⟨hE, ?_, ?_⟩
  · unfold tabS; rw [hE, if_neg hm]
  · unfold tabN; rw [if_pos hr, hf]
theorem tab_all {d q e : Int} {t : List (List ByteArray)} {k : Nat} (hr : rightB d q e = true) (h1 : ∀ j x, j < k → t[j]? = some x → mayN x = 0) (ht : t.length = k) :
    tabE d q e t = 0 ∧ tabS d q e t = textO d q e t ∧ tabN d q e t = k ∧ frontN t = k := by
  have hf := frontN_at t k h1 (by omega) (.inl ht.symm)
  have hE : tabE d q e t = 0 := by unfold tabE; rw [if_pos hr, hf, List.getElem?_eq_none (by omega)]
  refine ⟨hE, ?_, ?_, hf⟩
  · unfold tabS; rw [hE, if_pos rfl]
  · unfold tabN; rw [if_pos hr, hf]

set_option maxRecDepth 100000 in
set_option maxHeartbeats 3200000 in
theorem table_says : TableSays := by
  intro d q e t A n c V w d0 d1 q0 q1 hn hf hb ht hok
  have HLN := Lib.hid ht.out.len
  have HF := Lib.hid (And.intro hf hb)
  obtain ⟨W0, hW0⟩ : ∃ W0, W0 = w.alloc (.cells #[.int .u8 d, .int .u8 q, .int .i64 e] 23) := ⟨_, rfl⟩
  have HX0 := Lib.hid (show StB W0 w.heap.size 23 #[.int .u8 d, .int .u8 q, .int .i64 e] by rw [hW0]; exact StB.new _ _ _)
  have HB0 := Lib.hid (show Below w.heap.size w W0 by rw [hW0]; exact up_alloc (Below.refl _ w) _)
  cases hr : rightB d q e
  · have HE := Lib.hid (show tabE d q e t = 1 by unfold tabE; rw [hr]; rfl)
    have HS := Lib.hid (show tabS d q e t = ⟨#[]⟩ by unfold tabS; rw [HE.out]; rfl)
    have HN := Lib.hid (show tabN d q e t = 0 by unfold tabN; rw [hr]; rfl)
    have HC := Lib.hid (check_no d q e d0 d1 q0 q1 hr W0)
    rw [HE.out, HS.out, HN.out]
    clear HE HS HN hr hf hb
    go_enter Tryd.func14, Tryd.ntmps14
    go_wp2_with fail
    rw [← hW0]
    clear hW0
    refine (above HC.out).mono ?_
    rintro x _ ⟨rfl, y, rfl⟩
    go_wp2_with fail
    exact bodyPost_ret (v := .tuple #[.string ⟨#[]⟩, .int .i64 0, .int .i64 1]) (by simp [results, Tryd.results14, go_sem]) rfl ⟨rfl, up_onto' HB0.out y⟩
  · have HC := Lib.hid (check_yes d q e d0 d1 q0 q1 hr W0)
    have HR := Lib.hid hr
    clear hr hf hb
    go_enter Tryd.func14, Tryd.ntmps14
    go_wp2_with fail
    rw [← hW0]
    clear hW0
    refine HC.out.mono ?_
    rintro x W1 ⟨rfl, hb1⟩
    have HB1 := Lib.hid (HB0.out.trans (hb1.mono HB0.out.size))
    have HX1 := Lib.hid (HX0.out.below hb1)
    clear hb1
    go_wp2_with fail
    obtain ⟨b, hb⟩ : ∃ b, W1.heap.size = b := ⟨_, rfl⟩
    obtain ⟨W2, hW2⟩ : ∃ W2, W1.alloc (.cells #[.pointer none, .slice none 0 0] 66) = W2 := ⟨_, rfl⟩
    have HI2 := Lib.hid (show Lib.IsBuilderF 66 5 b b (Lib.byteCells []) W2 by rw [← hW2, ← hb]; exact Lib.IsBuilderF.of (Lib.fresh_isBuilder _ _ W1))
    have HB2 := Lib.hid (show Below b W1 W2 by rw [← hW2, ← hb]; exact (Below.refl _ W1).alloc (Nat.le_refl _) _)
    rw [hW2, hb]
    clear hW2
    go_loopw [20] (fun i wr => ∃ (k : Nat) (acc : List UInt8), k ≤ n ∧ i = .int .i64 k ∧ acc.length ≤ 100000 ∧ Hid (Lib.IsBuilderF 66 5 b b (Lib.byteCells acc) wr) ∧ Hid (Below b W1 wr) ∧ Hid (nums acc = textN d q e t k) ∧ Hid (∀ j x, j < k → t[j]? = some x → mayN x = 0)) (fun i _ => n - (intOf i).toNat)
    case atStart => exact ⟨0, [], Nat.zero_le _, rfl, Nat.zero_le _, HI2, HB2, Lib.hid rfl, Lib.hid (fun j x hj => by omega)⟩
    case round =>
      obtain ⟨k, acc, hk, rfl, hal, HI, HB, HP, HA⟩ := hrel
      obtain ⟨W, hW⟩ : ∃ W, W = wr := ⟨_, rfl⟩
      subst hW
      clear HI2 HB2
      have HW1 := Lib.hid (show Below W1.heap.size W1 W by rw [hb]; exact HB.out)
      have HWw := Lib.hid (show Below w.heap.size w W from HB1.out.trans (HW1.out.mono HB1.out.size))
      have hbW : b ≤ W.heap.size := by rw [← hb]; exact HB.out.size
      by_cases hlt : k < n
      · obtain ⟨r, hr'⟩ : ∃ r, t[k]? = some r := ⟨_, List.getElem?_eq_getElem (by rw [HLN.out]; exact hlt)⟩
        obtain ⟨a, D, cc, rfl, hca, hD⟩ := ht.out.row hr'
        have ya : W.cell? (a.add k) = some (.slice D r.length cc) := mem_cell HWw.out hca
        have hrl : r.length ≤ 1000 := by have := fldN_mem (List.mem_of_getElem? hr'); have := HF.out; omega
        have hrs : lenL r ≤ 1000 := by have := bytN_mem (List.mem_of_getElem? hr'); have := HF.out; omega
        have HD := Lib.hid (hD.below HWw.out)
        obtain ⟨m, hm⟩ : ∃ m, r.length = m := ⟨_, rfl⟩
        rw [hm] at ya HD hrl
        obtain ⟨kz, hkz⟩ : ∃ kz, ((k : Int) == 0) = kz := ⟨_, rfl⟩
        have hkd : decide (k = 0) = kz := by rw [← hkz, Bool.eq_iff_iff]; simp
        obtain ⟨M, hM⟩ : ∃ M, mayN r = M := ⟨_, rfl⟩
        have HLI := Lib.hid (line_says d q e r D m cc kz W d0 d1 q0 q1 hrl hrs HD)
        have HEL := Lib.hid (show lineE d q e r = M by unfold lineE; rw [HR.out, ← hM]; rfl)
        obtain ⟨T, hT⟩ : ∃ T, lineS d q e kz r = T := ⟨_, rfl⟩
        rw [HEL.out, hT] at HLI
        have HRT := Lib.hid hr'
        have HMM := Lib.hid hM
        have k0 : W.cell? ⟨w.heap.size, 0, none⟩ = some (.int .u8 d) := (HX1.out.below HW1.out).cell 0
        have k1 : W.cell? ⟨w.heap.size, 1, none⟩ = some (.int .u8 q) := (HX1.out.below HW1.out).cell 1
        have k2 : W.cell? ⟨w.heap.size, 2, none⟩ = some (.int .i64 e) := (HX1.out.below HW1.out).cell 2
        by_cases hM0 : M = 0
        · have hMb : (M != 0) = false := by simpa using hM0
          have HTT := Lib.hid (show bl T = lineN d q e (decide (k = 0)) r by rw [← hT, hkd]; unfold lineS; rw [HEL.out, if_pos hM0]; exact bl_lineO d0 d1 q0 q1 e _ r)
          have HPT := Lib.hid (show textN d q e t (k + 1) = textN d q e t k ++ bl T by rw [HTT.out]; exact rowsL_at hr')
          have HA1 := Lib.hid (show ∀ j x, j < k + 1 → t[j]? = some x → mayN x = 0 from fun j x hj hx => by
            by_cases hjk : j < k
            · exact HA.out j x hjk hx
            · obtain rfl : j = k := by omega
              rw [HRT.out] at hx
              obtain rfl := Option.some.inj hx
              rw [HMM.out]; exact hM0)
          have hlen : acc.length + T.size ≤ 100000 := by
            have h1 := rowsL_len d q e (t.take (k + 1)) true
            have h2 := fldN_take_le t (k + 1)
            have h3 := bytN_take_le t (k + 1)
            have h4 : (t.take (k + 1)).length ≤ k + 1 := by rw [List.length_take]; omega
            have h5 := HF.out
            have h6 : acc.length + T.size = (textN d q e t (k + 1)).length := by
              rw [HPT.out, ← HP.out, List.length_append, bl_length]; unfold nums; rw [List.length_map]
            unfold textN at h6
            omega
          clear hr' hca hD hT hM hkd hm hrl hrs hM0
          go_wp2_with fail
          refine HLI.out.mono ?_
          rintro x w3 ⟨rfl, hb3⟩
          have HI3 := Lib.hid (builder_below HI.out hb3)
          have HB3 := Lib.hid (HB.out.trans (hb3.mono hbW))
          have hbw3 : b ≤ w3.heap.size := Nat.le_trans hbW hb3.size
          clear hb3 HLI k0 k1 k2 ya
          go_wp2_with fail
          refine (writeString_k b b _ T w3 HI3.out (by rw [Lib.byteCells_length]; omega) hbw3).mono ?_
          rintro x w4 ⟨rfl, h4, hb4, _⟩
          rw [cells_str] at h4
          have HI4 := Lib.hid (Or.inr h4 : Lib.IsBuilderF 66 5 b b _ w4)
          have HB4 := Lib.hid (HB3.out.trans hb4)
          clear h4 hb4
          go_wp2_with fail
          go_roundw
          case measure => simp [intOf]; omega
          case rel => exact ⟨k + 1, _, by omega, by go_num, (by rw [List.length_append, ← Lib.size_eq]; omega), HI4, HB4, Lib.hid (by rw [HPT.out, nums_append, HP.out, nums_data]), HA1⟩
        · have hMb : (M != 0) = true := by simpa using hM0
          have HST := Lib.hid (tab_stop HR.out HA.out hr' (by rw [hM]; exact hM0))
          rw [hM] at HST
          clear hr' hca hD hT hM hkd hm hrl hrs hM0
          go_wp2_with fail
          refine (above HLI.out).mono ?_
          rintro x _ ⟨rfl, y3, rfl⟩
          go_wp2_with fail
          exact bodyPost_ret (v := .tuple #[.string ⟨#[]⟩, .int .i64 (k : Int), .int .i64 M]) (by simp [results, Tryd.results14, go_sem]) rfl ⟨by rw [HST.out.1, HST.out.2.1, HST.out.2.2], up_onto' HWw.out y3⟩
      · obtain rfl : k = n := by omega
        have HST := Lib.hid (tab_all (d := d) (q := q) (e := e) HR.out HA.out HLN.out)
        have HT := Lib.hid (show (⟨acc.toArray⟩ : ByteArray) = textO d q e t from bl_inj (by
          rw [bl_mk, bl_textO d0 d1 q0 q1, HST.out.2.2.2]
          exact HP.out))
        clear hlt
        go_wp2_with fail
        refine (string_k b b _ W HI.out hbW).mono ?_
        rintro x w5 ⟨rfl, _, hb5, _⟩
        rw [HT.out]
        have HB5 := Lib.hid (HB.out.trans hb5)
        clear hb5
        go_wp2_with fail
        exact bodyPost_ret (v := .tuple #[.string (textO d q e t), .int .i64 (k : Int), .int .i64 0]) (by simp [results, Tryd.results14, go_sem]) rfl ⟨by rw [HST.out.1, HST.out.2.1, HST.out.2.2.1], HB1.out.trans (HB5.out.mono (by rw [← hb]; exact HB1.out.size))⟩
end Go.Proofs.YtigoonokiihdgaaDoor

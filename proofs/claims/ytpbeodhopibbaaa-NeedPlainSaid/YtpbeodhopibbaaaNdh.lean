/- Layer 8: the walk of the statement NeedPlain over the program's contracts. -/
import Derived.Test.YtpbeodhopibbaaaNdg
namespace Go.Proofs.Ytpbeodhopibbaaa
open Go.ChangeShapes Go.WideShapes Go.ChangeAt Go.RowKit
set_option linter.unusedVariables false
set_option linter.unusedSimpArgs false

theorem layL_snoc (d : Int) : ∀ (xs : List (List Int)) (f : List Int), layL d (xs ++ [f]) = if xs = [] then f else layL d xs ++ d :: f
  | [], f => rfl
  | [x], f => by simp [layL]
  | x :: y :: r, f => by
    have h := layL_snoc d (y :: r) f
    rw [if_neg (by simp)] at h
    rw [if_neg (by simp)]
    show x ++ d :: layL d (y :: (r ++ [f])) = (x ++ d :: layL d (y :: r)) ++ d :: f
    rw [show y :: (r ++ [f]) = y :: r ++ [f] from rfl, h]
    simp
/-- What a bare field says of itself. -/
def plainF (d q : Int) (al fi : Bool) (f : ByteArray) : Prop := needB d q f al fi = false ∧ utWhole (bl f) = (bl f).length
theorem hasL_no {f : List Int} {b : Int} (h : hasL f b = false) : b ∉ f := by unfold hasL at h; exact of_decide_eq_false h
theorem plainF_bare {d q : Int} {al fi : Bool} {f : ByteArray} (h : plainF d q al fi f) : bareL d q (bl f) ∧ (al = true → f.size ≠ 0) ∧ (fi = true → bomHad (bl f) = false) := by
  obtain ⟨h1, _⟩ := h
  unfold needB whyN at h1
  cases hd : hasL (bl f) d
  · cases hq : hasL (bl f) q
    · cases h13 : hasL (bl f) 13
      · cases h10 : hasL (bl f) 10
        · rw [hd, hq, h13, h10] at h1
          simp only [Bool.false_eq_true, if_false, Bool.or_self] at h1
          refine ⟨fun b hb => ⟨?_, fun e => hasL_no hq (e ▸ hb)⟩, fun hal h0 => ?_, fun hfi => ?_⟩
          · have n1 : b ≠ d := fun e => hasL_no hd (e ▸ hb)
            have n2 : b ≠ 13 := fun e => hasL_no h13 (e ▸ hb)
            have n3 : b ≠ 10 := fun e => hasL_no h10 (e ▸ hb)
            simp [stops]; omega
          · have : bl f = [] := List.eq_nil_of_length_eq_zero (by rw [bl_length]; exact h0)
            rw [if_pos ⟨this, hal⟩] at h1
            simp at h1
          · cases hb : bomHad (bl f)
            · rfl
            · rw [hb, hfi] at h1
              exfalso
              split at h1 <;> simp at h1
        · rw [hd, hq, h13, h10] at h1; simp at h1
      · rw [hd, hq, h13] at h1; simp at h1
    · rw [hd, hq] at h1; simp at h1
  · rw [hd] at h1; simp at h1

theorem take_next {l : List ByteArray} {k : Nat} {s : ByteArray} (h : l[k]? = some s) : (l.take (k + 1)).map bl = (l.take k).map bl ++ [bl s] := by
  rw [List.take_add_one, h]; simp
theorem lay_first {d : Int} {l : List ByteArray} {k : Nat} {s S : ByteArray} (h : l[k]? = some s) (hk : ¬ 0 < k) (hS : bl S = layL d ((l.take k).map bl)) : bl (S ++ s) = layL d ((l.take (k + 1)).map bl) := by
  obtain rfl : k = 0 := by omega
  rw [take_next h, bl_append, hS]
  rfl
theorem lay_next {d : Int} {l : List ByteArray} {k : Nat} {s S D : ByteArray} (h : l[k]? = some s) (hk : 0 < k) (hD : bl D = [d]) (hS : bl S = layL d ((l.take k).map bl)) : bl (S ++ D ++ s) = layL d ((l.take (k + 1)).map bl) := by
  have hne : (l.take k).map bl ≠ [] := by
    have hkl := (List.getElem?_eq_some_iff.1 h).1
    intro h0
    have := congrArg List.length h0
    rw [List.length_map, List.length_take, List.length_nil] at this
    omega
  rw [take_next h, bl_append, bl_append, hS, hD, layL_snoc, if_neg hne]
  simp
set_option maxRecDepth 100000 in
set_option maxHeartbeats 3200000 in
theorem needPlain_walk (hNeed : Hid NeedSays) (hAw : Hid AwakeSays8) (d q e : Int) (A : Option Addr) (n c : Nat) (l : List ByteArray) (w : World) (hd : (Lit.int .u8 d).wf = true) (hq : (Lit.int .u8 q).wf = true) (_ : (Lit.int .i64 e).wf = true) (_ : n ≤ c) (hcm : c ≤ maxLen) (hin : SlIn w A n (strs l)) (hok : ∀ x ∈ l, x.size ≤ 140737488351232) :
    Calls Try.prog 5 #[.agg #[.int .u8 d, .int .u8 q, .int .i64 e], .slice A n c] w fun x w' => x = .returned (.bool true) ∧ Below w.heap.size w w' := by
  obtain ⟨d0, d1⟩ := bounds_u8 hd
  obtain ⟨q0, q1⟩ := bounds_u8 hq
  have HAW := Lib.hid (show ∀ w : World, Calls Try.prog 9 #[] w fun x w' => x = .returned (.bool true) ∧ Below w.heap.size w w' from fun w => hAw.out w)
  obtain ⟨v, hv⟩ : ∃ v, rightB d q e = v := ⟨_, rfl⟩
  have HR := Lib.hid (show rightR d q e = v by rw [right_eq d q e d0 q0]; exact hv)
  have HV := Lib.hid hv
  obtain ⟨u, hu⟩ : ∃ u, fewB l = u := ⟨_, rfl⟩
  have HU := Lib.hid hu
  have HI := Lib.hid hin
  have HK := Lib.hid hok
  have HLN := Lib.hid hin.lenS
  have hn9 : n ≤ 9223372036854775807 := by unfold maxLen at hcm; omega
  have B0 := Lib.hid (up_alloc (Below.refl _ w) (.cells #[.int .u8 d, .int .u8 q, .int .i64 e] 23))
  have hfew : ∀ w' : World, Below w.heap.size w w' → Calls Try.prog 14 #[.slice A n c] w' fun x w'' => x = .returned (.bool u) ∧ Below w'.heap.size w' w'' := fun w' hb => few_is A n c l w' (Lib.hid (HI.out.below hb)) HK hn9 u HU
  have HFW := Lib.hid (hfew _ B0.out)
  clear hd hq hv hu hin hok hAw hfew
  cases u
  · go_enter Try.func5, Try.ntmps5
    go_wp2_with (first
      | (go_at_call 14; with_reducible refine (above HFW.out).mono ?_; rintro x _ ⟨rfl, y, rfl⟩)
      | (go_at_call 9; with_reducible refine (above (HAW.out _)).mono ?_; rintro x _ ⟨rfl, y, rfl⟩))
    go_ret
    exact ⟨rfl, (by (repeat (first | exact Below.refl _ _ | refine up_onto ?_ _ | refine up_alloc ?_ _)))⟩
  · obtain ⟨nz, hnz⟩ : ∃ nz, ((n : Int) == 0) = nz := ⟨_, rfl⟩
    have HNZ := Lib.hid (show decide (n = 0) = nz by rw [← hnz, Bool.eq_iff_iff]; simp)
    cases nz
    · cases v
      · go_enter Try.func5, Try.ntmps5
        go_wp2_with (first
          | (go_at_call 14; with_reducible refine (above HFW.out).mono ?_; rintro x _ ⟨rfl, y, rfl⟩)
          | (go_at_call 8; with_reducible refine (above (ref_any d q e d0 d1 q0 q1 _)).mono ?_; rintro x _ ⟨rfl, y, rfl⟩)
          | (go_at_call 7; with_reducible refine (above (refRight_is d q e _ HR _)).mono ?_; rintro x _ ⟨rfl, y, rfl⟩)
          | (go_at_call 9; with_reducible refine (above (HAW.out _)).mono ?_; rintro x _ ⟨rfl, y, rfl⟩))
        go_ret
        exact ⟨rfl, (by (repeat (first | exact Below.refl _ _ | refine up_onto ?_ _ | refine up_alloc ?_ _)))⟩
      · have h20 : n ≤ 20 ∧ sumL l ≤ 400 := by
          have h := HU.out
          unfold fewB at h
          rw [HLN.out] at h
          simpa using h
        have hn20 := h20.1
        have HSM := Lib.hid h20.2
        have hn1 : 0 < n := by have := of_decide_eq_false HNZ.out; omega
        clear h20
        go_enter Try.func5, Try.ntmps5
        go_wp2_with (first
          | (go_at_call 14; with_reducible refine (above HFW.out).mono ?_; rintro x _ ⟨rfl, y1, rfl⟩)
          | (go_at_call 8; with_reducible refine (above (ref_any d q e d0 d1 q0 q1 _)).mono ?_; rintro x _ ⟨rfl, y2, rfl⟩)
          | (go_at_call 7; with_reducible refine (above (refRight_is d q e _ HR _)).mono ?_; rintro x _ ⟨rfl, y3, rfl⟩))
        generalize hy4 : onto (w.alloc (.cells #[.int .u8 d, .int .u8 q, .int .i64 e] 23)) _ = W1
        have HB1 := Lib.hid (show Below w.heap.size w W1 by rw [← hy4]; exact up_onto (up_alloc (Below.refl _ _) _) _)
        have HD1 := Lib.hid (show StB W1 w.heap.size 23 #[.int .u8 d, .int .u8 q, .int .i64 e] by rw [← hy4]; exact (StB.made _ rfl _ _).below (onto_below _ _))
        clear hy4
        obtain ⟨h, hh⟩ : ∃ h, w.heap.size = h := ⟨_, rfl⟩
        have HB1' := Lib.hid (show Below h w W1 by rw [← hh]; exact HB1.out)
        have HI1 := Lib.hid (HI.out.below HB1.out)
        rw [hh] at HD1
        rw [hh]
        have HH := Lib.hid hh
        clear HFW B0 HI hh y1 y2 y3
        obtain ⟨al, hal⟩ : ∃ al, ((n : Int) == 1) = al := ⟨_, rfl⟩
        have HAL := Lib.hid (show decide (n = 1) = al by rw [← hal, Bool.eq_iff_iff]; simp; omega)
        go_loopw [29, 5] (fun i s5 wr => ∃ (k : Nat) (S : ByteArray), k ≤ n ∧ i = .int .i64 k ∧ s5 = .string S ∧ Hid (bl S = layL d ((l.take k).map bl)) ∧ S.size ≤ sumL (l.take k) + k ∧ Hid (∀ j f, j < k → l[j]? = some f → plainF d q al (decide (j = 0)) f) ∧ Hid (∃ y, wr = onto W1 y)) (fun i _ _ => n - (intOf i).toNat)
        case atStart => exact ⟨0, ⟨#[]⟩, Nat.zero_le _, rfl, rfl, Lib.hid rfl, (show (0 : Nat) ≤ _ from Nat.zero_le _), Lib.hid (fun j f hj => by omega), Lib.hid (onto_self W1)⟩
        case round =>
          obtain ⟨k, S, hk, rfl, rfl, HS, hsz, HP, HY⟩ := hrel
          obtain ⟨y, rfl⟩ := HY.out
          clear HY
          by_cases hlt : k < n
          · obtain ⟨s, hs⟩ : ∃ s, l[k]? = some s := ⟨_, List.getElem?_eq_getElem (by rw [HLN.out]; exact hlt)⟩
            have HSK := Lib.hid hs
            obtain ⟨a, rfl, hca⟩ := HI1.out.at_ (strs_get hs)
            obtain ⟨kz, hkz⟩ : ∃ kz, ((k : Int) == 0) = kz := ⟨_, rfl⟩
            have hkd : decide (k = 0) = kz := by rw [← hkz, Bool.eq_iff_iff]; simp
            have HKD := Lib.hid hkd
            obtain ⟨V, hV⟩ : ∃ V, needB d q s al kz = V := ⟨_, rfl⟩
            have HVV := Lib.hid hV
            obtain ⟨u, hu⟩ : ∃ u, utWhole (bl s) = u := ⟨_, rfl⟩
            have HU1 := Lib.hid hu
            obtain ⟨W3, hW3⟩ : ∃ W3, W3 = onto W1 y := ⟨_, rfl⟩
            have hb3 : Below W1.heap.size W1 W3 := by rw [hW3]; exact onto_below _ _
            have HB3 := Lib.hid hb3
            have HBW := Lib.hid (show Below w.heap.size w W3 from HB1.out.trans (hb3.mono HB1.out.size))
            rw [← hW3]
            have HX3 := HD1.out.below hb3
            have hsum := sumL_at hs
            have hsle : sumL (l.take (k + 1)) ≤ 400 := Nat.le_trans (sumL_take_le l (k + 1)) HSM.out
            have hs4 : s.size ≤ 400 := by omega
            have hS4 : S.size ≤ 420 := by omega
            have hsm : s.size ≤ 1000000 := by omega
            have hsx : s.size ≤ maxLen := by unfold maxLen; omega
            have HNX := Lib.hid (fun (z : World) => hNeed.out d q e s al kz z d0 d1 q0 q1 HV.out hsm)
            rw [hV] at HNX
            have HSUM := Lib.hid hsum
            have HSL := Lib.hid hsle
            have HSZ := Lib.hid hsz
            obtain ⟨D, hD⟩ : ∃ D : ByteArray, (⟨#[UInt8.ofNat d.toNat]⟩ : ByteArray) = D := ⟨_, rfl⟩
            have HD := Lib.hid (show bl D = [d] by rw [← hD]; exact bl_toBA [d] (by simp; omega))
            have hDs : D.size = 1 := by have := HD.out; rw [← bl_length, this]; rfl
            have hDs1 : D.size ≤ 1 := by omega
            have hcv : ∀ z, (convert 40 9 (.slice (some ⟨(onto W3 z).heap.size, 0, none⟩) 1 1)).run Try.prog ((onto W3 z).alloc (.cells #[.int .u8 d] 5)) = .ok (.string D) ((onto W3 z).alloc (.cells #[.int .u8 d] 5)) := fun z => by
              rw [← hD]; exact run_string_one' (onto W3 z) _ _ 5 rfl rfl rfl d _ 1
            have HDS := Lib.hid hDs
            clear hD hDs
            have za : ∀ z, (onto W3 z).cell? (a.add k) = some (.string s) := fun z => mem_cell (onto_below W3 z) (mem_cell hb3 hca)
            have ya : W3.cell? (a.add k) = some (.string s) := mem_cell hb3 hca
            have y0 : W3.cell? ⟨h, 0, none⟩ = some (.int .u8 d) := HX3.cell 0
            have y1 : W3.cell? ⟨h, 1, none⟩ = some (.int .u8 q) := HX3.cell 1
            have y2 : W3.cell? ⟨h, 2, none⟩ = some (.int .i64 e) := HX3.cell 2
            have z0 : ∀ z, (onto W3 z).cell? ⟨h, 0, none⟩ = some (.int .u8 d) := fun z => mem_cell (onto_below W3 z) y0
            clear hs hca hkd hV hu hW3 hb3 hsum hsle HX3 hsz
            by_cases huz : u < s.size
            · have hus : decide (u < s.size) = true := decide_eq_true huz
              cases V
              all_goals
                go_wp2_with (first
                  | (go_at_call 13; with_reducible refine (above (HNX.out _)).mono ?_; rintro x _ ⟨rfl, y9, rfl⟩)
                  | (go_at_call 16; with_reducible refine (above (refWhole_is s hsx u HU1 _)).mono ?_; rintro x _ ⟨rfl, y8, rfl⟩)
                  | (go_at_call 9; with_reducible refine (above (HAW.out _)).mono ?_; rintro x _ ⟨rfl, y, rfl⟩))
                go_ret
                rw [← HH.out]
                exact ⟨rfl, by (repeat (first | exact HBW.out | refine up_onto ?_ _ | refine up_alloc ?_ _))⟩
            · have hus : decide (u < s.size) = false := decide_eq_false huz
              cases V
              · have HPS := Lib.hid (show plainF d q al (decide (k = 0)) s by rw [HKD.out]; exact ⟨HVV.out, by have := (utWhole_spec (bl s).length (bl s) (Nat.le_refl _)).1; rw [bl_length] at this ⊢; rw [HU1.out] at this ⊢; omega⟩)
                cases kz
                · have hkp : 0 < k := by have := of_decide_eq_false HKD.out; omega
                  go_wp2_with (first
                    | (go_at_call 13; with_reducible refine (above (HNX.out _)).mono ?_; rintro x _ ⟨rfl, y9, rfl⟩)
                    | (go_at_call 16; with_reducible refine (above (refWhole_is s hsx u HU1 _)).mono ?_; rintro x _ ⟨rfl, y8, rfl⟩))
                  refine ⟨⟨k + 1, S ++ D ++ s, by omega, by go_num, rfl, Lib.hid (lay_next HSK.out hkp HD.out HS.out), ?_, Lib.hid (fun j f hj hf => ?_), ?_⟩, by simp [intOf]; omega⟩
                  · have := HSZ.out; have := HSUM.out; rw [ByteArray.size_append, ByteArray.size_append]; omega
                  · by_cases hjk : j < k
                    · exact HP.out j f hjk hf
                    · obtain rfl : j = k := by omega
                      rw [HSK.out] at hf
                      injection hf with hf
                      subst hf
                      exact HPS.out
                  · exact Lib.hid (onto_of (by (repeat (first | exact HB3.out | refine up_onto ?_ _ | refine up_alloc ?_ _))))
                · have hkp : ¬ 0 < k := by have := of_decide_eq_true HKD.out; omega
                  go_wp2_with (first
                    | (go_at_call 13; with_reducible refine (above (HNX.out _)).mono ?_; rintro x _ ⟨rfl, y9, rfl⟩)
                    | (go_at_call 16; with_reducible refine (above (refWhole_is s hsx u HU1 _)).mono ?_; rintro x _ ⟨rfl, y8, rfl⟩))
                  refine ⟨⟨k + 1, S ++ s, by omega, by go_num, rfl, Lib.hid (lay_first HSK.out hkp HS.out), ?_, Lib.hid (fun j f hj hf => ?_), ?_⟩, by simp [intOf]; omega⟩
                  · have := HSZ.out; have := HSUM.out; rw [ByteArray.size_append]; omega
                  · by_cases hjk : j < k
                    · exact HP.out j f hjk hf
                    · obtain rfl : j = k := by omega
                      rw [HSK.out] at hf
                      injection hf with hf
                      subst hf
                      exact HPS.out
                  · exact Lib.hid (onto_of (by (repeat (first | exact HB3.out | refine up_onto ?_ _ | refine up_alloc ?_ _))))
              · go_wp2_with (first
                  | (go_at_call 13; with_reducible refine (above (HNX.out _)).mono ?_; rintro x _ ⟨rfl, y9, rfl⟩)
                  | (go_at_call 16; with_reducible refine (above (refWhole_is s hsx u HU1 _)).mono ?_; rintro x _ ⟨rfl, y8, rfl⟩)
                  | (go_at_call 9; with_reducible refine (above (HAW.out _)).mono ?_; rintro x _ ⟨rfl, y, rfl⟩))
                go_ret
                rw [← HH.out]
                exact ⟨rfl, by (repeat (first | exact HBW.out | refine up_onto ?_ _ | refine up_alloc ?_ _))⟩
          · have hkn : k = n := by omega
            have HFULL := Lib.hid (show l.take k = l by rw [hkn, ← HLN.out, List.take_length])
            have HSF := Lib.hid (show bl S = layL d (l.map bl) by rw [HS.out, HFULL.out])
            have hsz4 : S.size ≤ 420 := by have h1 := HSM.out; rw [HFULL.out] at hsz; omega
            have HPF := Lib.hid (show ∀ j f, l[j]? = some f → plainF d q al (decide (j = 0)) f from fun j f hf => HP.out j f (by rw [hkn, ← HLN.out]; exact (List.getElem?_eq_some_iff.1 hf).1) hf)
            obtain ⟨W2, hW2⟩ : ∃ W2, W2 = onto W1 y := ⟨_, rfl⟩
            have hb2 : Below W1.heap.size W1 W2 := by rw [hW2]; exact onto_below _ _
            have HB2 := Lib.hid (show Below w.heap.size w W2 from HB1.out.trans (hb2.mono HB1.out.size))
            have HD2 := Lib.hid (HD1.out.below hb2)
            have HI2 := Lib.hid (HI1.out.below hb2)
            rw [← hW2]
            clear HS hsz HP HB1 HD1 HI1 HFULL hW2 hb2 hkn
            obtain ⟨E, hE⟩ : ∃ E, endO e = E := ⟨_, rfl⟩
            have HE := Lib.hid hE
            have e2 : E.size ≤ 2 := by
              rw [← bl_length, ← hE, bl_endO]; exact endL_len e
            have HT := Lib.hid (show bl (S ++ E) = layL d (l.map bl) ++ endL e by rw [bl_append, ← hE, bl_endO, HSF.out])
            have hts : (S ++ E).size ≤ 900 := by rw [ByteArray.size_append]; omega
            obtain ⟨T, hT⟩ : ∃ T, S ++ E = T := ⟨_, rfl⟩
            rw [hT] at HT hts
            have HTT := Lib.hid hT
            have hnd := nd_plain (right_dia HV.out) (by have := right_bytes HV.out; omega) (right_ends HV.out) l 2147483648 (by omega) (by
                rintro rfl
                have := HLN.out
                simp at this; omega) (by
                rintro ⟨h1, h2⟩
                match l, h1, h2, HPF.out with
                | [f], h1, h2, hp =>
                  have hal1 : al = true := by rw [← HAL.out, ← HLN.out]; simp
                  exact (plainF_bare (hp 0 f rfl)).2.1 hal1 (h2 f (by simp))) (by
                intro f hf
                obtain ⟨j, hj⟩ := List.getElem?_of_mem hf
                have h1 := HPF.out j f hj
                have h2 := sumL_mem hf
                have h3 := HSM.out
                exact ⟨(plainF_bare h1).1, by omega, h1.2⟩) (by rw [HLN.out]; omega) (by
                rintro f t rfl
                exact (plainF_bare (HPF.out 0 f rfl)).2.2 (by simp)) 901 (by omega) (bl T) HT.out
            have HRS := Lib.hid (show whRs (wideG d q e T) (bl T) = [l] from hnd.1)
            have HKK := Lib.hid (show (whKA (wideG d q e T) (bl T)).1 = 0 from hnd.2)
            clear hE hT hnd
            go_upto_region 14 with fail
            obtain ⟨W, hW⟩ : ∃ W, W2.alloc (.cells #[.int .i64 2147483648, .int .i64 2147483648, .int .i64 2147483648, .int .i64 0] 42) = W := ⟨_, rfl⟩
            obtain ⟨lb, hlb⟩ : ∃ lb, W2.heap.size = lb := ⟨_, rfl⟩
            have hb2 : Below W2.heap.size W2 W := by rw [← hW]; exact up_alloc (Below.refl _ _) _
            have HB4 := Lib.hid (show Below w.heap.size w W from HB2.out.trans (hb2.mono HB2.out.size))
            have HD4 := HD2.out.below hb2
            have HI4 := Lib.hid (HI2.out.below hb2)
            have HL2 : StB W lb 42 #[.int .i64 2147483648, .int .i64 2147483648, .int .i64 2147483648, .int .i64 0] := by rw [← hW]; exact StB.made _ hlb.symm _ _
            rw [hW, hlb]
            clear hW hlb hb2 HB2 HD2 HI2
            have f0 : ∀ z, (onto W z).cell? ⟨h, 0, none⟩ = some (.int .u8 d) := fun z => mem_cell (onto_below W z) (HD4.cell 0)
            have f1 : ∀ z, (onto W z).cell? ⟨h, 1, none⟩ = some (.int .u8 q) := fun z => mem_cell (onto_below W z) (HD4.cell 1)
            have f2 : ∀ z, (onto W z).cell? ⟨h, 2, none⟩ = some (.int .i64 e) := fun z => mem_cell (onto_below W z) (HD4.cell 2)
            have f3 : ∀ z, (onto W z).cell? ⟨lb, 0, none⟩ = some (.int .i64 2147483648) := fun z => mem_cell (onto_below W z) (HL2.cell 0)
            have f4 : ∀ z, (onto W z).cell? ⟨lb, 1, none⟩ = some (.int .i64 2147483648) := fun z => mem_cell (onto_below W z) (HL2.cell 1)
            have f5 : ∀ z, (onto W z).cell? ⟨lb, 2, none⟩ = some (.int .i64 2147483648) := fun z => mem_cell (onto_below W z) (HL2.cell 2)
            have f6 : ∀ z, (onto W z).cell? ⟨lb, 3, none⟩ = some (.int .i64 0) := fun z => mem_cell (onto_below W z) (HL2.cell 3)
            clear HD4 HL2
            refine one_in_the_middle 8 (by kernel_rfl) (by kernel_rfl) rfl ?_
            simp only [List.take_succ_cons, List.take_zero, List.drop_succ_cons, List.drop_zero]
            repeat (go_big_quiet_step (first
              | (with_reducible exact calls_onto (ref_any d q e d0 d1 q0 q1 _))
              | (with_reducible exact calls_onto (refEnd_is d q e E HE _))))
            have hTT := HTT.out
            rw [hTT]
            clear hTT
            refine wpQuiet_nil ?_
            intro _ hw'
            obtain ⟨x1, hw''⟩ := hw'
            subst hw''
            intro KK hKK
            refine ⟨by rfl, ?_⟩
            unfold Oper.wp
            go_simp
            refine (wideParse_is d q e HV.out T hts [l] 0 1 HRS HKK (Lib.hid rfl) _).mono ?_
            rintro x w2 ⟨C, cc, AA, V, rfl, HX, hy5⟩
            have hbx : Below W.heap.size W w2 := by
              obtain ⟨y5, rfl⟩ := hy5
              exact up_onto (onto_below _ _) _
            have HB5 := Lib.hid (show Below w.heap.size w w2 from HB4.out.trans (hbx.mono HB4.out.size))
            have HI5 := Lib.hid (HI4.out.below hbx)
            clear hy5 hbx f0 f1 f2 f3 f4 f5 f6
            refine hKK _ _ ?_
            clear hKK KK
            repeat (go_big_quiet_step (fail))
            refine wpQuiet_nil ?_
            intro _ hw'
            obtain ⟨x3, hw''⟩ := hw'
            subst hw''
            obtain ⟨B, b, hv0, hr0⟩ := HX.out.2.2 0 l rfl
            obtain ⟨a, rfl, hca⟩ := HX.out.1.at_ hv0
            rw [HLN.out] at hr0 hca
            have za : ∀ z, (onto w2 z).cell? a = some (.slice B n b) := fun z => (show a.add 0 = a from by cases a; rfl) ▸ (mem_cell (onto_below w2 z) hca)
            have HR0 := Lib.hid hr0
            clear hr0 hv0 hca
            go_wp2_with (first
              | (go_at_call 19; with_reducible refine (same_any B A n n b c l l (onto w2 x3) (Lib.hid (HR0.out.below (onto_below w2 x3))) (Lib.hid (HI5.out.below (onto_below w2 x3))) (by omega) true (Lib.hid (decide_eq_true rfl))).mono ?_; rintro x w4 ⟨rfl, hb4⟩; obtain ⟨y4, rfl⟩ := onto_of hb4)
              | (go_at_call 9; with_reducible refine (above (HAW.out _)).mono ?_; rintro x _ ⟨rfl, y, rfl⟩))
            go_ret
            rw [← HH.out]
            exact ⟨rfl, (by (repeat (first | exact HB5.out | refine up_onto ?_ _ | refine up_alloc ?_ _)))⟩
    · go_enter Try.func5, Try.ntmps5
      go_wp2_with (first
        | (go_at_call 14; with_reducible refine (above HFW.out).mono ?_; rintro x _ ⟨rfl, y, rfl⟩)
        | (go_at_call 9; with_reducible refine (above (HAW.out _)).mono ?_; rintro x _ ⟨rfl, y, rfl⟩))
      go_ret
      exact ⟨rfl, (by (repeat (first | exact Below.refl _ _ | refine up_onto ?_ _ | refine up_alloc ?_ _)))⟩
end Go.Proofs.Ytpbeodhopibbaaa

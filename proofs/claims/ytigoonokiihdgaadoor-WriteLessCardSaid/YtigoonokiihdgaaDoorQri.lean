/- Layer 10: the walk of WriteLess. -/
import Derived.Test.YtigoonokiihdgaaDoorQrh
namespace Go.Proofs.YtigoonokiihdgaaDoor
open Go.ChangeShapes Go.WideShapes Go.ChangeAt Go.RowKit
set_option linter.unusedVariables false
set_option linter.unusedSimpArgs false

theorem text_less {d q e : Int} (hr : rightB d q e = true) (t : List (List ByteArray)) (hm : AllMay t) (s : ByteArray) (hs : bl s = textN d q e t (frontN t)) (k : Nat) (hk : k < s.size) (L : ByteArray) (hL : bl L = (bl s).take k ++ (bl s).drop (k + 1)) (hE : EndsLf (bl L)) (hLs : L.size ≤ 980)
    (hK : (whKA (wideG d q e L) (bl L)).1 = 0) : whRs (wideG d q e L) (bl L) ≠ t := by
  intro hR
  have hbt := right_bytes hr
  refine wr_less (right_dia hr) (by omega) (by omega) (right_ends hr) (t.map fun r => r.map bl) (fun r hr f hf x hx => ?_) (bl s) (by rw [hs, text_all hm]) (bl_bytes s) k (by rw [bl_length]; exact hk) (bl L) hL hE 981 (mk0 2147483648 2147483648 2147483648 false) rfl ?_ hK ?_
  · obtain ⟨y, _, rfl⟩ := List.mem_map.1 hr
    obtain ⟨z, _, rfl⟩ := List.mem_map.1 hf
    exact bl_bytes z x hx
  · have := whOff_len (bl L)
    rw [bl_length] at this; omega
  · rw [back_tab]; exact hR
theorem rem_nat (x s : Int) (n : Nat) (hx : 0 ≤ x) (hn : 0 < n) (hs : s = n) : Int.tmod x s = ((x.toNat % n : Nat) : Int) := by
  subst hs
  obtain ⟨k, rfl⟩ := Int.eq_ofNat_of_zero_le hx
  rw [Int.toNat_natCast]
  exact (Int.natCast_emod k n ▸ (by rw [Int.tmod_eq_emod_of_nonneg (by omega)]))

set_option maxRecDepth 100000 in
set_option maxHeartbeats 3200000 in
theorem writeLess_walk (hTable : Hid TableSays) (hAw : Hid AwakeSays10) (d q e : Int) (A : Option Addr) (n c : Nat) (V : List Value) (t : List (List ByteArray)) (x : Int) (w : World) (hd : (Lit.int .u8 d).wf = true) (hq : (Lit.int .u8 q).wf = true) (_ : (Lit.int .i64 e).wf = true) (hnc : n ≤ c) (hcm : c ≤ maxLen) (hin : TabIn w A n V t) (hok : Sizes t) (hx : (Lit.int .u8 x).wf = true) :
    Calls Tryd.prog 6 #[.agg #[.int .u8 d, .int .u8 q, .int .i64 e], .slice A n c, .int .u8 x] w fun x w' => x = .returned (.bool true) ∧ Below w.heap.size w w' := by
  obtain ⟨d0, d1⟩ := bounds_u8 hd
  obtain ⟨q0, q1⟩ := bounds_u8 hq
  obtain ⟨x0, x1⟩ := bounds_u8 hx
  have HAW := Lib.hid (show ∀ w : World, Calls Tryd.prog 8 #[] w fun x w' => x = .returned (.bool true) ∧ Below w.heap.size w w' from fun w => hAw.out w)
  have HLN := Lib.hid hin.len
  have hn9 : n ≤ 9223372036854775807 := by unfold maxLen at hcm; omega
  obtain ⟨u, hu⟩ : ∃ u, greatB 8 16 60 t = u := ⟨_, rfl⟩
  have HI := Lib.hid hin
  have HK := Lib.hid hok
  obtain ⟨U, hU⟩ : ∃ U, U = w.alloc (.cells #[.int .u8 d, .int .u8 q, .int .i64 e] 23) := ⟨_, rfl⟩
  have HBU := Lib.hid (show Below w.heap.size w U by rw [hU]; exact up_alloc (Below.refl _ w) _)
  have HXU := Lib.hid (show StB U w.heap.size 23 #[.int .u8 d, .int .u8 q, .int .i64 e] by rw [hU]; exact StB.new _ _ _)
  have HG := Lib.hid (show Calls Tryd.prog 7 #[.slice A n c, .int .i64 8, .int .i64 16, .int .i64 60] U fun x w' => x = .returned (.bool u) ∧ Below U.heap.size U w' from
    great_is A n c V t 8 16 60 (by omega) (by omega) (by omega) u (Lib.hid hu) U (Lib.hid (HI.out.below HBU.out)) HK hn9)
  clear hd hq hx hin hok hnc hAw
  cases u
  · have hg := great_no hu
    have hn8 : n ≤ 8 := by have := HLN.out; omega
    have HGR := Lib.hid hg
    clear hu hg
    have hln := Lib.hid (fun (W : World) (hb : Below U.heap.size U W) => hTable.out d q e t A n c V W d0 d1 q0 q1 (by omega) (by have := HGR.out; omega) (by have := HGR.out; omega) (Lib.hid (HI.out.below (HBU.out.trans (hb.mono HBU.out.size)))) HK)
    obtain ⟨M, hM⟩ : ∃ M, tabE d q e t = M := ⟨_, rfl⟩
    obtain ⟨T, hT⟩ : ∃ T, tabS d q e t = T := ⟨_, rfl⟩
    obtain ⟨N, hN⟩ : ∃ N, tabN d q e t = N := ⟨_, rfl⟩
    rw [hM, hT, hN] at hln
    have hem := emp_is T
    by_cases hM0 : M = 0
    · have hz := tabE_zero (hM.trans hM0)
      have hTb : bl T = textN d q e t (frontN t) := by
        rw [← hT]; unfold tabS; rw [hM, if_pos hM0]; exact bl_textO d0 d1 q0 q1 e t
      have hTs : T.size ≤ 900 := by
        rw [← hT]; unfold tabS; rw [hM, if_pos hM0]
        have := textO_size (e := e) d0 d1 q0 q1 t
        have := HGR.out; omega
      have hMn : (M != 0) = false := by simp [hM0]
      by_cases hT0 : T.size = 0
      · rw [decide_eq_true hT0] at hem
        clear hM hT hN hTb hz hTs hT0 hM0
        go_enter Tryd.func6, Tryd.ntmps6
        go_wp2_with fail
        rw [← hU]
        clear hU
        refine HG.out.mono ?_
        rintro x U1 ⟨rfl, hb1⟩
        have hl1 := hln.out U1 hb1
        obtain ⟨k0, k1, k2, k3⟩ := dia3' (HXU.out.below hb1)
        have HB1 := Lib.hid (HBU.out.trans (hb1.mono HBU.out.size))
        clear hb1
        go_wp2_with (first
          | (go_at_call 14; with_reducible refine (above hl1).mono ?_; rintro x _ ⟨rfl, y1, rfl⟩)
          | (go_at_call 8; with_reducible refine (above (HAW.out _)).mono ?_; rintro x _ ⟨rfl, y6, rfl⟩))
        all_goals go_ret
        all_goals exact ⟨rfl, up_onto' HB1.out _⟩
      · rw [decide_eq_false hT0] at hem
        obtain ⟨k, hk⟩ : ∃ k, x.toNat % T.size = k := ⟨_, rfl⟩
        have hkT : k < T.size := by rw [← hk]; exact Nat.mod_lt _ (by omega)
        have hrem : Int.tmod x (T.size : Int) = (k : Int) := by rw [← hk]; exact rem_nat x _ T.size x0 (by omega) rfl
        have hs1 := fun z => run_to (P := Tryd.prog) z 9 T k (k : Int) rfl (by omega) Tryd.underlying9
        have hs2 := fun z => run_from (P := Tryd.prog) z 9 T (k + 1) ((k : Int) + 1) (by omega) (by omega) Tryd.underlying9
        obtain ⟨X, hX⟩ : ∃ X, T.extract 0 k = X := ⟨_, rfl⟩
        obtain ⟨Y, hY⟩ : ∃ Y, T.extract (k + 1) T.size = Y := ⟨_, rfl⟩
        rw [hX] at hs1
        rw [hY] at hs2
        have hXs : X.size ≤ 900 := by rw [← hX, ByteArray.size_extract]; omega
        have hYs : Y.size + X.size ≤ 900 := by rw [← hX, ← hY, ByteArray.size_extract, ByteArray.size_extract]; omega
        obtain ⟨L, hL⟩ : ∃ L, X ++ Y = L := ⟨_, rfl⟩
        have HLX := Lib.hid hL
        have hLb : bl L = (bl T).take k ++ (bl T).drop (k + 1) := by rw [← hL, bl_append, ← hX, ← hY, bl_take, bl_from]
        have hLs : L.size ≤ 980 := by rw [← hL, ByteArray.size_append]; omega
        obtain ⟨E, hE⟩ : ∃ E, endO e = E := ⟨_, rfl⟩
        have HE := Lib.hid hE
        have hEs : E.size ≤ 2 := by rw [← hE]; exact endO_size e
        obtain ⟨v, hv⟩ : ∃ v, endsB L E = v := ⟨_, rfl⟩
        have hend := Lib.hid (fun W => ends_is' L E (by omega) (by omega) v (Lib.hid hv) W)
        obtain ⟨rs, hrs⟩ : ∃ rs, whRs (wideG d q e L) (bl L) = rs := ⟨_, rfl⟩
        obtain ⟨K, hK⟩ : ∃ K, (whKA (wideG d q e L) (bl L)).1 = K := ⟨_, rfl⟩
        have hno : v = true → K = 0 → decide (rs = t) = false := fun h1 h2 => by
          refine decide_eq_false ?_
          rw [← hrs]
          exact text_less hz.1 t hz.2 T hTb k hkT L hLb (ends_lf (e := e) (by rw [hE, hv, h1])) hLs (by rw [hK, h2])
        obtain ⟨m, hm⟩ : ∃ m, rs.length = m := ⟨_, rfl⟩
        have hpar := Lib.hid (fun (W : World) => wideParse_is d q e hz.1 L hLs rs K m (Lib.hid hrs) (Lib.hid hK) (Lib.hid hm) W)
        have HF := Lib.hid (show ∀ x ∈ t, x.length ≤ 1000000 from fun x hx => by have := fldN_mem hx; have := HGR.out; omega)
        have hsame := Lib.hid (fun (v : Bool) (hv : Hid (decide (rs = t) = v)) (W : World) (C : Option Addr) (cc : Nat) (V2 : List Value) (h1 : Hid (TabIn W C m V2 rs)) (h2 : Hid (TabIn W A n V t)) => sameTab_any C A m n cc c V2 V rs t W h1 h2 (by omega) HF v hv)
        have HNO := Lib.hid hno
        clear hM hT hN hTb hz hT0 hM0 hk hX hY hLb hE hv hrs hK hno hm hLs
        go_enter Tryd.func6, Tryd.ntmps6
        go_wp2_with fail
        rw [← hU]
        clear hU
        refine HG.out.mono ?_
        rintro x U1 ⟨rfl, hb1⟩
        have HX1 := Lib.hid (HXU.out.below hb1)
        have hl1 := hln.out U1 hb1
        obtain ⟨k0, k1, k2, k3⟩ := dia3' (HXU.out.below hb1)
        have HB1 := Lib.hid (HBU.out.trans (hb1.mono HBU.out.size))
        clear hb1
        go_wp2_with (go_at_call 14; with_reducible refine (above hl1).mono ?_; rintro x _ ⟨rfl, y1, rfl⟩)
        obtain ⟨U2, hU2⟩ : ∃ U2, U2 = onto U1 y1 := ⟨_, rfl⟩
        have HB2 := Lib.hid (show Below w.heap.size w U2 by rw [hU2]; exact up_onto' HB1.out _)
        have hs2' := Lib.hid (show StB U2 w.heap.size 23 #[.int .u8 d, .int .u8 q, .int .i64 e] by rw [hU2]; exact HX1.out.below (onto_below U1 y1))
        rw [← hU2]
        clear hU2 hl1 k0 k1 k2 k3
        refine wp_region_onto (by kernel_rfl) (by kernel_rfl) ?_
        repeat (go_big_quiet_step (fail))
        refine wpQuiet_nil ?_
        intro _ hw'
        obtain ⟨z1, hw''⟩ := hw'
        subst hw''
        obtain ⟨U3, hU3⟩ : ∃ U3, U3 = onto U2 z1 := ⟨_, rfl⟩
        have HB3 := Lib.hid (show Below w.heap.size w U3 by rw [hU3]; exact up_onto' HB2.out _)
        obtain ⟨k0, k1, k2, k3⟩ := dia3' (show StB U3 w.heap.size 23 #[.int .u8 d, .int .u8 q, .int .i64 e] by rw [hU3]; exact hs2'.out.below (onto_below U2 z1))
        rw [← hU3]
        clear hU3 hs2'
        cases v
        · go_wp2_with (first
            | (go_at_call 11; with_reducible refine (above (ref_any d q e d0 d1 q0 q1 _)).mono ?_; rintro x _ ⟨rfl, y2, rfl⟩)
            | (go_at_call 23; with_reducible refine (above (refEnd_is d q e E HE _)).mono ?_; rintro x _ ⟨rfl, y3, rfl⟩)
            | (go_at_call 22; with_reducible refine (above (hend.out _)).mono ?_; rintro x _ ⟨rfl, y4, rfl⟩)
            | (go_at_call 8; with_reducible refine (above (HAW.out _)).mono ?_; rintro x _ ⟨rfl, y6, rfl⟩))
          all_goals go_ret
          all_goals exact ⟨rfl, up_onto' HB3.out _⟩
        · go_wp2_with (first
            | (go_at_call 11; with_reducible refine (above (ref_any d q e d0 d1 q0 q1 _)).mono ?_; rintro x _ ⟨rfl, y2, rfl⟩)
            | (go_at_call 23; with_reducible refine (above (refEnd_is d q e E HE _)).mono ?_; rintro x _ ⟨rfl, y3, rfl⟩)
            | (go_at_call 22; with_reducible refine (above (hend.out _)).mono ?_; rintro x _ ⟨rfl, y4, rfl⟩)
            | (go_at_call 20; with_reducible refine (above (wide10_any _)).mono ?_; rintro x _ ⟨rfl, y5, rfl⟩))
          refine (hpar.out _).mono ?_
          rintro x U5 ⟨C, cc, AT, V2, rfl, HT2, hy5⟩
          have HB5 := Lib.hid (show Below w.heap.size w U5 by obtain ⟨y7, h7⟩ := hy5; rw [h7]; exact up_onto' (up_onto' HB3.out _) _)
          clear hy5
          by_cases hK0 : K = 0
          · have hs5 := hsame.out false (Lib.hid (HNO.out (by trivial) hK0)) U5 C cc V2 (Lib.hid HT2.out) (Lib.hid (HI.out.below HB5.out))
            have hKn : (K != 0) = false := by simp [hK0]
            clear hK0
            go_wp2_with (first
              | (go_at_call 21; with_reducible refine (above hs5).mono ?_; rintro x _ ⟨rfl, y8, rfl⟩)
              | (go_at_call 8; with_reducible refine (above (HAW.out _)).mono ?_; rintro x _ ⟨rfl, y9, rfl⟩))
            all_goals go_ret
            all_goals exact ⟨rfl, up_onto' HB5.out _⟩
          · have hKn : (K != 0) = true := by simpa using hK0
            clear hK0
            go_wp2_with (go_at_call 8; with_reducible refine (above (HAW.out _)).mono ?_; rintro x _ ⟨rfl, y9, rfl⟩)
            all_goals go_ret
            all_goals exact ⟨rfl, up_onto' HB5.out _⟩
    · have hMn : (M != 0) = true := by simpa using hM0
      clear hM hT hN hM0 hem
      go_enter Tryd.func6, Tryd.ntmps6
      go_wp2_with fail
      rw [← hU]
      clear hU
      refine HG.out.mono ?_
      rintro x U1 ⟨rfl, hb1⟩
      have hl1 := hln.out U1 hb1
      obtain ⟨k0, k1, k2, k3⟩ := dia3' (HXU.out.below hb1)
      have HB1 := Lib.hid (HBU.out.trans (hb1.mono HBU.out.size))
      clear hb1
      go_wp2_with (first
        | (go_at_call 14; with_reducible refine (above hl1).mono ?_; rintro x _ ⟨rfl, y1, rfl⟩)
        | (go_at_call 8; with_reducible refine (above (HAW.out _)).mono ?_; rintro x _ ⟨rfl, y6, rfl⟩))
      all_goals go_ret
      all_goals exact ⟨rfl, up_onto' HB1.out _⟩
  · go_enter Tryd.func6, Tryd.ntmps6
    go_wp2_with fail
    rw [← hU]
    clear hU
    refine HG.out.mono ?_
    rintro x U1 ⟨rfl, hb1⟩
    have HB1 := Lib.hid (HBU.out.trans (hb1.mono HBU.out.size))
    clear hb1
    go_wp2_with (go_at_call 8; with_reducible refine (above (HAW.out _)).mono ?_; rintro x _ ⟨rfl, y4, rfl⟩)
    go_ret
    exact ⟨rfl, up_onto' HB1.out _⟩
end Go.Proofs.YtigoonokiihdgaaDoor

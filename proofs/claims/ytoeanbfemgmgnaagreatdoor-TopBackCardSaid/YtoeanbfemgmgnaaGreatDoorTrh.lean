/- Layer 12: the walk of TopBack over the program's writer and reader. -/
import Derived.Test.YtoeanbfemgmgnaaGreatDoorTre
import Derived.Test.YtoeanbfemgmgnaaGreatDoorTrt
import Derived.Test.YtoeanbfemgmgnaaGreatDoorWrw
namespace Go.Proofs.YtoeanbfemgmgnaaGreatDoor
open Go.ChangeShapes Go.WideShapes Go.ChangeAt Go.RowKit
set_option linter.unusedVariables false
set_option linter.unusedSimpArgs false

theorem small12_any (A : Option Addr) (n c : Nat) (V : List Value) (t : List (List ByteArray)) (b : Bool) (hv : Hid ((!greatB 12 8 200 t) = b)) (w : World) (ht : Hid (TabIn w A n V t)) (hok : Hid (Sizes t)) (hn : n ≤ 9223372036854775807) :
    Calls Tryz.prog 4 #[.slice A n c] w fun x w' => x = .returned (.bool b) ∧ Below w.heap.size w w' := by
  obtain ⟨u, hu⟩ : ∃ u, greatB 12 8 200 t = u := ⟨_, rfl⟩
  have HU := Lib.hid hu
  have hb : (!u) = b := by rw [← hu]; exact hv.out
  have hg : Calls Tryz.prog 17 #[.slice A n c, .int .i64 12, .int .i64 8, .int .i64 200] w fun x w' => x = .returned (.bool u) ∧ Below w.heap.size w w' := great_is A n c V t 12 8 200 (by omega) (by omega) (by omega) u HU w ht hok hn
  clear hu
  go_enter Tryz.func4, Tryz.ntmps4
  go_wp2_with (go_at_call 17; with_reducible refine (above hg).mono ?_; rintro x _ ⟨rfl, y, rfl⟩)
  go_ret
  exact ⟨by rw [← hb]; rfl, up_onto (Below.refl _ w) _⟩

set_option maxRecDepth 100000 in
set_option maxHeartbeats 6400000 in
theorem topBack_walk {WB : World → Addr → Wr1 → (Nat → Prop) → Prop} (HW : Hid (PW WB)) {RZ : World → Addr → RdS → (Nat → Prop) → Prop} {kf : RdS → Int × Int} {cf of : RdS → Int} (H : Hid (PR RZ kf cf of)) (hAl : Hid AliveSays) (d q e : Int) (A : Option Addr) (n c : Nat) (V : List Value) (t : List (List ByteArray)) (P : Option Addr) (pn pc : Nat) (ps : List Int) (P2 : Option Addr) (n2 c2 : Nat) (ps2 : List Int) (w : World) (hd : (Lit.int .u8 d).wf = true) (hq : (Lit.int .u8 q).wf = true)
    (hnc : n ≤ c) (hcm : c ≤ maxLen) (hin : TabIn w A n V t) (hok : Sizes t) (hpc : pn ≤ pc) (hpm : pc ≤ maxLen) (hp : SlIn w P pn (ps.map (Value.int .i64))) (hpb : ∀ x ∈ ps, -9223372036854775808 ≤ x ∧ x ≤ 9223372036854775807) (hnc2 : n2 ≤ c2) (hcm2 : c2 ≤ maxLen) (hp2 : SlIn w P2 n2 (ps2.map (Value.int .i64))) :
    Calls Tryz.prog 3 #[.agg #[.int .u8 d, .int .u8 q, .int .i64 e], .slice A n c, .agg #[.slice P pn pc, .slice P2 n2 c2]] w fun x w' => x = .returned (.bool true) ∧ Below w.heap.size w w' := by
  obtain ⟨d0, d1⟩ := bounds_u8 hd
  obtain ⟨q0, q1⟩ := bounds_u8 hq
  have HAW := Lib.hid (show ∀ w : World, Calls Tryz.prog 7 #[] w fun x w' => x = .returned (.bool true) ∧ Below w.heap.size w w' from fun w => hAl.out w)
  have HLN := Lib.hid hin.len
  have hn9 : n ≤ 9223372036854775807 := by unfold maxLen at hcm; omega
  have hn91 : pn ≤ 9223372036854775807 := by unfold maxLen at hpm; omega
  have hn92 : n2 ≤ 9223372036854775807 := by unfold maxLen at hcm2; omega
  have HPL := Lib.hid (show ps.length = pn by have := hp.1; rw [List.length_map] at this; exact this)
  obtain ⟨v, hv⟩ : ∃ v, rightB d q e = v := ⟨_, rfl⟩
  have HR := Lib.hid (show rightR d q e = v by rw [right_eq d q e d0 q0]; exact hv)
  obtain ⟨u, hu⟩ : ∃ u, (!greatB 12 8 200 t) = u := ⟨_, rfl⟩
  have HUU := Lib.hid hu
  have HI := Lib.hid hin
  have HK := Lib.hid hok
  have HP := Lib.hid hp
  have HP2 := Lib.hid hp2
  have HPB := Lib.hid hpb
  obtain ⟨g, hg⟩ : ∃ g, w.heap.size = g := ⟨_, rfl⟩
  obtain ⟨U, hU⟩ : ∃ U, U = (w.alloc (.cells #[.int .u8 d, .int .u8 q, .int .i64 e] 23)).alloc (.cells #[.slice P pn pc, .slice P2 n2 c2] 27) := ⟨_, rfl⟩
  have HBU := Lib.hid (show Below w.heap.size w U by rw [hU]; exact up_alloc (up_alloc (Below.refl _ w) _) _)
  have HXU := Lib.hid (show StB U g 23 #[.int .u8 d, .int .u8 q, .int .i64 e] by rw [hU]; exact (StB.made w hg.symm _ _).below (up_alloc (Below.refl _ _) _))
  have HZU := Lib.hid (show StB U (g + 1) 27 #[.slice P pn pc, .slice P2 n2 c2] by rw [hU]; exact StB.made _ (by simp; omega) _ _)
  have HSM := Lib.hid (show Calls Tryz.prog 4 #[.slice A n c] U fun x w' => x = .returned (.bool u) ∧ Below U.heap.size U w' from
    small12_any A n c V t u HUU U (Lib.hid (HI.out.below HBU.out)) HK hn9)
  obtain ⟨k0, k1, k2, k3⟩ := dia3' HXU.out
  obtain ⟨j0, j1, j2⟩ := deal2 HZU.out
  clear hd hq hAl hin hok hp hp2 hpb hu
  by_cases hgo : u = true ∧ pn ≤ 100 ∧ n2 ≤ 100 ∧ v = true
  · obtain ⟨rfl, h100, h1002, rfl⟩ := hgo
    have g2 : decide (100 < pn) = false := decide_eq_false (by omega)
    have g3 : decide (100 < n2) = false := decide_eq_false (by omega)
    have hgr := great_no (show greatB 12 8 200 t = false by have := HUU.out; simpa using this)
    have hn12 : n ≤ 12 := by have := HLN.out; omega
    have HGR := Lib.hid hgr
    have HV := Lib.hid hv
    have hnew := Lib.hid (fun (W : World) => HW.out.new_yes d q e W d0 d1 q0 q1 hv)
    clear hv hgr
    go_enter Tryz.func3, Tryz.ntmps3
    go_upto_region 1 with fail
    rw [← hU]
    clear hU
    go_upto_region 3 with (first
      | (go_at_call 4; with_reducible refine (above HSM.out).mono ?_; rintro x _ ⟨rfl, y0, rfl⟩)
      | (go_at_call 6; with_reducible refine (above (ref_any d q e d0 d1 q0 q1 _)).mono ?_; rintro x _ ⟨rfl, y1, rfl⟩)
      | (go_at_call 5; with_reducible refine (above (refRight_is d q e _ HR _)).mono ?_; rintro x _ ⟨rfl, y2, rfl⟩))
    generalize hy4 : onto U _ = U2
    have HB2 := Lib.hid (show Below w.heap.size w U2 by rw [← hy4]; exact up_onto' HBU.out _)
    have HX2 := Lib.hid (show StB U2 g 23 #[.int .u8 d, .int .u8 q, .int .i64 e] by rw [← hy4]; exact HXU.out.below (onto_below _ _))
    have HZ2 := Lib.hid (show StB U2 (g + 1) 27 #[.slice P pn pc, .slice P2 n2 c2] by rw [← hy4]; exact HZU.out.below (onto_below _ _))
    have HI2 := Lib.hid (HI.out.below HB2.out)
    have HPA := Lib.hid (HP.out.below HB2.out)
    clear hy4 k0 k1 k2 k3 j0 j1 j2
    obtain ⟨k0, k1, k2, k3⟩ := dia3' HX2.out
    go_wp2_with fail
    refine (hnew.out U2).mono ?_
    rintro y U3 ⟨p, S3, rfl, HW3, HS3, HB23⟩
    clear k0 k1 k2 k3
    go_wp2_with fail
    go_loopw [10, 52] (fun s10 i wr => ∃ (k : Nat) (X : Wr1) (S : Nat → Prop), k ≤ n ∧ i = .int .i64 k ∧ Hid (∀ j r, j < k → t[j]? = some r → mayN r = 0) ∧ Hid (WrAt d q e t k false ⟨#[]⟩ X) ∧ Hid (X.tk = 0) ∧ Hid (WB wr p X S) ∧ Hid (∀ k, S k → U2.heap.size ≤ k) ∧ Hid (Below U2.heap.size U2 wr)) (fun _ i _ => n - (intOf i).toNat)
    case atStart => exact ⟨0, _, S3, Nat.zero_le _, rfl, Lib.hid (fun j r hj => by omega), Lib.hid (WrAt.start d0 d1 q0 q1 t), Lib.hid rfl, HW3, HS3, HB23⟩
    case round =>
      obtain ⟨k, X, S, hk, rfl, HM, HX, HTK, HWW, HS, HB⟩ := hrel
      obtain ⟨W, hW⟩ : ∃ W, W = wr := ⟨_, rfl⟩
      subst hW
      clear HW3 HS3 HB23
      by_cases hlt : k < n
      · obtain ⟨r, hr'⟩ : ∃ r, t[k]? = some r := ⟨_, List.getElem?_eq_getElem (by rw [HLN.out]; exact hlt)⟩
        obtain ⟨a, D, b, rfl, hca, hD⟩ := (HI2.out.below HB.out).row hr'
        obtain ⟨m, hm⟩ : ∃ m, m = r.length := ⟨_, rfl⟩
        have hm1 : m ≤ 1000 := by have := fldN_mem (List.mem_of_getElem? hr'); have := HGR.out; omega
        have hlr : lenL r ≤ 1000 := by have := bytN_mem (List.mem_of_getElem? hr'); have := HGR.out; omega
        rw [← hm] at hca hD
        have HD := Lib.hid hD
        have HRR := Lib.hid hr'
        obtain ⟨M, hM⟩ : ∃ M, mayN r = M := ⟨_, rfl⟩
        have HMM := Lib.hid hM
        have HSZ := Lib.hid (show ∀ s ∈ r, s.size ≤ 140737488351232 from (HK.out r (List.mem_of_getElem? hr')).2)
        have hmay := Lib.hid (may_is D m b r (by omega) M HMM W HD HSZ)
        clear hr' hD hm
        by_cases hM0 : M = 0
        · subst hM0
          have HPT := Lib.hid (HX.out.put HRR.out hM)
          have HSZX := Lib.hid (HX.out.size (by rw [HLN.out]; exact hk))
          have HTK' := Lib.hid (show (X.put r).tk = 0 by unfold Wr1.put; split <;> exact HTK.out)
          clear hM
          go_wp2_with (go_at_call 9; with_reducible refine (above hmay.out).mono ?_; rintro x _ ⟨rfl, y1, rfl⟩)
          obtain ⟨W1, hW1⟩ : ∃ W1, W1 = onto W y1 := ⟨_, rfl⟩
          have hbW1 : Below W.heap.size W W1 := by rw [hW1]; exact onto_below W y1
          rw [← hW1]
          have HW1 := Lib.hid (HW.out.below HWW.out hbW1)
          have HD1 := Lib.hid (HD.out.below hbW1)
          have HBW1 := Lib.hid (HB.out.trans (hbW1.mono HB.out.size))
          clear hW1 hbW1
          refine (HW.out.put X p S D m b r W1 HX.out.ok (by have := HSZX.out.1; have := HGR.out; omega) (by rw [HX.out.ct]; omega) hm1 hlr HW1 HD1).mono ?_
          rintro y W2 ⟨rfl, S2, HW2, HT2, HS2⟩
          rw [HPT.out.1]
          have HBW2 := Lib.hid (HBW1.out.trans (Touch.below HT2.out HBW1.out.size (fun k hk => HS.out k hk)))
          have HS22 := Lib.hid (show ∀ k, S2 k → U2.heap.size ≤ k from fun k hk => by
            rcases HS2.out k hk with h2 | h2
            · exact HS.out k h2
            · have := HBW1.out.size; omega)
          have HP2' := Lib.hid HPT.out.2
          have HM' := Lib.hid (show ∀ j x, j < k + 1 → t[j]? = some x → mayN x = 0 from fun j x hj hx => by
            by_cases h : j < k
            · exact HM.out j x h hx
            · obtain rfl : j = k := by omega
              rw [HRR.out] at hx; cases hx; exact HMM.out)
          clear HW1 HD1 HBW1 HWW HB
          go_wp2_with fail
          go_roundw
          case rel => exact ⟨k + 1, X.put r, S2, by omega, by go_num, HM', HP2', HTK', HW2, HS22, HBW2⟩
          case measure => simp [intOf]; omega
        · have hMn : (M != 0) = true := by simpa using hM0
          have HBE := Lib.hid (HB2.out.trans (HB.out.mono HB2.out.size))
          clear hM hM0
          go_wp2_with (first
            | (go_at_call 9; with_reducible refine (above hmay.out).mono ?_; rintro x _ ⟨rfl, y1, rfl⟩)
            | (go_at_call 7; with_reducible refine (above (HAW.out _)).mono ?_; rintro x _ ⟨rfl, y4, rfl⟩))
          go_ret
          exact ⟨rfl, up_onto' HBE.out _⟩
      · obtain rfl : k = n := by omega
        have HAM := Lib.hid (show AllMay t from fun r hr => by
          obtain ⟨j, hj⟩ := List.getElem?_of_mem hr
          exact HM.out j r (by have := (List.getElem?_eq_some_iff.1 hj).1; have := HLN.out; omega) hj)
        obtain ⟨TX, hTX⟩ : ∃ TX, textO d q e t = TX := ⟨_, rfl⟩
        have HTX := Lib.hid (show bl TX = textN d q e t (frontN t) by rw [← hTX]; exact bl_textO d0 d1 q0 q1 e t)
        have hts : TX.size ≤ 2200 := by rw [← hTX]; have := textO_size (e := e) d0 d1 q0 q1 t; have := HGR.out; omega
        have HFR := Lib.hid (show frontN t = k by rw [front_all HAM.out]; exact HLN.out)
        have HSZ0 := Lib.hid (HX.out.size (by rw [HLN.out]; exact Nat.le_refl _))
        clear hlt hTX
        go_wp2_with fail
        refine (HW.out.close X p S W HWW).mono ?_
        rintro y W1 ⟨rfl, S1, HW1, HT1, HS1⟩
        have HBW1 := Lib.hid (HB.out.trans (Touch.below HT1.out HB.out.size (fun k hk => HS.out k hk)))
        have HS11 := Lib.hid (show ∀ k, S1 k → U2.heap.size ≤ k from fun k hk => by
          rcases HS1.out k hk with h2 | h2
          · exact HS.out k h2
          · have := HB.out.size; omega)
        have HXS := Lib.hid HX.out.shut
        have HLEFT0 := Lib.hid (show X.shut.S.size - X.shut.tk + 0 ≤ 2000 by
          show X.S.size - X.tk + 0 ≤ 2000
          have := HSZ0.out.1; have := HGR.out; have := HLN.out; omega)
        clear HWW HX HB HS
        go_wp2_with fail
        go_loopw [11, 12, 13] (fun s11 i s13 wr => ∃ (j : Nat) (out : ByteArray) (X : Wr1) (S : Nat → Prop), j ≤ 2000 ∧ i = .int .i64 j ∧ s11 = .string out ∧ out.size ≤ 10000 ∧ Hid (X.S.size - X.tk + j ≤ 2000) ∧ Hid (WrAt d q e t k true out X) ∧ Hid (WB wr p X S) ∧ Hid (∀ k, S k → U2.heap.size ≤ k) ∧ Hid (Below U2.heap.size U2 wr)) (fun _ i _ _ => 2000 - (intOf i).toNat)
        case atStart => exact ⟨0, ⟨#[]⟩, X.shut, S1, Nat.zero_le _, rfl, rfl, Nat.zero_le _, HLEFT0, HXS, HW1, HS11, HBW1⟩
        case round =>
          clear HW1 HXS HLEFT0 HS11 HBW1
          obtain ⟨j, out, X, S, hj, rfl, rfl, hos, HLEFT, HX3, HWW, HS, HB⟩ := hrel
          obtain ⟨W, hW⟩ : ∃ W, W = wr := ⟨_, rfl⟩
          subst hW
          have hrd := HW.out.ready X p S W HWW
          obtain ⟨R, hR'⟩ : ∃ R : Int, (X.S.size : Int) - (X.tk : Int) = R := ⟨_, rfl⟩
          rw [hR'] at hrd
          obtain ⟨k0, k1, k2, k3⟩ := dia3' (HX2.out.below HB.out)
          obtain ⟨j0, j1, j2⟩ := deal2 (HZ2.out.below HB.out)
          by_cases hfin : X.tk = X.S.size
          · obtain rfl : out = TX := bl_inj (by rw [HX3.out.all hfin, HTX.out, HFR.out])
            have hR0 : R = 0 := by rw [← hR']; omega
            subst hR0
            clear hR' hfin
            go_wp2_with (go_at_call 12; with_reducible refine (above hrd).mono ?_; rintro x _ ⟨rfl, z0, rfl⟩)
            obtain ⟨W1, hW1⟩ : ∃ W1, W1 = onto W z0 := ⟨_, rfl⟩
            have hbW1 : Below W.heap.size W W1 := by rw [hW1]; exact onto_below W z0
            rw [← hW1]
            have HB1 := Lib.hid (HB2.out.trans ((HB.out.trans (hbW1.mono HB.out.size)).mono HB2.out.size))
            have HX1 := Lib.hid (show StB W1 g 23 #[.int .u8 d, .int .u8 q, .int .i64 e] from HX2.out.below (HB.out.trans (hbW1.mono HB.out.size)))
            clear hW1 hbW1 k0 k1 k2 k3 j0 j1 j2 hrd
            obtain ⟨u1, u2⟩ := text_back (lf := 1000) (ls := 100) (lr := 100) d0 d1 q0 q1 HV.out (by decide) t HAM.out (by have := HLN.out; omega) (fun r hr => by have := fldN_mem hr; have := HGR.out; omega) (fun r hr y hy => by have h1 := bytN_mem hr; have h2 := lenL_mem hy; have := HGR.out; omega) out HTX.out
            have HOK := Lib.hid (show (RdS.at_ d q e 1000 100 100 false out true 0).Ok from ⟨d0, d1, q0, q1, HV.out, by show (withinB 1000 && (withinB 100 && withinB 100)) = true; decide⟩)
            have hfed := fed_any H d q e 1000 100 100 false out HOK hts ps2 P2 n2 c2 h1002 W1 (Lib.hid (HP2.out.below HB1.out)) t 0 0 k (Lib.hid u1) (Lib.hid u2) HLN
            clear u1 u2
            refine hfed.mono ?_
            rintro x W2 ⟨C, cc, V2, rfl, HT2, hb2⟩
            have HB4 := Lib.hid (HB1.out.trans (hb2.out.mono HB1.out.size))
            have HX4 := Lib.hid (HX1.out.below hb2.out)
            clear hfed hb2 HX1 HB1
            go_upto_region 24 with fail
            generalize hy6 : W2.alloc (.cells #[.int .i64 0, .int .i64 0] 45) = W3
            obtain ⟨fb, hfb⟩ : ∃ fb, W2.heap.size = fb := ⟨_, rfl⟩
            have hb3 : Below W2.heap.size W2 W3 := by rw [← hy6]; exact up_alloc (Below.refl _ _) _
            have HF3 := Lib.hid (show StB W3 fb 45 #[.int .i64 0, .int .i64 0] by rw [← hy6]; exact StB.made _ hfb.symm _ _)
            have HB3 := Lib.hid (HB4.out.trans (hb3.mono HB4.out.size))
            have HX3' := Lib.hid (HX4.out.below hb3)
            have HT3 := Lib.hid (HT2.out.below hb3)
            rw [hfb]
            clear hy6 hb3 hfb HB4 HX4 HT2
            obtain ⟨a0, a1, a2⟩ := deal2 HF3.out
            obtain ⟨k0, k1, k2, k3⟩ := dia3' HX3'.out
            have hsame := sameTab_any C A k k cc c V2 V t t W3 (Lib.hid HT3.out) (Lib.hid (HI.out.below HB3.out)) (by omega) (Lib.hid (fun r hr => by have := fldN_mem hr; have := HGR.out; omega)) true (Lib.hid (by simp))
            have hfe := flt_eq 0 0 0 0
            rw [show (((0 : Int) == 0) && ((0 : Int) == 0)) = true from rfl] at hfe
            have htx := fun (y : Above W3) => text_any d q e d0 d1 q0 q1 A k c V t (by omega) (by have := HGR.out; omega) (by have := HGR.out; omega) (onto W3 y) (Lib.hid (HI.out.below (HB3.out.trans ((onto_below W3 y).mono HB3.out.size)))) HK out HTX
            have hoo : (out.toList == out.toList) = true := by simp
            go_wp2_with (first
              | (go_at_call 15; with_reducible refine (above hsame).mono ?_; rintro x _ ⟨rfl, y4, rfl⟩)
              | (go_at_call 6; with_reducible refine (above (ref_any d q e d0 d1 q0 q1 _)).mono ?_; rintro x _ ⟨rfl, z1, rfl⟩)
              | (go_at_call 16; with_reducible refine (above (htx _)).mono ?_; rintro x _ ⟨rfl, z2, rfl⟩)
              | (go_at_call 7; with_reducible refine (above (HAW.out _)).mono ?_; rintro x _ ⟨rfl, y, rfl⟩))
            go_ret
            exact ⟨rfl, (by (repeat (first | exact HB3.out | refine up_onto ?_ _ | refine up_alloc ?_ _)))⟩
          · have hR0 : 0 < R := by rw [← hR']; have := HX3.out.ok.tk; omega
            have hj3 : j < 2000 := by have := HLEFT.out; have := HX3.out.ok.tk; omega
            clear hR'
            have hput : ∀ N : Int, 1 ≤ N → N ≤ 9223372036854775807 → ∀ z0 : Above W, ∃ G, (out ++ G).size ≤ 10000 ∧ out.size + G.size ≤ 10000 ∧ Hid (X.got N = G) ∧ Hid ((X.take N).S.size - (X.take N).tk + (j + 1) ≤ 2000) ∧ Hid (WrAt d q e t k true (out ++ G) (X.take N)) ∧
                Hid (Calls Tryz.prog 13 #[.pointer (some p), .int .i64 N] (onto W z0) fun y w' => ∃ (O : Option Addr) (m c : Nat) (S' : Nat → Prop), y = .returned (.slice O m c) ∧ Hid ((convert 42 9 (.slice O m c)).run Tryz.prog w' = .ok (.string G) w') ∧ Hid (WB w' p (X.take N) S') ∧ Hid (∀ k, S' k → U2.heap.size ≤ k) ∧ Hid (Below U2.heap.size U2 w')) := fun N hN1 hN2 z0 => by
              have HT3 := HX3.out.take N
              have hgs := got_size X N HX3.out.ok
              have hG1 : 1 ≤ (X.got N).size ∧ ((X.got N).size : Int) ≤ N := by rw [hgs]; unfold Wr1.tkN; have := HX3.out.ok.tk; omega
              have hos3 : (out ++ X.got N).size ≤ 10000 := by
                have h1 := HT3.size (by rw [HLN.out]; omega); have h2 := HT3.ok.tk; have := HGR.out; have := HLN.out
                rw [h1.2]; omega
              refine ⟨X.got N, hos3, by rw [ByteArray.size_append] at hos3; exact hos3, Lib.hid rfl, Lib.hid ?_, Lib.hid HT3, Lib.hid ?_⟩
              · show X.S.size - (X.tk + X.tkN N) + (j + 1) ≤ 2000
                rw [← hgs]
                have := HLEFT.out; have := HX3.out.ok.tk; omega
              · refine (HW.out.take X p S N (onto W z0) HX3.out.ok (by have := (HX3.out.size (by rw [HLN.out]; omega)).1; have := HGR.out; have := HLN.out; omega) (by omega) hN2 (Lib.hid (HW.out.below HWW.out (onto_below W z0)))).mono ?_
                rintro y W5 ⟨O, m2, c2', S5, rfl, hm2, HO5, HOS5, HW5, HT5, HS5⟩
                have HBz : Below U2.heap.size U2 (onto W z0) := HB.out.trans ((onto_below W z0).mono HB.out.size)
                refine ⟨O, m2, c2', S5, rfl, Lib.hid (by rw [conv_text c2' Tryz.underlying42 Tryz.underlying5 Tryz.underlying9 HO5.out.toIn, toBA_bl]), HW5, Lib.hid (fun k hk => ?_), Lib.hid (HBz.trans (Touch.below HT5.out HBz.size (fun k hk => HS.out k hk)))⟩
                rcases HS5.out k hk with h2 | h2
                · exact HS.out k h2
                · have := HBz.size; omega
            by_cases hjn : j < pn
            · obtain ⟨yv, hyv⟩ : ∃ yv, ps[j]? = some yv := ⟨_, List.getElem?_eq_getElem (by rw [HPL.out]; exact hjn)⟩
              have hyb := HPB.out yv (List.mem_of_getElem? hyv)
              obtain ⟨za, rfl, hcz⟩ := (HPA.out.below HB.out).at_ (show (ps.map (Value.int .i64))[j]? = some (.int .i64 yv) by rw [List.getElem?_map, hyv]; rfl)
              clear hyv
              have hcz' : ∀ y, (onto W y).cell? (za.add ↑j) = some (.int .i64 yv) := fun y => mem_cell (onto_below W y) hcz
              have hji : (j : Int) < (pn : Int) := by omega
              by_cases hy1 : yv < 1
              · go_wp2_with (go_at_call 12; with_reducible refine (above hrd).mono ?_; rintro x _ ⟨rfl, z0, rfl⟩)
                obtain ⟨G, hos3, hGs, HGG, HLEFT', HT3, HTA⟩ := hput 1 (by omega) (by omega) z0
                refine HTA.out.mono ?_
                rintro y W5 ⟨O, m2, c2', S5, rfl, HCV, HW5, HS5, HB5⟩
                have hcv := HCV.out
                clear hput HTA hrd k0 k1 k2 k3 j0 j1 j2
                go_wp2_with fail
                go_roundw
                case rel => exact ⟨j + 1, out ++ G, X.take 1, S5, by omega, by go_num, rfl, hos3, HLEFT', HT3, HW5, HS5, HB5⟩
                case measure => simp [intOf]; omega
              · have hy1' : 1 ≤ yv := by omega
                go_wp2_with (go_at_call 12; with_reducible refine (above hrd).mono ?_; rintro x _ ⟨rfl, z0, rfl⟩)
                obtain ⟨G, hos3, hGs, HGG, HLEFT', HT3, HTA⟩ := hput yv (by omega) (by omega) z0
                refine HTA.out.mono ?_
                rintro y W5 ⟨O, m2, c2', S5, rfl, HCV, HW5, HS5, HB5⟩
                have hcv := HCV.out
                clear hput HTA hrd k0 k1 k2 k3 j0 j1 j2
                go_wp2_with fail
                go_roundw
                case rel => exact ⟨j + 1, out ++ G, X.take yv, S5, by omega, by go_num, rfl, hos3, HLEFT', HT3, HW5, HS5, HB5⟩
                case measure => simp [intOf]; omega
            · have hji : ¬ ((j : Int) < (pn : Int)) := by omega
              go_wp2_with (go_at_call 12; with_reducible refine (above hrd).mono ?_; rintro x _ ⟨rfl, z0, rfl⟩)
              obtain ⟨G, hos3, hGs, HGG, HLEFT', HT3, HTA⟩ := hput 1 (by omega) (by omega) z0
              refine HTA.out.mono ?_
              rintro y W5 ⟨O, m2, c2', S5, rfl, HCV, HW5, HS5, HB5⟩
              have hcv := HCV.out
              clear hput HTA hrd k0 k1 k2 k3 j0 j1 j2
              go_wp2_with fail
              go_roundw
              case rel => exact ⟨j + 1, out ++ G, X.take 1, S5, by omega, by go_num, rfl, hos3, HLEFT', HT3, HW5, HS5, HB5⟩
              case measure => simp [intOf]; omega
  · by_cases h1 : u = true
    · subst h1
      by_cases h2 : pn ≤ 100
      · have g2 : decide (100 < pn) = false := decide_eq_false (by omega)
        by_cases h3 : n2 ≤ 100
        · have g3 : decide (100 < n2) = false := decide_eq_false (by omega)
          cases v
          · clear hgo hv
            go_enter Tryz.func3, Tryz.ntmps3
            go_upto_region 1 with fail
            rw [← hU]
            clear hU
            go_wp2_with (first
              | (go_at_call 4; with_reducible refine (above HSM.out).mono ?_; rintro x _ ⟨rfl, y0, rfl⟩)
              | (go_at_call 6; with_reducible refine (above (ref_any d q e d0 d1 q0 q1 _)).mono ?_; rintro x _ ⟨rfl, y1, rfl⟩)
              | (go_at_call 5; with_reducible refine (above (refRight_is d q e _ HR _)).mono ?_; rintro x _ ⟨rfl, y2, rfl⟩)
              | (go_at_call 7; with_reducible refine (above (HAW.out _)).mono ?_; rintro x _ ⟨rfl, y, rfl⟩))
            go_ret
            exact ⟨rfl, (by (repeat (first | exact HBU.out | refine up_onto ?_ _ | refine up_alloc ?_ _)))⟩
          · exact absurd ⟨rfl, h2, h3, rfl⟩ hgo
        · have g3 : decide (100 < n2) = true := decide_eq_true (by omega)
          clear hgo hv
          go_enter Tryz.func3, Tryz.ntmps3
          go_upto_region 1 with fail
          rw [← hU]
          clear hU
          go_wp2_with (first
            | (go_at_call 4; with_reducible refine (above HSM.out).mono ?_; rintro x _ ⟨rfl, y0, rfl⟩)
            | (go_at_call 7; with_reducible refine (above (HAW.out _)).mono ?_; rintro x _ ⟨rfl, y, rfl⟩))
          go_ret
          exact ⟨rfl, (by (repeat (first | exact HBU.out | refine up_onto ?_ _ | refine up_alloc ?_ _)))⟩
      · have g2 : decide (100 < pn) = true := decide_eq_true (by omega)
        clear hgo hv
        go_enter Tryz.func3, Tryz.ntmps3
        go_upto_region 1 with fail
        rw [← hU]
        clear hU
        go_wp2_with (first
          | (go_at_call 4; with_reducible refine (above HSM.out).mono ?_; rintro x _ ⟨rfl, y0, rfl⟩)
          | (go_at_call 7; with_reducible refine (above (HAW.out _)).mono ?_; rintro x _ ⟨rfl, y, rfl⟩))
        go_ret
        exact ⟨rfl, (by (repeat (first | exact HBU.out | refine up_onto ?_ _ | refine up_alloc ?_ _)))⟩
    · obtain rfl : u = false := by simpa using h1
      clear hgo hv h1
      go_enter Tryz.func3, Tryz.ntmps3
      go_upto_region 1 with fail
      rw [← hU]
      clear hU
      go_wp2_with (first
        | (go_at_call 4; with_reducible refine (above HSM.out).mono ?_; rintro x _ ⟨rfl, y0, rfl⟩)
        | (go_at_call 7; with_reducible refine (above (HAW.out _)).mono ?_; rintro x _ ⟨rfl, y, rfl⟩))
      go_ret
      exact ⟨rfl, (by (repeat (first | exact HBU.out | refine up_onto ?_ _ | refine up_alloc ?_ _)))⟩
end Go.Proofs.YtoeanbfemgmgnaaGreatDoor

/- Layer 11: the walk of PiecesText. -/
import Derived.Test.YtaoncnlhilpgfaaDoorWrw
import Derived.Test.YtaoncnlhilpgfaaDoorWrc
import Derived.Test.YtaoncnlhilpgfaaDoorQrf
import Derived.Test.YtaoncnlhilpgfaaDoorZk
import Derived.Test.YtaoncnlhilpgfaaDoorQri
namespace Go.Proofs.YtaoncnlhilpgfaaDoor
open Go.ChangeShapes Go.WideShapes Go.ChangeAt Go.RowKit
set_option linter.unusedVariables false
set_option linter.unusedSimpArgs false

set_option maxRecDepth 100000 in
set_option maxHeartbeats 6400000 in
theorem piecesText_walk {WB : World → Addr → Wr1 → (Nat → Prop) → Prop} (H : Hid (PW WB)) (hAw : Hid AwakeSays11) (d q e : Int) (A : Option Addr) (n c : Nat) (V : List Value) (t : List (List ByteArray)) (Z : Row8) (w : World) (hd : (Lit.int .u8 d).wf = true) (hq : (Lit.int .u8 q).wf = true) (_ : (Lit.int .i64 e).wf = true) (hnc : n ≤ c) (hcm : c ≤ maxLen) (hin : TabIn w A n V t) (hok : Sizes t) (hZ : Z.Ok w) :
    Calls Tryd.prog 4 #[.agg #[.int .u8 d, .int .u8 q, .int .i64 e], .slice A n c, Z.v] w fun x w' => x = .returned (.bool true) ∧ Below w.heap.size w w' := by
  obtain ⟨d0, d1⟩ := bounds_u8 hd
  obtain ⟨q0, q1⟩ := bounds_u8 hq
  have HAW := Lib.hid (show ∀ w : World, Calls Tryd.prog 8 #[] w fun x w' => x = .returned (.bool true) ∧ Below w.heap.size w w' from fun w => hAw.out w)
  have HLN := Lib.hid hin.len
  have hn9 : n ≤ 9223372036854775807 := by unfold maxLen at hcm; omega
  obtain ⟨ZA, zn, zc, zl⟩ := Z
  have HZ := Lib.hid hZ.reads
  have HZB := Lib.hid hZ.bytes
  have HZL := Lib.hid (show zl.length = zn from hZ.reads.len8)
  have hzn : zn ≤ 140737488351232 := Nat.le_trans hZ.room hZ.least
  show Calls _ _ #[.agg #[.int .u8 d, .int .u8 q, .int .i64 e], .slice A n c, .slice ZA zn zc] _ _
  obtain ⟨v, hv⟩ : ∃ v, rightB d q e = v := ⟨_, rfl⟩
  have HR := Lib.hid (show rightR d q e = v by rw [right_eq d q e d0 q0]; exact hv)
  obtain ⟨u, hu⟩ : ∃ u, greatB 20 40 400 t = u := ⟨_, rfl⟩
  have HI := Lib.hid hin
  have HK := Lib.hid hok
  obtain ⟨h, hh⟩ : ∃ h, w.heap.size = h := ⟨_, rfl⟩
  have HH := Lib.hid hh
  obtain ⟨U, hU⟩ : ∃ U, U = w.alloc (.cells #[.int .u8 d, .int .u8 q, .int .i64 e] 23) := ⟨_, rfl⟩
  have HBU := Lib.hid (show Below w.heap.size w U by rw [hU]; exact up_alloc (Below.refl _ w) _)
  have HXU := Lib.hid (show StB U h 23 #[.int .u8 d, .int .u8 q, .int .i64 e] by rw [hU]; exact StB.made _ hh.symm _ _)
  have HG := Lib.hid (show Calls Tryd.prog 21 #[.slice A n c, .int .i64 20, .int .i64 40, .int .i64 400] U fun x w' => x = .returned (.bool u) ∧ Below U.heap.size U w' from
    great_is A n c V t 20 40 400 (by omega) (by omega) (by omega) u (Lib.hid hu) U (Lib.hid (HI.out.below HBU.out)) HK hn9)
  by_cases hgo : u = false ∧ v = true
  · obtain ⟨rfl, rfl⟩ := hgo
    have hg := great_no hu
    have hn20 : n ≤ 20 := by have := HLN.out; omega
    have HGR := Lib.hid hg
    have hnew := Lib.hid (fun (W : World) => H.out.new_yes d q e W d0 d1 q0 q1 hv)
    clear hu hv hg hin hok hd hq hZ
    go_enter Tryd.func4, Tryd.ntmps4
    go_wp2_with fail
    rw [← hU]
    clear hU hh
    refine HG.out.mono ?_
    rintro y U1 ⟨rfl, hb1⟩
    obtain ⟨k0, k1, k2, k3⟩ := dia3' (HXU.out.below hb1)
    have HX1 := Lib.hid (HXU.out.below hb1)
    have HB1 := Lib.hid (HBU.out.trans (hb1.mono HBU.out.size))
    clear hb1
    go_wp2_with (first
      | (go_at_call 11; with_reducible refine (above (ref_any d q e d0 d1 q0 q1 _)).mono ?_; rintro x _ ⟨rfl, y1, rfl⟩)
      | (go_at_call 10; with_reducible refine (above (refRight_is d q e _ HR _)).mono ?_; rintro x _ ⟨rfl, y2, rfl⟩))
    obtain ⟨U2, hU2⟩ : ∃ U2, U2 = onto U1 (y1.up y2) := ⟨_, rfl⟩
    have HB2 := Lib.hid (show Below w.heap.size w U2 by rw [hU2]; exact up_onto' HB1.out _)
    have HX2 := Lib.hid (show StB U2 h 23 #[.int .u8 d, .int .u8 q, .int .i64 e] by rw [hU2]; exact HX1.out.below (onto_below U1 _))
    rw [← hU2]
    clear hU2 k0 k1 k2 k3 HX1 HB1
    refine (hnew.out U2).mono ?_
    rintro y U3 ⟨p, S3, rfl, HW3, HS3, HB23⟩
    have HI2 := Lib.hid (HI.out.below HB2.out)
    have HZ2 := Lib.hid (HZ.out.below HB2.out)
    go_wp2_with fail
    go_loopw [9, 10, 11, 36] (fun s9 s10 s11 i wr => ∃ (k : Nat) (out : ByteArray) (X : Wr1) (S : Nat → Prop), k ≤ n ∧ i = .int .i64 k ∧ s9 = .string out ∧ out.size ≤ 10000 ∧ Hid (∀ j r, j < k → t[j]? = some r → mayN r = 0) ∧ Hid (WrAt d q e t k false out X) ∧ Hid (WB wr p X S) ∧ Hid (∀ k, S k → U2.heap.size ≤ k) ∧ Hid (Below U2.heap.size U2 wr)) (fun _ _ _ i _ => n - (intOf i).toNat)
    case atStart => exact ⟨0, ⟨#[]⟩, _, S3, Nat.zero_le _, rfl, rfl, Nat.zero_le _, Lib.hid (fun j r hj => by omega), Lib.hid (WrAt.start d0 d1 q0 q1 t), HW3, HS3, HB23⟩
    case round =>
      obtain ⟨k, out, X, S, hk, rfl, rfl, hos, HM, HX, HW, HS, HB⟩ := hrel
      obtain ⟨W, hW⟩ : ∃ W, W = wr := ⟨_, rfl⟩
      subst hW
      clear HW3 HS3 HB23
      by_cases hlt : k < n
      · obtain ⟨r, hr'⟩ : ∃ r, t[k]? = some r := ⟨_, List.getElem?_eq_getElem (by rw [HLN.out]; exact hlt)⟩
        obtain ⟨a, D, b, rfl, hca, hD⟩ := (HI2.out.below HB.out).row hr'
        obtain ⟨m, hm⟩ : ∃ m, m = r.length := ⟨_, rfl⟩
        have hm1 : m ≤ 1000 := by have := fldN_mem (List.mem_of_getElem? hr'); have := HGR.out; omega
        have hlr : lenL r ≤ 1000 := by have := bytN_mem (List.mem_of_getElem? hr'); have := HGR.out; omega
        rw [← hm] at hca hD
        have HD := Lib.hid hD
        have HRR := Lib.hid hr'
        obtain ⟨M, hM⟩ : ∃ M, mayN r = M := ⟨_, rfl⟩
        have HMM := Lib.hid hM
        have HSZ := Lib.hid (show ∀ s ∈ r, s.size ≤ 140737488351232 from (HK.out r (List.mem_of_getElem? hr')).2)
        have hmay := Lib.hid (may_is D m b r (by omega) M HMM W HD HSZ)
        clear hr' hD hm
        by_cases hM0 : M = 0
        · subst hM0
          have HP := Lib.hid (HX.out.put HRR.out hM)
          have HSZX := Lib.hid (HX.out.size (by rw [HLN.out]; exact hk))
          clear hM
          go_wp2_with (go_at_call 22; with_reducible refine (above hmay.out).mono ?_; rintro x _ ⟨rfl, y1, rfl⟩)
          obtain ⟨W1, hW1⟩ : ∃ W1, W1 = onto W y1 := ⟨_, rfl⟩
          have hbW1 : Below W.heap.size W W1 := by rw [hW1]; exact onto_below W y1
          rw [← hW1]
          have HW1 := Lib.hid (H.out.below HW.out hbW1)
          have HD1 := Lib.hid (HD.out.below hbW1)
          have HBW1 := Lib.hid (HB.out.trans (hbW1.mono HB.out.size))
          clear hW1 hbW1
          refine (H.out.put X p S D m b r W1 HX.out.ok (by have := HSZX.out.1; have := HGR.out; omega) (by rw [HX.out.ct]; omega) hm1 hlr HW1 HD1).mono ?_
          rintro y W2 ⟨rfl, S2, HW2, HT2, HS2⟩
          rw [HP.out.1]
          have HBW2 := Lib.hid (HBW1.out.trans (Touch.below HT2.out HBW1.out.size (fun k hk => HS.out k hk)))
          have HS22 := Lib.hid (show ∀ k, S2 k → U2.heap.size ≤ k from fun k hk => by
            rcases HS2.out k hk with h2 | h2
            · exact HS.out k h2
            · have := HBW1.out.size; omega)
          have HP2 := Lib.hid HP.out.2
          have HM' := Lib.hid (show ∀ j x, j < k + 1 → t[j]? = some x → mayN x = 0 from fun j x hj hx => by
            by_cases h : j < k
            · exact HM.out j x h hx
            · obtain rfl : j = k := by omega
              rw [HRR.out] at hx; cases hx; exact HMM.out)
          have hzb := Lib.hid (HZ2.out.below HBW2.out)
          have HSZ2 := Lib.hid (HP.out.2.size (by rw [HLN.out]; omega))
          clear HW1 HD1 HBW1 HW HB
          by_cases hz0 : zn = 0
          · have hzg : ¬ ((0 : Int) < (zn : Int)) := by omega
            clear hca hz0
            go_wp2_with fail
            go_roundw
            case rel => exact ⟨k + 1, out, X.put r, S2, by omega, by go_num, rfl, hos, HM', HP2, HW2, HS22, HBW2⟩
            case measure => simp [intOf]; omega
          · have hzg : (0 : Int) < (zn : Int) := by omega
            have hkz : k % zn < zn := Nat.mod_lt _ (by omega)
            have hrem : Int.tmod (k : Int) (zn : Int) = ((k % zn : Nat) : Int) := by
              have := rem_nat (k : Int) (zn : Int) zn (by omega) (by omega) rfl
              rw [Int.toNat_natCast] at this; exact this
            obtain ⟨yv, hyv⟩ : ∃ yv, zl[k % zn]? = some yv := ⟨_, List.getElem?_eq_getElem (by rw [HZL.out]; exact hkz)⟩
            have hyb := HZB.out yv (List.mem_of_getElem? hyv)
            obtain ⟨za, rfl, hcz⟩ := hzb.out.at_ (u8s_get hyv)
            obtain ⟨j, hj⟩ : ∃ j, k % zn = j := ⟨_, rfl⟩
            rw [hj] at hrem hkz hcz
            have hjz : (j : Int) < (zn : Int) := by omega
            have HT3 := Lib.hid (HP.out.2.take yv)
            have HSZ3 := Lib.hid (HT3.out.size (by rw [HLN.out]; omega))
            obtain ⟨G, hG⟩ : ∃ G, (X.put r).got yv = G := ⟨_, rfl⟩
            rw [hG] at HT3 HSZ3
            have hos3 : (out ++ G).size ≤ 10000 := by
              have h1 := HSZ3.out; have h2 := HT3.out.ok.tk; have := HGR.out
              rw [h1.2]; omega
            have hGs : out.size + G.size ≤ 10000 := by rw [ByteArray.size_append] at hos3; exact hos3
            have htake := H.out.take (X.put r) p S2 yv W2 HP.out.2.ok (by have := HSZ2.out.1; have := HGR.out; omega) (by omega) (by omega) HW2
            rw [hG] at htake
            clear hyv hj hca hG hz0
            go_wp2_with fail
            refine htake.mono ?_
            rintro y W5 ⟨O, m2, c2, S5, rfl, hm2, HO5, HOS5, HW5, HT5, HS5⟩
            have hcv : (convert 43 9 (.slice O m2 c2)).run Tryd.prog W5 = .ok (.string G) W5 := by
              rw [conv_text c2 Tryd.underlying43 Tryd.underlying5 Tryd.underlying9 HO5.out.toIn, toBA_bl]
            have HBW5 := Lib.hid (HBW2.out.trans (Touch.below HT5.out HBW2.out.size (fun k hk => HS22.out k hk)))
            have HS55 := Lib.hid (show ∀ k, S5 k → U2.heap.size ≤ k from fun k hk => by
              rcases HS5.out k hk with h2 | h2
              · exact HS22.out k h2
              · have := HBW2.out.size; omega)
            clear hm2 htake hcz
            go_wp2_with fail
            go_roundw
            case rel => exact ⟨k + 1, out ++ G, (X.put r).take yv, S5, by omega, by go_num, rfl, hos3, HM', HT3, HW5, HS55, HBW5⟩
            case measure => simp [intOf]; omega
        · have hMn : (M != 0) = true := by simpa using hM0
          have HBE := Lib.hid (HB2.out.trans (HB.out.mono HB2.out.size))
          clear hM hM0
          go_wp2_with (first
            | (go_at_call 22; with_reducible refine (above hmay.out).mono ?_; rintro x _ ⟨rfl, y1, rfl⟩)
            | (go_at_call 8; with_reducible refine (above (HAW.out _)).mono ?_; rintro x _ ⟨rfl, y4, rfl⟩))
          go_ret
          exact ⟨rfl, up_onto' HBE.out _⟩
      · obtain rfl : k = n := by omega
        have HAM := Lib.hid (show AllMay t from fun r hr => by
          obtain ⟨j, hj⟩ := List.getElem?_of_mem hr
          exact HM.out j r (by have := (List.getElem?_eq_some_iff.1 hj).1; have := HLN.out; omega) hj)
        obtain ⟨TX, hTX⟩ : ∃ TX, textO d q e t = TX := ⟨_, rfl⟩
        have HTX := Lib.hid (show bl TX = textN d q e t (frontN t) by rw [← hTX]; exact bl_textO d0 d1 q0 q1 e t)
        have HFR := Lib.hid (show frontN t = k by rw [front_all HAM.out]; exact HLN.out)
        have HSZ0 := Lib.hid (HX.out.size (by rw [HLN.out]; exact Nat.le_refl _))
        clear hlt hTX
        go_wp2_with fail
        refine (H.out.close X p S W HW).mono ?_
        rintro y W1 ⟨rfl, S1, HW1, HT1, HS1⟩
        have HBW1 := Lib.hid (HB.out.trans (Touch.below HT1.out HB.out.size (fun k hk => HS.out k hk)))
        have HS11 := Lib.hid (show ∀ k, S1 k → U2.heap.size ≤ k from fun k hk => by
          rcases HS1.out k hk with h2 | h2
          · exact HS.out k h2
          · have := HB.out.size; omega)
        have HXS := Lib.hid HX.out.shut
        have HLEFT0 := Lib.hid (show X.shut.S.size - X.shut.tk + 0 ≤ 2000 by
          show X.S.size - X.tk + 0 ≤ 2000
          have := HSZ0.out.1; have := HGR.out; have := HLN.out; omega)
        clear HW HX HB HS
        go_wp2_with fail
        go_loopw [9, 12, 13, 68] (fun s9 s12 s13 i wr => ∃ (j : Nat) (out : ByteArray) (X : Wr1) (S : Nat → Prop), j ≤ 2000 ∧ i = .int .i64 j ∧ s9 = .string out ∧ out.size ≤ 10000 ∧ Hid (X.S.size - X.tk + j ≤ 2000) ∧ Hid (WrAt d q e t k true out X) ∧ Hid (WB wr p X S) ∧ Hid (∀ k, S k → U2.heap.size ≤ k) ∧ Hid (Below U2.heap.size U2 wr)) (fun _ _ _ i _ => 2000 - (intOf i).toNat)
        case atStart => exact ⟨0, out, X.shut, S1, Nat.zero_le _, rfl, rfl, hos, HLEFT0, HXS, HW1, HS11, HBW1⟩
        case round =>
          clear HW1 HXS HLEFT0 HS11 HBW1 hos
          obtain ⟨j, out, X, S, hj, rfl, rfl, hos, HLEFT, HX3, HW, HS, HB⟩ := hrel
          obtain ⟨W, hW⟩ : ∃ W, W = wr := ⟨_, rfl⟩
          subst hW
          by_cases hj2 : j < 2000
          · by_cases hfin : X.tk = X.S.size
            · have hj3 : (j : Int) < 2000 := by omega
              have HOT := Lib.hid (show out = TX from bl_inj (by rw [HX3.out.all hfin, HTX.out, HFR.out]))
              have HBE := Lib.hid (HB2.out.trans (HB.out.mono HB2.out.size))
              obtain ⟨k0, k1, k2, k3⟩ := dia3' (HX2.out.below HB.out)
              have htx := fun (y : Above W) => text_any d q e d0 d1 q0 q1 A k c V t (by omega) (by have := HGR.out; omega) (by have := HGR.out; omega) (onto W y) (Lib.hid (HI2.out.below (HB.out.trans ((onto_below W y).mono HB.out.size)))) HK TX HTX
              have hrd := fun (y : Above W) => H.out.ready X p S (onto W y) (Lib.hid (H.out.below HW.out (onto_below W y)))
              have hzz : (X.S.size : Int) - (X.tk : Int) = 0 := by have := hfin; omega
              rw [hzz] at hrd
              have hoo : (out.toList == TX.toList) = true := by rw [HOT.out]; simp
              clear hzz
              have HFIN := Lib.hid hfin
              clear hfin
              have hrd0 := H.out.ready X p S W HW
              rw [show (X.S.size : Int) - (X.tk : Int) = 0 by have := HFIN.out; omega] at hrd0
              go_wp2_with (first
                | (go_at_call 17; with_reducible refine (above hrd0).mono ?_; rintro x _ ⟨rfl, z9, rfl⟩)
                | (go_at_call 17; with_reducible refine (above (hrd _)).mono ?_; rintro x _ ⟨rfl, z0, rfl⟩)
                | (go_at_call 11; with_reducible refine (above (ref_any d q e d0 d1 q0 q1 _)).mono ?_; rintro x _ ⟨rfl, z1, rfl⟩)
                | (go_at_call 23; with_reducible refine (above (htx _)).mono ?_; rintro x _ ⟨rfl, z2, rfl⟩)
                | (go_at_call 8; with_reducible refine (above (HAW.out _)).mono ?_; rintro x _ ⟨rfl, z4, rfl⟩))
              all_goals go_ret
              all_goals exact ⟨rfl, up_onto' HBE.out _⟩
            · have hj3 : (j : Int) < 2000 := by omega
              have hrd := H.out.ready X p S W HW
              obtain ⟨R, hR⟩ : ∃ R : Int, (X.S.size : Int) - (X.tk : Int) = R := ⟨_, rfl⟩
              rw [hR] at hrd
              have hR0 : (R == 0) = false := by rw [beq_eq_false_iff_ne, ← hR]; have := HX3.out.ok.tk; omega
              clear hR
              by_cases hz0 : zn = 0
              · have hzg : ¬ ((0 : Int) < (zn : Int)) := by omega
                clear hz0
                have HT3 := Lib.hid (HX3.out.take 1)
                have hgs := got_size X 1 HX3.out.ok
                obtain ⟨G, hG⟩ : ∃ G, X.got 1 = G := ⟨_, rfl⟩
                rw [hG] at HT3 hgs
                have hG1 : 1 ≤ G.size ∧ (G.size : Int) ≤ 1 := by rw [hgs]; unfold Wr1.tkN; have := HX3.out.ok.tk; omega
                have hos3 : (out ++ G).size ≤ 10000 := by
                  have h1 := HT3.out.size (by rw [HLN.out]; omega); have h2 := HT3.out.ok.tk; have := HGR.out
                  rw [h1.2]; omega
                have hGs : out.size + G.size ≤ 10000 := by rw [ByteArray.size_append] at hos3; exact hos3
                have HLEFT' := Lib.hid (show (X.take 1).S.size - (X.take 1).tk + (j + 1) ≤ 2000 by
                  show X.S.size - (X.tk + X.tkN 1) + (j + 1) ≤ 2000
                  rw [← hgs]
                  have := HLEFT.out; have := HX3.out.ok.tk; omega)
                have htake := fun (y : Above W) => H.out.take X p S 1 (onto W y) HX3.out.ok (by have := (HX3.out.size (by rw [HLN.out]; omega)).1; have := HGR.out; omega) (by omega) (by omega) (Lib.hid (H.out.below HW.out (onto_below W y)))
                rw [hG] at htake
                have HGS := Lib.hid hG1
                clear hG hgs hG1
                go_wp2_with (go_at_call 17; with_reducible refine (above hrd).mono ?_; rintro x _ ⟨rfl, z0, rfl⟩)
                refine (htake z0).mono ?_
                rintro y W5 ⟨O, m2, c2, S5, rfl, hm2, HO5, HOS5, HW5, HT5, HS5⟩
                have hcv : (convert 43 9 (.slice O m2 c2)).run Tryd.prog W5 = .ok (.string G) W5 := by
                  rw [conv_text c2 Tryd.underlying43 Tryd.underlying5 Tryd.underlying9 HO5.out.toIn, toBA_bl]
                have HBz := Lib.hid (HB.out.trans ((onto_below W z0).mono HB.out.size))
                have HBW5 := Lib.hid (HBz.out.trans (Touch.below HT5.out HBz.out.size (fun k hk => HS.out k hk)))
                have HS55 := Lib.hid (show ∀ k, S5 k → U2.heap.size ≤ k from fun k hk => by
                  rcases HS5.out k hk with h2 | h2
                  · exact HS.out k h2
                  · have := HBz.out.size; omega)
                have hm1 : ¬ ((m2 : Int) < 1) := by have := HGS.out; omega
                have hm3 : ¬ (1 < (m2 : Int)) := by have := HGS.out; omega
                clear hm2 htake
                go_wp2_with fail
                go_roundw
                case rel => exact ⟨j + 1, out ++ G, X.take 1, S5, by omega, by go_num, rfl, hos3, HLEFT', HT3, HW5, HS55, HBW5⟩
                case measure => simp [intOf]; omega
              · have hzg : (0 : Int) < (zn : Int) := by omega
                obtain ⟨yv, hyv⟩ : ∃ yv, zl[0]? = some yv := ⟨_, List.getElem?_eq_getElem (by rw [HZL.out]; omega)⟩
                have hyb := HZB.out yv (List.mem_of_getElem? hyv)
                obtain ⟨za, rfl, hcz⟩ := HZ2.out.at_ (u8s_get hyv)
                rw [add0' za] at hcz
                have hcz' : ∀ y, (onto W y).cell? za = some (.int .u8 yv) := fun y => mem_cell (HB.out.trans ((onto_below W y).mono HB.out.size)) hcz
                obtain ⟨N, hN⟩ : ∃ N : Int, 1 + yv = N := ⟨_, rfl⟩
                clear hyv hcz hz0
                have HT3 := Lib.hid (HX3.out.take N)
                have hgs := got_size X N HX3.out.ok
                obtain ⟨G, hG⟩ : ∃ G, X.got N = G := ⟨_, rfl⟩
                rw [hG] at HT3 hgs
                have hG1 : 1 ≤ G.size ∧ (G.size : Int) ≤ N := by rw [hgs]; unfold Wr1.tkN; have := HX3.out.ok.tk; omega
                have hos3 : (out ++ G).size ≤ 10000 := by
                  have h1 := HT3.out.size (by rw [HLN.out]; omega); have h2 := HT3.out.ok.tk; have := HGR.out
                  rw [h1.2]; omega
                have hGs : out.size + G.size ≤ 10000 := by rw [ByteArray.size_append] at hos3; exact hos3
                have HLEFT' := Lib.hid (show (X.take N).S.size - (X.take N).tk + (j + 1) ≤ 2000 by
                  show X.S.size - (X.tk + X.tkN N) + (j + 1) ≤ 2000
                  rw [← hgs]
                  have := HLEFT.out; have := HX3.out.ok.tk; omega)
                have htake := fun (y : Above W) => H.out.take X p S N (onto W y) HX3.out.ok (by have := (HX3.out.size (by rw [HLN.out]; omega)).1; have := HGR.out; omega) (by omega) (by omega) (Lib.hid (H.out.below HW.out (onto_below W y)))
                rw [hG] at htake
                have HGS := Lib.hid hG1
                clear hG hgs hG1
                go_wp2_with (go_at_call 17; with_reducible refine (above hrd).mono ?_; rintro x _ ⟨rfl, z0, rfl⟩)
                refine (htake z0).mono ?_
                rintro y W5 ⟨O, m2, c2, S5, rfl, hm2, HO5, HOS5, HW5, HT5, HS5⟩
                have hcv : (convert 43 9 (.slice O m2 c2)).run Tryd.prog W5 = .ok (.string G) W5 := by
                  rw [conv_text c2 Tryd.underlying43 Tryd.underlying5 Tryd.underlying9 HO5.out.toIn, toBA_bl]
                have HBz := Lib.hid (HB.out.trans ((onto_below W z0).mono HB.out.size))
                have HBW5 := Lib.hid (HBz.out.trans (Touch.below HT5.out HBz.out.size (fun k hk => HS.out k hk)))
                have HS55 := Lib.hid (show ∀ k, S5 k → U2.heap.size ≤ k from fun k hk => by
                  rcases HS5.out k hk with h2 | h2
                  · exact HS.out k h2
                  · have := HBz.out.size; omega)
                have hm1 : ¬ ((m2 : Int) < 1) := by have := HGS.out; omega
                have hm3 : ¬ (N < (m2 : Int)) := by have := HGS.out; omega
                clear hm2 htake
                go_wp2_with fail
                go_roundw
                case rel => exact ⟨j + 1, out ++ G, X.take N, S5, by omega, by go_num, rfl, hos3, HLEFT', HT3, HW5, HS55, HBW5⟩
                case measure => simp [intOf]; omega
          · obtain rfl : j = 2000 := by omega
            have hfin : X.tk = X.S.size := by have := HLEFT.out; have := HX3.out.ok.tk; omega
            have HOT := Lib.hid (show out = TX from bl_inj (by rw [HX3.out.all hfin, HTX.out, HFR.out]))
            have HBE := Lib.hid (HB2.out.trans (HB.out.mono HB2.out.size))
            obtain ⟨k0, k1, k2, k3⟩ := dia3' (HX2.out.below HB.out)
            have htx := fun (y : Above W) => text_any d q e d0 d1 q0 q1 A k c V t (by omega) (by have := HGR.out; omega) (by have := HGR.out; omega) (onto W y) (Lib.hid (HI2.out.below (HB.out.trans ((onto_below W y).mono HB.out.size)))) HK TX HTX
            have hrd := fun (y : Above W) => H.out.ready X p S (onto W y) (Lib.hid (H.out.below HW.out (onto_below W y)))
            have hzz : (X.S.size : Int) - (X.tk : Int) = 0 := by have := hfin; omega
            rw [hzz] at hrd
            have hoo : (out.toList == TX.toList) = true := by rw [HOT.out]; simp
            clear hzz
            clear hfin hj2
            go_wp2_with (first
              | (go_at_call 17; with_reducible refine (above (hrd _)).mono ?_; rintro x _ ⟨rfl, z0, rfl⟩)
              | (go_at_call 11; with_reducible refine (above (ref_any d q e d0 d1 q0 q1 _)).mono ?_; rintro x _ ⟨rfl, z1, rfl⟩)
              | (go_at_call 23; with_reducible refine (above (htx _)).mono ?_; rintro x _ ⟨rfl, z2, rfl⟩)
              | (go_at_call 8; with_reducible refine (above (HAW.out _)).mono ?_; rintro x _ ⟨rfl, z4, rfl⟩))
            all_goals go_ret
            all_goals exact ⟨rfl, up_onto' HBE.out _⟩
  · clear hu hin hok hd hq hZ
    cases u
    · cases v
      · clear hgo hv
        go_enter Tryd.func4, Tryd.ntmps4
        go_wp2_with fail
        rw [← hU]
        clear hU hh
        refine HG.out.mono ?_
        rintro y U1 ⟨rfl, hb1⟩
        obtain ⟨k0, k1, k2, k3⟩ := dia3' (HXU.out.below hb1)
        have HB1 := Lib.hid (HBU.out.trans (hb1.mono HBU.out.size))
        clear hb1
        go_wp2_with (first
          | (go_at_call 11; with_reducible refine (above (ref_any d q e d0 d1 q0 q1 _)).mono ?_; rintro x _ ⟨rfl, y1, rfl⟩)
          | (go_at_call 10; with_reducible refine (above (refRight_is d q e _ HR _)).mono ?_; rintro x _ ⟨rfl, y2, rfl⟩)
          | (go_at_call 8; with_reducible refine (above (HAW.out _)).mono ?_; rintro x _ ⟨rfl, y4, rfl⟩))
        all_goals go_ret
        all_goals exact ⟨rfl, up_onto' HB1.out _⟩
      · exact absurd ⟨rfl, rfl⟩ hgo
    · clear hgo hv
      go_enter Tryd.func4, Tryd.ntmps4
      go_wp2_with fail
      rw [← hU]
      clear hU hh
      refine HG.out.mono ?_
      rintro y U1 ⟨rfl, hb1⟩
      have HB1 := Lib.hid (HBU.out.trans (hb1.mono HBU.out.size))
      clear hb1
      go_wp2_with (go_at_call 8; with_reducible refine (above (HAW.out _)).mono ?_; rintro x _ ⟨rfl, y4, rfl⟩)
      all_goals go_ret
      all_goals exact ⟨rfl, up_onto' HB1.out _⟩
end Go.Proofs.YtaoncnlhilpgfaaDoor

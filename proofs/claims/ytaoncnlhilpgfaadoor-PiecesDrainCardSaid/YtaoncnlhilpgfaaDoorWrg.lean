/- Layer 11: the walk of PiecesDrain. -/
import Derived.Test.YtaoncnlhilpgfaaDoorWrd
import Derived.Test.YtaoncnlhilpgfaaDoorWrf
import Derived.Test.YtaoncnlhilpgfaaDoorQrj
namespace Go.Proofs.YtaoncnlhilpgfaaDoor
open Go.ChangeShapes Go.WideShapes Go.ChangeAt Go.RowKit
set_option linter.unusedVariables false
set_option linter.unusedSimpArgs false
attribute [local go_sem] Oper.semAt_some

theorem wp_nopanic {P : Program} {s : Code} {K : Act → World → Prop} {Q' : Exit → Act → World → Prop} {a : Act} {w : World} (h : s.wp P (Exit.then K (fun _ _ _ => False)) a w) : s.wp P (Exit.then K Q') a w :=
  wp_mono h (fun e a w hq => by cases e <;> first | exact hq | exact hq.elim)
/-- A return into box rb, no range begun. -/
theorem end_norange {w W : World} {rb : Nat} (y : Above W) (HRW : Hid (StB W rb 4 #[.bool false])) (HRB : Hid (w.heap.size ≤ rb)) (HBW : Hid (Below w.heap.size w W)) :
    ((onto W y).setCell ⟨rb, 0, none⟩ (.bool true)).cell? ⟨rb, 0, none⟩ = some (.bool true) ∧ Below w.heap.size w ((onto W y).setCell ⟨rb, 0, none⟩ (.bool true)) := by
  have T1 := (Touch.of_below (onto_below W y) (fun k => k = rb)).then_set (p := ⟨rb, 0, none⟩) (.inl rfl) (.bool true)
  exact ⟨((HRW.out.below (onto_below W y)).set_ 0 (.bool true)).cell 0, HBW.out.trans (T1.below HBW.out.size (fun k hk => by have : k = rb := hk; have := HRB.out; omega))⟩

set_option maxRecDepth 100000 in
set_option maxHeartbeats 6400000 in
theorem piecesDrain_walk {WB : World → Addr → Wr1 → (Nat → Prop) → Prop} (H : Hid (PW WB)) (hDrain : Hid (DrainSays WB)) (hAw : Hid AwakeSays11) (d q e : Int) (A : Option Addr) (n c : Nat) (V : List Value) (t : List (List ByteArray)) (z0 z1 : Int) (w : World) (hd : (Lit.int .u8 d).wf = true) (hq : (Lit.int .u8 q).wf = true) (_ : (Lit.int .i64 e).wf = true) (hnc : n ≤ c) (hcm : c ≤ maxLen) (hin : TabIn w A n V t) (hok : Sizes t) (hz0 : (Lit.int .u8 z0).wf = true) (hz1 : (Lit.int .u8 z1).wf = true) :
    Calls Tryd.prog 5 #[.agg #[.int .u8 d, .int .u8 q, .int .i64 e], .slice A n c, .agg #[.int .u8 z0, .int .u8 z1]] w fun x w' => x = .returned (.bool true) ∧ Below w.heap.size w w' := by
  obtain ⟨d0, d1⟩ := bounds_u8 hd
  obtain ⟨q0, q1⟩ := bounds_u8 hq
  obtain ⟨z00, z01⟩ := bounds_u8 hz0
  obtain ⟨z10, z11⟩ := bounds_u8 hz1
  have HAW := Lib.hid (show ∀ w : World, Calls Tryd.prog 8 #[] w fun x w' => x = .returned (.bool true) ∧ Below w.heap.size w w' from fun w => hAw.out w)
  have HLN := Lib.hid hin.len
  have hn9 : n ≤ 9223372036854775807 := by unfold maxLen at hcm; omega
  obtain ⟨v, hv⟩ : ∃ v, rightB d q e = v := ⟨_, rfl⟩
  have HR := Lib.hid (show rightR d q e = v by rw [right_eq d q e d0 q0]; exact hv)
  obtain ⟨u, hu⟩ : ∃ u, greatB 20 40 400 t = u := ⟨_, rfl⟩
  obtain ⟨F, hF⟩ : ∃ F, frontN t = F := ⟨_, rfl⟩
  have HF := Lib.hid hF
  have HI := Lib.hid hin
  have HK := Lib.hid hok
  obtain ⟨h, hh⟩ : ∃ h, w.heap.size = h := ⟨_, rfl⟩
  obtain ⟨zb, hzb⟩ : ∃ zb, h + 1 = zb := ⟨_, rfl⟩
  obtain ⟨rb, hrb⟩ : ∃ rb, zb + 1 = rb := ⟨_, rfl⟩
  have HH := Lib.hid (And.intro hh (And.intro hzb hrb))
  obtain ⟨U, hU⟩ : ∃ U, U = ((w.alloc (.cells #[.int .u8 d, .int .u8 q, .int .i64 e] 23)).alloc (.cells #[.int .u8 z0, .int .u8 z1] 52)).alloc (.cells #[.bool false] 4) := ⟨_, rfl⟩
  have HBU := Lib.hid (show Below w.heap.size w U by rw [hU]; exact up_alloc (up_alloc (up_alloc (Below.refl _ w) _) _) _)
  have HXU := Lib.hid (show StB U h 23 #[.int .u8 d, .int .u8 q, .int .i64 e] by rw [hU]; exact ((StB.made _ hh.symm _ _).alloc _).alloc _)
  have HZU := Lib.hid (show StB U zb 52 #[.int .u8 z0, .int .u8 z1] by rw [hU]; exact (StB.made _ (by simp; omega) _ _).alloc _)
  have HRU := Lib.hid (show StB U rb 4 #[.bool false] by rw [hU]; exact StB.made _ (by simp; omega) _ _)
  clear hd hq hin hok hnc hAw hz0 hz1
  refine (callsIn_wide (n := 20)).1 ?_
  refine callsIn_of_wp_marks Tryd.func5 rfl trivial ?_ rfl
  simp only [Tryd.ntmps5, List.size_toArray, List.length_cons, List.length_nil, Nat.reduceAdd, Nat.reduceSub, Array.replicate_succ, Array.replicate_zero, List.push_toArray, List.append_toArray, List.nil_append, List.cons_append]
  refine wpIn_wide.2 ?_
  go_upto_region 1 with fail
  rw [← hU]
  go_cut [7, 8] from 18 to 23 (fun s7 s8 wx => ∃ sb tb : Nat, s7 = .pointer (some ⟨sb, 0, none⟩) ∧ s8 = .pointer (some ⟨tb, 0, none⟩) ∧ Hid (StB wx sb 3 #[.int .i64 z0]) ∧ Hid (StB wx tb 3 #[.int .i64 z1]) ∧ Hid (U.heap.size ≤ sb ∧ U.heap.size ≤ tb) ∧ Hid (Below U.heap.size U wx))
  case first =>
    rename_i J K1 hJ hM
    refine wp_mono (Q := Exit.then K1 (fun _ _ _ => False)) ?_ (fun e a w hq => by cases e <;> first | exact hq | exact hq.elim)
    have wz0 : IntKind.i64.wrap z0 = z0 := IntWalk.i64_in _ (by omega)
    have wz1 : IntKind.i64.wrap z1 = z1 := IntWalk.i64_in _ (by omega)
    have HZLT := Lib.hid (StB.lt HZU.out)
    refine region_W 5 (fun w' => StB w' zb 52 #[.int .u8 z0, .int .u8 z1]) (by kernel_rfl) ?_
    have hC : StB U.drew zb 52 #[.int .u8 z0, .int .u8 z1] := HZU.out.drew
    refine takeC (i := 0) (v := .pointer (some ⟨zb, 0, none⟩)) rfl (by kernel_rfl) (by kernel_rfl) (by kernel_rfl) (by kernel_rfl) (fun _ _ _ h => h) hC (.inl ⟨by rfl, fun w hw => by have c0 := hw.cell 0; have c1 := hw.cell 1; have cl := hw.lt; go_simp⟩) ?_
    refine takeC (i := 1) (v := .int .u8 z0) rfl (by kernel_rfl) (by kernel_rfl) (by kernel_rfl) (by kernel_rfl) (fun _ _ _ h => h) hC (.inl ⟨by rfl, fun w hw => by have c0 := hw.cell 0; have c1 := hw.cell 1; have cl := hw.lt; go_simp⟩) ?_
    refine takeC (i := 2) (v := .int .i64 z0) rfl (by kernel_rfl) (by kernel_rfl) (by kernel_rfl) (by kernel_rfl) (fun _ _ _ h => h) hC (.inl ⟨by rfl, fun w hw => by go_simp⟩) ?_
    refine takeC (i := 3) (v := .pointer (some ⟨zb, 1, none⟩)) rfl (by kernel_rfl) (by kernel_rfl) (by kernel_rfl) (by kernel_rfl) (fun _ _ _ h => h) hC (.inl ⟨by rfl, fun w hw => by have c0 := hw.cell 0; have c1 := hw.cell 1; have cl := hw.lt; go_simp⟩) ?_
    refine takeC (i := 4) (v := .int .u8 z1) rfl (by kernel_rfl) (by kernel_rfl) (by kernel_rfl) (by kernel_rfl) (fun _ _ _ h => h) hC (.inl ⟨by rfl, fun w hw => by have c0 := hw.cell 0; have c1 := hw.cell 1; have cl := hw.lt; go_simp⟩) ?_
    refine takeC (i := 5) (v := .int .i64 z1) rfl (by kernel_rfl) (by kernel_rfl) (by kernel_rfl) (by kernel_rfl) (fun _ _ _ h => h) hC (.inl ⟨by rfl, fun w hw => by go_simp⟩) ?_
    have hU1 : Below U.heap.size U U.drew := (Below.refl _ U).drew
    obtain ⟨V0, eV0⟩ : ∃ V0, V0 = U.drew := ⟨_, rfl⟩
    rw [← eV0] at hC hU1 ⊢
    clear eV0
    refine twoC (i := 6) (j := 7) (by kernel_rfl) rfl rfl (by kernel_rfl) (fun K hK => ?_) (fun K hK => ?_)
    · skip
      go_simp
      obtain ⟨V1, eV⟩ : ∃ V1, V1 = V0.alloc (.cells #[.int .i64 0] 3) := ⟨_, rfl⟩
      obtain ⟨sb, eb⟩ : ∃ sb, V0.heap.size = sb := ⟨_, rfl⟩
      have hb' : Below V0.heap.size V0 V1 := by rw [eV]; exact up_alloc (Below.refl _ _) _
      have hA : StB V1 sb 3 #[.int .i64 0] := by rw [eV]; exact StB.made _ eb.symm _ _
      have hsA : U.heap.size ≤ sb := by rw [← eb]; exact hU1.size
      replace hC := StB.below hC hb'
      replace hU1 := hU1.trans (hb'.mono hU1.size)
      rw [← eV, eb]
      refine hK _ _ hC ?_
      clear hK K eV eb hb'
      refine onlyC (i := 7) (by kernel_rfl) rfl (by kernel_rfl) (fun K hK => ?_)
      go_simp
      obtain ⟨V2, eV⟩ : ∃ V2, V2 = V1.alloc (.cells #[.int .i64 0] 3) := ⟨_, rfl⟩
      obtain ⟨tb, eb⟩ : ∃ tb, V1.heap.size = tb := ⟨_, rfl⟩
      have hb' : Below V1.heap.size V1 V2 := by rw [eV]; exact up_alloc (Below.refl _ _) _
      have hB : StB V2 tb 3 #[.int .i64 0] := by rw [eV]; exact StB.made _ eb.symm _ _
      have hsB : U.heap.size ≤ tb := by rw [← eb]; exact hU1.size
      have hlt := StB.lt hA
      have hne : sb ≠ tb := by omega
      replace hA := StB.below hA hb'
      replace hC := StB.below hC hb'
      replace hU1 := hU1.trans (hb'.mono hU1.size)
      rw [← eV, eb]
      refine hK _ _ hC ?_
      clear hK K eV eb hb' hlt
      refine onlyC (i := 8) (by kernel_rfl) rfl (by kernel_rfl) (fun K hK => ?_)
      have c0 := StB.cell hA 0
      have f0 := StB.free hA 0
      have l0 := StB.lt hA
      go_simp
      obtain ⟨V3, eV⟩ : ∃ V3, V3 = V2.setCell ⟨sb, 0, none⟩ (.int .i64 z0) := ⟨_, rfl⟩
      replace hA : StB V3 sb 3 #[.int .i64 z0] := by rw [eV]; exact StB.set_ hA 0 _
      replace hB := StB.far hB (p := ⟨sb, 0, none⟩) (by first | exact hne | exact hne.symm) (.int .i64 z0)
      rw [← eV] at hB
      have hT := (Touch.refl V2 (fun k => k = sb)).then_set (p := ⟨sb, 0, none⟩) (.inl rfl) (.int .i64 z0)
      rw [← eV] at hT
      replace hC := StB.touch hC hT (by have := HZLT.out; omega)
      replace hU1 := hU1.trans (hT.below hU1.size (fun k hk => by have : k = sb := hk; omega))
      rw [← eV]
      refine hK _ _ hC ?_
      clear hK K eV c0 f0 l0 hT
      refine onlyC (i := 9) (by kernel_rfl) rfl (by kernel_rfl) (fun K hK => ?_)
      have c0 := StB.cell hB 0
      have f0 := StB.free hB 0
      have l0 := StB.lt hB
      go_simp
      obtain ⟨V4, eV⟩ : ∃ V4, V4 = V3.setCell ⟨tb, 0, none⟩ (.int .i64 z1) := ⟨_, rfl⟩
      replace hB : StB V4 tb 3 #[.int .i64 z1] := by rw [eV]; exact StB.set_ hB 0 _
      replace hA := StB.far hA (p := ⟨tb, 0, none⟩) (by first | exact hne | exact hne.symm) (.int .i64 z1)
      rw [← eV] at hA
      have hT := (Touch.refl V3 (fun k => k = tb)).then_set (p := ⟨tb, 0, none⟩) (.inl rfl) (.int .i64 z1)
      rw [← eV] at hT
      replace hC := StB.touch hC hT (by have := HZLT.out; omega)
      replace hU1 := hU1.trans (hT.below hU1.size (fun k hk => by have : k = tb := hk; omega))
      rw [← eV]
      refine hK _ _ hC ?_
      clear hK K eV c0 f0 l0 hT
      refine doneC (by kernel_rfl) ?_
      go_simp
      go_wp2
      go_meet
      exact ⟨sb, tb, rfl, rfl, Lib.hid hA, Lib.hid hB, Lib.hid ⟨hsA, hsB⟩, Lib.hid hU1⟩
    · skip
      go_simp
      obtain ⟨V5, eV⟩ : ∃ V5, V5 = V0.alloc (.cells #[.int .i64 0] 3) := ⟨_, rfl⟩
      obtain ⟨tb, eb⟩ : ∃ tb, V0.heap.size = tb := ⟨_, rfl⟩
      have hb' : Below V0.heap.size V0 V5 := by rw [eV]; exact up_alloc (Below.refl _ _) _
      have hB : StB V5 tb 3 #[.int .i64 0] := by rw [eV]; exact StB.made _ eb.symm _ _
      have hsB : U.heap.size ≤ tb := by rw [← eb]; exact hU1.size
      replace hC := StB.below hC hb'
      replace hU1 := hU1.trans (hb'.mono hU1.size)
      rw [← eV, eb]
      refine hK _ _ hC ?_
      clear hK K eV eb hb'
      refine onlyC (i := 6) (by kernel_rfl) rfl (by kernel_rfl) (fun K hK => ?_)
      go_simp
      obtain ⟨V6, eV⟩ : ∃ V6, V6 = V5.alloc (.cells #[.int .i64 0] 3) := ⟨_, rfl⟩
      obtain ⟨sb, eb⟩ : ∃ sb, V5.heap.size = sb := ⟨_, rfl⟩
      have hb' : Below V5.heap.size V5 V6 := by rw [eV]; exact up_alloc (Below.refl _ _) _
      have hA : StB V6 sb 3 #[.int .i64 0] := by rw [eV]; exact StB.made _ eb.symm _ _
      have hsA : U.heap.size ≤ sb := by rw [← eb]; exact hU1.size
      have hlt := StB.lt hB
      have hne : sb ≠ tb := by omega
      replace hB := StB.below hB hb'
      replace hC := StB.below hC hb'
      replace hU1 := hU1.trans (hb'.mono hU1.size)
      rw [← eV, eb]
      refine hK _ _ hC ?_
      clear hK K eV eb hb' hlt
      refine onlyC (i := 8) (by kernel_rfl) rfl (by kernel_rfl) (fun K hK => ?_)
      have c0 := StB.cell hA 0
      have f0 := StB.free hA 0
      have l0 := StB.lt hA
      go_simp
      obtain ⟨V7, eV⟩ : ∃ V7, V7 = V6.setCell ⟨sb, 0, none⟩ (.int .i64 z0) := ⟨_, rfl⟩
      replace hA : StB V7 sb 3 #[.int .i64 z0] := by rw [eV]; exact StB.set_ hA 0 _
      replace hB := StB.far hB (p := ⟨sb, 0, none⟩) (by first | exact hne | exact hne.symm) (.int .i64 z0)
      rw [← eV] at hB
      have hT := (Touch.refl V6 (fun k => k = sb)).then_set (p := ⟨sb, 0, none⟩) (.inl rfl) (.int .i64 z0)
      rw [← eV] at hT
      replace hC := StB.touch hC hT (by have := HZLT.out; omega)
      replace hU1 := hU1.trans (hT.below hU1.size (fun k hk => by have : k = sb := hk; omega))
      rw [← eV]
      refine hK _ _ hC ?_
      clear hK K eV c0 f0 l0 hT
      refine onlyC (i := 9) (by kernel_rfl) rfl (by kernel_rfl) (fun K hK => ?_)
      have c0 := StB.cell hB 0
      have f0 := StB.free hB 0
      have l0 := StB.lt hB
      go_simp
      obtain ⟨V8, eV⟩ : ∃ V8, V8 = V7.setCell ⟨tb, 0, none⟩ (.int .i64 z1) := ⟨_, rfl⟩
      replace hB : StB V8 tb 3 #[.int .i64 z1] := by rw [eV]; exact StB.set_ hB 0 _
      replace hA := StB.far hA (p := ⟨tb, 0, none⟩) (by first | exact hne | exact hne.symm) (.int .i64 z1)
      rw [← eV] at hA
      have hT := (Touch.refl V7 (fun k => k = tb)).then_set (p := ⟨tb, 0, none⟩) (.inl rfl) (.int .i64 z1)
      rw [← eV] at hT
      replace hC := StB.touch hC hT (by have := HZLT.out; omega)
      replace hU1 := hU1.trans (hT.below hU1.size (fun k hk => by have : k = tb := hk; omega))
      rw [← eV]
      refine hK _ _ hC ?_
      clear hK K eV c0 f0 l0 hT
      refine doneC (by kernel_rfl) ?_
      go_simp
      go_wp2
      go_meet
      exact ⟨sb, tb, rfl, rfl, Lib.hid hA, Lib.hid hB, Lib.hid ⟨hsA, hsB⟩, Lib.hid hU1⟩
  case rest =>
    obtain ⟨sb, tb, rfl, rfl, HSB, HTB, HSU, HBC⟩ := hcut
    obtain ⟨U1, hU1⟩ : ∃ U1, U1 = wc := ⟨_, rfl⟩
    subst hU1
    have HX1 := Lib.hid (HXU.out.below HBC.out)
    have HR1 := Lib.hid (HRU.out.below HBC.out)
    have HB1 := Lib.hid (HBU.out.trans (HBC.out.mono HBU.out.size))
    have HRBW := Lib.hid (show w.heap.size ≤ rb by have := HH.out; omega)
    have HGT := Lib.hid (great_is A n c V t 20 40 400 (by omega) (by omega) (by omega) u (Lib.hid hu) U1 (Lib.hid (HI.out.below HB1.out)) HK hn9)
    go_wp2_with fail
    refine HGT.out.mono ?_
    rintro y U2 ⟨rfl, hb2⟩
    have HX2 := Lib.hid (HX1.out.below hb2)
    have HR2 := Lib.hid (HR1.out.below hb2)
    have HS2 := Lib.hid (HSB.out.below hb2)
    have HT2 := Lib.hid (HTB.out.below hb2)
    have HB2 := Lib.hid (HB1.out.trans (hb2.mono HB1.out.size))
    have HI2 := Lib.hid (HI.out.below HB2.out)
    have hfr := fun (y : Above U2) => front_is A n c V t hn9 F HF (onto U2 y) (Lib.hid (HI2.out.below (onto_below U2 y))) HK
    obtain ⟨k0, k1, k2, k3⟩ := dia3' HX2.out
    clear hb2 HX1 HR1 HB1 HGT HSB HTB hU hh hzb hrb hF
    by_cases hgo : u = false ∧ v = true ∧ ¬ F < n
    · obtain ⟨rfl, rfl, hFn⟩ := hgo
      have hFn' : ¬ ((F : Int) < (n : Int)) := by omega
      have hg := great_no hu
      have hn20 : n ≤ 20 := by have := HLN.out; omega
      have HGR := Lib.hid hg
      have hnew := Lib.hid (fun (W : World) => H.out.new_yes d q e W d0 d1 q0 q1 hv)
      have HV := Lib.hid hv
      clear hu hv hg
      go_wp2_with (first
        | (go_at_call 11; with_reducible refine (above (ref_any d q e d0 d1 q0 q1 _)).mono ?_; rintro x _ ⟨rfl, y1, rfl⟩)
        | (go_at_call 10; with_reducible refine (above (refRight_is d q e _ HR _)).mono ?_; rintro x _ ⟨rfl, y2, rfl⟩)
        | (go_at_call 24; with_reducible refine (above (hfr _)).mono ?_; rintro x _ ⟨rfl, y3, rfl⟩))
      obtain ⟨U3, hU3⟩ : ∃ U3, U3 = onto U2 ((y1.up y2).up y3) := ⟨_, rfl⟩
      have hb23 : Below U2.heap.size U2 U3 := by rw [hU3]; exact onto_below U2 _
      rw [← hU3]
      have HX3 := Lib.hid (HX2.out.below hb23)
      have HR3 := Lib.hid (HR2.out.below hb23)
      have HS3 := Lib.hid (HS2.out.below hb23)
      have HT3 := Lib.hid (HT2.out.below hb23)
      have HB3 := Lib.hid (HB2.out.trans (hb23.mono HB2.out.size))
      have HI3 := Lib.hid (HI2.out.below hb23)
      clear hU3 hb23 hfr k0 k1 k2 k3 HX2 HR2 HS2 HT2 HB2 HI2
      refine (hnew.out U3).mono ?_
      rintro y U4 ⟨p, S0, rfl, HW4, HS4, HB34⟩
      have hFn2 : F = n := by have := frontN_le t; rw [HF.out, HLN.out] at this; omega
      have HFN := Lib.hid hFn2
      clear hFn2 hFn hFn' hnew
      go_wp2_with fail
      go_loopw [53] (fun i wr => ∃ (k : Nat) (X : Wr1) (S : Nat → Prop), k ≤ n ∧ i = .int .i64 k ∧ Hid (WrAt d q e t k false ⟨#[]⟩ X) ∧ Hid (X.tk = 0) ∧ Hid (WB wr p X S) ∧ Hid (∀ j, S j → U3.heap.size ≤ j) ∧ Hid (Below U3.heap.size U3 wr)) (fun i _ => n - (intOf i).toNat)
      case atStart => exact ⟨0, _, S0, Nat.zero_le _, rfl, Lib.hid (WrAt.start d0 d1 q0 q1 t), Lib.hid rfl, HW4, HS4, HB34⟩
      case round =>
        obtain ⟨k, X, S, hk, rfl, HX, HTK, HW, HS, HB⟩ := hrel
        obtain ⟨W, hW⟩ : ∃ W, W = wr := ⟨_, rfl⟩
        subst hW
        clear HW4 HS4 HB34
        by_cases hlt : k < n
        · obtain ⟨r, hr'⟩ : ∃ r, t[k]? = some r := ⟨_, List.getElem?_eq_getElem (by rw [HLN.out]; exact hlt)⟩
          obtain ⟨a, D, b, rfl, hca, hD⟩ := (HI3.out.below HB.out).row hr'
          obtain ⟨m, hm⟩ : ∃ m, m = r.length := ⟨_, rfl⟩
          have hm1 : m ≤ 1000 := by have := fldN_mem (List.mem_of_getElem? hr'); have := HGR.out; omega
          have hlr : lenL r ≤ 1000 := by have := bytN_mem (List.mem_of_getElem? hr'); have := HGR.out; omega
          rw [← hm] at hca hD
          have HD := Lib.hid hD
          have hM0 : mayN r = 0 := frontN_ok t k r (by rw [HF.out, HFN.out]; exact hlt) hr'
          have HP := Lib.hid (HX.out.put hr' hM0)
          have HSZX := Lib.hid (HX.out.size (by rw [HLN.out]; exact hk))
          clear hr' hD hm hM0
          go_wp2_with fail
          refine (H.out.put X p S D m b r W HX.out.ok (by have := HSZX.out.1; have := HGR.out; omega) (by rw [HX.out.ct]; omega) hm1 hlr HW HD).mono ?_
          rintro y W2 ⟨rfl, S2, HW2, HT2', HS2'⟩
          rw [HP.out.1]
          have HBW2 := Lib.hid (HB.out.trans (Touch.below HT2'.out HB.out.size (fun k hk => HS.out k hk)))
          have HS22 := Lib.hid (show ∀ k, S2 k → U3.heap.size ≤ k from fun k hk => by
            rcases HS2'.out k hk with h2 | h2
            · exact HS.out k h2
            · have := HB.out.size; omega)
          have HTK2 := Lib.hid (show (X.put r).tk = 0 by unfold Wr1.put; split <;> exact HTK.out)
          have HP2 := Lib.hid HP.out.2
          clear hca
          go_wp2_with fail
          go_roundw
          case rel => exact ⟨k + 1, X.put r, S2, by omega, by go_num, HP2, HTK2, HW2, HS22, HBW2⟩
          case measure => simp [intOf]; omega
        · obtain rfl : k = n := by omega
          obtain ⟨TX, hTX⟩ : ∃ TX, X.S = TX := ⟨_, rfl⟩
          have HTX := Lib.hid (show bl TX = textN d q e t (frontN t) by rw [← hTX, HX.out.hS, HF.out, HFN.out])
          have HSZX := Lib.hid (HX.out.size (by rw [HLN.out]; exact hk))
          have hTS : TX.size ≤ 960 := by rw [← hTX]; have := HSZX.out.1; have := HGR.out; have := HLN.out; omega
          have HXS := Lib.hid hTX
          have HXW := Lib.hid (HX3.out.below HB.out)
          have HBW := Lib.hid (HB3.out.trans (HB.out.mono HB3.out.size))
          obtain ⟨k0, k1, k2, k3⟩ := dia3' HXW.out
          have htx := fun (y : Above W) => text_any d q e d0 d1 q0 q1 A k c V t (by omega) (by have := HGR.out; omega) (by have := HGR.out; omega) (onto W y) (Lib.hid ((HI3.out.below HB.out).below (onto_below W y))) HK TX HTX
          have z7 : W.cell? ⟨sb, 0, none⟩ = some (.int .i64 z0) := (HS3.out.below HB.out).cell 0
          have z8 := (HS3.out.below HB.out).lt
          clear hTX hlt
          go_wp2_with (first
            | (go_at_call 11; with_reducible refine (above (ref_any d q e d0 d1 q0 q1 _)).mono ?_; rintro x _ ⟨rfl, y1, rfl⟩)
            | (go_at_call 23; with_reducible refine (above (htx _)).mono ?_; rintro x _ ⟨rfl, y2, rfl⟩))
          obtain ⟨W6, hW6⟩ : ∃ W6, W6 = (onto W (y1.up y2)).alloc (.cells #[.string TX] 9) := ⟨_, rfl⟩
          obtain ⟨lb6, hl6⟩ : ∃ lb6, (onto W (y1.up y2)).heap.size = lb6 := ⟨_, rfl⟩
          have hb6 : Below W.heap.size W W6 := by rw [hW6]; exact up_alloc (onto_below W _) _
          have HL6 := Lib.hid (show StB W6 lb6 9 #[.string TX] by rw [hW6]; exact StB.made _ hl6.symm _ _)
          rw [← hW6, hl6]
          have HW6 := Lib.hid (H.out.below HW.out hb6)
          have HR6 := Lib.hid ((HR3.out.below HB.out).below hb6)
          have HS6 := Lib.hid ((HS3.out.below HB.out).below hb6)
          have HT6 := Lib.hid ((HT3.out.below HB.out).below hb6)
          have HBW6 := Lib.hid (HBW.out.trans (hb6.mono HBW.out.size))
          have HLT := Lib.hid (show W.heap.size ≤ lb6 by rw [← hl6]; exact (onto_below W _).size)
          have H3W := Lib.hid (show U3.heap.size ≤ W.heap.size from HB.out.size)
          clear hW6 hl6 hb6 htx k0 k1 k2 k3 z7 z8
          refine (hDrain.out X p S z0 W6 HX.out.ok (by rw [HXS.out]; omega) (by omega) (by omega) HW6).mono ?_
          rintro y W7 ⟨gf, lb, Sc, rfl, HEN, HNIL, HB67, HSC, HSEQ⟩
          have hnil := HNIL.out
          obtain ⟨m, hm⟩ : ∃ m, (max z0 1).toNat = m := ⟨_, rfl⟩
          have hmz : max z0 1 = (m : Int) := by omega
          have hm1 : 1 ≤ m := by omega
          have hm2 : m ≤ 255 := by omega
          have hseq := HSEQ.out
          rw [hm, rest_all HTK.out, HXS.out] at hseq
          have HSQ := Lib.hid hseq
          have HMZ := Lib.hid hmz
          have HW7 := Lib.hid (H.out.below HW6.out HB67.out)
          have HL7 := Lib.hid (HL6.out.below HB67.out)
          have HR7 := Lib.hid (HR6.out.below HB67.out)
          have HS7 := Lib.hid (HS6.out.below HB67.out)
          have HT7 := Lib.hid (HT6.out.below HB67.out)
          have HBW7 := Lib.hid (HBW6.out.trans (HB67.out.mono HBW6.out.size))
          clear hseq hmz hm HW6 HR6 HS6 HT6 HSEQ
          go_wp2_with fail
          obtain ⟨W8, hW8⟩ : ∃ W8, (W7.alloc (.cells #[.int .i64 0] 3)).alloc (.cells #[.string ⟨#[]⟩] 9) = W8 := ⟨_, rfl⟩
          obtain ⟨nb, hnb⟩ : ∃ nb, W7.heap.size = nb := ⟨_, rfl⟩
          obtain ⟨ob, hob⟩ : ∃ ob, nb + 1 = ob := ⟨_, rfl⟩
          rw [hW8, hnb, hob]
          have hb78 : Below W7.heap.size W7 W8 := by rw [← hW8]; exact up_alloc (up_alloc (Below.refl _ _) _) _
          have hN8 : StB W8 nb 3 #[.int .i64 0] := by rw [← hW8]; exact (StB.made _ hnb.symm _ _).alloc _
          have hO8 : StB W8 ob 9 #[.string ⟨#[]⟩] := by rw [← hW8]; exact StB.made _ (by simp; omega) _ _
          have hz8 : W8.heap.size = ob + 1 := by rw [← hW8]; simp; omega
          have HW8 := Lib.hid (H.out.below HW7.out hb78)
          have HL8 := Lib.hid (HL7.out.below hb78)
          have HR8 := Lib.hid (HR7.out.below hb78)
          have HS8 := Lib.hid (HS7.out.below hb78)
          have HT8 := Lib.hid (HT7.out.below hb78)
          have HBW8 := Lib.hid (HBW7.out.trans (hb78.mono HBW7.out.size))
          obtain ⟨SQ, hSQ⟩ : ∃ SQ : Nat → Prop, SQ = fun k => S k ∨ Sc k := ⟨_, rfl⟩
          have HLS : ∀ j, S j → j < W.heap.size := fun j hj => H.out.lies HW.out j hj
          have HQ1 := Lib.hid (show ∀ j, SQ j → (U3.heap.size ≤ j ∧ j < lb6) ∨ (lb6 < j ∧ j < nb) from fun j hj => by
            rw [hSQ] at hj
            rcases hj with hj | hj
            · have h1 := HS.out j hj
              have h2 := HLS j hj
              have := HLT.out
              omega
            · have h1 := HSC.out j hj
              have h2 := HL7.out.lt
              have h3 : lb6 < W6.heap.size := HL6.out.lt
              omega)
          have HSM := Lib.hid (show sb < U3.heap.size ∧ tb < U3.heap.size ∧ rb < U3.heap.size ∧ U3.heap.size ≤ lb6 ∧ lb6 < nb from ⟨HS3.out.lt, HT3.out.lt, HR3.out.lt, by have := HLT.out; have := H3W.out; omega, by have := HL7.out.lt; omega⟩)
          have HWU3 := Lib.hid (show w.heap.size ≤ U3.heap.size from HB3.out.size)
          have start : DrI W8 ob nb SQ TX m [] W8 (fun k => k = ob ∨ k = nb) := ⟨.inl rfl, .inr rfl, (fun k hk => hk), Touch.refl _ _, hN8, ⟨#[]⟩, hO8, by simp [bl]⟩
          have lies : Lies W8 (fun k => k = ob ∨ k = nb) := fun k hk => by rcases hk with rfl | rfl <;> omega
          have hkp : ∀ k, SQ k → ¬ (k = ob ∨ k = nb) ∧ k < W8.heap.size := fun k hk => by
            have h1 := HQ1.out k hk
            have h2 := HSM.out
            omega
          have hsq := HSQ.out
          rw [← hSQ] at hsq
          have HN1 := Lib.hid hob
          clear hW8 hnil hob hnb HSQ HLS HR7 HS7 HT7 HW7 HL7 hSQ HSC
          refine (wpIn_wide (n := 20)).1 ?_
          refine wpIn_range_S rfl (by simp [Fence.wide]) (gf := gf) (lb := lb) rfl trivial HEN.out (encs := pceArgs) (gh := (·.b)) (hand := pceHand) (blk := pceBlk) (evs := pcesE TX m) (Own := fun pre W S' => WB W p (X.drained m pre.length) S') (S0 := SQ) (fun pre W W' S S' h ht hd => H.out.keep h ht hd) (fun W1 hb => hsq W1 (hb78.trans (hb.mono hb78.size))) pceHand_keep (fun _ => rfl)
            (DrI W8 ob nb SQ TX m) (DrX W8 ob nb SQ TX m 2 z1) (drI_ab _ _ _ _ _ _ (Nat.le_refl _)) (fun c => drX_ab _ _ _ _ _ _ _ _ (Nat.le_refl _) c) _ start lies hkp
            (fun y V => { tmps := #[Value.agg #[Value.int IntKind.u8 d, Value.int IntKind.u8 q, Value.int IntKind.i64 e], Value.slice A k c, Value.agg #[Value.int IntKind.u8 z0, Value.int IntKind.u8 z1], Value.pointer (some { block := h, off := 0 }), undef, Value.pointer (some { block := zb, off := 0 }), Value.pointer (some { block := rb, off := 0 }), Value.pointer (some { block := sb, off := 0 }), Value.pointer (some { block := tb, off := 0 }), Value.pointer (some p), Value.int IntKind.i64 0, undef, u12, Value.pointer (some { block := lb6, off := 0 }), Value.func (Fn.func gf) #[] lb, Value.pointer (some { block := nb, off := 0 }), Value.pointer (some { block := ob, off := 0 }), .slice y.O (y.b.size : Nat) y.c, u18, u19, u20, u21, u22, u23, Value.slice A k c, Value.bool false, Value.bool false, Value.agg #[Value.int IntKind.u8 d, Value.int IntKind.u8 q, Value.int IntKind.i64 e], Value.agg #[Value.int IntKind.i64 d, Value.int IntKind.i64 q, Value.int IntKind.i64 e], Value.bool true, Value.bool false, Value.bool false, Value.bool false, Value.slice A k c, Value.int IntKind.i64 (F : Int), Value.slice A k c, Value.int IntKind.i64 (k : Int), Value.bool false, Value.bool false, undef, Value.tuple #[Value.pointer (some p), Value.int IntKind.i64 0], Value.agg #[Value.int IntKind.u8 d, Value.int IntKind.u8 q, Value.int IntKind.i64 e], Value.tuple #[Value.pointer (some p), Value.int IntKind.i64 0], Value.pointer (some p), Value.int IntKind.i64 0, Value.pointer (some p), Value.bool false, Value.bool false, Value.int IntKind.i64 0, Value.bool false, Value.bool false, Value.slice A k c, Value.int IntKind.i64 (k : Int), Value.int IntKind.i64 (k : Int), Value.bool false, u55, u56, u57, u58, u59, u60, Value.agg #[Value.int IntKind.u8 d, Value.int IntKind.u8 q, Value.int IntKind.i64 e], Value.agg #[Value.int IntKind.i64 d, Value.int IntKind.i64 q, Value.int IntKind.i64 e], Value.slice A k c, Value.string TX, Value.pointer (some p), Value.int IntKind.i64 z0, Value.func (Fn.func gf) #[] lb, Value.func (Fn.func gf) #[] lb, Value.bool false, Value.func (Fn.func gf) #[] lb, .slice y.O (y.b.size : Nat) y.c, undef, undef, undef, undef, undef, undef, undef, undef, undef, undef, undef, undef, undef, undef, undef, undef, undef, undef, undef, undef, undef, undef, undef, undef, undef, undef, undef, undef, undef, undef, undef, undef, undef, undef, undef, undef, undef, undef, undef, undef, undef, undef, undef, undef], defers := [] }) (fun y V => V) (fun y V => Below.refl _ V) ?assign ?body ?done ?stop
          case assign =>
            rintro l y W K hK
            dsimp only [pceArgs] at hK ⊢
            gi_wp2
            exact hK
          case body =>
            rintro l pre ⟨O', c', base', b'⟩ V2 W9 T ⟨hTo, hTn, hT, ht6, hN9, O, hO9, hOb⟩ hlT hpre hhand hblk hge htouch hl
            obtain ⟨hilt, hx⟩ := pcesE_at hpre
            dsimp only at hx
            subst hx
            obtain ⟨b, hb⟩ : ∃ b, pceAt TX m pre.length = b := ⟨_, rfl⟩
            rw [hb] at hhand hblk ⊢
            have hh2 : SlOwn W9 base' 5 O' b.size c' (u8s (bl b)) := hhand
            dsimp only
            obtain ⟨i, hi⟩ : ∃ i, pre.length = i := ⟨_, rfl⟩
            rw [hi] at hilt hN9 hOb hb
            have him := pceN_lt hm1 hilt
            have hiN : i ≤ 960 := by have := pceN_le TX hm1; omega
            have hOz : O.size = i * m := by rw [← bl_length, hOb, List.length_take, bl_length]; omega
            have hbz : b.size = min m (TX.size - i * m) := by rw [← hb]; exact pceAt_size him
            have hOb2 : bl (O ++ b) = (bl TX).take ((i + 1) * m) := by rw [← hb]; exact pceAt_next hOb
            have hcv : (convert 43 9 (.slice O' b.size c')).run Tryd.prog W9 = .ok (.string b) W9 := by rw [conv_text c' Tryd.underlying43 Tryd.underlying5 Tryd.underlying9 hh2.toIn, toBA_bl]
            have hz7 := HS8.out.touch ht6 (fun e => by
              have := HSM.out
              have := HN1.out
              rcases e with e | e | e
              · omega
              · omega
              · have := HQ1.out _ e; omega)
            have hz8' := HT8.out.touch ht6 (fun e => by
              have := HSM.out
              have := HN1.out
              rcases e with e | e | e
              · omega
              · omega
              · have := HQ1.out _ e; omega)
            have hz6 := HL8.out.touch ht6 (fun e => by
              have := HSM.out
              have := HN1.out
              rcases e with e | e | e
              · omega
              · omega
              · have := HQ1.out _ e; omega)
            have a0 : W9.cell? ⟨sb, 0, none⟩ = some (.int .i64 z0) := hz7.cell 0
            have a1 := hz7.lt
            have b0 : W9.cell? ⟨tb, 0, none⟩ = some (.int .i64 z1) := hz8'.cell 0
            have b1 := hz8'.lt
            have e0 : W9.cell? ⟨lb6, 0, none⟩ = some (.string TX) := hz6.cell 0
            have e1 := hz6.lt
            have f0 : W9.cell? ⟨nb, 0, none⟩ = some (.int .i64 (i : Int)) := hN9.cell 0
            have f1 := hN9.lt
            have f2 := hN9.free 0
            have g0 : W9.cell? ⟨ob, 0, none⟩ = some (.string O) := hO9.cell 0
            have g1 := hO9.lt
            have g2 := hO9.free 0
            have hcmp : ((b.size : Int) != min (max z0 1) ((TX.size : Int) - (O.size : Int))) = false := by
              have := HMZ.out
              have h2 : (b.size : Int) = min (max z0 1) ((TX.size : Int) - (O.size : Int)) := by omega
              rw [← h2]; simp
            have hsum : O.size + b.size ≤ 9223372036854775807 := by omega
            have hgt : ¬ (2000 : Int) < (i : Int) + 1 := by omega
            have n1 : ¬ ob = nb := by have := HN1.out; omega
            have n2 : ¬ nb = ob := by have := HN1.out; omega
            have n3 : ¬ tb = ob := by have := HSM.out; have := HN1.out; omega
            have n4 : ¬ tb = nb := by have := HSM.out; have := HN1.out; omega
            have hpl : ((pre ++ [b]).length : Int) = (i : Int) + 1 := by simp; omega
            have hpl2 : (pre ++ [b]).length = i + 1 := by simp; omega
            have TB := Lib.hid (show Touch W9 ((W9.setCell ⟨ob, 0, none⟩ (.string (O ++ b))).setCell ⟨nb, 0, none⟩ (.int .i64 ((i : Int) + 1))) (fun k => T k ∨ pceBlk ⟨O', c', base', b⟩ k) from
              ((Touch.refl W9 _).then_set (p := ⟨ob, 0, none⟩) (.inl (.inl hTo)) _).then_set (p := ⟨nb, 0, none⟩) (.inl (.inl hTn)) _)
            have TB2 := Lib.hid (show Touch W9 ((W9.setCell ⟨ob, 0, none⟩ (.string (O ++ b))).setCell ⟨nb, 0, none⟩ (.int .i64 ((i : Int) + 1))) (fun k => k = ob ∨ k = nb ∨ SQ k) from
              ((Touch.refl W9 _).then_set (p := ⟨ob, 0, none⟩) (.inl (.inl rfl)) _).then_set (p := ⟨nb, 0, none⟩) (.inl (.inr (.inl rfl))) _)
            have T8 := Lib.hid (show Touch W8 ((W9.setCell ⟨ob, 0, none⟩ (.string (O ++ b))).setCell ⟨nb, 0, none⟩ (.int .i64 ((i : Int) + 1))) (fun k => k = ob ∨ k = nb ∨ SQ k) from ht6.trans (Sub.refl _ _) TB2.out)
            have sN := Lib.hid (show StB ((W9.setCell ⟨ob, 0, none⟩ (.string (O ++ b))).setCell ⟨nb, 0, none⟩ (.int .i64 ((i : Int) + 1))) nb 3 #[.int .i64 ((pre ++ [b]).length : Int)] by
              rw [hpl]; exact (hN9.far (by show nb ≠ ob; exact n2) _).set_ 0 _)
            have sO := Lib.hid (show StB ((W9.setCell ⟨ob, 0, none⟩ (.string (O ++ b))).setCell ⟨nb, 0, none⟩ (.int .i64 ((i : Int) + 1))) ob 9 #[.string (O ++ b)] from (hO9.set_ 0 _).far (by show ob ≠ nb; exact n1) _)
            have DR := Lib.hid (show DrI W8 ob nb SQ TX m (pre ++ [b]) ((W9.setCell ⟨ob, 0, none⟩ (.string (O ++ b))).setCell ⟨nb, 0, none⟩ (.int .i64 ((i : Int) + 1))) T from
              ⟨hTo, hTn, hT, T8.out, sN.out, O ++ b, sO.out, by rw [hpl2]; exact hOb2⟩)
            have LI := Lib.hid (show Lies ((W9.setCell ⟨ob, 0, none⟩ (.string (O ++ b))).setCell ⟨nb, 0, none⟩ (.int .i64 ((i : Int) + 1))) T from (hlT.later htouch.size).later TB.out.size)
            have HPL := Lib.hid hpl
            clear hpl hpl2 hOb2 hOz hbz hb hOb hi hilt him hiN hN9 hO9 hz6 hz7 hz8' hhand hblk hh2 htouch hl hge hT hTo hTn ht6 hlT hpre sN sO T8 TB2
            by_cases hst : (i : Int) + 1 = z1
            · have HST := Lib.hid hst
              clear hst
              have hs1 : (((i : Int) + 1) == z1) = true := by rw [HST.out]; simp
              have HFX := Lib.hid (show LeftW W9 T (pceBlk ⟨O', c', base', b⟩) (DrX W8 ob nb SQ TX m 2 z1 (.exit 2)) (pre ++ [b]) ((W9.setCell ⟨ob, 0, none⟩ (.string (O ++ b))).setCell ⟨nb, 0, none⟩ (.int .i64 ((i : Int) + 1))) from
                ⟨T, LI.out, (fun j hj => .inl (.inl hj)), TB.out, rfl, by rw [HPL.out, HST.out], DR.out⟩)
              gi_wp2
              all_goals exact HFX.out
            · have hs1 : (((i : Int) + 1) == z1) = false := by simpa using hst
              clear hst
              have HFN := Lib.hid (show LeftW W9 T (pceBlk ⟨O', c', base', b⟩) (DrI W8 ob nb SQ TX m) (pre ++ [b]) ((W9.setCell ⟨ob, 0, none⟩ (.string (O ++ b))).setCell ⟨nb, 0, none⟩ (.int .i64 ((i : Int) + 1))) from
                ⟨T, LI.out, (fun j hj => .inl (.inl hj)), TB.out, DR.out⟩)
              gi_wp2
              all_goals exact HFN.out
          case done =>
            rintro D W9 T S2 hD ⟨hTo, hTn, hT, ht6, hN9, O, hO9, hOb⟩ hlT hTD hOwn hS2 hK
            rw [pcesE_len] at hN9 hOb hOwn
            obtain ⟨N, hN⟩ : ∃ N, pceN TX m = N := ⟨_, rfl⟩
            have hall := pceN_all TX hm1
            rw [hN] at hN9 hOb hOwn hall
            obtain rfl : O = TX := bl_inj (by rw [hOb, List.take_of_length_le (by rw [bl_length]; exact hall)])
            have HWN := Lib.hid hOwn
            have HDG := Lib.hid (drained_got HTK.out (by rw [HXS.out]; omega) m N (O := O) (by rw [HXS.out]; exact hOb))
            have hL9 := HL8.out.touch ht6 (fun e => by
              have := HSM.out
              have := HN1.out
              rcases e with e | e | e
              · omega
              · omega
              · have := HQ1.out _ e; omega)
            have hR9 := HR8.out.touch ht6 (fun e => by
              have := HSM.out
              have := HN1.out
              rcases e with e | e | e
              · omega
              · omega
              · have := HQ1.out _ e; omega)
            have hT9 := HT8.out.touch ht6 (fun e => by
              have := HSM.out
              have := HN1.out
              rcases e with e | e | e
              · omega
              · omega
              · have := HQ1.out _ e; omega)
            have HBW9 := Lib.hid (HBW8.out.trans (ht6.below HBW8.out.size (fun k hk => by
              have h1 := HSM.out
              have h2 := HN1.out
              have h3 := HWU3.out
              rcases hk with hk | hk | hk
              · omega
              · omega
              · have := HQ1.out _ hk; omega)))
            have HS2 := Lib.hid (show ∀ k, S2 k → k ≠ ob ∧ k ≠ nb ∧ k ≠ D ∧ k ≠ lb6 ∧ k ≠ rb ∧ w.heap.size ≤ k from fun k hk => by
              obtain ⟨g1, g2, g3⟩ := hS2 k hk
              have h1 := HSM.out
              have h2 := HN1.out
              have h3 := HWU3.out
              refine ⟨fun e => g1 (e ▸ hTo), fun e => g1 (e ▸ hTn), g2, ?_, ?_, ?_⟩
              all_goals
                rcases g3 with g3 | g3
                · omega
                · have := HQ1.out _ g3; omega)
            have HKD := Lib.hid hK
            have HD := Lib.hid hD
            have HRX := Lib.hid hR9
            have a0 : W9.cell? ⟨nb, 0, none⟩ = some (.int .i64 (N : Int)) := hN9.cell 0
            have a1 := hN9.lt
            have b0 : W9.cell? ⟨tb, 0, none⟩ = some (.int .i64 z1) := hT9.cell 0
            have b1 := hT9.lt
            have c0 : W9.cell? ⟨ob, 0, none⟩ = some (.string O) := hO9.cell 0
            have c1 := hO9.lt
            have f0 : W9.cell? ⟨lb6, 0, none⟩ = some (.string O) := hL9.cell 0
            have f1 := hL9.lt
            have HOL := Lib.hid (And.intro hO9 hL9)
            have HDRB := Lib.hid (show D ≠ rb by have := HSM.out; have := HN1.out; omega)
            have HDW := Lib.hid (show w.heap.size ≤ D by have := HBW8.out.size; omega)
            clear hOwn hN9 hO9 hL9 hR9 hT9 ht6 hTo hTn hT hlT hTD hS2 hK
            have n0 : ((O.size : Int) != (O.size : Int)) = false := by simp
            clear hall hOb hN
            by_cases hnz : (N : Int) = z1
            · have HNZ := Lib.hid hnz
              clear hnz
              have n1 : ((N : Int) != z1) = false := by rw [HNZ.out]; simp
              go_wp2_with fail
              clear a0 a1 b0 b1 c0 c1 f0 f1
              refine wp_nopanic ?_
              refine region_W 5 (fun w' => StB w' ob 9 #[.string O] ∧ StB w' lb6 9 #[.string O]) (by kernel_rfl) ?_
              have hC : StB W9.drew ob 9 #[.string O] ∧ StB W9.drew lb6 9 #[.string O] := ⟨HOL.out.1.drew, HOL.out.2.drew⟩
              refine takeC (i := 0) (v := .string O) rfl (by kernel_rfl) (by kernel_rfl) (by kernel_rfl) (by kernel_rfl) (fun _ _ _ h => h) hC (.inl ⟨by rfl, fun w hw => by have c0 := hw.1.cell 0; have cl := hw.1.lt; go_simp⟩) ?_
              refine takeC (i := 1) (v := .pointer (some p)) rfl (by kernel_rfl) (by kernel_rfl) (by kernel_rfl) (by kernel_rfl) (fun _ _ _ h => h) hC (.inl ⟨by rfl, fun w hw => by go_simp⟩) ?_
              refine takeC (i := 5) (v := .string O) rfl (by kernel_rfl) (by kernel_rfl) (by kernel_rfl) (by kernel_rfl) (fun _ _ _ h => h) hC (.inl ⟨by rfl, fun w hw => by have c0 := hw.2.cell 0; have cl := hw.2.lt; go_simp⟩) ?_
              refine onlyC (i := 2) (by kernel_rfl) rfl (by kernel_rfl) (fun K hK => ?_)
              go_simp
              refine callsIn_wide.2 ((H.out.take (X.drained m N) p S2 1048576 W9.drew (drained_ok HX.out.ok m N) (by show X.S.size ≤ 1000000; rw [HXS.out]; omega) (by omega) (by omega) (Lib.hid (H.out.below HWN.out (Below.refl _ W9).drew))).mono ?_)
              rintro y W10 ⟨O2, m2, c3, S3, rfl, hm2, HO2, HOS2, HW10, HT10, HS10⟩
              obtain ⟨G, hG⟩ : ∃ G, (X.drained m N).got 1048576 = G := ⟨_, rfl⟩
              rw [hG] at HO2
              have hGT : O ++ G = O := by rw [← hG, HDG.out, HXS.out]
              have HR10 := Lib.hid (show StB W10 rb 4 #[.bool false] from StB.touch HRX.out.drew HT10.out (fun hs => (HS2.out _ hs).2.2.2.2.1 rfl))
              have HKD10 := Lib.hid (show W10.heap[D]? = some (.deferred (some [])) from (HT10.out.block D (Array.getElem?_eq_some_iff.1 HKD.out).1 (fun hs => (HS2.out _ hs).2.2.1 rfl)).trans HKD.out)
              have HBW10 := Lib.hid (show Below w.heap.size w W10 from HBW9.out.drew.trans (HT10.out.below HBW9.out.size (fun j hs => (HS2.out j hs).2.2.2.2.2)))
              have hC2 : (StB W10 ob 9 #[.string O] ∧ StB W10 lb6 9 #[.string O]) ∧ SlIn W10 O2 m2 (u8s (bl G)) := ⟨⟨hC.1.touch HT10.out (fun hs => (HS2.out _ hs).1 rfl), hC.2.touch HT10.out (fun hs => (HS2.out _ hs).2.2.2.1 rfl)⟩, HO2.out.toIn⟩
              have hGs : O.size + G.size ≤ 960 := by have := congrArg ByteArray.size hGT; rw [ByteArray.size_append] at this; omega
              have hEQ : ((O ++ G).toList == O.toList) = true := by rw [hGT]; simp
              have HRB9 := Lib.hid (show rb < W9.heap.size from HRX.out.lt)
              refine hK _ _ hC2.1 ?_
              clear hK K hm2 HOS2 hG hC
              refine anyC_mono (C' := fun w' => (StB w' ob 9 #[.string O] ∧ StB w' lb6 9 #[.string O]) ∧ SlIn w' O2 m2 (u8s (bl G))) (fun _ h => h.1) _ _ _ _ ?_
              refine takeC (i := 3) (v := .string G) rfl (by kernel_rfl) (by kernel_rfl) (by kernel_rfl) (by kernel_rfl) (fun _ _ _ h => h) hC2 (.inl ⟨by rfl, fun w hw => by have hcv : (convert 43 9 (.slice O2 m2 c3)).run Tryd.prog w = .ok (.string G) w := (by rw [conv_text c3 Tryd.underlying43 Tryd.underlying5 Tryd.underlying9 hw.2, toBA_bl]); go_simp⟩) ?_
              refine takeC (i := 4) (v := .string (O ++ G)) rfl (by kernel_rfl) (by kernel_rfl) (by kernel_rfl) (by kernel_rfl) (fun _ _ _ h => h) hC2 (.inl ⟨by rfl, fun w hw => by have hsum : O.size + G.size ≤ 9223372036854775807 := (by omega); go_simp⟩) ?_
              refine takeC (i := 6) (v := .bool true) rfl (by kernel_rfl) (by kernel_rfl) (by kernel_rfl) (by kernel_rfl) (fun _ _ _ h => h) hC2 (.inl ⟨by rfl, fun w hw => by go_simp⟩) ?_
              refine takeC (i := 7) (v := .bool true) rfl (by kernel_rfl) (by kernel_rfl) (by kernel_rfl) (by kernel_rfl) (fun _ _ _ h => h) hC2 (.inl ⟨by rfl, fun w hw => by go_simp⟩) ?_
              refine onlyC (i := 8) (by kernel_rfl) rfl (by kernel_rfl) (fun K hK => ?_)
              go_simp
              refine callsIn_wide.2 ((above (HAW.out W10)).mono ?_)
              rintro y _ ⟨rfl, y9, rfl⟩
              have hC3 : (StB (onto W10 y9) ob 9 #[.string O] ∧ StB (onto W10 y9) lb6 9 #[.string O]) ∧ SlIn (onto W10 y9) O2 m2 (u8s (bl G)) := ⟨⟨hC2.1.1.below (onto_below W10 y9), hC2.1.2.below (onto_below W10 y9)⟩, hC2.2.below (onto_below W10 y9)⟩
              refine hK _ _ hC3 ?_
              clear hK K
              refine takeC (i := 9) (v := .bool true) rfl (by kernel_rfl) (by kernel_rfl) (by kernel_rfl) (by kernel_rfl) (fun _ _ _ h => h) hC3 (.inl ⟨by rfl, fun w hw => by go_simp⟩) ?_
              have hR11 := HR10.out.below (onto_below W10 y9)
              have r0 : (onto W10 y9).cell? ⟨rb, 0, none⟩ = some (.bool false) := hR11.cell 0
              have r1 := hR11.free 0
              have r2 := hR11.lt
              have hT11 := (Touch.refl (onto W10 y9) (fun k => k = rb)).then_set (p := ⟨rb, 0, none⟩) (.inl rfl) (.bool true)
              have hC4 : (StB ((onto W10 y9).setCell ⟨rb, 0, none⟩ (.bool true)) ob 9 #[.string O] ∧ StB ((onto W10 y9).setCell ⟨rb, 0, none⟩ (.bool true)) lb6 9 #[.string O]) ∧ SlIn ((onto W10 y9).setCell ⟨rb, 0, none⟩ (.bool true)) O2 m2 (u8s (bl G)) :=
                ⟨⟨hC3.1.1.touch hT11 (by have := HSM.out; have := HN1.out; omega), hC3.1.2.touch hT11 (by have := HSM.out; omega)⟩, ((HO2.out.below (onto_below W10 y9)).touch hT11 (fun j hj hje => by have h1 := (HO2.out.blk j hj).1; have h2 : W9.heap.size ≤ j := h1; have := HRB9.out; omega)).toIn⟩
              refine onlyC (i := 10) (by kernel_rfl) rfl (by kernel_rfl) (fun K hK => ?_)
              go_simp
              refine hK _ _ hC4 ?_
              clear hK K
              refine doneC (by kernel_rfl) ?_
              clear hC2 hC3 hC4 hEQ hT11 r0 r1 r2 hR11
              go_simp
              go_wp2_with fail
              obtain ⟨hK', y0, hB⟩ := end_box (w := w) y9 HR10 HKD10 HDRB HDW HRBW HBW10
              refine ⟨by simp, .inl ⟨_, _, rfl, run_takeDeferred hK', ?_⟩⟩
              exact ⟨.bool true, by simp [results, Tryd.results5, go_sem, y0], rfl, hB⟩
            · have n1 : ((N : Int) != z1) = true := by simpa using hnz
              clear hnz
              go_wp2_with fail
              clear a0 a1 b0 b1 c0 c1 f0 f1
              refine wp_nopanic ?_
              refine region_W 5 (fun w' => StB w' ob 9 #[.string O] ∧ StB w' lb6 9 #[.string O]) (by kernel_rfl) ?_
              have hC : StB W9.drew ob 9 #[.string O] ∧ StB W9.drew lb6 9 #[.string O] := ⟨HOL.out.1.drew, HOL.out.2.drew⟩
              refine takeC (i := 0) (v := .string O) rfl (by kernel_rfl) (by kernel_rfl) (by kernel_rfl) (by kernel_rfl) (fun _ _ _ h => h) hC (.inl ⟨by rfl, fun w hw => by have c0 := hw.1.cell 0; have cl := hw.1.lt; go_simp⟩) ?_
              refine takeC (i := 1) (v := .pointer (some p)) rfl (by kernel_rfl) (by kernel_rfl) (by kernel_rfl) (by kernel_rfl) (fun _ _ _ h => h) hC (.inl ⟨by rfl, fun w hw => by go_simp⟩) ?_
              refine takeC (i := 5) (v := .string O) rfl (by kernel_rfl) (by kernel_rfl) (by kernel_rfl) (by kernel_rfl) (fun _ _ _ h => h) hC (.inl ⟨by rfl, fun w hw => by have c0 := hw.2.cell 0; have cl := hw.2.lt; go_simp⟩) ?_
              refine onlyC (i := 2) (by kernel_rfl) rfl (by kernel_rfl) (fun K hK => ?_)
              go_simp
              refine callsIn_wide.2 ((H.out.take (X.drained m N) p S2 1048576 W9.drew (drained_ok HX.out.ok m N) (by show X.S.size ≤ 1000000; rw [HXS.out]; omega) (by omega) (by omega) (Lib.hid (H.out.below HWN.out (Below.refl _ W9).drew))).mono ?_)
              rintro y W10 ⟨O2, m2, c3, S3, rfl, hm2, HO2, HOS2, HW10, HT10, HS10⟩
              obtain ⟨G, hG⟩ : ∃ G, (X.drained m N).got 1048576 = G := ⟨_, rfl⟩
              rw [hG] at HO2
              have hGT : O ++ G = O := by rw [← hG, HDG.out, HXS.out]
              have HR10 := Lib.hid (show StB W10 rb 4 #[.bool false] from StB.touch HRX.out.drew HT10.out (fun hs => (HS2.out _ hs).2.2.2.2.1 rfl))
              have HKD10 := Lib.hid (show W10.heap[D]? = some (.deferred (some [])) from (HT10.out.block D (Array.getElem?_eq_some_iff.1 HKD.out).1 (fun hs => (HS2.out _ hs).2.2.1 rfl)).trans HKD.out)
              have HBW10 := Lib.hid (show Below w.heap.size w W10 from HBW9.out.drew.trans (HT10.out.below HBW9.out.size (fun j hs => (HS2.out j hs).2.2.2.2.2)))
              have hC2 : (StB W10 ob 9 #[.string O] ∧ StB W10 lb6 9 #[.string O]) ∧ SlIn W10 O2 m2 (u8s (bl G)) := ⟨⟨hC.1.touch HT10.out (fun hs => (HS2.out _ hs).1 rfl), hC.2.touch HT10.out (fun hs => (HS2.out _ hs).2.2.2.1 rfl)⟩, HO2.out.toIn⟩
              have hGs : O.size + G.size ≤ 960 := by have := congrArg ByteArray.size hGT; rw [ByteArray.size_append] at this; omega
              have hEQ : ((O ++ G).toList == O.toList) = true := by rw [hGT]; simp
              have HRB9 := Lib.hid (show rb < W9.heap.size from HRX.out.lt)
              refine hK _ _ hC2.1 ?_
              clear hK K hm2 HOS2 hG hC
              refine anyC_mono (C' := fun w' => (StB w' ob 9 #[.string O] ∧ StB w' lb6 9 #[.string O]) ∧ SlIn w' O2 m2 (u8s (bl G))) (fun _ h => h.1) _ _ _ _ ?_
              refine takeC (i := 3) (v := .string G) rfl (by kernel_rfl) (by kernel_rfl) (by kernel_rfl) (by kernel_rfl) (fun _ _ _ h => h) hC2 (.inl ⟨by rfl, fun w hw => by have hcv : (convert 43 9 (.slice O2 m2 c3)).run Tryd.prog w = .ok (.string G) w := (by rw [conv_text c3 Tryd.underlying43 Tryd.underlying5 Tryd.underlying9 hw.2, toBA_bl]); go_simp⟩) ?_
              refine takeC (i := 4) (v := .string (O ++ G)) rfl (by kernel_rfl) (by kernel_rfl) (by kernel_rfl) (by kernel_rfl) (fun _ _ _ h => h) hC2 (.inl ⟨by rfl, fun w hw => by have hsum : O.size + G.size ≤ 9223372036854775807 := (by omega); go_simp⟩) ?_
              refine takeC (i := 6) (v := .bool true) rfl (by kernel_rfl) (by kernel_rfl) (by kernel_rfl) (by kernel_rfl) (fun _ _ _ h => h) hC2 (.inl ⟨by rfl, fun w hw => by go_simp⟩) ?_
              refine takeC (i := 7) (v := .bool true) rfl (by kernel_rfl) (by kernel_rfl) (by kernel_rfl) (by kernel_rfl) (fun _ _ _ h => h) hC2 (.inl ⟨by rfl, fun w hw => by go_simp⟩) ?_
              refine onlyC (i := 8) (by kernel_rfl) rfl (by kernel_rfl) (fun K hK => ?_)
              go_simp
              refine callsIn_wide.2 ((above (HAW.out W10)).mono ?_)
              rintro y _ ⟨rfl, y9, rfl⟩
              have hC3 : (StB (onto W10 y9) ob 9 #[.string O] ∧ StB (onto W10 y9) lb6 9 #[.string O]) ∧ SlIn (onto W10 y9) O2 m2 (u8s (bl G)) := ⟨⟨hC2.1.1.below (onto_below W10 y9), hC2.1.2.below (onto_below W10 y9)⟩, hC2.2.below (onto_below W10 y9)⟩
              refine hK _ _ hC3 ?_
              clear hK K
              refine takeC (i := 9) (v := .bool true) rfl (by kernel_rfl) (by kernel_rfl) (by kernel_rfl) (by kernel_rfl) (fun _ _ _ h => h) hC3 (.inl ⟨by rfl, fun w hw => by go_simp⟩) ?_
              have hR11 := HR10.out.below (onto_below W10 y9)
              have r0 : (onto W10 y9).cell? ⟨rb, 0, none⟩ = some (.bool false) := hR11.cell 0
              have r1 := hR11.free 0
              have r2 := hR11.lt
              have hT11 := (Touch.refl (onto W10 y9) (fun k => k = rb)).then_set (p := ⟨rb, 0, none⟩) (.inl rfl) (.bool true)
              have hC4 : (StB ((onto W10 y9).setCell ⟨rb, 0, none⟩ (.bool true)) ob 9 #[.string O] ∧ StB ((onto W10 y9).setCell ⟨rb, 0, none⟩ (.bool true)) lb6 9 #[.string O]) ∧ SlIn ((onto W10 y9).setCell ⟨rb, 0, none⟩ (.bool true)) O2 m2 (u8s (bl G)) :=
                ⟨⟨hC3.1.1.touch hT11 (by have := HSM.out; have := HN1.out; omega), hC3.1.2.touch hT11 (by have := HSM.out; omega)⟩, ((HO2.out.below (onto_below W10 y9)).touch hT11 (fun j hj hje => by have h1 := (HO2.out.blk j hj).1; have h2 : W9.heap.size ≤ j := h1; have := HRB9.out; omega)).toIn⟩
              refine onlyC (i := 10) (by kernel_rfl) rfl (by kernel_rfl) (fun K hK => ?_)
              go_simp
              refine hK _ _ hC4 ?_
              clear hK K
              refine doneC (by kernel_rfl) ?_
              clear hC2 hC3 hC4 hEQ hT11 r0 r1 r2 hR11
              go_simp
              go_wp2_with fail
              obtain ⟨hK', y0, hB⟩ := end_box (w := w) y9 HR10 HKD10 HDRB HDW HRBW HBW10
              refine ⟨by simp, .inl ⟨_, _, rfl, run_takeDeferred hK', ?_⟩⟩
              exact ⟨.bool true, by simp [results, Tryd.results5, go_sem, y0], rfl, hB⟩
          case stop =>
            rintro D c pre W9 T S2 hD hpre ⟨rfl, hst, hTo, hTn, hT, ht6, hN9, O, hO9, hOb⟩ hlT hTD hOwn hS2 hK
            obtain ⟨N, hN⟩ : ∃ N, pre.length = N := ⟨_, rfl⟩
            rw [hN] at hN9 hOb hOwn hst
            have HWN := Lib.hid hOwn
            have HDG := Lib.hid (drained_got HTK.out (by rw [HXS.out]; omega) m N (O := O) (by rw [HXS.out]; exact hOb))
            have hL9 := HL8.out.touch ht6 (fun e => by
              have := HSM.out
              have := HN1.out
              rcases e with e | e | e
              · omega
              · omega
              · have := HQ1.out _ e; omega)
            have hR9 := HR8.out.touch ht6 (fun e => by
              have := HSM.out
              have := HN1.out
              rcases e with e | e | e
              · omega
              · omega
              · have := HQ1.out _ e; omega)
            have hT9 := HT8.out.touch ht6 (fun e => by
              have := HSM.out
              have := HN1.out
              rcases e with e | e | e
              · omega
              · omega
              · have := HQ1.out _ e; omega)
            have HBW9 := Lib.hid (HBW8.out.trans (ht6.below HBW8.out.size (fun k hk => by
              have h1 := HSM.out
              have h2 := HN1.out
              have h3 := HWU3.out
              rcases hk with hk | hk | hk
              · omega
              · omega
              · have := HQ1.out _ hk; omega)))
            have HS2 := Lib.hid (show ∀ k, S2 k → k ≠ ob ∧ k ≠ nb ∧ k ≠ D ∧ k ≠ lb6 ∧ k ≠ rb ∧ w.heap.size ≤ k from fun k hk => by
              obtain ⟨g1, g2, g3⟩ := hS2 k hk
              have h1 := HSM.out
              have h2 := HN1.out
              have h3 := HWU3.out
              refine ⟨fun e => g1 (e ▸ hTo), fun e => g1 (e ▸ hTn), g2, ?_, ?_, ?_⟩
              all_goals
                rcases g3 with g3 | g3
                · omega
                · have := HQ1.out _ g3; omega)
            have HKD := Lib.hid hK
            have HD := Lib.hid hD
            have HRX := Lib.hid hR9
            have a0 : W9.cell? ⟨nb, 0, none⟩ = some (.int .i64 (N : Int)) := hN9.cell 0
            have a1 := hN9.lt
            have b0 : W9.cell? ⟨tb, 0, none⟩ = some (.int .i64 z1) := hT9.cell 0
            have b1 := hT9.lt
            have c0 : W9.cell? ⟨ob, 0, none⟩ = some (.string O) := hO9.cell 0
            have c1 := hO9.lt
            have f0 : W9.cell? ⟨lb6, 0, none⟩ = some (.string TX) := hL9.cell 0
            have f1 := hL9.lt
            have HOL := Lib.hid (And.intro hO9 hL9)
            have HDRB := Lib.hid (show D ≠ rb by have := HSM.out; have := HN1.out; omega)
            have HDW := Lib.hid (show w.heap.size ≤ D by have := HBW8.out.size; omega)
            clear hOwn hOb hN9 hO9 hL9 hR9 hT9 ht6 hTo hTn hT hlT hTD hS2 hK
            have HNZ := Lib.hid hst
            clear hst hN hpre
            have n1 : ((N : Int) != z1) = false := by rw [HNZ.out]; simp
            refine wpIn_wide.2 ?_
            go_wp2_with fail
            clear a0 a1 b0 b1 c0 c1 f0 f1
            refine wp_nopanic ?_
            refine region_W 5 (fun w' => StB w' ob 9 #[.string O] ∧ StB w' lb6 9 #[.string TX]) (by kernel_rfl) ?_
            have hC : StB W9.drew ob 9 #[.string O] ∧ StB W9.drew lb6 9 #[.string TX] := ⟨HOL.out.1.drew, HOL.out.2.drew⟩
            refine takeC (i := 0) (v := .string O) rfl (by kernel_rfl) (by kernel_rfl) (by kernel_rfl) (by kernel_rfl) (fun _ _ _ h => h) hC (.inl ⟨by rfl, fun w hw => by have c0 := hw.1.cell 0; have cl := hw.1.lt; go_simp⟩) ?_
            refine takeC (i := 1) (v := .pointer (some p)) rfl (by kernel_rfl) (by kernel_rfl) (by kernel_rfl) (by kernel_rfl) (fun _ _ _ h => h) hC (.inl ⟨by rfl, fun w hw => by go_simp⟩) ?_
            refine takeC (i := 5) (v := .string TX) rfl (by kernel_rfl) (by kernel_rfl) (by kernel_rfl) (by kernel_rfl) (fun _ _ _ h => h) hC (.inl ⟨by rfl, fun w hw => by have c0 := hw.2.cell 0; have cl := hw.2.lt; go_simp⟩) ?_
            refine onlyC (i := 2) (by kernel_rfl) rfl (by kernel_rfl) (fun K hK => ?_)
            go_simp
            refine callsIn_wide.2 ((H.out.take (X.drained m N) p S2 1048576 W9.drew (drained_ok HX.out.ok m N) (by show X.S.size ≤ 1000000; rw [HXS.out]; omega) (by omega) (by omega) (Lib.hid (H.out.below HWN.out (Below.refl _ W9).drew))).mono ?_)
            rintro y W10 ⟨O2, m2, c3, S3, rfl, hm2, HO2, HOS2, HW10, HT10, HS10⟩
            obtain ⟨G, hG⟩ : ∃ G, (X.drained m N).got 1048576 = G := ⟨_, rfl⟩
            rw [hG] at HO2
            have hGT : O ++ G = TX := by rw [← hG, HDG.out, HXS.out]
            have HR10 := Lib.hid (show StB W10 rb 4 #[.bool false] from StB.touch HRX.out.drew HT10.out (fun hs => (HS2.out _ hs).2.2.2.2.1 rfl))
            have HKD10 := Lib.hid (show W10.heap[D]? = some (.deferred (some [])) from (HT10.out.block D (Array.getElem?_eq_some_iff.1 HKD.out).1 (fun hs => (HS2.out _ hs).2.2.1 rfl)).trans HKD.out)
            have HBW10 := Lib.hid (show Below w.heap.size w W10 from HBW9.out.drew.trans (HT10.out.below HBW9.out.size (fun j hs => (HS2.out j hs).2.2.2.2.2)))
            have hC2 : (StB W10 ob 9 #[.string O] ∧ StB W10 lb6 9 #[.string TX]) ∧ SlIn W10 O2 m2 (u8s (bl G)) := ⟨⟨hC.1.touch HT10.out (fun hs => (HS2.out _ hs).1 rfl), hC.2.touch HT10.out (fun hs => (HS2.out _ hs).2.2.2.1 rfl)⟩, HO2.out.toIn⟩
            have hGs : O.size + G.size ≤ 960 := by have := congrArg ByteArray.size hGT; rw [ByteArray.size_append] at this; omega
            have hEQ : ((O ++ G).toList == TX.toList) = true := by rw [hGT]; simp
            have HRB9 := Lib.hid (show rb < W9.heap.size from HRX.out.lt)
            refine hK _ _ hC2.1 ?_
            clear hK K hm2 HOS2 hG hC
            refine anyC_mono (C' := fun w' => (StB w' ob 9 #[.string O] ∧ StB w' lb6 9 #[.string TX]) ∧ SlIn w' O2 m2 (u8s (bl G))) (fun _ h => h.1) _ _ _ _ ?_
            refine takeC (i := 3) (v := .string G) rfl (by kernel_rfl) (by kernel_rfl) (by kernel_rfl) (by kernel_rfl) (fun _ _ _ h => h) hC2 (.inl ⟨by rfl, fun w hw => by have hcv : (convert 43 9 (.slice O2 m2 c3)).run Tryd.prog w = .ok (.string G) w := (by rw [conv_text c3 Tryd.underlying43 Tryd.underlying5 Tryd.underlying9 hw.2, toBA_bl]); go_simp⟩) ?_
            refine takeC (i := 4) (v := .string (O ++ G)) rfl (by kernel_rfl) (by kernel_rfl) (by kernel_rfl) (by kernel_rfl) (fun _ _ _ h => h) hC2 (.inl ⟨by rfl, fun w hw => by have hsum : O.size + G.size ≤ 9223372036854775807 := (by omega); go_simp⟩) ?_
            refine takeC (i := 6) (v := .bool true) rfl (by kernel_rfl) (by kernel_rfl) (by kernel_rfl) (by kernel_rfl) (fun _ _ _ h => h) hC2 (.inl ⟨by rfl, fun w hw => by go_simp⟩) ?_
            refine takeC (i := 7) (v := .bool true) rfl (by kernel_rfl) (by kernel_rfl) (by kernel_rfl) (by kernel_rfl) (fun _ _ _ h => h) hC2 (.inl ⟨by rfl, fun w hw => by go_simp⟩) ?_
            refine onlyC (i := 8) (by kernel_rfl) rfl (by kernel_rfl) (fun K hK => ?_)
            go_simp
            refine callsIn_wide.2 ((above (HAW.out W10)).mono ?_)
            rintro y _ ⟨rfl, y9, rfl⟩
            have hC3 : (StB (onto W10 y9) ob 9 #[.string O] ∧ StB (onto W10 y9) lb6 9 #[.string TX]) ∧ SlIn (onto W10 y9) O2 m2 (u8s (bl G)) := ⟨⟨hC2.1.1.below (onto_below W10 y9), hC2.1.2.below (onto_below W10 y9)⟩, hC2.2.below (onto_below W10 y9)⟩
            refine hK _ _ hC3 ?_
            clear hK K
            refine takeC (i := 9) (v := .bool true) rfl (by kernel_rfl) (by kernel_rfl) (by kernel_rfl) (by kernel_rfl) (fun _ _ _ h => h) hC3 (.inl ⟨by rfl, fun w hw => by go_simp⟩) ?_
            have hR11 := HR10.out.below (onto_below W10 y9)
            have r0 : (onto W10 y9).cell? ⟨rb, 0, none⟩ = some (.bool false) := hR11.cell 0
            have r1 := hR11.free 0
            have r2 := hR11.lt
            have hT11 := (Touch.refl (onto W10 y9) (fun k => k = rb)).then_set (p := ⟨rb, 0, none⟩) (.inl rfl) (.bool true)
            have hC4 : (StB ((onto W10 y9).setCell ⟨rb, 0, none⟩ (.bool true)) ob 9 #[.string O] ∧ StB ((onto W10 y9).setCell ⟨rb, 0, none⟩ (.bool true)) lb6 9 #[.string TX]) ∧ SlIn ((onto W10 y9).setCell ⟨rb, 0, none⟩ (.bool true)) O2 m2 (u8s (bl G)) :=
              ⟨⟨hC3.1.1.touch hT11 (by have := HSM.out; have := HN1.out; omega), hC3.1.2.touch hT11 (by have := HSM.out; omega)⟩, ((HO2.out.below (onto_below W10 y9)).touch hT11 (fun j hj hje => by have h1 := (HO2.out.blk j hj).1; have h2 : W9.heap.size ≤ j := h1; have := HRB9.out; omega)).toIn⟩
            refine onlyC (i := 10) (by kernel_rfl) rfl (by kernel_rfl) (fun K hK => ?_)
            go_simp
            refine hK _ _ hC4 ?_
            clear hK K
            refine doneC (by kernel_rfl) ?_
            clear hC2 hC3 hC4 hEQ hT11 r0 r1 r2 hR11
            go_simp
            go_wp2_with fail
            obtain ⟨hK', y0, hB⟩ := end_box (w := w) y9 HR10 HKD10 HDRB HDW HRBW HBW10
            refine ⟨by simp, .inl ⟨_, _, rfl, run_takeDeferred hK', ?_⟩⟩
            exact ⟨.bool true, by simp [results, Tryd.results5, go_sem, y0], rfl, hB⟩
    · have r0 : U2.cell? ⟨rb, 0, none⟩ = some (.bool false) := HR2.out.cell 0
      have r1 := HR2.out.free 0
      have r2 := HR2.out.lt
      cases u
      · cases v
        · clear hu hv hgo hfr
          go_wp2_with (first
            | (go_at_call 11; with_reducible refine (above (ref_any d q e d0 d1 q0 q1 _)).mono ?_; rintro x _ ⟨rfl, y1, rfl⟩)
            | (go_at_call 10; with_reducible refine (above (refRight_is d q e _ HR _)).mono ?_; rintro x _ ⟨rfl, y2, rfl⟩)
            | (go_at_call 8; with_reducible refine (above (HAW.out _)).mono ?_; rintro x _ ⟨rfl, y4, rfl⟩))
          obtain ⟨y0, hB⟩ := end_norange (w := w) ((y1.up y2).up y4) HR2 HRBW HB2
          exact ⟨.bool true, by simp [results, Tryd.results5, go_sem, y0], rfl, hB⟩
        · have hlt' : (F : Int) < (n : Int) := by
            have h1 : ¬ ¬ F < n := fun h => hgo ⟨rfl, rfl, h⟩
            omega
          clear hu hv hgo
          go_wp2_with (first
            | (go_at_call 11; with_reducible refine (above (ref_any d q e d0 d1 q0 q1 _)).mono ?_; rintro x _ ⟨rfl, y1, rfl⟩)
            | (go_at_call 10; with_reducible refine (above (refRight_is d q e _ HR _)).mono ?_; rintro x _ ⟨rfl, y2, rfl⟩)
            | (go_at_call 24; with_reducible refine (above (hfr _)).mono ?_; rintro x _ ⟨rfl, y3, rfl⟩)
            | (go_at_call 8; with_reducible refine (above (HAW.out _)).mono ?_; rintro x _ ⟨rfl, y4, rfl⟩))
          obtain ⟨y0, hB⟩ := end_norange (w := w) (((y1.up y2).up y3).up y4) HR2 HRBW HB2
          exact ⟨.bool true, by simp [results, Tryd.results5, go_sem, y0], rfl, hB⟩
      · clear hu hv hgo hfr
        go_wp2_with (go_at_call 8; with_reducible refine (above (HAW.out _)).mono ?_; rintro x _ ⟨rfl, y4, rfl⟩)
        obtain ⟨y0, hB⟩ := end_norange (w := w) y4 HR2 HRBW HB2
        exact ⟨.bool true, by simp [results, Tryd.results5, go_sem, y0], rfl, hB⟩
end Go.Proofs.YtaoncnlhilpgfaaDoor

/- Layer 6: the document's line in memory. -/
import Derived.Test.YtigoonokiihdgaaDoorRxh
import Derived.Deep.DeepCutAuto
import Derived.Deep.CutRange
import Derived.Deep.CutBlock
namespace Go.Proofs.YtigoonokiihdgaaDoor
open Go.ChangeShapes Go.WideShapes Go.ChangeAt Go.RowKit
set_option linter.unusedVariables false
set_option linter.unusedSimpArgs false

/-- What a line leaves. -/
def LineOut (base g : Nat) (r : Rd) (T : List (List ByteArray × Nat)) (X : Lin) (w : World) (x : Ending) (w' : World) : Prop :=
  ∃ ok, x = .returned (.bool ok) ∧ Hid (Below base w w') ∧ Hid (X.k = 0 → RdB w' base g { r with i := X.i } [] (T ++ [(X.rc, X.e)])) ∧ Hid (X.k ≠ 0 → ∃ i' rc', RdB w' base g { r with i := i', k := X.k, at_ := X.at_ } rc' T)
def cellN (w : World) (g : Nat) : Nat := match w.cell? ⟨g, 8, none⟩ with
  | some (.int _ n) => n.toNat
  | _ => 0
theorem fGo_bare {d q lf : Int} {s : ByteArray} {i : Nat} (h : isB s i q = false) : bGo d q lf [] i ((bl s).drop i) = fGo d q lf i ((bl s).drop i) := by
  match hl : (bl s).drop i with
  | [] => rfl
  | b :: r =>
    rw [isB_drop hl] at h
    unfold fGo; dsimp only
    rw [if_neg (by simpa using h)]
theorem fGo_quoted {d q lf : Int} {s : ByteArray} {i : Nat} (h : isB s i q = true) : i < s.size ∧ behind d (qGo q lf [] (i + 1) ((bl s).drop (i + 1))) = fGo d q lf i ((bl s).drop i) := by
  match hl : (bl s).drop i with
  | [] =>
    have : s.size ≤ i := by
      have := congrArg List.length hl
      simp [bl_length] at this; omega
    rw [isB_end this] at h; cases h
  | b :: r =>
    rw [isB_drop hl] at h
    obtain ⟨_, h2, h3⟩ := get_drop hl
    refine ⟨h3, ?_⟩
    unfold fGo; dsimp only
    rw [if_pos (by simpa using h), h2]
theorem cell_i {w : World} {base g : Nat} {r : Rd} {rc : List ByteArray} {T : List (List ByteArray × Nat)} (h : RdB w base g r rc T) : cellN w g = r.i := by
  have := h.cells.2.2.2.2.2.2.2.1
  unfold cellN; rw [this]; simp

set_option maxRecDepth 100000 in
set_option maxHeartbeats 3200000 in
theorem line_any6 (base g : Nat) (r : Rd) (T : List (List ByteArray × Nat)) (hi : r.i ≤ r.s.size) (hs : r.s.size ≤ 980) (h0 : Hid (r.k = 0)) (hun : r.un = 0 ∨ r.un = 1) (hT : T.length ≤ 980) (hwd : wdOf T ≤ 1000) (hbg : 0 ≤ r.bg ∧ r.bg ≤ 980) (hlr : Hid (r.bg ≠ r.lr)) (w : World) (h : Hid (RdB w base g r [] T))
    (n0 : Nat) (hn0 : r.s.size - r.i < n0) (X : Lin) (hX : Hid (lnGo r.d r.q r.e n0 (mkOf { r with bg := r.bg + 1 } [] T) r.i ((bl r.s).drop r.i) = X)) :
    Calls Tryd.prog 52 #[.pointer (some ⟨g, 0, none⟩)] w (LineOut base g { r with bg := r.bg + 1 } T X w) := by
  obtain ⟨i0, hinfo, hz0, hz1, hz2⟩ := info_parts infoStr
  have Hi := Lib.hid hinfo
  have Hz0 := Lib.hid hz0
  have Hz1 := Lib.hid hz1
  have Hz2 := Lib.hid hz2
  have hd9 : (r.bg == r.lr) = false := by rw [beq_eq_false_iff_ne]; exact hlr.out
  obtain ⟨hg, k0, k1, k4, k5, k6, k7, k8, k9, k13, ⟨B0, d0, k10⟩, C0, c0, hC0, k11, hfst⟩ := h.out.cells
  have f9 := h.out.free 9
  have f8 := h.out.free 8
  clear hinfo hz0 hz1 hz2 hfst
  go_enter Tryd.func52, Tryd.ntmps52
  go_wp2_with fail
  refine wp_region_onto (by kernel_rfl) (by kernel_rfl) ?_
  repeat (go_big_quiet_step (fail))
  refine wpQuiet_nil ?_
  intro _ hw'
  obtain ⟨y0, hw''⟩ := hw'
  subst hw''
  have H1 := Lib.hid (h.out.below (onto_below w y0))
  have BW1 := Lib.hid (onto_below w y0)
  have hg1 := H1.out.cells.1
  have n9 := H1.out.cells.2.2.2.2.2.2.2.2.1
  have f9' := H1.out.free 9
  clear k0 k1 k4 k5 k6 k7 k8 k9 k13 k10 k11 f9 f8 hg
  go_wp2_with fail
  obtain ⟨r1, hr1⟩ : ∃ r1 : Rd, r1 = { r with bg := r.bg + 1 } := ⟨_, rfl⟩
  rw [← hr1]
  have HEQ := Lib.hid hr1
  have HX1 := Lib.hid (show lnGo r1.d r1.q r1.e n0 (mkOf r1 [] T) r1.i ((bl r1.s).drop r1.i) = X by rw [hr1]; exact hX.out)
  have hi1 : r1.i ≤ r1.s.size := by rw [hr1]; exact hi
  have hn1 : r1.s.size - r1.i < n0 := by rw [hr1]; exact hn0
  have hs1 : r1.s.size ≤ 980 := by rw [hr1]; exact hs
  have hun1 : r1.un = 0 ∨ r1.un = 1 := by rw [hr1]; exact hun
  have h01 : Hid (r1.k = 0) := by rw [hr1]; exact h0
  have hset := H1.out.set9 (r.bg + 1)
  rw [← hr1] at hset
  obtain ⟨W1, hW1⟩ : ∃ W1, W1 = (onto w y0).setCell ⟨g, 9, none⟩ (.int .i64 (r.bg + 1)) := ⟨_, rfl⟩
  rw [← hW1] at hset
  rw [← hW1]
  have HR1 := Lib.hid hset.1
  have hbase := HR1.out.base_le
  have HB1 := Lib.hid (show Below base w W1 from ((onto_below w y0).mono h.out.base_le).trans hset.2)
  clear hset hW1 H1 BW1 hg1 n9 f9' hr1 hX hi hn0 hs hun h0 hlr hbg hd9
  go_loopw [3] (fun f wr => ∃ (i n : Nat) (rc : List ByteArray), i ≤ r1.s.size ∧ r1.s.size - i < n ∧ rc.length ≤ i ∧ Hid (lnGo r1.d r1.q r1.e n (mkOf r1 rc T) i ((bl r1.s).drop i) = X) ∧ Hid (RdB wr base g { r1 with i := i } rc T) ∧ Hid (Below base w wr)) (fun f wr => r1.s.size - cellN wr g)
  case atStart => exact ⟨r1.i, n0, [], hi1, hn1, Nat.zero_le _, HX1, HR1, HB1⟩
  case round =>
    obtain ⟨i, n, rc, hi, hn, hrc, HX, HR, HB⟩ := hrel
    obtain ⟨n', rfl⟩ : ∃ n', n = n' + 1 := ⟨n - 1, by omega⟩
    obtain ⟨F, hF⟩ : ∃ F, fGo r1.d r1.q r1.lf i ((bl r1.s).drop i) = F := ⟨_, rfl⟩
    obtain ⟨vq, hvq⟩ : ∃ v, isB r1.s i r1.q = v := ⟨_, rfl⟩
    have HF := Lib.hid hF
    have HVQ := Lib.hid hvq
    clear hF hvq
    have hg := HR.out.cells.1
    have kq := HR.out.cells.2.2.1
    dsimp only at kq
    go_wp2_with fail
    refine (above (is_rd base g { r1 with i := i } rc T wr HR r1.q vq HVQ (by show r1.s.size ≤ 1000; omega))).mono ?_
    rintro x _ ⟨rfl, y1, rfl⟩
    have HCW := Lib.hid (show cellN wr g = i from cell_i HR.out)
    have HR1 := Lib.hid (HR.out.below (onto_below wr y1))
    have HB1 := Lib.hid (HB.out.trans ((onto_below wr y1).mono HR.out.base_le))
    obtain ⟨wq, hwq⟩ : ∃ wq, wq = onto wr y1 := ⟨_, rfl⟩
    rw [← hwq] at HR1 HB1
    rw [← hwq]
    clear hwq hg kq HR HB
    have hg := HR1.out.cells.1
    have k8 := HR1.out.cells.2.2.2.2.2.2.2.1
    have f8 := HR1.out.free 8
    dsimp only at k8
    go_upto_if 35 with fail
    go_cut [3, 4] from 29 to 133 (fun s3 s4 wx => ∃ t ok i', s3 = .string t ∧ s4 = .bool ok ∧ Hid (FldRd base g { r1 with i := i } rc T F wq t ok i' wx))
    case first =>
      cases vq
      · go_wp2_with fail
        refine (bare_rd base g { r1 with i := i } rc T wq HR1 hi hs1 h01 F (Lib.hid ((fGo_bare HVQ.out).trans HF.out))).mono ?_
        rintro x w2 ⟨t, ok, i', rfl, ho⟩
        go_wp2_with fail
        go_meet
        exact ⟨t, ok, i', rfl, rfl, ho⟩
      · have hq := fGo_quoted (d := r1.d) (lf := r1.lf) HVQ.out
        have hi2 : i + 1 ≤ r1.s.size := hq.1
        have HF2 := Lib.hid (hq.2.trans HF.out)
        have hset := HR1.out.set8 (i + 1)
        have hcast : ((i + 1 : Nat) : Int) = (i : Int) + 1 := by omega
        rw [hcast] at hset
        have HS := Lib.hid hset
        clear hset hcast hq
        go_wp2_with fail
        refine (quoted_rd base g { r1 with i := i + 1 } rc T _ (Lib.hid HS.out.1) hi2 hs1 h01 F HF2).mono ?_
        rintro x w2 ⟨t, ok, i', rfl, ho⟩
        have HO := Lib.hid (show FldRd base g { r1 with i := i } rc T F wq t ok i' w2 from ⟨HS.out.2.trans ho.out.1, ho.out.2⟩)
        clear ho
        go_wp2_with fail
        go_meet
        exact ⟨t, ok, i', rfl, rfl, HO⟩
    case rest =>
      obtain ⟨t, ok, i', rfl, rfl, HFR⟩ := hcut
      obtain ⟨V, hV⟩ : ∃ V, V = wc := ⟨_, rfl⟩
      subst hV
      clear hg k8 f8
      have HBV := Lib.hid (HB1.out.trans HFR.out.1)
      by_cases hk : F.k = 0
      · obtain ⟨hok, ht, hr⟩ := HFR.out.2.1 hk
        have HT := Lib.hid ht
        have HRV := Lib.hid hr
        have HK := Lib.hid hk
        subst hok
        clear hk hr ht HFR
        obtain ⟨h1, h2, h3, h4⟩ := fGo_at _ _ _ _ _ hi HF.out HK.out
        have HLE := Lib.hid h1
        have HLS := Lib.hid h2
        have HFL := Lib.hid h3
        have HST := Lib.hid h4
        clear h1 h2 h3 h4
        obtain ⟨vd, hvd⟩ : ∃ v, isB r1.s F.i r1.d = v := ⟨_, rfl⟩
        have HVD := Lib.hid hvd
        clear hvd
        obtain ⟨B, d, C, c, E, ce, VV, g1, g2, g3, g4, g5, g6, g7, g8⟩ := HRV.out
        have G1 := Lib.hid g1
        have G2 := Lib.hid g2
        have G3 := Lib.hid g3
        have G4 := Lib.hid g4
        have G5 := Lib.hid g5
        have G6 := Lib.hid g6
        have G7 := Lib.hid g7
        have G8 := Lib.hid g8
        have hg := HRV.out.cells.1
        have k10 : V.cell? ⟨g, 10, none⟩ = some (.slice B rc.length d) := StB.cell g3 10
        have B0 := Lib.hid (up_alloc (Below.refl _ V) (.cells #[.string t] 9))
        have GB := Lib.hid (g4.unlike_st g3 (by decide))
        clear g1 g2 g3 g4 g5 g6 g7 g8
        go_wp2_with (at_builtin; refine wpList_append_sl _ rfl (.tmp 59) (.tmp 61) 24 rfl 9 i0 (.string ⟨#[]⟩) 16 Tryd.underlying24 Hi.out Hz0.out Hz1.out Hz2.out rfl base B rc.length d (strs rc) rfl (G4.out.below B0.out) (some ⟨V.heap.size, 0, none⟩) 1 1 [.string t] rfl (slIn_new1 V 9 _) (by intro u hu; simp at hu; subst hu; rfl) (by unfold maxLen; omega) (by omega) (Nat.le_trans G2.out B0.out.size) ?_; intro B' d' w3 hown hgrow hat; have st := (StB.below G3.out B0.out).grown hgrow (fun e => GB.out g e.symm rfl); have m0 : w3.cell? ⟨g, 0, none⟩ = some (.int .i64 r1.d) := st.cell 0; have m10 : w3.cell? ⟨g, 10, none⟩ = some (.slice B rc.length d) := st.cell 10; have n10 := st.free 10; have hg3 := st.lt; have HO := Lib.hid hown; have HG := Lib.hid hgrow; have HA := Lib.hid hat; clear st hown hgrow hat)
        have am2 := app_end (r := { r1 with i := F.i }) (t := t) G1.out G2.out G3.out G4.out G5.out G6.out G7.out G8.out (.string t) HO.out HG.out (by
          have := HA.out
          simp at this
          rcases this with h | h <;> simp [h])
        obtain ⟨U, hU⟩ : ∃ U, U = w3.setCell ⟨g, 10, none⟩ (.slice B' (rc.length + 1) d') := ⟨_, rfl⟩
        rw [← hU] at am2
        rw [← hU]
        have HRU := Lib.hid am2.1
        have HBU := Lib.hid (HBV.out.trans am2.2)
        clear am2 hU HO HG HA m0 m10 n10 hg3 B0 GB G1 G2 G3 G4 G5 G6 G7 G8 k10 HRV HBV hg
        obtain ⟨rc2, hrc2⟩ : ∃ rc2, rc2 = rc ++ [t] := ⟨_, rfl⟩
        rw [← hrc2] at HRU
        have hlen : rc2.length = rc.length + 1 := by rw [hrc2]; simp
        have HL := Lib.hid hlen
        have HC2 := Lib.hid hrc2
        have hr2 : rc2.length ≤ 981 := by omega
        clear hlen hrc2
        refine (above (is_rd base g { r1 with i := F.i } rc2 T U HRU r1.d vd HVD (by show r1.s.size ≤ 1000; omega))).mono ?_
        rintro x _ ⟨rfl, y2, rfl⟩
        have HR3 := Lib.hid (HRU.out.below (onto_below U y2))
        have HB3 := Lib.hid (HBU.out.trans ((onto_below U y2).mono HRU.out.base_le))
        obtain ⟨w4, hw4⟩ : ∃ w4, w4 = onto U y2 := ⟨_, rfl⟩
        rw [← hw4] at HR3 HB3
        rw [← hw4]
        clear hw4 HRU HBU
        have hg := HR3.out.cells.1
        have k4 := HR3.out.cells.2.2.2.1
        have k6 := HR3.out.cells.2.2.2.2.2.1
        have k7 := HR3.out.cells.2.2.2.2.2.2.1
        have k8 := HR3.out.cells.2.2.2.2.2.2.2.1
        obtain ⟨B2, d2, k10⟩ := HR3.out.cells.2.2.2.2.2.2.2.2.2.2.1
        obtain ⟨C2, c2, hc2, k11, hfst⟩ := HR3.out.cells.2.2.2.2.2.2.2.2.2.2.2
        dsimp only at k4 k6 k7 k8
        have f8 := HR3.out.free 8
        cases vd
        · -- the record's last field
          clear k4 k6 k10 hc2 k11 hfst
          have hx := (lnGo_stop (e := r1.e) (n := n') (m := mkOf r1 rc T) HF.out HK.out (fun b rr hl e => by
            have h := HVD.out
            rw [isB_drop (HFL.out.symm.trans hl), e] at h
            simp at h)).symm.trans HX.out
          have hm : ({ mkOf r1 rc T with rc := (mkOf r1 rc T).rc ++ [toBA F.f] } : Mk) = mkOf r1 rc2 T := by
            rw [HC2.out, HT.out]; rfl
          rw [hm] at hx
          have HX2 := Lib.hid hx
          obtain ⟨vw, hvw⟩ : ∃ v, wOk (mkOf r1 rc2 T) = v := ⟨_, rfl⟩
          have HW := Lib.hid hvw
          have HWV := Lib.hid (show vw = !decide (r1.un = 1 ∧ 0 < T.length ∧ rc2.length ≠ wdOf T) by rw [← hvw]; exact wOk_of r1 rc2 T)
          have hls := HLS.out
          clear hx hm hvw
          by_cases he : F.i = r1.s.size
          · have hd1 : ((F.i : Int) == (r1.s.size : Int)) = true := by rw [beq_iff_eq]; omega
            have hd2 : (F.i == r1.s.size) = true := by rw [beq_iff_eq]; exact he
            have hl : F.l = [] := by rw [HFL.out]; exact bl_end r1.s F.i (by omega)
            have hx := HX2.out
            rw [hl] at hx
            have HX3 := Lib.hid hx
            clear hx hl he
            go_wp2_with fail
            refine wp_region_onto (by kernel_rfl) (by kernel_rfl) ?_
            repeat (go_big_quiet_step (fail))
            refine wpQuiet_nil ?_
            intro _ hw'
            obtain ⟨y3, hw''⟩ := hw'
            subst hw''
            have HR5 := Lib.hid (HR3.out.below (onto_below w4 y3))
            have HB5 := Lib.hid (HB3.out.trans ((onto_below w4 y3).mono HR3.out.base_le))
            obtain ⟨w5, hw5⟩ : ∃ w5, w5 = onto w4 y3 := ⟨_, rfl⟩
            rw [← hw5] at HR5 HB5
            rw [← hw5]
            clear hw5 HR3 HB3 hg k7 k8 f8
            have hg := HR5.out.cells.1
            have k8 := HR5.out.cells.2.2.2.2.2.2.2.1
            dsimp only at k8
            go_wp2_with fail
            refine (width_rd base g { r1 with i := F.i } rc2 T w5 HR5 F.i hun1 (by omega) (by omega) (by omega) vw HWV h01).mono ?_
            rintro x w6 ⟨rfl, o1, o2⟩
            have HB6 := Lib.hid (HB5.out.trans o2.out)
            have HR6 := Lib.hid o1.out
            clear o1 o2 hg k8
            cases vw
            · have HXF := Lib.hid ((lnEnd_nil_no HW.out).symm.trans HX3.out)
              have HR7 := Lib.hid (show RdB w6 base g { r1 with i := F.i, k := 10, at_ := F.i } rc2 T from HR6.out)
              go_wp2_with fail
              go_ret
              first | rw [← HEQ.out] | skip
              refine ⟨true, rfl, HB6, ?_, ?_⟩
              · rw [← HXF.out]; exact Lib.hid (fun e => absurd e (by simp))
              · rw [← HXF.out]; exact Lib.hid (fun _ => ⟨F.i, rc2, HR7.out⟩)
            · have HXF := Lib.hid ((lnEnd_nil HW.out).symm.trans HX3.out)
              have HR7 := Lib.hid (show RdB w6 base g { r1 with i := F.i } rc2 T from HR6.out)
              have hg := HR7.out.cells.1
              have k8 := HR7.out.cells.2.2.2.2.2.2.2.1
              dsimp only at k8
              go_wp2_with fail
              refine (whole_any6 base g { r1 with i := F.i } rc2 T F.i (by omega) w6 HR7.out).mono ?_
              rintro x w7 ⟨rfl, o1, o2⟩
              have HB7 := Lib.hid (HB6.out.trans o2)
              have HR8 := Lib.hid o1
              clear o1 o2
              go_wp2_with fail
              go_ret
              first | rw [← HEQ.out] | skip
              refine ⟨true, rfl, HB7, ?_, ?_⟩
              · rw [← HXF.out]; exact Lib.hid (fun _ => HR8.out)
              · rw [← HXF.out]; exact Lib.hid (fun e => absurd rfl e)
          · have hd1 : ((F.i : Int) == (r1.s.size : Int)) = false := by rw [beq_eq_false_iff_ne]; omega
            have hd2 : (F.i == r1.s.size) = false := by rw [beq_eq_false_iff_ne]; exact he
            obtain ⟨b, rr, hbr⟩ : ∃ b rr, (bl r1.s).drop F.i = b :: rr := ⟨_, _, bl_drop r1.s F.i (by omega)⟩
            have hx := HX2.out
            rw [HFL.out, hbr] at hx
            have HX3 := Lib.hid hx
            have hgd := get_drop hbr
            have HGD := Lib.hid hgd.2.1
            have hlt := hgd.2.2
            have HV10 := Lib.hid (isB_drop hbr 10)
            clear hx hgd hbr he
            go_wp2_with fail
            refine wp_region_onto (by kernel_rfl) (by kernel_rfl) ?_
            repeat (go_big_quiet_step (fail))
            refine wpQuiet_nil ?_
            intro _ hw'
            obtain ⟨y3, hw''⟩ := hw'
            subst hw''
            have HR5 := Lib.hid (HR3.out.below (onto_below w4 y3))
            have HB5 := Lib.hid (HB3.out.trans ((onto_below w4 y3).mono HR3.out.base_le))
            obtain ⟨w5, hw5⟩ : ∃ w5, w5 = onto w4 y3 := ⟨_, rfl⟩
            rw [← hw5] at HR5 HB5
            rw [← hw5]
            clear hw5 HR3 HB3 hg k7 k8 f8
            have hg := HR5.out.cells.1
            have k8 := HR5.out.cells.2.2.2.2.2.2.2.1
            dsimp only at k8
            obtain ⟨nf, hnf⟩ : ∃ nf, fdN r1.e (b == 10) = nf := ⟨_, rfl⟩
            have HNF := Lib.hid hnf
            have hnc := fdN_cases r1.e (b == 10)
            rw [hnf] at hnc
            clear hnf
            go_wp2_with fail
            refine (feed_rd base g { r1 with i := F.i } rc2 T w5 HR5 (b == 10) HV10 (by show r1.s.size ≤ 1000; omega) h01 nf HNF).mono ?_
            rintro x w6 ⟨rfl, o1, o2⟩
            have HB6 := Lib.hid (HB5.out.trans o2.out)
            have HR6 := Lib.hid o1.out
            clear o1 o2 hg k8
            rcases hnc with rfl | rfl | rfl
            · have HXF := Lib.hid ((lnEnd_0 HNF.out).symm.trans HX3.out)
              have HR7 := Lib.hid (show RdB w6 base g { r1 with i := F.i, k := 6, at_ := F.i } rc2 T from HR6.out)
              go_wp2_with fail
              go_ret
              first | rw [← HEQ.out] | skip
              refine ⟨false, rfl, HB6, ?_, ?_⟩
              · rw [← HXF.out]; exact Lib.hid (fun e => absurd e (by simp))
              · rw [← HXF.out]; exact Lib.hid (fun _ => ⟨F.i, rc2, HR7.out⟩)
            · have HR7 := Lib.hid (show RdB w6 base g { r1 with i := F.i } rc2 T from HR6.out)
              have hg := HR7.out.cells.1
              have k8 := HR7.out.cells.2.2.2.2.2.2.2.1
              dsimp only at k8
              go_wp2_with fail
              refine (width_rd base g { r1 with i := F.i } rc2 T w6 HR7 F.i hun1 (by omega) (by omega) (by omega) vw HWV h01).mono ?_
              rintro x w7 ⟨rfl, o1, o2⟩
              have HB7 := Lib.hid (HB6.out.trans o2.out)
              have HR8 := Lib.hid o1.out
              clear o1 o2 hg k8
              cases vw
              · have HXF := Lib.hid ((lnEnd_w (by rw [HNF.out]; decide) HW.out).symm.trans HX3.out)
                have HR9 := Lib.hid (show RdB w7 base g { r1 with i := F.i, k := 10, at_ := F.i } rc2 T from HR8.out)
                go_wp2_with fail
                go_ret
                first | rw [← HEQ.out] | skip
                refine ⟨false, rfl, HB7, ?_, ?_⟩
                · rw [← HXF.out]; exact Lib.hid (fun e => absurd e (by simp))
                · rw [← HXF.out]; exact Lib.hid (fun _ => ⟨F.i, rc2, HR9.out⟩)
              · have HXF := Lib.hid ((lnEnd_1 HNF.out HW.out).symm.trans HX3.out)
                have HR9 := Lib.hid (show RdB w7 base g { r1 with i := F.i } rc2 T from HR8.out)
                have hg := HR9.out.cells.1
                have k8 := HR9.out.cells.2.2.2.2.2.2.2.1
                dsimp only at k8
                go_wp2_with fail
                refine (whole_any6 base g { r1 with i := F.i } rc2 T F.i (by omega) w7 HR9.out).mono ?_
                rintro x w8 ⟨rfl, o1, o2⟩
                clear hg k8
                have HB9 := Lib.hid (HB7.out.trans o2)
                have hg := o1.cells.1
                have k8 := o1.cells.2.2.2.2.2.2.2.1
                have f8 := o1.free 8
                dsimp only at k8
                have hset := o1.set8 (F.i + 1)
                have hcast2 : ((F.i + 1 : Nat) : Int) = (F.i : Int) + 1 := by omega
                rw [hcast2] at hset
                have HS := Lib.hid hset
                clear hset hcast2 o1 o2
                go_wp2_with fail
                go_ret
                first | rw [← HEQ.out] | skip
                refine ⟨true, rfl, Lib.hid (HB9.out.trans HS.out.2), ?_, ?_⟩
                · rw [← HXF.out]; exact Lib.hid (fun _ => HS.out.1)
                · rw [← HXF.out]; exact Lib.hid (fun e => absurd rfl e)
            · have HR7 := Lib.hid (show RdB w6 base g { r1 with i := F.i } rc2 T from HR6.out)
              have hg := HR7.out.cells.1
              have k8 := HR7.out.cells.2.2.2.2.2.2.2.1
              dsimp only at k8
              go_wp2_with fail
              refine (width_rd base g { r1 with i := F.i } rc2 T w6 HR7 F.i hun1 (by omega) (by omega) (by omega) vw HWV h01).mono ?_
              rintro x w7 ⟨rfl, o1, o2⟩
              have HB7 := Lib.hid (HB6.out.trans o2.out)
              have HR8 := Lib.hid o1.out
              clear o1 o2 hg k8
              cases vw
              · have HXF := Lib.hid ((lnEnd_w (by rw [HNF.out]; decide) HW.out).symm.trans HX3.out)
                have HR9 := Lib.hid (show RdB w7 base g { r1 with i := F.i, k := 10, at_ := F.i } rc2 T from HR8.out)
                go_wp2_with fail
                go_ret
                first | rw [← HEQ.out] | skip
                refine ⟨false, rfl, HB7, ?_, ?_⟩
                · rw [← HXF.out]; exact Lib.hid (fun e => absurd e (by simp))
                · rw [← HXF.out]; exact Lib.hid (fun _ => ⟨F.i, rc2, HR9.out⟩)
              · have hx := (lnEnd_2 HNF.out HW.out).symm.trans HX3.out
                have HX4 := Lib.hid hx
                have HR9 := Lib.hid (show RdB w7 base g { r1 with i := F.i } rc2 T from HR8.out)
                have hg := HR9.out.cells.1
                have k8 := HR9.out.cells.2.2.2.2.2.2.2.1
                dsimp only at k8
                clear hx
                obtain ⟨vs, hvs⟩ : ∃ v, isB r1.s (F.i + 1) 10 = v := ⟨_, rfl⟩
                have HVS := Lib.hid hvs
                clear hvs
                go_wp2_with fail
                refine (second_rd base g { r1 with i := F.i } rc2 T w7 HR9 vs HVS (by show r1.s.size ≤ 1000; omega) (by show F.i ≤ 1000; omega) h01).mono ?_
                rintro x w8 ⟨rfl, o1, o2⟩
                have HB8 := Lib.hid (HB7.out.trans o2.out)
                have HR10 := Lib.hid o1.out
                clear o1 o2 hg k8
                cases vs
                · have HXF := Lib.hid ((lnCr_no HGD.out HVS.out).symm.trans HX4.out)
                  have HR11 := Lib.hid (show RdB w8 base g { r1 with i := F.i, k := 6, at_ := F.i + 1 } rc2 T from HR10.out)
                  go_wp2_with fail
                  go_ret
                  first | rw [← HEQ.out] | skip
                  refine ⟨false, rfl, HB8, ?_, ?_⟩
                  · rw [← HXF.out]; exact Lib.hid (fun e => absurd e (by simp))
                  · rw [← HXF.out]; exact Lib.hid (fun _ => ⟨F.i, rc2, HR11.out⟩)
                · have HXF := Lib.hid ((lnCr_yes HGD.out HVS.out).symm.trans HX4.out)
                  have HR11 := Lib.hid (show RdB w8 base g { r1 with i := F.i } rc2 T from HR10.out)
                  have hg := HR11.out.cells.1
                  have k8 := HR11.out.cells.2.2.2.2.2.2.2.1
                  dsimp only at k8
                  go_wp2_with fail
                  have hw := whole_any6 base g { r1 with i := F.i } rc2 T (F.i + 1) (by omega) w8 HR11.out
                  rw [show ((F.i + 1 : Nat) : Int) = (F.i : Int) + 1 by omega] at hw
                  try rw [show (F.i : Int) + 2 - 1 = (F.i : Int) + 1 by omega]
                  refine hw.mono ?_
                  clear hw
                  rintro x w9 ⟨rfl, o1, o2⟩
                  clear hg k8
                  have HB9 := Lib.hid (HB8.out.trans o2)
                  have hg := o1.cells.1
                  have k8 := o1.cells.2.2.2.2.2.2.2.1
                  have f8 := o1.free 8
                  dsimp only at k8
                  have hset := o1.set8 (F.i + 2)
                  have hcast2 : ((F.i + 2 : Nat) : Int) = (F.i : Int) + 2 := by omega
                  rw [hcast2] at hset
                  have HS := Lib.hid hset
                  clear hset hcast2 o1 o2
                  go_wp2_with fail
                  go_ret
                  first | rw [← HEQ.out] | skip
                  refine ⟨true, rfl, Lib.hid (HB9.out.trans HS.out.2), ?_, ?_⟩
                  · rw [← HXF.out]; exact Lib.hid (fun _ => HS.out.1)
                  · rw [← HXF.out]; exact Lib.hid (fun e => absurd rfl e)
        · -- more fields follow
          obtain ⟨rr, hrr⟩ : ∃ rr, F.l = r1.d :: rr := by
            match hl : F.l with
            | [] =>
              have : r1.s.size ≤ F.i := by
                have := congrArg List.length (HFL.out.symm.trans hl)
                simp [bl_length] at this; omega
              have h := HVD.out; rw [isB_end this] at h; cases h
            | b :: rr =>
              have h := HVD.out
              rw [isB_drop (HFL.out.symm.trans hl)] at h
              have : b = r1.d := by simpa using h
              exact ⟨rr, by rw [this]⟩
          have HRR := Lib.hid hrr
          clear hrr
          obtain ⟨v8, hv8⟩ : ∃ v, ((rc2.length : Int) == r1.ls) = v := ⟨_, rfl⟩
          have HV8 := Lib.hid hv8
          go_wp2_with fail
          refine wp_region_onto (by kernel_rfl) (by kernel_rfl) ?_
          repeat (go_big_quiet_step (fail))
          refine wpQuiet_nil ?_
          intro _ hw'
          obtain ⟨y3, hw''⟩ := hw'
          subst hw''
          have HR5 := Lib.hid (HR3.out.below (onto_below w4 y3))
          have HB5 := Lib.hid (HB3.out.trans ((onto_below w4 y3).mono HR3.out.base_le))
          obtain ⟨w5, hw5⟩ : ∃ w5, w5 = onto w4 y3 := ⟨_, rfl⟩
          rw [← hw5] at HR5 HB5
          rw [← hw5]
          clear hw5 HR3 HB3 hg k4 k6 k7 k8 k10 hc2 k11 hfst f8 hv8
          have hg := HR5.out.cells.1
          have k6 := HR5.out.cells.2.2.2.2.2.1
          have k8 := HR5.out.cells.2.2.2.2.2.2.2.1
          obtain ⟨B3, d3, k10⟩ := HR5.out.cells.2.2.2.2.2.2.2.2.2.2.1
          obtain ⟨C3, c3, hc3, k11, hfst⟩ := HR5.out.cells.2.2.2.2.2.2.2.2.2.2.2
          dsimp only at k6 k8
          cases v8
          · have h8 : ¬ (((mkOf r1 rc T).rc.length : Int) + 1 = (mkOf r1 rc T).ls) := by
              have h1 := HV8.out
              rw [beq_eq_false_iff_ne, HL.out] at h1
              show ¬ ((rc.length : Int) + 1 = r1.ls)
              omega
            have H8 := Lib.hid h8
            clear h8
            obtain ⟨v10, hv10⟩ : ∃ v, v = decide (r1.un = 1 ∧ 0 < T.length ∧ rc2.length = wdOf T) := ⟨_, rfl⟩
            have HV10 := Lib.hid hv10
            clear hv10
            go_upto_region 15 with fail
            go_cut [120] from 29 to 133 (fun c wx => c = .bool v10 ∧ ∃ y, wx = onto w5 y)
            case first =>
              rcases hun1 with hu | hu
              · have hvt : v10 = false := by rw [HV10.out, hu]; simp
                rw [hu] at k6
                subst hvt
                clear hfst hu
                refine wp_region_onto (by kernel_rfl) (by kernel_rfl) ?_
                repeat (go_big_quiet_step (fail))
                refine wpQuiet_nil ?_
                intro _ hw'
                obtain ⟨y4, hw''⟩ := hw'
                subst hw''
                go_wp2_with fail
                go_meet
                exact ⟨rfl, y4, rfl⟩
              · rw [hu] at k6
                by_cases hp : 0 < T.length
                · have hd1 : decide (0 < T.length) = true := by simpa using hp
                  have hd1' : decide ((0 : Int) < (T.length : Int)) = true := by rw [decide_eq_true_eq]; omega
                  obtain ⟨A1, c1, a1, rfl, hc1⟩ := hfst hp
                  have z1 : ∀ z, (onto w5 z).cell? a1 = some (.slice A1 (wdOf T) c1) := fun z => (onto_below w5 z).cell (lt_of_cell hc1) |>.trans hc1
                  have z1' : ∀ z, (onto w5 z).cell? (a1.add 0) = some (.slice A1 (wdOf T) c1) := fun z => by rw [show a1.add 0 = a1 by simp [Addr.add]]; exact z1 z
                  clear hc1 hfst
                  by_cases hmf : rc2.length = wdOf T
                  · have hvt : v10 = true := by rw [HV10.out, hu]; simp [hmf, hp]
                    subst hvt
                    have hd2 : ((rc2.length : Int) == (wdOf T : Int)) = true := by simp [hmf]
                    have hd3 : (rc2.length == wdOf T) = true := by simp [hmf]
                    clear hmf hu
                    refine wp_region_onto (by kernel_rfl) (by kernel_rfl) ?_
                    repeat (go_big_quiet_step (fail))
                    refine wpQuiet_nil ?_
                    intro _ hw'
                    obtain ⟨y4, hw''⟩ := hw'
                    subst hw''
                    go_wp2_with fail
                    go_meet
                    exact ⟨rfl, y4, rfl⟩
                  · have hvt : v10 = false := by rw [HV10.out]; simp [hmf]
                    subst hvt
                    have hd2 : ((rc2.length : Int) == (wdOf T : Int)) = false := by rw [beq_eq_false_iff_ne]; omega
                    have hd3 : (rc2.length == wdOf T) = false := by rw [beq_eq_false_iff_ne]; exact hmf
                    clear hmf hu
                    refine wp_region_onto (by kernel_rfl) (by kernel_rfl) ?_
                    repeat (go_big_quiet_step (fail))
                    refine wpQuiet_nil ?_
                    intro _ hw'
                    obtain ⟨y4, hw''⟩ := hw'
                    subst hw''
                    go_wp2_with fail
                    go_meet
                    exact ⟨rfl, y4, rfl⟩
                · have hvt : v10 = false := by rw [HV10.out]; simp [hp]
                  subst hvt
                  have hd1 : decide (0 < T.length) = false := by simpa using hp
                  have hd1' : decide ((0 : Int) < (T.length : Int)) = false := by rw [decide_eq_false_iff_not]; omega
                  clear hfst hu hp
                  refine wp_region_onto (by kernel_rfl) (by kernel_rfl) ?_
                  repeat (go_big_quiet_step (fail))
                  refine wpQuiet_nil ?_
                  intro _ hw'
                  obtain ⟨y4, hw''⟩ := hw'
                  subst hw''
                  go_wp2_with fail
                  go_meet
                  exact ⟨rfl, y4, rfl⟩
            case rest =>
              obtain ⟨rfl, y4, rfl⟩ := hcut
              have HR6 := Lib.hid (HR5.out.below (onto_below w5 y4))
              have HB6 := Lib.hid (HB5.out.trans ((onto_below w5 y4).mono HR5.out.base_le))
              obtain ⟨w6, hw6⟩ : ∃ w6, w6 = onto w5 y4 := ⟨_, rfl⟩
              rw [← hw6] at HR6 HB6
              rw [← hw6]
              clear hw6 HR5 HB5 hg k6 k8 k10 hc3 k11 hfst
              have hg := HR6.out.cells.1
              have k8 := HR6.out.cells.2.2.2.2.2.2.2.1
              have f8 := HR6.out.free 8
              dsimp only at k8
              cases v10
              · have h10 : ¬ (mBound (mkOf r1 rc T) = true ∧ ((mkOf r1 rc T).rc.length : Int) + 1 = (mkOf r1 rc T).wd) := by
                  have h1 := HV10.out.symm
                  rw [decide_eq_false_iff_not] at h1
                  intro h2
                  apply h1
                  have h3 := h2.1
                  have h4 : (rc.length : Int) + 1 = (wdOf T : Int) := h2.2
                  have h5 := HL.out
                  simp [mBound, mkOf] at h3
                  exact ⟨h3.1, h3.2, by omega⟩
                have hx := (lnGo_go (e := r1.e) (n := n') (m := mkOf r1 rc T) HF.out HK.out HRR.out H8.out h10).symm.trans HX.out
                have hm : ({ mkOf r1 rc T with rc := (mkOf r1 rc T).rc ++ [toBA F.f] } : Mk) = mkOf r1 rc2 T := by
                  rw [HC2.out, HT.out]; rfl
                rw [hm] at hx
                have hgd := get_drop (HFL.out.symm.trans HRR.out)
                rw [← hgd.2.1] at hx
                have HX2 := Lib.hid hx
                have hlt := hgd.2.2
                have hle := HLE.out
                have hset := HR6.out.set8 (F.i + 1)
                have hcast : ((F.i + 1 : Nat) : Int) = (F.i : Int) + 1 := by omega
                rw [hcast] at hset
                have HS := Lib.hid hset
                have HCI := Lib.hid (cell_i hset.1)
                clear hset hcast hgd hm hx h10
                go_wp2_with fail
                go_roundw
                case rel => exact ⟨F.i + 1, n', rc2, by omega, by omega, by have := HL.out; omega, HX2, Lib.hid HS.out.1, Lib.hid (HB6.out.trans HS.out.2)⟩
                case measure =>
                  rw [HCI.out, HCW.out]
                  show r1.s.size - (F.i + 1) < r1.s.size - i
                  omega
              · have hx := (lnGo_10 (e := r1.e) (n := n') (m := mkOf r1 rc T) HF.out HK.out HRR.out H8.out (by
                  have h1 := HV10.out.symm
                  rw [decide_eq_true_eq] at h1
                  have h5 := HL.out
                  refine ⟨?_, ?_⟩
                  · simp [mBound, mkOf]; exact ⟨h1.1, h1.2.1⟩
                  · show (rc.length : Int) + 1 = (wdOf T : Int)
                    omega)).symm.trans HX.out
                have HXF := Lib.hid hx
                clear hx
                go_wp2_with fail
                refine (wrong_rd base g { r1 with i := F.i } rc2 T w6 HR6 10 F.i h01).mono ?_
                rintro x w7 ⟨rfl, o1, o2⟩
                have HB7 := Lib.hid (HB6.out.trans o2.out)
                clear o2
                go_wp2_with fail
                go_ret
                first | rw [← HEQ.out] | skip
                refine ⟨false, rfl, HB7, ?_, ?_⟩
                · rw [← HXF.out]; exact Lib.hid (fun e => absurd e (by simp))
                · rw [← HXF.out]; exact Lib.hid (fun _ => ⟨F.i, rc2, o1.out⟩)
          · have hx := (lnGo_8 (e := r1.e) (n := n') (m := mkOf r1 rc T) HF.out HK.out HRR.out (by
              have h1 := HV8.out
              rw [beq_iff_eq, HL.out] at h1
              show (rc.length : Int) + 1 = r1.ls
              omega)).symm.trans HX.out
            have HXF := Lib.hid hx
            clear hx hfst
            go_wp2_with fail
            refine (wrong_rd base g { r1 with i := F.i } rc2 T w5 HR5 8 F.i h01).mono ?_
            rintro x w7 ⟨rfl, o1, o2⟩
            have HB7 := Lib.hid (HB5.out.trans o2.out)
            clear o2
            go_wp2_with fail
            go_ret
            first | rw [← HEQ.out] | skip
            refine ⟨false, rfl, HB7, ?_, ?_⟩
            · rw [← HXF.out]; exact Lib.hid (fun e => absurd e (by simp))
            · rw [← HXF.out]; exact Lib.hid (fun _ => ⟨F.i, rc2, o1.out⟩)
      · obtain ⟨hok, hr⟩ := HFR.out.2.2 hk
        have HRV := Lib.hid hr
        have HXF := Lib.hid ((lnGo_bad (e := r1.e) (n := n') (m := mkOf r1 rc T) HF.out hk).symm.trans HX.out)
        have HK := Lib.hid hk
        subst hok
        clear hk hr HFR
        go_wp2_with fail
        go_ret
        first | rw [← HEQ.out] | skip
        refine ⟨false, rfl, HBV, ?_, ?_⟩
        · rw [← HXF.out]; exact Lib.hid (fun e => absurd e HK.out)
        · rw [← HXF.out]; exact Lib.hid (fun _ => ⟨i', rc, HRV.out⟩)
end Go.Proofs.YtigoonokiihdgaaDoor

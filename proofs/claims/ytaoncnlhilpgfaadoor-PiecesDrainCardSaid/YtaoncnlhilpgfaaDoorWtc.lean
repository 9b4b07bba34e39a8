/- Layer 11: the program's writer: Put, Take. -/
import Derived.Test.YtaoncnlhilpgfaaDoorWtb
namespace Go.Proofs.YtaoncnlhilpgfaaDoor
open Go.ChangeShapes Go.WideShapes Go.ChangeAt Go.RowKit
set_option linter.unusedVariables false
set_option linter.unusedSimpArgs false

theorem rest_put {x : Wr1} (T : ByteArray) (h : x.tk ≤ x.S.size) : bl (Wr1.rest { x with S := x.S ++ T, ct := x.ct + 1 }) = bl x.rest ++ bl T := by
  rw [bl_rest, bl_rest]
  show (bl (x.S ++ T)).drop x.tk = _
  rw [bl_append, List.drop_append_of_le_length (by rw [bl_length]; exact h)]
theorem rest_take (x : Wr1) (n : Int) : bl (x.take n).rest = (bl x.rest).drop (x.tkN n) := by
  rw [bl_rest, bl_rest, List.drop_drop]
  rfl
theorem got_rest (x : Wr1) (n : Int) : bl (x.got n) = (bl x.rest).take (x.tkN n) := by
  unfold Wr1.got
  rw [bl_rest, bl_mid, Nat.add_sub_cancel_left]

set_option maxRecDepth 100000 in
set_option maxHeartbeats 1600000 in
theorem put_pc (x : Wr1) (p : Addr) (S : Nat → Prop) (A : Option Addr) (n c : Nat) (r : List ByteArray) (w : World) (hx : x.Ok) (hS : x.S.size ≤ 1000000) (hct : x.ct ≤ 1000000) (hn : n ≤ 1000) (hl : lenL r ≤ 1000) (hW : Hid (WBx w p x S)) (hin : Hid (SlIn w A n (strs r))) :
    Calls Tryd.prog 12 #[.pointer (some p), .slice A n c] w fun y w' => y = .returned (.int .i64 (x.putE r)) ∧ ∃ S', Hid (WBx w' p (x.put r) S') ∧ Hid (Touch w w' S) ∧ Hid (Sub w S' S) := by
  obtain ⟨g, B, m, cb, k, rfl, h2, h3, h4, h5, h6, h7, h8⟩ := hW.out
  have c7 : w.cell? ⟨g, 7, none⟩ = some (.bool x.cl) := h2.out.cell 7
  have dl := h2.out.lt
  have HL := Lib.hid hin.out.lenS
  have H5 := Lib.hid h5
  obtain ⟨cl, hcl⟩ : ∃ cl, x.cl = cl := ⟨_, rfl⟩
  rw [hcl] at c7
  cases cl
  · have c0 : w.cell? ⟨g, 0, none⟩ = some (.int .u8 x.d) := h2.out.cell 0
    have c1 : w.cell? ⟨g, 1, none⟩ = some (.int .u8 x.q) := h2.out.cell 1
    have c2 : w.cell? ⟨g, 2, none⟩ = some (.int .i64 x.e) := h2.out.cell 2
    have c5 : w.cell? ⟨g, 5, none⟩ = some (.int .i64 x.ct) := h2.out.cell 5
    obtain ⟨M, hM⟩ : ∃ M, mayN r = M := ⟨_, rfl⟩
    have HE := Lib.hid (show x.putE r = M by unfold Wr1.putE; rw [hcl, hM]; rfl)
    obtain ⟨zf, hzf⟩ : ∃ zf, ((x.ct : Int) == 0) = zf := ⟨_, rfl⟩
    have hzd : decide (x.ct = 0) = zf := by rw [← hzf, Bool.eq_iff_iff]; simp
    have HLE := Lib.hid (show lineE x.d x.q x.e r = M by unfold lineE; rw [h6.out, ← hM]; rfl)
    obtain ⟨T, hT⟩ : ∃ T, lineS x.d x.q x.e zf r = T := ⟨_, rfl⟩
    have HLI := Lib.hid (fun (W : World) (hb : Below w.heap.size w W) => line_says x.d x.q x.e r A n c zf W hx.d0 hx.d1 hx.q0 hx.q1 hn hl (Lib.hid (hin.out.below hb)))
    rw [HLE.out, hT] at HLI
    have zl := fun (z : Above w) => calls_onto (HLI.out (onto w z) (onto_below w z))
    have z0 : ∀ z, (onto w z).cell? ⟨g, 0, none⟩ = some (.int .u8 x.d) := fun z => mem_cell (onto_below w z) c0
    have z1 : ∀ z, (onto w z).cell? ⟨g, 1, none⟩ = some (.int .u8 x.q) := fun z => mem_cell (onto_below w z) c1
    have z2 : ∀ z, (onto w z).cell? ⟨g, 2, none⟩ = some (.int .i64 x.e) := fun z => mem_cell (onto_below w z) c2
    have z5 : ∀ z, (onto w z).cell? ⟨g, 5, none⟩ = some (.int .i64 x.ct) := fun z => mem_cell (onto_below w z) c5
    have zg : ∀ z : Above w, g < (onto w z).heap.size := fun z => Nat.lt_of_lt_of_le dl (onto_below w z).size
    have HOK := Lib.hid hx
    have HCL := Lib.hid hcl
    have HTT := Lib.hid hT
    have HZ := Lib.hid hzd
    have hm2 : m ≤ 1000000 := by omega
    have HSZ := Lib.hid hS
    by_cases hM0 : M = 0
    · have hMb : (M != 0) = false := by simpa using hM0
      have HP := Lib.hid (show x.put r = { x with S := x.S ++ T, ct := x.ct + 1 } by
        unfold Wr1.put
        rw [HE.out, if_pos hM0, ← hT, ← hzd]
        unfold lineS
        rw [HLE.out, if_pos hM0]
        rfl)
      have HTS := Lib.hid (show T.size ≤ 10000 by
        rw [← hT, ← hzd]
        unfold lineS
        rw [HLE.out, if_pos hM0]
        exact lnO_size hx r (by rw [HL.out]; exact hn) hl)
      have HM0 := Lib.hid hM0
      obtain ⟨i0, hi, hz0, hz1, hz2⟩ := info_parts infoB11
      have Hi := Lib.hid hi
      have Hz0 := Lib.hid hz0
      have Hz1 := Lib.hid hz1
      have Hz2 := Lib.hid hz2
      clear hi hz0 hz1 hz2 hM hT hcl hzd h5 hM0 hS
      go_enter Tryd.func12, Tryd.ntmps12
      go_upto_region 3 with fail
      refine wp_region_onto (by kernel_rfl) (by kernel_rfl) ?_
      repeat (go_big_quiet_step ((go_at_call 28; with_reducible exact zl _)))
      refine wpQuiet_nil ?_
      intro _ hw'
      obtain ⟨y1, hw''⟩ := hw'
      subst hw''
      obtain ⟨W, hW'⟩ : ∃ W, W = onto w y1 := ⟨_, rfl⟩
      have HB := Lib.hid (show Below w.heap.size w W by rw [hW']; exact onto_below w y1)
      rw [← hW']
      clear hW' z0 z1 z2 z5 zg zl c0 c1 c2 c5 c7 dl
      have HS1 := Lib.hid (h2.out.below HB.out)
      have HA1 := Lib.hid (h3.out.below HB.out)
      have c3 : W.cell? ⟨g, 3, none⟩ = some (.slice B m cb) := HS1.out.cell 3
      have dl := HS1.out.lt
      have HUN := Lib.hid (slAt_unlike HA1.out HS1.out (by decide))
      go_wp2_with (at_builtin; refine wpList_append_at _ rfl (.tmp 32) (.tmp 33) 43 9 rfl 5 i0 (.int .u8 0) 1 Tryd.underlying43 Tryd.underlying9 Hi.out Hz0.out Hz1.out Hz2.out rfl B m cb (bl x.rest) rfl HA1.out T rfl (by have := HTS.out; unfold maxLen; omega) (by have := HTS.out; omega) ?_; intro B' cb' W2 ho hg hor; have HS2 := Lib.hid (HS1.out.grown hg (fun e => HUN.out g e.symm rfl)); have HO := Lib.hid ho; have HGR := Lib.hid hg; have HOR := Lib.hid hor; clear ho hg hor c3 dl; have c3 : W2.cell? ⟨g, 3, none⟩ = some (.slice B m cb) := HS2.out.cell 3; have c5 : W2.cell? ⟨g, 5, none⟩ = some (.int .i64 x.ct) := HS2.out.cell 5; have c6 : W2.cell? ⟨g, 6, none⟩ = some (.int .i64 x.S.size) := HS2.out.cell 6; have f3 := HS2.out.free 3; have f5 := HS2.out.free 5; have f6 := HS2.out.free 6; have dl := HS2.out.lt; have q1 := HSZ.out; have q2 := HTS.out)
      go_ret
      rw [HE.out, HM0.out]
      obtain ⟨W3, hW3⟩ : ∃ W3, W3 = ((W2.setCell ⟨g, 3, none⟩ (.slice B' (m + T.size) cb')).setCell ⟨g, 5, none⟩ (.int .i64 ((x.ct : Int) + 1))).setCell ⟨g, 6, none⟩ (.int .i64 ((x.S.size : Int) + (T.size : Int))) := ⟨_, rfl⟩
      rw [← hW3]
      have HS3 : StB W3 g 62 (wcs x.d x.q x.e B' (m + T.size) cb' k ((x.ct + 1 : Nat) : Int) (((x.S ++ T).size : Nat) : Int) x.cl) := by
        rw [hW3, ByteArray.size_append]
        exact ((HS2.out.set_ 3 _).set_ 5 _).set_ 6 _
      have ht2 : Touch W2 W3 (fun j => j = g) := by
        rw [hW3]
        exact (((Touch.refl W2 (fun j => j = g)).then_set (p := ⟨g, 3, none⟩) (.inl rfl) _).then_set (p := ⟨g, 5, none⟩) (.inl rfl) _).then_set (p := ⟨g, 6, none⟩) (.inl rfl) _
      have hun2 := slAt_unlike HO.out HS2.out (by decide)
      have ho3 := HO.out.touch ht2 (fun j hj => hun2 j hj)
      rw [← rest_put T h7] at ho3
      have htw : Touch w W2 S := (Touch.of_below HB.out S).trans (Sub.refl _ _) (Touch.of_grown HGR.out (fun j hj => h8.out.2.1 j hj))
      have hta : Touch w W3 S := htw.trans (Sub.refl _ _) (ht2.mono (fun j hj => by
        have hj' : j = g := hj
        rw [hj']; exact h8.out.1))
      have hblk : ∀ j, blkOf B' = some j → S j ∨ w.heap.size ≤ j := fun j hj => by
        rcases HOR.out with h | h
        · rw [h] at hj; exact .inl (h8.out.2.1 j hj)
        · rw [h] at hj; injection hj with hj; right; rw [← hj]; exact HB.out.size
      refine ⟨rfl, fun j => j = g ∨ blkOf B' = some j, Lib.hid ?_, Lib.hid hta, Lib.hid (fun j hj => ?_)⟩
      · rw [HP.out]
        refine ⟨g, B', m + T.size, cb', k, rfl, Lib.hid HS3, Lib.hid ho3, by omega, ?_, h6, ?_, Lib.hid ⟨.inl rfl, fun j hj => .inr hj, fun j hj => ?_⟩⟩
        · show m + T.size = (x.S ++ T).size - x.tk
          rw [ByteArray.size_append, H5.out]; omega
        · show x.tk ≤ (x.S ++ T).size
          rw [ByteArray.size_append]; omega
        · rcases hj with hj | hj
          · rw [hj]; exact HS3.lt
          · exact ho3.blk j hj
      · rcases hj with hj | hj
        · rw [hj]; exact .inl h8.out.1
        · exact hblk j hj
    · have hMb : (M != 0) = true := by simpa using hM0
      have HP := Lib.hid (show x.put r = x by unfold Wr1.put; rw [HE.out, if_neg hM0])
      clear hM hT hcl hzd h5 hM0 hS
      go_enter Tryd.func12, Tryd.ntmps12
      go_upto_region 3 with fail
      refine wp_region_onto (by kernel_rfl) (by kernel_rfl) ?_
      repeat (go_big_quiet_step ((go_at_call 28; with_reducible exact zl _)))
      refine wpQuiet_nil ?_
      intro _ hw'
      obtain ⟨y1, hw''⟩ := hw'
      subst hw''
      have HB := Lib.hid (onto_below w y1)
      clear z0 z1 z2 z5 zg zl c0 c1 c2 c5 c7 dl
      go_wp2_with fail
      go_ret
      exact ⟨by rw [HE.out]; rfl, S, Lib.hid (by rw [HP.out]; exact wbx_keep hW.out (Touch.of_below HB.out (fun _ => False)) (fun _ _ h => h)), Lib.hid (Touch.of_below HB.out S), Lib.hid (Sub.refl _ _)⟩
  · have HE := Lib.hid (show x.putE r = 24 by unfold Wr1.putE; rw [hcl]; rfl)
    have HP := Lib.hid (show x.put r = x by unfold Wr1.put; rw [HE.out, if_neg (by decide)])
    clear h5 hcl
    go_enter Tryd.func12, Tryd.ntmps12
    go_wp2_with fail
    go_ret
    exact ⟨by rw [HE.out]; rfl, S, Lib.hid (by rw [HP.out]; exact hW.out), Lib.hid (Touch.refl _ _), Lib.hid (Sub.refl _ _)⟩

set_option maxRecDepth 100000 in
set_option maxHeartbeats 1600000 in
theorem take_pc (x : Wr1) (p : Addr) (S : Nat → Prop) (n : Int) (w : World) (hS : x.S.size ≤ 1000000) (hn0 : -9223372036854775808 ≤ n) (hn1 : n ≤ 9223372036854775807) (hW : Hid (WBx w p x S)) :
    Calls Tryd.prog 14 #[.pointer (some p), .int .i64 n] w fun y w' => ∃ (O : Option Addr) (m c : Nat) (S' : Nat → Prop), y = .returned (.slice O m c) ∧ m = (x.got n).size ∧ Hid (SlOwn w' w.heap.size 5 O m c (u8s (bl (x.got n)))) ∧ Hid (∀ k, blkOf O = some k → ¬ S' k) ∧
      Hid (WBx w' p (x.take n) S') ∧ Hid (Touch w w' S) ∧ Hid (Sub w S' S) := by
  obtain ⟨g, B, m, cb, k, rfl, h2, h3, h4, h5, h6, h7, h8⟩ := hW.out
  obtain ⟨N, hN⟩ : ∃ N, x.tkN n = N := ⟨_, rfl⟩
  have hNm : N ≤ m := by rw [← hN, h5]; exact Nat.min_le_right _ _
  have hNd : (N : Int) = min (max n 0) (m : Int) := by
    have h1 : N = min n.toNat m := by rw [← hN, h5]; rfl
    omega
  have c3 : w.cell? ⟨g, 3, none⟩ = some (.slice B m cb) := h2.out.cell 3
  have dl := h2.out.lt
  have hmc : m ≤ cb := h3.out.2.1
  have hm9 : m ≤ 1000000 := by omega
  have HTK := Lib.hid (h3.out.toIn.take hNm)
  have H5 := Lib.hid h5
  clear h5
  have hsl := Lib.hid hNd
  go_enter Tryd.func14, Tryd.ntmps14
  go_upto_region 2 with fail
  rw [← hNd]
  clear hNd
  have HOWN := Lib.hid (own_pc B N cb ((bl x.rest).take N) w (by omega) (Lib.hid (by
    have h := HTK.out
    rw [show List.take N (u8s (bl x.rest)) = u8s ((bl x.rest).take N) by unfold u8s; rw [List.map_take]] at h
    exact h)))
  go_wp2_with fail
  refine HOWN.out.mono ?_
  rintro y W1 ⟨O, cO, rfl, HO, hb1⟩
  have HB1 := Lib.hid hb1
  have HS1 := Lib.hid (h2.out.below hb1)
  have HA1 := Lib.hid (h3.out.below hb1)
  have HDR := Lib.hid (drop_pc x.d x.q x.e g B m cb k N x.ct x.S.size x.cl (bl x.rest) W1 (by omega) h4 hNm HS1 HA1)
  clear HOWN c3 dl hb1
  go_wp2_with fail
  refine HDR.out.mono ?_
  rintro y W2 ⟨rfl, A', c', k', hk', HS2, HA2, HT2, HBL⟩
  clear HDR
  go_wp2_with fail
  go_ret
  have hgo := got_rest x n
  rw [hN] at hgo
  have hre := rest_take x n
  rw [hN] at hre
  have hO2 := HO.out.touch HT2.out (fun j hj e => HO.out.unlike_st HS1.out (by decide) j hj e)
  have hgs : N = (x.got n).size := by
    rw [← bl_length, hgo, List.length_take]
    have := h3.out.1
    rw [u8s_length] at this
    omega
  have htw : Touch w W2 S := (Touch.of_below HB1.out S).trans (Sub.refl _ _) (HT2.out.mono (fun j hj => by
    have hj' : j = g := hj
    rw [hj']; exact h8.out.1))
  have hnb : ∀ j, blkOf O = some j → ¬ (j = g ∨ blkOf A' = some j) := fun j hj h => by
    rcases h with h | h
    · exact HO.out.unlike_st HS1.out (by decide) j hj h
    · have hlo := HO.out.blk j hj
      rcases HBL.out j h with h | h
      · have := h3.out.blk j h; omega
      · omega
  refine ⟨O, N, cO, fun j => j = g ∨ blkOf A' = some j, rfl, hgs, Lib.hid ?_, Lib.hid hnb, Lib.hid ?_, Lib.hid htw, Lib.hid (fun j hj => ?_)⟩
  · rw [hgo]; exact hO2
  · refine ⟨g, A', m - N, c', k', rfl, Lib.hid ?_, Lib.hid ?_, hk', ?_, h6, ?_, Lib.hid ⟨.inl rfl, fun j hj => .inr hj, fun j hj => ?_⟩⟩
    · exact HS2.out
    · rw [hre]; exact HA2.out
    · show m - N = x.S.size - (x.tk + x.tkN n)
      rw [hN, H5.out]; omega
    · show x.tk + x.tkN n ≤ x.S.size
      have := H5.out
      rw [hN]; omega
    · rcases hj with hj | hj
      · rw [hj]; exact HS2.out.lt
      · exact HA2.out.blk j hj
  · rcases hj with hj | hj
    · rw [hj]; exact .inl h8.out.1
    · rcases HBL.out j hj with h | h
      · exact .inl (h8.out.2.1 j h)
      · exact .inr (Nat.le_trans HB1.out.size h)

theorem pw_says : PW WBx :=
  { lies := wbx_lies, keep := wbx_keep
    new_yes := fun d q e w d0 d1 q0 q1 hr => new_yes_pc d q e w d0 d1 q0 q1 hr
    new_no := fun d q e w d0 d1 q0 q1 hr => new_no_pc d q e w d0 d1 q0 q1 hr
    put := fun x p S A n c r w hx hS hct hn hl hW hin => put_pc x p S A n c r w hx hS hct hn hl hW hin
    take := fun x p S n w _ hS h0 h1 hW => take_pc x p S n w hS h0 h1 hW
    close := fun x p S w h => close_pc h
    ready := fun x p S w h => ready_pc h
    count := fun x p S w h => count_pc h
    total := fun x p S w h => total_pc h
    closed := fun x p S w h => closed_pc h
  }
end Go.Proofs.YtaoncnlhilpgfaaDoor

/- Layer 5: the contract of the program's gather: the walk. -/
import Derived.Test.YtbglecaahopgdaaFid
namespace Go.Proofs.Ytbglecaahopgdaa
open Go.ChangeShapes Go.WideShapes Go.ChangeAt Go.RowKit
set_option linter.unusedVariables false
set_option linter.unusedSimpArgs false

def GatherOut (g : Nat) (e : Ev) (s : Mk) (S : Nat → Prop) (w : World) : Ending → World → Prop := TurnOut (.int .i64 (mGather e s).er) g (mZ (mGather e s)) S w

theorem Turned.from_alloc' {g : Nat} {s : Mk} {S : Nat → Prop} {w W w' : World} {o : Obj} (h : Turned g s S W w') (hW : W = w.alloc o) : Turned g s S w w' := by subst hW; exact h.from_alloc
theorem Turned.glue {g : Nat} {s : Mk} {S S1 : Nat → Prop} {w w1 w2 : World} (t : Touch w w1 S) (c : Sub w S1 S) (k : Turned g s S1 w1 w2) : Turned g s S w w2 := by
  obtain ⟨S2, m2, t2, b2⟩ := k
  exact ⟨S2, m2, t.trans c t2, c.trans t.size b2⟩
theorem mA_grow {s : Mk} (b : Bool) (v : Int) : (mA b v s).rc = s.rc := by unfold mA; split <;> (try split) <;> rfl
theorem mF_no {s : Mk} : mF false s = s := rfl
theorem mL_no {s : Mk} : mL false s = s := rfl
theorem mGrow {s : Mk} {N : Nat} (ok : s.Ok N) (b : Bool) : (mB b s).rc = s.rc ∧ (mB b s).fd = s.fd := by unfold mB; split <;> (try split) <;> exact ⟨rfl, rfl⟩
theorem mB_ok {s : Mk} (h : ¬ s.lr ≤ s.bg) : mB true s = { s with bg := s.bg + 1 } := by unfold mB; rw [if_pos rfl, if_neg h]
theorem mB_no {s : Mk} (h : s.lr ≤ s.bg) : mB true s = { s with er := 9 } := by unfold mB; rw [if_pos rfl, if_pos h]
theorem mA_ok {s : Mk} {v : Int} (h : ¬ s.lf ≤ (s.fd.length : Int)) : mA true v s = { s with fd := s.fd ++ [v] } := by unfold mA; rw [if_pos rfl, if_neg h]
theorem mA_no {s : Mk} {v : Int} (h : s.lf ≤ (s.fd.length : Int)) : mA true v s = { s with er := 7 } := by unfold mA; rw [if_pos rfl, if_pos h]

set_option maxHeartbeats 6400000 in
theorem gather_any (g : Nat) (x : Ev) (s : Mk) (S : Nat → Prop) (N : Nat) (hN : N ≤ 1000) (w : World) (h : MkB w g s S) (ok : s.Ok N) (h0 : s.er = 0) (b0 : 0 ≤ x.b) (b1 : x.b ≤ 255) :
    Calls Try.prog 60 #[.pointer (some ⟨g, 0, none⟩), .agg (evArr x)] w (GatherOut g x s S w) := by
  obtain ⟨bg, ad, fi, li, re, pb⟩ := x
  have HM := Lib.hid h
  have HOK := Lib.hid ok
  have H0 := Lib.hid h0
  have hM0 : MkB (w.alloc (.cells (evArr ⟨bg, ad, fi, li, re, pb⟩) 103)) g s S := h.below ((Below.refl _ _).alloc (Nat.le_refl _) _)
  have HM0 := Lib.hid hM0
  obtain ⟨v0, v1, v2, v3, v4, v5, v6⟩ := ev_cells ⟨bg, ad, fi, li, re, pb⟩ h (Turned.refl hM0)
  clear h ok h0 hM0
  have HW : ∃ W, W = w.alloc (.cells (evArr ⟨bg, ad, fi, li, re, pb⟩) 103) := ⟨_, rfl⟩
  go_enter Try.func60, Try.ntmps60
  go_upto_if 7 with fail
  go_cut [4] (fun s4 wx => s4 = .int .i64 0 ∧ Hid ((mB bg s).er = 0) ∧ Hid (Turned g (mB bg s) S (w.alloc (.cells (evArr ⟨bg, ad, fi, li, re, pb⟩) 103)) wx))
  case first =>
    obtain ⟨W, hW⟩ := HW
    rw [← hW]
    rw [← hW] at HM0 v0 v1 v2 v3 v4 v5 v6
    dsimp only at v0 v1 v2 v3 v4 v5 v6
    have HWW := Lib.hid hW
    clear hW
    cases bg
    · go_wp2_with fail
      go_meet
      rw [← HWW.out]
      exact ⟨rfl, H0, Lib.hid (Turned.refl HM0.out)⟩
    · obtain ⟨hg, k0, k1, k2, k6, k7, k8, k9, _, _⟩ := HM0.out.cells
      have f6 := HM0.out.free 6
      by_cases hle : s.lr ≤ s.bg
      · have HR := Lib.hid (mB_no hle)
        have hd : decide (s.lr ≤ s.bg) = true := by simpa using hle
        go_wp2_with fail
        refine wp_region_onto (by kernel_rfl) (by kernel_rfl) ?_
        repeat (go_big_quiet_step (fail))
        refine wpQuiet_nil ?_
        intro _ hw'
        obtain ⟨x1, hw''⟩ := hw'
        subst hw''
        go_wp2_with fail
        go_ret
        have e1 : mGather ⟨true, ad, fi, li, re, pb⟩ s = { s with er := 9 } := mGather1 HR.out (by show (9 : Int) ≠ 0; decide)
        show TurnOut _ g _ S w _ _
        rw [e1, mZ_er 9 H0.out]
        refine ⟨rfl, ?_⟩
        have := (Turned.refl HM0.out).then_below (onto_below W x1)
        exact this.from_alloc' HWW.out
      · have HR := Lib.hid (mB_ok hle)
        have hd : decide (s.lr ≤ s.bg) = false := by simpa using hle
        have q1 := HOK.out.lr
        have q2 := HOK.out.bg
        have q3 : s.bg < s.lr := by omega
        go_wp2_with fail
        refine wp_region_onto (by kernel_rfl) (by kernel_rfl) ?_
        repeat (go_big_quiet_step (fail))
        refine wpQuiet_nil ?_
        intro _ hw'
        obtain ⟨x1, hw''⟩ := hw'
        subst hw''
        go_wp2_with fail
        go_meet
        rw [HR.out]
        refine ⟨rfl, H0, Lib.hid ?_⟩
        rw [← HWW.out]
        exact ((Turned.refl HM0.out).then_below (onto_below W x1)).trans fun S' m => m.set6 _
  case rest =>
    obtain ⟨rfl, HE1, HT1⟩ := hcut
    obtain ⟨V, hV⟩ : ∃ V, V = wc := ⟨_, rfl⟩
    subst hV
    clear v0 v1 v2 v3 v4 v5 v6
    obtain ⟨mr, mf⟩ := mGrow HOK.out bg
    obtain ⟨s1, hs1⟩ : ∃ s1, mB bg s = s1 := ⟨_, rfl⟩
    rw [hs1] at HE1 HT1 mr mf
    have q1 : s1.rc.length ≤ 2000 := by rw [mr]; have := HOK.out.rcN; omega
    have q2 : s1.fd.length ≤ 1000 := by rw [mf]; have := HOK.out.fdN; omega
    have HS1 := Lib.hid hs1
    clear hs1 mr mf
    obtain ⟨v0, v1, v2, v3, v4, v5, v6⟩ := ev_cells ⟨bg, ad, fi, li, re, pb⟩ HM.out HT1.out
    dsimp only at v0 v1 v2 v3 v4 v5 v6
    go_upto_if 26 with fail
    go_cut [4] (fun s4 wx => s4 = .int .i64 0 ∧ Hid ((mA ad pb s1).er = 0) ∧ Hid (Turned g (mA ad pb s1) S (w.alloc (.cells (evArr ⟨bg, ad, fi, li, re, pb⟩) 103)) wx))
    case first =>
      cases ad
      · go_wp2_with fail
        go_meet
        exact ⟨rfl, HE1, HT1⟩
      · obtain ⟨S1, m1, t1, c1⟩ := HT1.out
        obtain ⟨A, c, B, d, h1, h2, h3, h4⟩ := m1
        have hg := h1.lt
        have k0 : V.cell? ⟨g, 0, none⟩ = some (.int .i64 s1.lf) := h1.cell 0
        have k4 : V.cell? ⟨g, 4, none⟩ = some (.slice A s1.fd.length c) := h1.cell 4
        obtain ⟨i0, hi, hz0, hz1, hz2⟩ := info_parts info8
        have Hi := Lib.hid hi
        have Hz0 := Lib.hid hz0
        have Hz1 := Lib.hid hz1
        have Hz2 := Lib.hid hz2
        have H1 := Lib.hid h1
        have H2 := Lib.hid h2
        have H3 := Lib.hid h3
        have H4 := Lib.hid h4
        have T1 := Lib.hid t1
        have C1 := Lib.hid c1
        clear hi hz0 hz1 hz2 h1 h2 h3 h4 t1 c1
        obtain ⟨n, hn⟩ : ∃ n, n = s1.fd.length := ⟨_, rfl⟩
        rw [← hn] at k4 q2
        have HN := Lib.hid hn
        by_cases hle : s1.lf ≤ (n : Int)
        · have HR := Lib.hid (mA_no (s := s1) (v := pb) (by rw [← hn]; exact hle))
          have hd : decide (s1.lf ≤ (n : Int)) = true := by simpa using hle
          clear hn
          go_wp2_with fail
          refine wp_region_onto (by kernel_rfl) (by kernel_rfl) ?_
          repeat (go_big_quiet_step (fail))
          refine wpQuiet_nil ?_
          intro _ hw'
          obtain ⟨x1, hw''⟩ := hw'
          subst hw''
          go_wp2_with fail
          go_ret
          have e1 : mGather ⟨bg, true, fi, li, re, pb⟩ s = { s1 with er := 7 } := mGather2 HS1.out HE1.out HR.out (by show (7 : Int) ≠ 0; decide)
          show TurnOut _ g _ S w _ _
          rw [e1, mZ_er 7 HE1.out]
          exact ⟨rfl, (HT1.out.then_below (onto_below V x1)).from_alloc⟩
        · have HR := Lib.hid (mA_ok (s := s1) (v := pb) (by rw [← hn]; exact hle))
          have hd : decide (s1.lf ≤ (n : Int)) = false := by simpa using hle
          clear hn
          go_wp2_with fail
          refine wp_region_onto (by kernel_rfl) (by kernel_rfl) ?_
          repeat (go_big_quiet_step (fail))
          refine wpQuiet_nil ?_
          intro _ hw'
          obtain ⟨x1, hw''⟩ := hw'
          subst hw''
          have HTU := Lib.hid (HT1.out.then_below (onto_below V x1))
          have z1 := H1.out.onto x1
          have z2 := H2.out.below (onto_below V x1)
          have z3 := H3.out.below (onto_below V x1)
          rw [← HN.out] at z2
          have zk := Lib.hid (show MkB (onto V x1) g s1 S1 from ⟨A, c, B, d, z1, by rw [← HN.out]; exact z2, z3, H4.out⟩)
          clear v0 v1 v2 v3 v4 v5 v6 k0 k4 HT1
          obtain ⟨v0, v1, v2, v3, v4, v5, v6⟩ := ev_cells ⟨bg, true, fi, li, re, pb⟩ HM.out HTU.out
          have hT := (T1.out.then_below (onto_below V x1))
          obtain ⟨U, hU⟩ : ∃ U, U = onto V x1 := ⟨_, rfl⟩
          rw [← hU]
          rw [← hU] at z1 z2 z3 zk v0 v1 v2 v3 v4 v5 v6 HTU hT
          dsimp only at v0 v1 v2 v3 v4 v5 v6
          clear hU HM0 HW
          have hgB := Lib.hid (z2.unlike_st z1 (by decide))
          have k4 : U.cell? ⟨g, 4, none⟩ = some (.slice A n c) := by rw [HN.out]; exact z1.cell 4
          have hg := z1.lt
          have Z1 := Lib.hid z1
          have Z2 := Lib.hid z2
          have Z3 := Lib.hid z3
          have HTT := Lib.hid hT
          clear z1 z2 z3 hT
          have B0 := Lib.hid (up_alloc ((Below.refl _ U).drew) (.cells #[.int .u8 pb] 5))
          go_wp2_with fail
          go_region_law ((refine step_append_sl rfl (.tmp 42) (.tmp 45) 98 rfl 5 i0 (.int .u8 0) 1 Try.underlying98 Hi.out Hz0.out Hz1.out Hz2.out rfl 0 A n c (u8s s1.fd) (by simp [Act.eval, Act.put]) (Z2.out.below B0.out) (some ⟨U.heap.size, 0, none⟩) 1 1 [.int .u8 pb] (by simp [Act.eval, Act.put]) (slIn_new1 U.drew 5 _) (by intro u hu; simp at hu; subst hu; rfl) (by unfold maxLen; omega) (by omega) (Nat.zero_le _) ?_); intro A' c' w' hown hgrow hat; have st := (Z1.out.below B0.out).grown hgrow (fun e => hgB.out g e.symm rfl); have e4 : w'.cell? ⟨g, 4, none⟩ = some (.slice A s1.fd.length c) := st.cell 4; have f4 := st.free 4; have HO := Lib.hid hown; have HG := Lib.hid hgrow; have HA := Lib.hid hat; clear st hown hgrow hat)
          all_goals
            go_wp2_with fail
            go_meet
            rw [HR.out]
            obtain rfl := HN.out
            refine ⟨rfl, HE1, Lib.hid (Turned.glue HTT.out C1.out (add_end Z1.out Z2.out Z3.out H4.out (.int .u8 pb) HO.out HG.out ?_))⟩
            have := HA.out
            simp at this
            rcases this with h | h <;> simp [h]
    case rest =>
      obtain ⟨rfl, HE2, HT2⟩ := hcut
      obtain ⟨V2, hV⟩ : ∃ V2, V2 = wc := ⟨_, rfl⟩
      subst hV
      clear v0 v1 v2 v3 v4 v5 v6 HT1
      have mr := mA_grow (s := s1) ad pb
      obtain ⟨s2, hs2⟩ : ∃ s2, mA ad pb s1 = s2 := ⟨_, rfl⟩
      rw [hs2] at HE2 HT2 mr
      have q3 : s2.rc.length ≤ 2000 := by rw [mr]; exact q1
      have HS2 := Lib.hid hs2
      clear hs2 mr q1 q2
      obtain ⟨v0, v1, v2, v3, v4, v5, v6⟩ := ev_cells ⟨bg, ad, fi, li, re, pb⟩ HM.out HT2.out
      dsimp only at v0 v1 v2 v3 v4 v5 v6
      go_upto_if 50 with fail
      go_cut [4] (fun s4 wx => s4 = .int .i64 0 ∧ Hid ((mF fi s2).er = 0) ∧ Hid (Turned g (mF fi s2) S (w.alloc (.cells (evArr ⟨bg, ad, fi, li, re, pb⟩) 103)) wx))
      case first =>
        cases fi
        · go_wp2_with fail
          go_meet
          exact ⟨rfl, HE2, HT2⟩
        · obtain ⟨S2, m2, t2, c2⟩ := HT2.out
          have M2 := Lib.hid m2
          have T2 := Lib.hid t2
          have C2 := Lib.hid c2
          clear m2 t2 c2
          obtain ⟨r, hr⟩ : ∃ r, (mEndF s2).er = r := ⟨_, rfl⟩
          have HR := Lib.hid hr
          go_wp2_with fail
          refine (endField_any g s2 S2 _ M2.out (by omega) HE2.out).mono ?_
          rintro x w3 ⟨rfl, ht⟩
          have HT3 := Lib.hid (Turned.glue T2.out C2.out ht)
          rw [HR.out]
          clear ht hr
          by_cases h0 : r = 0
          · subst h0
            go_wp2_with fail
            go_meet
            refine ⟨rfl, HR, Lib.hid ?_⟩
            show Turned g (mEndF s2) S _ _
            rw [mEndF_ok HR.out]; exact HT3.out
          · have hd : (r != 0) = true := by simpa using h0
            go_wp2_with fail
            go_ret
            have e1 : mGather ⟨bg, ad, true, li, re, pb⟩ s = mEndF s2 := mGather3 HS1.out HE1.out HS2.out HE2.out rfl (by show (mEndF s2).er ≠ 0; rw [HR.out]; exact h0)
            show TurnOut _ g _ S w _ _
            rw [e1, mZ_endF HE2.out, HR.out]
            exact ⟨rfl, HT3.out.from_alloc⟩
      case rest =>
        obtain ⟨rfl, HE3, HT3⟩ := hcut
        obtain ⟨V3, hV⟩ : ∃ V3, V3 = wc := ⟨_, rfl⟩
        subst hV
        clear v0 v1 v2 v3 v4 v5 v6 HT2
        have mr : (mF fi s2).rc.length ≤ s2.rc.length + 1 := by
          cases fi
          · exact Nat.le_succ _
          · show (mEndF s2).rc.length ≤ _
            rw [mEndF_ok HE3.out, mPut_len]; exact Nat.le_refl _
        obtain ⟨s3, hs3⟩ : ∃ s3, mF fi s2 = s3 := ⟨_, rfl⟩
        rw [hs3] at HE3 HT3 mr
        have q4 : s3.rc.length ≤ 2001 := by omega
        have HS3 := Lib.hid hs3
        clear hs3 mr
        obtain ⟨v0, v1, v2, v3, v4, v5, v6⟩ := ev_cells ⟨bg, ad, fi, li, re, pb⟩ HM.out HT3.out
        dsimp only at v0 v1 v2 v3 v4 v5 v6
        have e1 : mGather ⟨bg, ad, fi, li, re, pb⟩ s = mL li s3 := mGather4 HS1.out HE1.out HS2.out HE2.out HS3.out HE3.out
        have EG := Lib.hid e1
        clear e1
        cases li
        · go_wp2_with fail
          go_ret
          show TurnOut _ g _ S w _ _
          rw [EG.out, mL_no, HE3.out, mZ_self HE3.out]
          exact ⟨rfl, HT3.out.from_alloc⟩
        · obtain ⟨S3, m3, t3, c3⟩ := HT3.out
          have M3 := Lib.hid m3
          have T3 := Lib.hid t3
          have C3 := Lib.hid c3
          clear m3 t3 c3
          go_wp2_with fail
          refine (endLine_any g s3 S3 _ M3.out (by omega) HE3.out).mono ?_
          rintro x w4 ⟨rfl, ht⟩
          have HT4 := Lib.hid (Turned.glue T3.out C3.out ht)
          clear ht
          go_wp2_with fail
          go_ret
          show TurnOut _ g _ S w _ _
          rw [EG.out]
          show TurnOut (.int .i64 (mEndL s3).er) g (mZ (mEndL s3)) S w _ _
          rw [mZ_endL HE3.out]
          exact ⟨rfl, HT4.out.from_alloc⟩
end Go.Proofs.Ytbglecaahopgdaa

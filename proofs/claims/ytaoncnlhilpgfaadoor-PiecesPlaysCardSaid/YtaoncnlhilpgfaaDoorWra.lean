/- Layer 11: the document's Writer: Put, Take. -/
import Derived.Test.YtaoncnlhilpgfaaDoorWrs
import Derived.Test.YtaoncnlhilpgfaaDoorZk
namespace Go.Proofs.YtaoncnlhilpgfaaDoor
open Go.ChangeShapes Go.WideShapes Go.ChangeAt Go.RowKit
set_option linter.unusedVariables false
set_option linter.unusedSimpArgs false

/-- The document's writer in block g. -/
def WrB (w : World) (g : Nat) (x : Wr1) : Prop := StB w g 37 x.cells
theorem WrB.all {w : World} {g : Nat} {x : Wr1} (h : WrB w g x) : g < w.heap.size ∧ w.cell? ⟨g, 0, none⟩ = some (.int .i64 x.d) ∧ w.cell? ⟨g, 1, none⟩ = some (.int .i64 x.q) ∧ w.cell? ⟨g, 2, none⟩ = some (.int .i64 x.e) ∧ w.cell? ⟨g, 3, none⟩ = some (.string x.S) ∧ w.cell? ⟨g, 4, none⟩ = some (.int .i64 x.tk) ∧ w.cell? ⟨g, 5, none⟩ = some (.int .i64 x.ct) ∧ w.cell? ⟨g, 6, none⟩ = some (.int .i64 (numB x.cl)) :=
  ⟨StB.lt h, StB.cell h 0, StB.cell h 1, StB.cell h 2, StB.cell h 3, StB.cell h 4, StB.cell h 5, StB.cell h 6⟩
set_option maxRecDepth 100000 in
set_option maxHeartbeats 3200000 in
theorem put11_any (g : Nat) (x : Wr1) (A : Option Addr) (n c : Nat) (r : List ByteArray) (hx : Hid x.Ok) (hS : x.S.size ≤ 1000000) (hct : x.ct ≤ 1000000) (hn : n ≤ 1000) (hl : lenL r ≤ 1000) (w : World) (hb : Hid (WrB w g x)) (hr : Hid (SlIn w A n (strs r))) :
    Calls Tryd.prog 13 #[.pointer (some ⟨g, 0, none⟩), .slice A n c] w fun y w' => y = .returned (.int .i64 (x.putE r)) ∧ WrB w' g (x.put r) ∧ Touch w w' (fun k => k = g) := by
  obtain ⟨hg, c0, c1, c2, c3, c4, c5, c6⟩ := hb.out.all
  have HL := Lib.hid hr.out.lenS
  have HSZ := Lib.hid (show ∀ s ∈ r, s.size ≤ 140737488351232 from fun s hs => by have := lenL_mem hs; omega)
  obtain ⟨cl, hcl⟩ : ∃ cl, x.cl = cl := ⟨_, rfl⟩
  rw [hcl] at c6
  cases cl
  · obtain ⟨M, hM⟩ : ∃ M, mayN r = M := ⟨_, rfl⟩
    have HM := Lib.hid hM
    have hE : x.putE r = M := by unfold Wr1.putE; rw [hcl, hM]; rfl
    have hmay := Lib.hid (may_is A n c r (by omega) M HM w hr HSZ)
    by_cases hM0 : M = 0
    · obtain ⟨T, hT⟩ : ∃ T, x.lnO r = T := ⟨_, rfl⟩
      have hTs : T.size ≤ 10000 := by rw [← hT]; exact lnO_size hx.out r (by rw [HL.out]; exact hn) hl
      have hP : x.put r = { x with S := x.S ++ T, ct := x.ct + 1 } := by unfold Wr1.put; rw [hE, if_pos hM0, hT]
      have HTB := Lib.hid (show bl T = lineN x.d x.q x.e (decide (x.ct = 0)) r by rw [← hT]; exact bl_lineO hx.out.d0 hx.out.d1 hx.out.q0 hx.out.q1 _ _ _)
      obtain ⟨zf, hzf⟩ : ∃ zf, ((x.ct : Int) == 0) = zf := ⟨_, rfl⟩
      have hzd : decide (x.ct = 0) = zf := by rw [← hzf, Bool.eq_iff_iff]; simp
      rw [hzd] at HTB
      have HE := Lib.hid hE
      have HP := Lib.hid hP
      have HB := Lib.hid hb.out
      obtain ⟨d, hd⟩ : ∃ d, x.d = d := ⟨_, rfl⟩
      obtain ⟨q, hq⟩ : ∃ q, x.q = q := ⟨_, rfl⟩
      obtain ⟨e, he⟩ : ∃ e, x.e = e := ⟨_, rfl⟩
      obtain ⟨S, hS'⟩ : ∃ S, x.S = S := ⟨_, rfl⟩
      obtain ⟨ct, hct'⟩ : ∃ ct, x.ct = ct := ⟨_, rfl⟩
      obtain ⟨tk, htk⟩ : ∃ tk, x.tk = tk := ⟨_, rfl⟩
      have HC0 := Lib.hid (show x.cells = #[.int .i64 d, .int .i64 q, .int .i64 e, .string S, .int .i64 tk, .int .i64 ct, .int .i64 0] by
        unfold Wr1.cells; rw [hd, hq, he, hS', hct', htk, hcl]; rfl)
      have HC2 := Lib.hid (show (x.put r).cells = #[.int .i64 d, .int .i64 q, .int .i64 e, .string (S ++ T), .int .i64 tk, .int .i64 ((ct : Int) + 1), .int .i64 0] by
        rw [hP]; unfold Wr1.cells; dsimp only; rw [hd, hq, he, hS', hct', htk, hcl]; rfl)
      rw [hd, hq, he] at HTB
      rw [hd] at c0; rw [hq] at c1; rw [he] at c2; rw [hS'] at c3 hS; rw [hct'] at c5 hct hzf
      have HX := Lib.hid (And.intro hd (And.intro hq (And.intro he (And.intro hS' (And.intro hct' hcl)))))
      have hdq := hx.out
      have hline := fun W (hb : Below w.heap.size w W) => line_any d q e (by rw [← hd]; exact hdq.d0) (by rw [← hd]; exact hdq.d1) (by rw [← hq]; exact hdq.q0) (by rw [← hq]; exact hdq.q1) A n c r zf hn hl W (Lib.hid (hr.out.below hb)) T HTB
      have HF3 := Lib.hid (hb.out.free 3)
      have HF5 := Lib.hid (hb.out.free 5)
      subst hM0
      clear hM hE hT hP hzd hd hq he hS' hct' htk hcl hdq
      cases zf
      all_goals
        simp only [show numB true = 1 from rfl, show numB false = 0 from rfl] at hline
        go_enter Tryd.func13, Tryd.ntmps13
        go_wp2_with (go_at_call 22; with_reducible refine (above hmay.out).mono ?_; rintro x _ ⟨rfl, y1, rfl⟩)
        obtain ⟨W, hW⟩ : ∃ W, W = onto w y1 := ⟨_, rfl⟩
        have hbW : Below w.heap.size w W := by rw [hW]; exact onto_below w y1
        rw [← hW]
        have HBW := Lib.hid hbW
        have z0 : ∀ z, (onto W z).cell? ⟨g, 0, none⟩ = some (.int .i64 d) := fun z => mem_cell (HBW.out.trans ((onto_below W z).mono HBW.out.size)) c0
        have z1 : ∀ z, (onto W z).cell? ⟨g, 1, none⟩ = some (.int .i64 q) := fun z => mem_cell (HBW.out.trans ((onto_below W z).mono HBW.out.size)) c1
        have z2 : ∀ z, (onto W z).cell? ⟨g, 2, none⟩ = some (.int .i64 e) := fun z => mem_cell (HBW.out.trans ((onto_below W z).mono HBW.out.size)) c2
        have z3 : ∀ z, (onto W z).cell? ⟨g, 3, none⟩ = some (.string S) := fun z => mem_cell (HBW.out.trans ((onto_below W z).mono HBW.out.size)) c3
        have zl := fun (z : Above W) => calls_onto (hline (onto W z) (HBW.out.trans ((onto_below W z).mono HBW.out.size)))
        have HBG := Lib.hid (hb.out.below hbW)
        have hgW : g < W.heap.size := Nat.lt_of_lt_of_le hg hbW.size
        clear hW hbW
        refine one_in_the_middle 14 (by kernel_rfl) (by kernel_rfl) rfl ?_
        simp only [List.take_succ_cons, List.take_zero, List.drop_succ_cons, List.drop_zero]
        repeat (go_big_quiet_step ((go_at_call 26; with_reducible exact zl _)))
        refine wpQuiet_nil ?_
        intro _ hw'
        obtain ⟨x1, hw''⟩ := hw'
        subst hw''
        intro KK hKK
        refine ⟨by rfl, ?_⟩
        unfold Oper.wp
        obtain ⟨W1, hW1⟩ : ∃ W1, W1 = onto W x1 := ⟨_, rfl⟩
        have HB1 := Lib.hid (show Below w.heap.size w W1 by rw [hW1]; exact HBW.out.trans ((onto_below W x1).mono HBW.out.size))
        have hs1 : StB W1 g 37 #[.int .i64 d, .int .i64 q, .int .i64 e, .string S, .int .i64 tk, .int .i64 ct, .int .i64 0] := by rw [hW1, ← HC0.out]; exact StB.below HBG.out (onto_below W x1)
        rw [← hW1]
        clear hW1 z0 z1 z2 z3 zl
        have b3 : W1.cell? ⟨g, 3, none⟩ = some (.string S) := hs1.cell 3
        have f3 := hs1.free 3
        have gl := hs1.lt
        have hs2 : StB (W1.setCell ⟨g, 3, none⟩ (.string (S ++ T))) g 37 #[.int .i64 d, .int .i64 q, .int .i64 e, .string (S ++ T), .int .i64 tk, .int .i64 ct, .int .i64 0] := hs1.set_ 3 _
        have HS2 := Lib.hid hs2
        have HT2 := Lib.hid (show Touch w (W1.setCell ⟨g, 3, none⟩ (.string (S ++ T))) (fun k => k = g) from (Touch.of_below HB1.out (fun k => k = g)).then_set (p := ⟨g, 3, none⟩) (.inl rfl) _)
        clear hs1 hs2
        go_simp
        refine hKK _ _ ?_
        clear hKK KK
        refine wpQuiet_nil ?_
        intro _ hv'
        obtain ⟨x2, hv''⟩ := hv'
        subst hv''
        obtain ⟨W2, hW2⟩ : ∃ W2, W2 = onto (W1.setCell ⟨g, 3, none⟩ (.string (S ++ T))) x2 := ⟨_, rfl⟩
        have HS3 := Lib.hid (show StB W2 g 37 #[.int .i64 d, .int .i64 q, .int .i64 e, .string (S ++ T), .int .i64 tk, .int .i64 ct, .int .i64 0] by rw [hW2]; exact HS2.out.below (onto_below _ x2))
        have HT3 := Lib.hid (show Touch w W2 (fun k => k = g) by rw [hW2]; exact HT2.out.then_below (onto_below _ x2))
        rw [← hW2]
        clear hW2 b3 f3 gl
        have b5 : W2.cell? ⟨g, 5, none⟩ = some (.int .i64 ct) := HS3.out.cell 5
        have f5 := HS3.out.free 5
        have gl := HS3.out.lt
        have hs4 := HS3.out.set_ 5 (.int .i64 ((ct : Int) + 1))
        have HS4 := Lib.hid (show StB (W2.setCell ⟨g, 5, none⟩ (.int .i64 ((ct : Int) + 1))) g 37 #[.int .i64 d, .int .i64 q, .int .i64 e, .string (S ++ T), .int .i64 tk, .int .i64 ((ct : Int) + 1), .int .i64 0] from hs4)
        clear hs4
        go_wp2_with fail
        go_ret
        exact ⟨by rw [HE.out]; rfl, by unfold WrB; rw [HC2.out]; exact HS4.out, HT3.out.then_set (p := ⟨g, 5, none⟩) (.inl rfl) _⟩
    · have hP : x.put r = x := by unfold Wr1.put; rw [hE, if_neg hM0]
      have hMn : (M != 0) = true := by simpa using hM0
      have HE := Lib.hid hE
      have HP := Lib.hid hP
      have HB := Lib.hid hb.out
      clear hM hE hP hcl hM0
      go_enter Tryd.func13, Tryd.ntmps13
      go_wp2_with (go_at_call 22; with_reducible refine (above hmay.out).mono ?_; rintro x _ ⟨rfl, y1, rfl⟩)
      go_ret
      exact ⟨by rw [HE.out]; rfl, by rw [HP.out]; exact StB.below HB.out (onto_below w y1), Touch.of_below (onto_below w y1) _⟩
  · have hE : x.putE r = 24 := by unfold Wr1.putE; rw [hcl]; rfl
    have hP : x.put r = x := by unfold Wr1.put; rw [hE, if_neg (by decide)]
    have HE := Lib.hid hE
    have HP := Lib.hid hP
    have HB := Lib.hid hb.out
    have c6' : w.cell? ⟨g, 6, none⟩ = some (.int .i64 1) := c6
    clear hE hP hcl c6
    go_enter Tryd.func13, Tryd.ntmps13
    go_wp2_with fail
    go_ret
    exact ⟨by rw [HE.out]; rfl, by rw [HP.out]; exact HB.out, Touch.refl _ _⟩

set_option maxRecDepth 100000 in
set_option maxHeartbeats 3200000 in
theorem take11_any (g : Nat) (x : Wr1) (n : Int) (hx : Hid x.Ok) (hS : x.S.size ≤ 1000000) (hn0 : -9223372036854775808 ≤ n) (hn1 : n ≤ 9223372036854775807) (w : World) (hb : Hid (WrB w g x)) :
    Calls Tryd.prog 15 #[.pointer (some ⟨g, 0, none⟩), .int .i64 n] w fun y w' => y = .returned (.string (x.got n)) ∧ WrB w' g (x.take n) ∧ Touch w w' (fun k => k = g) := by
  obtain ⟨hg, c0, c1, c2, c3, c4, c5, c6⟩ := hb.out.all
  obtain ⟨N, hN⟩ : ∃ N, x.tkN n = N := ⟨_, rfl⟩
  obtain ⟨S, hS'⟩ : ∃ S, x.S = S := ⟨_, rfl⟩
  obtain ⟨tk, htk⟩ : ∃ tk, x.tk = tk := ⟨_, rfl⟩
  have htS : tk ≤ S.size := by rw [← htk, ← hS']; exact hx.out.tk
  have hNd : N = min n.toNat (S.size - tk) := by rw [← hN, ← hS', ← htk]; rfl
  have hNle : tk + N ≤ S.size := by omega
  obtain ⟨O, hO⟩ : ∃ O, S.extract tk (tk + N) = O := ⟨_, rfl⟩
  have HG := Lib.hid (show x.got n = O by unfold Wr1.got; rw [hN, hS', htk, hO])
  have hsub := fun z => run_sub (P := Tryd.prog) z 9 S tk (tk + N) (tk : Int) ((tk : Int) + (N : Int)) rfl (by omega) (by omega) hNle Tryd.underlying9
  rw [hO] at hsub
  rw [hS'] at c3 hS
  rw [htk] at c4
  obtain ⟨L, hL⟩ : ∃ L, x.cells = L := ⟨_, rfl⟩
  have HL2 := Lib.hid (show (x.take n).cells = (x.cells.setIfInBounds 4 (.int .i64 ((tk : Int) + (N : Int)))) by
    unfold Wr1.take; rw [hN, htk]; unfold Wr1.cells; dsimp only; rfl)
  have HB := Lib.hid hb.out
  have HND := Lib.hid hNd
  have hf4 := hb.out.free 4
  have fin : Hid (∀ v' : World, Below w.heap.size w v' → WrB (v'.setCell ⟨g, 4, none⟩ (.int .i64 ((tk : Int) + (N : Int)))) g (x.take n) ∧ Touch w (v'.setCell ⟨g, 4, none⟩ (.int .i64 ((tk : Int) + (N : Int)))) (fun k => k = g)) := fun v' hv => by
    refine ⟨?_, (Touch.of_below hv (fun k => k = g)).then_set (p := ⟨g, 4, none⟩) (.inl rfl) _⟩
    unfold WrB
    rw [HL2.out]
    exact (StB.below HB.out hv).set_ 4 _
  have hS'' := hS'
  have hO2 := hO
  clear hN hS' htk hO hL hNd
  have HC3 := Lib.hid (show ∀ v, (x.cells.setIfInBounds 4 v)[3]? = some (.string S) from fun v => by unfold Wr1.cells; rw [hS'']; rfl)
  have HC4 := Lib.hid (show ∀ v, (x.cells.setIfInBounds 4 v)[4]? = some v from fun v => by unfold Wr1.cells; rfl)
  clear hS''
  have z3' : ∀ z, (onto w z).cell? ⟨g, 3, none⟩ = some (.string S) := fun z => mem_cell (onto_below w z) c3
  have z4' : ∀ z, (onto w z).cell? ⟨g, 4, none⟩ = some (.int .i64 tk) := fun z => mem_cell (onto_below w z) c4
  have zf : ∀ z, (onto w z).frozen? ⟨g, 4, none⟩ = false := fun z => (StB.free (StB.below HB.out (onto_below w z)) 4)
  have zl : ∀ z : Above w, g < (onto w z).heap.size := fun z => Nat.lt_of_lt_of_le hg (onto_below w z).size
  have hts9 : S.size ≤ 1000000 := hS
  by_cases hneg : n < 0
  · have hN0 : N = 0 := by have := HND.out; omega
    have hsubA := fun z => run_sub (P := Tryd.prog) z 9 S tk tk (tk : Int) (tk : Int) rfl rfl (Nat.le_refl _) htS Tryd.underlying9
    have hOA : S.extract tk tk = O := by rw [← hO2, hN0]; rfl
    rw [hOA] at hsubA
    have HVAL : ((tk : Int) + (N : Int)) = (tk : Int) := by rw [hN0]; simp
    have hlt : ¬ ((S.size : Int) - (tk : Int) < 0) := by omega
    clear hsub hOA hN0 hO2
    go_enter Tryd.func15, Tryd.ntmps15
    go_wp2_with fail
    refine wp_region_onto (by kernel_rfl) (by kernel_rfl) ?_
    repeat (go_big_quiet_step (fail))
    refine wpQuiet_nil ?_
    intro _ hw'
    obtain ⟨z1, hw''⟩ := hw'
    subst hw''
    go_wp2_with fail
    obtain ⟨W, hW⟩ : ∃ W, W = (onto w z1).setCell ⟨g, 4, none⟩ (.int .i64 (tk : Int)) := ⟨_, rfl⟩
    obtain ⟨hWB, hWT⟩ := fin.out (onto w z1) (onto_below w z1)
    rw [HVAL] at hWB hWT
    rw [← hW] at hWB hWT ⊢
    clear hW
    have e3 : W.cell? ⟨g, 3, none⟩ = some (.string S) := by have := StB.cell hWB 3; rw [this, HL2.out, HC3.out]
    have e4 : W.cell? ⟨g, 4, none⟩ = some (.int .i64 (tk : Int)) := by have := StB.cell hWB 4; rw [this, HL2.out, HC4.out, HVAL]
    have e5 := StB.lt hWB
    have y3 : ∀ z, (onto W z).cell? ⟨g, 3, none⟩ = some (.string S) := fun z => mem_cell (onto_below W z) e3
    have y4 : ∀ z, (onto W z).cell? ⟨g, 4, none⟩ = some (.int .i64 (tk : Int)) := fun z => mem_cell (onto_below W z) e4
    have HWB := Lib.hid hWB
    have HWT := Lib.hid hWT
    clear hWB hWT e3 e4 HVAL
    refine wp_region_onto (by kernel_rfl) (by kernel_rfl) ?_
    repeat (go_big_quiet_step (fail))
    refine wpQuiet_nil ?_
    intro _ hw'
    obtain ⟨z3, hw''⟩ := hw'
    subst hw''
    go_wp2_with fail
    go_ret
    exact ⟨by rw [HG.out]; rfl, StB.below HWB.out (onto_below W z3), HWT.out.then_below (onto_below W z3)⟩
  · by_cases hle : n ≤ (S.size : Int) - (tk : Int)
    · obtain rfl : n = (N : Int) := by have := HND.out; omega
      have hlt : ¬ ((S.size : Int) - (tk : Int) < (N : Int)) := by omega
      clear hO2
      go_enter Tryd.func15, Tryd.ntmps15
      go_wp2_with fail
      refine wp_region_onto (by kernel_rfl) (by kernel_rfl) ?_
      repeat (go_big_quiet_step (fail))
      refine wpQuiet_nil ?_
      intro _ hw'
      obtain ⟨z1, hw''⟩ := hw'
      subst hw''
      go_wp2_with fail
      obtain ⟨W, hW⟩ : ∃ W, W = (onto w z1).setCell ⟨g, 4, none⟩ (.int .i64 ((tk : Int) + (N : Int))) := ⟨_, rfl⟩
      obtain ⟨hWB, hWT⟩ := fin.out (onto w z1) (onto_below w z1)
      rw [← hW] at hWB hWT ⊢
      clear hW
      have e3 : W.cell? ⟨g, 3, none⟩ = some (.string S) := by have := StB.cell hWB 3; rw [this, HL2.out, HC3.out]
      have e4 : W.cell? ⟨g, 4, none⟩ = some (.int .i64 ((tk : Int) + (N : Int))) := by have := StB.cell hWB 4; rw [this, HL2.out, HC4.out]
      have e5 := StB.lt hWB
      have y3 : ∀ z, (onto W z).cell? ⟨g, 3, none⟩ = some (.string S) := fun z => mem_cell (onto_below W z) e3
      have y4 : ∀ z, (onto W z).cell? ⟨g, 4, none⟩ = some (.int .i64 ((tk : Int) + (N : Int))) := fun z => mem_cell (onto_below W z) e4
      have HWB := Lib.hid hWB
      have HWT := Lib.hid hWT
      clear hWB hWT e3 e4
      refine wp_region_onto (by kernel_rfl) (by kernel_rfl) ?_
      repeat (go_big_quiet_step (fail))
      refine wpQuiet_nil ?_
      intro _ hw'
      obtain ⟨z3, hw''⟩ := hw'
      subst hw''
      go_wp2_with fail
      go_ret
      exact ⟨by rw [HG.out]; rfl, StB.below HWB.out (onto_below W z3), HWT.out.then_below (onto_below W z3)⟩
    · have hCN : (S.size : Int) - (tk : Int) = (N : Int) := by have := HND.out; omega
      have hlt : (N : Int) < n := by omega
      clear hO2 hle
      go_enter Tryd.func15, Tryd.ntmps15
      go_wp2_with fail
      refine wp_region_onto (by kernel_rfl) (by kernel_rfl) ?_
      repeat (go_big_quiet_step (fail))
      refine wpQuiet_nil ?_
      intro _ hw'
      obtain ⟨z1, hw''⟩ := hw'
      subst hw''
      go_wp2_with fail
      refine wp_region_onto (by kernel_rfl) (by kernel_rfl) ?_
      repeat (go_big_quiet_step (fail))
      refine wpQuiet_nil ?_
      intro _ hw'
      obtain ⟨z2, hw''⟩ := hw'
      subst hw''
      go_wp2_with fail
      obtain ⟨W, hW⟩ : ∃ W, W = (onto w (z1.up z2)).setCell ⟨g, 4, none⟩ (.int .i64 ((tk : Int) + (N : Int))) := ⟨_, rfl⟩
      obtain ⟨hWB, hWT⟩ := fin.out (onto w (z1.up z2)) (onto_below w (z1.up z2))
      rw [← hW] at hWB hWT ⊢
      clear hW
      have e3 : W.cell? ⟨g, 3, none⟩ = some (.string S) := by have := StB.cell hWB 3; rw [this, HL2.out, HC3.out]
      have e4 : W.cell? ⟨g, 4, none⟩ = some (.int .i64 ((tk : Int) + (N : Int))) := by have := StB.cell hWB 4; rw [this, HL2.out, HC4.out]
      have e5 := StB.lt hWB
      have y3 : ∀ z, (onto W z).cell? ⟨g, 3, none⟩ = some (.string S) := fun z => mem_cell (onto_below W z) e3
      have y4 : ∀ z, (onto W z).cell? ⟨g, 4, none⟩ = some (.int .i64 ((tk : Int) + (N : Int))) := fun z => mem_cell (onto_below W z) e4
      have HWB := Lib.hid hWB
      have HWT := Lib.hid hWT
      clear hWB hWT e3 e4
      refine wp_region_onto (by kernel_rfl) (by kernel_rfl) ?_
      repeat (go_big_quiet_step (fail))
      refine wpQuiet_nil ?_
      intro _ hw'
      obtain ⟨z3, hw''⟩ := hw'
      subst hw''
      go_wp2_with fail
      go_ret
      exact ⟨by rw [HG.out]; rfl, StB.below HWB.out (onto_below W z3), HWT.out.then_below (onto_below W z3)⟩
end Go.Proofs.YtaoncnlhilpgfaaDoor

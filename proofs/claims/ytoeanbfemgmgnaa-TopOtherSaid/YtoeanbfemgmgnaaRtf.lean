/- Layer 12: the program's reader: Close. -/
import Derived.Test.YtoeanbfemgmgnaaRte
namespace Go.Proofs.Ytoeanbfemgmgnaa
open Go.ChangeShapes Go.WideShapes Go.ChangeAt Go.RowKit
set_option linter.unusedVariables false
set_option linter.unusedSimpArgs false

/-- What is closed, as its state says. -/
theorem closed_at {X : RdS} {w : World} {P r : Nat} {fed : Nat} {S : Nat → Prop} (h0 : X.h = 0) (hf : X.K.1 = 0 → fed = X.x.size) (he : EndAt w P fed X.K.1 X.K.2 X.rs S) (hr : ¬ S r)
    (w2 : World) (hw2 : w2 = ((w.setCell ⟨P, 4, none⟩ (.bool true)).setCell ⟨r, 0, none⟩ (.int .i64 X.K.1)).setCell ⟨r, 1, none⟩ (.int .i64 X.K.2)) : RBx w2 ⟨P, 0, none⟩ X.shut S := by
  obtain ⟨A, n, c, V, SR, h⟩ := he
  have t1 : Touch w (w.setCell ⟨P, 4, none⟩ (.bool true)) (fun j => j = P) := (Touch.refl w (fun j => j = P)).then_set (p := ⟨P, 4, none⟩) (.inl rfl) _
  have h1 := h.shut t1 (h.box.set_ 4 _)
  have t2 := ((Touch.refl (w.setCell ⟨P, 4, none⟩ (.bool true)) (fun j => j = r)).then_set (p := ⟨r, 0, none⟩) (.inl rfl) (.int .i64 X.K.1)).then_set (p := ⟨r, 1, none⟩) (.inl rfl) (.int .i64 X.K.2)
  have h2 := h1.touch t2 (fun j hj e => by have e' : j = r := e; exact hr (e' ▸ hj))
  rw [← hw2] at h2
  refine ⟨P, rfl, .inr ⟨rfl, by show X.h ≤ _; omega, fed, 0, A, n, c, V, SR, Nat.zero_le _, hf, ?_⟩⟩
  show RdC w2 P fed X.K.1 X.K.2 ((0 : Nat) : Int) (X.h : Int) (X.rs.drop X.h) A n c V SR S
  rw [h0]
  exact h2
theorem EndAt.box {w : World} {P : Nat} {fed k a : Int} {rs : List (List ByteArray)} {S : Nat → Prop} (h : EndAt w P fed k a rs S) : S P ∧ Lies w S ∧ ∃ A n c, StB w P 79 (rdArr (.pointer none) fed k a false A n c 0 0) := by
  obtain ⟨A, n, c, V, SR, h⟩ := h
  exact ⟨h.boxOf, h.lies, A, n, c, h.box⟩
theorem EndAt.touch {w w' : World} {P : Nat} {fed k a : Int} {rs : List (List ByteArray)} {S T : Nat → Prop} (h : EndAt w P fed k a rs S) (ht : Touch w w' T) (hn : ∀ j, S j → ¬ T j) : EndAt w' P fed k a rs S := by
  obtain ⟨A, n, c, V, SR, h⟩ := h
  exact ⟨A, n, c, V, SR, h.touch ht hn⟩
theorem rnE_fin {R : Rn} {i : Nat} (h : R.k ≠ 0) : rnE R i = R.fin := by unfold rnE; rw [if_pos h]

set_option maxRecDepth 100000 in
set_option maxHeartbeats 6400000 in
theorem close_of_rd (X : RdS) (p : Addr) (S : Nat → Prop) (w : World) (ok : X.Ok) (hcl : X.cl = false) (hsz : X.x.size ≤ 2500) (H : Hid (RBx w p X S)) :
    Calls Try.prog 18 #[.pointer (some p)] w fun y w' => y = .returned (fltV (kfx X.shut)) ∧ ∃ S', Hid (RBx w' p X.shut S') ∧ Hid (Touch w w' S) ∧ Hid (Sub w S' S) := by
  obtain ⟨P, rfl, ⟨_, hh, wk, sb, g, fed, hfed, hat⟩ | ⟨h0, _⟩⟩ := H.out
  case inr => rw [hcl] at h0; cases h0
  have hkf : kfx X.shut = X.K := told_all X.shut rfl
  rw [hkf]
  obtain ⟨k2, a2, hK⟩ : ∃ k2 a2, X.K = (k2, a2) := ⟨_, _, rfl⟩
  obtain ⟨r, hr⟩ : ∃ r, w.heap.size = r := ⟨_, rfl⟩
  obtain ⟨W, hW⟩ : ∃ W, W = w.alloc (.cells #[.int .i64 0, .int .i64 0] 34) := ⟨_, rfl⟩
  have HR := Lib.hid (show StB W r 34 #[.int .i64 0, .int .i64 0] by rw [hW]; exact StB.made w hr.symm _ _)
  have HB := Lib.hid (show Below w.heap.size w W by rw [hW]; exact up_alloc (Below.refl _ _) _)
  have HKK := Lib.hid hK
  have hSr : ∀ j, S j → j < r := fun j hj => by rw [← hr]; exact hat.lies j hj
  have HSR := Lib.hid hSr
  have hzz : w.heap.size ≤ r := by omega
  have HZZ := Lib.hid hzz
  have HHH := Lib.hid hh
  have HK1 := Lib.hid (show X.K.1 = k2 by rw [hK])
  have HK2 := Lib.hid (show X.K.2 = a2 by rw [hK])
  -- what ends it
  have HEND := Lib.hid (fun (V : World) (S' : Nat → Prop) (fd : Nat) (hrS : ¬ S' r) (hf : X.K.1 = 0 → fd = X.x.size) (he : EndAt V P fd X.K.1 X.K.2 X.rs S') (t : Touch w V S) (s : Sub w S' S) =>
    show ∃ S', Hid (RBx (((V.setCell ⟨P, 4, none⟩ (.bool true)).setCell ⟨r, 0, none⟩ (.int .i64 k2)).setCell ⟨r, 1, none⟩ (.int .i64 a2)) ⟨P, 0, none⟩ X.shut S') ∧ Hid (Touch w (((V.setCell ⟨P, 4, none⟩ (.bool true)).setCell ⟨r, 0, none⟩ (.int .i64 k2)).setCell ⟨r, 1, none⟩ (.int .i64 a2)) S) ∧ Hid (Sub w S' S) from by
      refine ⟨S', Lib.hid (closed_at HHH.out hf he hrS _ (by rw [HK1.out, HK2.out])), Lib.hid ?_, Lib.hid s⟩
      exact ((t.trans s ((Touch.refl V S').then_set (p := ⟨P, 4, none⟩) (.inl he.box.1) _)).then_set (p := ⟨r, 0, none⟩) (.inr HZZ.out) _).then_set (p := ⟨r, 1, none⟩) (.inr HZZ.out) _)
  rw [hK]
  clear hzz hh
  by_cases h0 : X.run.k = 0
  · obtain rfl : fed = X.x.size := hfed h0
    rcases hat with ⟨_, ht⟩ | ⟨h1, _⟩
    case inr => exact absurd h0 h1
    obtain ⟨fd, hfd⟩ : ∃ fd, X.x.size = fd := ⟨_, rfl⟩
    rw [hfd] at ht
    have ht0 := ht.touch (Touch.of_below HB.out (fun _ => False)) (fun _ _ h => h)
    have HT0 := Lib.hid ht0
    obtain ⟨B, m, cb, V, SR, S1, SM, Z, q1, q2, q3, q4⟩ := ht0
    have p0 : W.cell? ⟨P, 0, none⟩ = some (.pointer (some ⟨wk, 0, none⟩)) := q1.box.cell 0
    have pl := q1.box.lt
    have w3 : W.cell? ⟨wk, 3, none⟩ = some (.pointer (some ⟨sb, 0, none⟩)) := q2.box.cell 3
    have wl := q2.box.lt
    have hSP : S P := (q4 P).2 (.inl q1.boxOf)
    have hSb : S sb := (q4 sb).2 (.inr ((q2.all sb).2 (.inr (.inl rfl))))
    obtain ⟨hd, hhd⟩ : ∃ hd, bomHeld (bl X.x) = hd := ⟨_, rfl⟩
    have hh1 := held_at (bl X.x)
    rw [hhd, bl_length, hfd] at hh1
    have hh2 := bomHeld_le (bl X.x)
    rw [hhd] at hh2
    have HC := Lib.hid (bomClose_any sb hd (.int .i64 (bomStage (bl X.x))) (.bool (bomHad (bl X.x))) (by omega) W (by have := q2.strip; unfold bomCells at this; rw [hhd] at this; exact this))
    have HSH := Lib.hid (show (X.rs, X.K) = rnE (rnL X.d X.q X.e X.run (fd - hd) (bomMk.take hd)) fd by rw [run_shut X, hhd, hfd])
    have HOK := Lib.hid (run_ok ok)
    have HFD := Lib.hid hfd
    have HH0 := Lib.hid h0
    have HSB := Lib.hid hSb
    have HHL := Lib.hid hh1
    have hfd2 : fd ≤ 2500 := by omega
    have HCB := Lib.hid (show ∀ x ∈ bomMk.take hd, 0 ≤ x ∧ x ≤ 255 from fun x hx => by
      have := List.mem_of_mem_take hx
      simp [bomMk] at this
      omega)
    clear q1 q2 q3 q4 ht h0 hK hSb hSr hkf hfd hfed hh1 hhd hcl hsz
    go_enter Try.func18, Try.ntmps18
    go_upto_region 1 with fail
    rw [← hW]
    clear hW
    go_wp2_with fail
    refine HC.out.mono ?_
    rintro x w2 ⟨A2, c2, rfl, ho, hst2, hg2⟩
    have ht2 := HT0.out.strip (Touch.of_grown hg2 (fun j hj => by injection hj with hj; exact hj.symm)) hst2
    have hsr : ¬ sb = r := by have := HSR.out sb HSB.out; omega
    have hz1 : r < W.heap.size := HR.out.lt
    have HR2 := Lib.hid (HR.out.grown hg2 (fun e => hsr (by injection e with e; exact e.symm)))
    have HTH := Lib.hid (through_rd w2 S X.run HH0.out fd hd HHL.out.1 (by omega) X.x.size (by have := HFD.out; omega) HOK A2 c2 (bomMk.take hd) HCB (Lib.hid ho.toIn) (Lib.hid (fun j hj => ⟨fun hs => by have := HSR.out j hs; have := (ho.blk j hj).1; omega, (ho.blk j hj).2⟩)) (Lib.hid ht2))
    have HTW2 := Lib.hid (((Touch.of_below HB.out S)).trans (Sub.refl _ _) (Touch.of_grown hg2 (fun j hj => by injection hj with hj; rw [← hj]; exact HSB.out)))
    clear ht2 ho hst2 hg2 w3 wl p0 pl HC
    go_wp2_with fail
    refine HTH.out.mono ?_
    rintro x w3 ⟨rfl, S', hr3, ht3, hs3⟩
    have hz2 : r < w2.heap.size := HR2.out.lt
    have hrS : ¬ S r := fun hs => by have := HSR.out r hs; omega
    have hrS' : ¬ S' r := fun hs => by
      rcases hs3.out r hs with h | h
      · exact hrS h
      · omega
    have HR3 := Lib.hid (HR2.out.touch ht3.out hrS)
    have HTW3 := Lib.hid (HTW2.out.trans (Sub.refl _ _) ht3.out)
    have HSW3 := Lib.hid (show Sub w S' S from fun j hj => by
      rcases hs3.out j hj with h | h
      · exact .inl h
      · exact .inr (Nat.le_trans HTW2.out.size h))
    obtain ⟨R2, hR2⟩ : ∃ R2, rnL X.d X.q X.e X.run (fd - hd) (bomMk.take hd) = R2 := ⟨_, rfl⟩
    have hok2 : R2.Ok (X.x.size + hd) := by
      have := rnL_ok (d := X.d) (q := X.q) (e := X.e) (bomMk.take hd) HOK.out (fd - hd)
      rw [hR2, HHL.out.2] at this; exact this
    have HOK2 := Lib.hid hok2
    have HSH2 := Lib.hid (show (X.rs, X.K) = rnE R2 fd by rw [HSH.out, hR2])
    rw [hR2] at hr3
    have hrs2 := Lib.hid hrS'
    clear HTH HSH hR2 hrS hrS' hok2 ht3 hs3
    by_cases hk2 : R2.k = 0
    · rcases hr3.out with ⟨_, ht4⟩ | ⟨h1, _⟩
      case inr => exact absurd hk2 h1
      have HT4 := Lib.hid ht4
      obtain ⟨B, m, cb, V, SR, S1, SM, Z, q1, q2, q3, q4⟩ := ht4
      have p0 : w3.cell? ⟨P, 0, none⟩ = some (.pointer (some ⟨wk, 0, none⟩)) := q1.box.cell 0
      have pl := q1.box.lt
      have HED := Lib.hid (end_rd w3 S' R2 hk2 fd (X.x.size + hd) (by have := HFD.out; omega) HOK2 HT4)
      clear q1 q2 q3 q4 hr3 hk2
      go_wp2_with fail
      refine HED.out.mono ?_
      rintro x w4 ⟨rfl, S4, he4, ht4, hs4⟩
      have hz3 : r < w3.heap.size := HR3.out.lt
      have hrS4 : ¬ S4 r := fun hs => by
        rcases hs4.out r hs with h | h
        · exact hrs2.out h
        · omega
      have HR4 := Lib.hid (HR3.out.touch ht4.out hrs2.out)
      rw [← HSH2.out] at he4
      have hE := HEND.out w4 S4 fd hrS4 (fun _ => HFD.out.symm) he4.out (HTW3.out.trans HSW3.out ht4.out) (fun j hj => by
        rcases hs4.out j hj with h | h
        · exact HSW3.out j h
        · exact .inr (Nat.le_trans HTW3.out.size h))
      obtain ⟨hSP4, hL4, A4, n4, c4, hbx⟩ := he4.out.box
      have hnP : ¬ r = P := fun e => hrS4 (e ▸ hSP4)
      have b4 : w4.cell? ⟨P, 4, none⟩ = some (.bool false) := hbx.cell 4
      have b2 : w4.cell? ⟨P, 2, none⟩ = some (.int .i64 k2) := by rw [← HK1.out]; exact hbx.cell 2
      have b3 : w4.cell? ⟨P, 3, none⟩ = some (.int .i64 a2) := by rw [← HK2.out]; exact hbx.cell 3
      have g4 := hbx.free 4
      have bl3 := hbx.lt
      have r0 : w4.cell? ⟨r, 0, none⟩ = some (.int .i64 0) := HR4.out.cell 0
      have r1 : w4.cell? ⟨r, 1, none⟩ = some (.int .i64 0) := HR4.out.cell 1
      have e0 := HR4.out.free 0
      have e1 := HR4.out.free 1
      have rl := HR4.out.lt
      have hE' := Lib.hid hE
      clear hE HED hbx p0 pl
      go_wp2_with fail
      have S2 := ((HR4.out.far (p := ⟨P, 4, none⟩) hnP (.bool true)).set_ 0 (.int .i64 k2)).set_ 1 (.int .i64 a2)
      have y0 := S2.cell 0
      have y1 := S2.cell 1
      exact bodyPost_ret (v := .agg #[.int .i64 k2, .int .i64 a2]) (by simp [results, Try.results18, go_sem, y0, y1]) rfl ⟨rfl, hE'.out⟩
    · rcases hr3.out with ⟨h1, _⟩ | ⟨_, he⟩
      · exact absurd h1 hk2
      have he4 : EndAt w3 P fd X.K.1 X.K.2 X.rs S' := by
        have h := HSH2.out
        rw [rnE_fin hk2] at h
        have h1 : X.rs = R2.rs := congrArg Prod.fst h
        have h2 : X.K = R2.K := congrArg Prod.snd h
        rw [h1, h2]
        unfold Rn.K
        rw [if_neg hk2]
        exact he
      have hE := HEND.out w3 S' fd hrs2.out (fun _ => HFD.out.symm) he4 HTW3.out HSW3.out
      obtain ⟨hSP4, hL4, A4, n4, c4, hbx⟩ := he4.box
      have hnP : ¬ r = P := fun e => hrs2.out (e ▸ hSP4)
      have b0 : w3.cell? ⟨P, 0, none⟩ = some (.pointer none) := hbx.cell 0
      have b4 : w3.cell? ⟨P, 4, none⟩ = some (.bool false) := hbx.cell 4
      have b2 : w3.cell? ⟨P, 2, none⟩ = some (.int .i64 k2) := by rw [← HK1.out]; exact hbx.cell 2
      have b3 : w3.cell? ⟨P, 3, none⟩ = some (.int .i64 a2) := by rw [← HK2.out]; exact hbx.cell 3
      have g4 := hbx.free 4
      have bl3 := hbx.lt
      have r0 : w3.cell? ⟨r, 0, none⟩ = some (.int .i64 0) := HR3.out.cell 0
      have r1 : w3.cell? ⟨r, 1, none⟩ = some (.int .i64 0) := HR3.out.cell 1
      have e0 := HR3.out.free 0
      have e1 := HR3.out.free 1
      have rl := HR3.out.lt
      have hE' := Lib.hid hE
      clear hE hbx hr3 he hk2
      go_wp2_with fail
      have S2 := ((HR3.out.far (p := ⟨P, 4, none⟩) hnP (.bool true)).set_ 0 (.int .i64 k2)).set_ 1 (.int .i64 a2)
      have y0 := S2.cell 0
      have y1 := S2.cell 1
      exact bodyPost_ret (v := .agg #[.int .i64 k2, .int .i64 a2]) (by simp [results, Try.results18, go_sem, y0, y1]) rfl ⟨rfl, hE'.out⟩
  · rcases hat with ⟨h1, _⟩ | ⟨_, he⟩
    · exact absurd h1 h0
    have he4 : EndAt W P fed X.K.1 X.K.2 X.rs S := by
      have h := stuck_now h0
      have h1 : X.rs = X.run.rs := congrArg Prod.fst h
      have h2 : X.K = X.run.K := congrArg Prod.snd h
      rw [h1, h2]
      unfold Rn.K
      rw [if_neg h0]
      exact he.touch (Touch.of_below HB.out (fun _ => False)) (fun _ _ h => h)
    have hk2 : X.K.1 = 0 → fed = X.x.size := fun hz => by
      have h := stuck_now h0
      have h2 : X.K = X.run.K := congrArg Prod.snd h
      rw [h2] at hz
      exact absurd hz h0
    have hrS : ¬ S r := fun hs => by have := hSr r hs; omega
    have hE := HEND.out W S fed hrS hk2 he4 (Touch.of_below HB.out S) (Sub.refl _ _)
    obtain ⟨hSP4, hL4, A4, n4, c4, hbx⟩ := he4.box
    have hnP : ¬ r = P := fun e => hrS (e ▸ hSP4)
    have b0 : W.cell? ⟨P, 0, none⟩ = some (.pointer none) := hbx.cell 0
    have b4 : W.cell? ⟨P, 4, none⟩ = some (.bool false) := hbx.cell 4
    have b2 : W.cell? ⟨P, 2, none⟩ = some (.int .i64 k2) := by rw [← HK1.out]; exact hbx.cell 2
    have b3 : W.cell? ⟨P, 3, none⟩ = some (.int .i64 a2) := by rw [← HK2.out]; exact hbx.cell 3
    have g4 := hbx.free 4
    have bl3 := hbx.lt
    have r0 : W.cell? ⟨r, 0, none⟩ = some (.int .i64 0) := HR.out.cell 0
    have r1 : W.cell? ⟨r, 1, none⟩ = some (.int .i64 0) := HR.out.cell 1
    have e0 := HR.out.free 0
    have e1 := HR.out.free 1
    have rl := HR.out.lt
    have hE' := Lib.hid hE
    clear hE hbx he h0 hK hkf hfed hk2 hSr hrS he4 hcl
    go_enter Try.func18, Try.ntmps18
    go_upto_region 1 with fail
    rw [← hW]
    clear hW
    go_wp2_with fail
    have S2 := ((HR.out.far (p := ⟨P, 4, none⟩) hnP (.bool true)).set_ 0 (.int .i64 k2)).set_ 1 (.int .i64 a2)
    have y0 := S2.cell 0
    have y1 := S2.cell 1
    exact bodyPost_ret (v := .agg #[.int .i64 k2, .int .i64 a2]) (by simp [results, Try.results18, go_sem, y0, y1]) rfl ⟨rfl, hE'.out⟩
end Go.Proofs.Ytoeanbfemgmgnaa

/- Layer 11: the program's writer: Drain (an iterator that drains the writer). -/
import Derived.Test.YtaoncnlhilpgfaaDoorWtc
import Derived.LoopNIn
import Derived.LoopIn
namespace Go.Proofs.YtaoncnlhilpgfaaDoor
open Go.ChangeShapes Go.WideShapes Go.ChangeAt Go.RowKit
set_option linter.unusedVariables false
set_option linter.unusedSimpArgs false
attribute [local go_sem] Oper.semAt_some

/-- How many bytes the writer at p has. -/
def remN (w : World) (p : Addr) : Nat := match w.cell? ⟨p.block, 3, none⟩ with
  | some (.slice _ m _) => m
  | _ => 0
theorem remN_is {w : World} {p : Addr} {x : Wr1} {S : Nat → Prop} (h : WBx w p x S) : remN w p = x.S.size - x.tk := by
  obtain ⟨g, A, m, c, k, rfl, h2, _, _, h5, _⟩ := h
  have c3 : w.cell? ⟨g, 3, none⟩ = some (.slice A m c) := h2.out.cell 3
  unfold remN
  rw [c3]
  exact h5
theorem rest_size (x : Wr1) : x.rest.size = x.S.size - x.tk := by
  unfold Wr1.rest
  rw [ByteArray.size_extract]; omega
theorem drained_zero {x : Wr1} (m : Nat) : x.drained m 0 = x := by
  unfold Wr1.drained
  rw [Nat.zero_mul, Nat.zero_min, Nat.add_zero]
theorem drained_take {x : Wr1} {z : Int} {m i : Nat} (hz : z.toNat = m) : (x.drained m i).take z = x.drained m (i + 1) := by
  unfold Wr1.take Wr1.tkN Wr1.drained
  dsimp only
  rw [hz, Nat.add_mul, Nat.one_mul]
  congr 1
  omega
theorem drained_got' {x : Wr1} {z : Int} {m i : Nat} (hz : z.toNat = m) (h : i * m < x.rest.size) : (x.drained m i).got z = pceAt x.rest m i := by
  have hR := rest_size x
  refine bl_inj ?_
  rw [got_rest, bl_rest, pceAt, bl_mid, bl_rest, Nat.add_sub_cancel_left]
  show List.take ((x.drained m i).tkN z) ((bl x.S).drop (x.tk + min (i * m) (x.S.size - x.tk))) = _
  rw [List.drop_drop, show min (i * m) (x.S.size - x.tk) = i * m by omega]
  have ht : (x.drained m i).tkN z = min m (x.S.size - (x.tk + i * m)) := by
    show min z.toNat (x.S.size - (x.tk + min (i * m) (x.S.size - x.tk))) = _
    rw [hz, show min (i * m) (x.S.size - x.tk) = i * m by omega]
  rw [ht]
  have hl : ((bl x.S).drop (x.tk + i * m)).length = x.S.size - (x.tk + i * m) := by rw [List.length_drop, bl_length]
  rcases Nat.le_total m (x.S.size - (x.tk + i * m)) with h1 | h1
  · rw [Nat.min_eq_left h1]
  · rw [Nat.min_eq_right h1, List.take_of_length_le (by omega), List.take_of_length_le (by omega)]
theorem pcesE_take {S : ByteArray} {m k : Nat} (h : k < pceN S m) : (pcesE S m).take (k + 1) = (pcesE S m).take k ++ [pceAt S m k] := by
  unfold pcesE
  rw [List.take_add_one]
  congr 1
  rw [List.getElem?_map, List.getElem?_range h]
  rfl

/-- What the rounds promise. -/
def DRounds (n : Nat) (l B : Nat) (J Jx : List ByteArray → World → (Nat → Prop) → Prop) (E : List ByteArray) : Prop :=
  ∀ pre x W1 T, J pre W1 T → Lies W1 T → pre ++ [x.b] <+: E → pceHand x W1 → (∀ k, pceBlk x k → ¬ T k ∧ B ≤ k ∧ k < W1.heap.size) → B ≤ W1.heap.size →
    YieldAt Fence.wide n Tryd.prog l (pceArgs x) W1 fun e W2 => (e = .returned (.bool true) ∧ LeftW W1 T (pceBlk x) J (pre ++ [x.b]) W2) ∨ (e = .returned (.bool false) ∧ LeftW W1 T (pceBlk x) Jx (pre ++ [x.b]) W2)
/-- Where the loop is. -/
structure DAt (W : World) (S : Nat → Prop) (b1 b2 : Nat) (p : Addr) (sz : Int) (x : Wr1) (M : Nat) (J : List ByteArray → World → (Nat → Prop) → Prop) (i : Nat) (T S2 : Nat → Prop) (W2 : World) : Prop where
  j : J ((pcesE x.rest M).take i) W2 T
  lies : Lies W2 T
  wb : WBx W2 p (x.drained M i) S2
  own : ∀ k, S2 k → ¬ T k ∧ (W.heap.size ≤ k ∨ S k)
  base : W.heap.size ≤ W2.heap.size
  le : i ≤ pceN x.rest M
  box1 : StB W2 b1 27 #[.pointer (some p)]
  box2 : StB W2 b2 3 #[.int .i64 sz]
  far : ¬ T b1 ∧ ¬ T b2

section
variable {n l b1 b2 : Nat} {p : Addr} {sz : Int} {x : Wr1} {M : Nat} {J Jx : List ByteArray → World → (Nat → Prop) → Prop} {W : World} {T S : Nat → Prop}
set_option maxRecDepth 100000 in
set_option maxHeartbeats 1600000 in
theorem drain1_in (hn : 1 ≤ n) (hx : x.Ok) (hxs : x.S.size ≤ 1000000) (s0 : -9223372036854775808 ≤ sz) (s1 : sz ≤ 9223372036854775807) (hM : (max sz 1).toNat = M) (hJ : AbK (fun k => W.heap.size ≤ k ∨ (S k ∨ k = b1 ∨ k = b2)) J) (hJx : AbK (fun k => W.heap.size ≤ k ∨ (S k ∨ k = b1 ∨ k = b2)) Jx)
    (hY : Hid (DRounds (n - 1) l W.heap.size J Jx (pcesE x.rest M))) (hb1 : Hid (StB W b1 27 #[.pointer (some p)])) (hb2 : Hid (StB W b2 3 #[.int .i64 sz])) (hSb : Hid (∀ k, S k → k ≠ b1 ∧ k ≠ b2 ∧ k < W.heap.size)) (hw : Hid (WBx W p x S)) (hj : Hid (J [] W T)) (hT : Hid (Lies W T)) (hK : Hid (∀ k, (S k ∨ k = b1 ∨ k = b2) → ¬ T k)) :
    CallsIn Fence.wide n Tryd.prog 33 #[.func (.yield l) #[] #[], .pointer (some ⟨b1, 0, none⟩), .pointer (some ⟨b2, 0, none⟩)] W fun e W2 => (∃ v, e = .returned v) ∧ ∃ T2 S2, Lies W2 T2 ∧ (∀ k, S2 k → ¬ T2 k ∧ (W.heap.size ≤ k ∨ (S k ∨ k = b1 ∨ k = b2))) ∧
      ((J (pcesE x.rest M) W2 T2 ∧ WBx W2 p (x.drained M (pcesE x.rest M).length) S2) ∨ ∃ pre, pre <+: pcesE x.rest M ∧ Jx pre W2 T2 ∧ WBx W2 p (x.drained M pre.length) S2) := by
  have HX := Lib.hid hx
  have hM1 : 1 ≤ M := by omega
  have HAT := Lib.hid (show DAt W S b1 b2 p sz x M J 0 T S W from ⟨hj.out, hT.out, by rw [drained_zero]; exact hw.out, fun k hk => ⟨hK.out k (.inl hk), .inr hk⟩, Nat.le_refl _, Nat.zero_le _, hb1.out, hb2.out, hK.out _ (.inr (.inl rfl)), hK.out _ (.inr (.inr rfl))⟩)
  have hbl1 : b1 < W.heap.size := hb1.out.lt
  have hbl2 : b2 < W.heap.size := hb2.out.lt
  obtain ⟨ms, hms⟩ : ∃ ms, max sz 1 = ms := ⟨_, rfl⟩
  have HMS := Lib.hid hms
  have hmsb : 1 ≤ ms ∧ ms ≤ 9223372036854775807 := by omega
  obtain ⟨ms1, ms2⟩ := hmsb
  rw [hms] at hM
  have HM := Lib.hid hM
  clear hM hx hms
  refine callsIn_of_wp Tryd.func33 rfl trivial ?_ rfl
  simp only [Tryd.ntmps33, List.size_toArray, List.length_cons, List.length_nil, Nat.reduceAdd, Nat.reduceSub, Array.replicate_succ, Array.replicate_zero, List.push_toArray, List.append_toArray, List.nil_append, List.cons_append]
  gi_wp2
  gi_loopw [] (fun wr => ∃ (i : Nat) (T S2 : Nat → Prop), Hid (DAt W S b1 b2 p sz x M J i T S2 wr)) (fun wr => remN wr p)
  case atStart => exact ⟨0, T, S, HAT⟩
  case round =>
    clear HAT hj hT hw hb1 hb2 hK
    obtain ⟨i, T, S2, HA⟩ := hrel
    obtain ⟨W2, hW2⟩ : ∃ W2, W2 = wr := ⟨_, rfl⟩
    subst hW2
    have m1 : W2.cell? ⟨b1, 0, none⟩ = some (.pointer (some p)) := HA.out.box1.cell 0
    have m2 : W2.cell? ⟨b2, 0, none⟩ = some (.int .i64 sz) := HA.out.box2.cell 0
    have l1 := HA.out.box1.lt
    have l2 := HA.out.box2.lt
    have HRD := Lib.hid (ready_pc (Lib.hid HA.out.wb))
    have HRN := Lib.hid (remN_is HA.out.wb)
    obtain ⟨rm, hrm⟩ : ∃ rm : Nat, rm = x.S.size - (x.tk + min (i * M) (x.S.size - x.tk)) := ⟨_, rfl⟩
    have hrv : (((x.drained M i).S.size : Int) - ((x.drained M i).tk : Int)) = (rm : Int) := by
      show ((x.S.size : Int) - ((x.tk + min (i * M) (x.S.size - x.tk) : Nat) : Int)) = _
      have := HX.out.tk
      omega
    rw [hrv] at HRD
    have HRM := Lib.hid (show remN W2 p = rm by rw [HRN.out, hrm]; rfl)
    clear hrv
    by_cases hpos : 0 < rm
    · have hlt : i * M < x.rest.size := by rw [rest_size]; omega
      have hi : i < pceN x.rest M := by
        have h1 := pceN_all x.rest hM1
        rcases Nat.lt_or_ge i (pceN x.rest M) with h2 | h2
        · exact h2
        · have := Nat.mul_le_mul_right M h2; omega
      have HI := Lib.hid hi
      have HLT := Lib.hid hlt
      have HRMD := Lib.hid hrm
      have hcond : ((rm : Int) > 0) := by omega
      clear hlt hi hrm
      gi_wp2
      refine ⟨trivial, callsIn_wide.2 (HRD.out.mono ?_)⟩
      rintro _ W3 ⟨rfl, hb3⟩
      have HB3 := Lib.hid hb3
      have HW3 := Lib.hid (wbx_keep HA.out.wb (Touch.of_below hb3 (fun _ => False)) (fun _ _ h => h))
      have n1 : W3.cell? ⟨b1, 0, none⟩ = some (.pointer (some p)) := (HA.out.box1.below hb3).cell 0
      have n2 : W3.cell? ⟨b2, 0, none⟩ = some (.int .i64 sz) := (HA.out.box2.below hb3).cell 0
      have l1 := (HA.out.box1.below hb3).lt
      have l2 := (HA.out.box2.below hb3).lt
      have HTK := Lib.hid (take_pc (x.drained M i) p S2 ms W3 hxs (by omega) ms2 HW3)
      rw [drained_take HM.out, drained_got' HM.out HLT.out] at HTK
      have hms' := HMS.out
      clear m1 m2 hb3 HRD
      gi_wp2
      refine ⟨trivial, callsIn_wide.2 (HTK.out.mono ?_)⟩
      rintro _ W4 ⟨O, mo, co, S3, rfl, hmo, HO, HON, HW4, HT4, HS4⟩
      subst hmo
      clear n1 n2 HTK hms'
      have ht24 : Touch W2 W4 S2 := (Touch.of_below HB3.out S2).trans (Sub.refl _ _) HT4.out
      have hj4 := hJ _ _ _ _ _ HA.out.j HA.out.lies ht24 (fun k hk => ⟨(HA.out.own k hk).1, (HA.out.own k hk).2.imp id .inl⟩)
      have hl4 : Lies W4 T := HA.out.lies.later ht24.size
      have hta := pcesE_take HI.out
      have hpre : (pcesE x.rest M).take i ++ [pceAt x.rest M i] <+: pcesE x.rest M := by rw [← hta]; exact List.take_prefix _ _
      have HPRE := Lib.hid hpre
      have HTA := Lib.hid hta
      have hba := HA.out.base
      have hz3 := HB3.out.size
      have hz4 := ht24.size
      have hnT : ∀ k, blkOf O = some k → ¬ T k ∧ W.heap.size ≤ k ∧ k < W4.heap.size := fun k hk => by
        have := HO.out.blk k hk
        refine ⟨fun h => ?_, by omega, this.2⟩
        have := HA.out.lies k h; omega
      have HNT := Lib.hid hnT
      obtain ⟨fn, tmps, assign, body, hy, hRR⟩ := hY.out _ ⟨O, co, W3.heap.size, pceAt x.rest M i⟩ W4 T hj4 hl4 hpre HO.out hnT (by omega)
      dsimp only [pceArgs] at hy
      have hnb : ∀ b, (b = b1 ∨ b = b2) → ¬ S2 b := fun b hb h => by
        have h1 := (HA.out.own b h).2
        have h2 : b < W.heap.size := by rcases hb with hb | hb <;> rw [hb] <;> assumption
        rcases h1 with h1 | h1
        · omega
        · have := hSb.out b h1; rcases hb with hb | hb <;> omega
      have B1 := Lib.hid (HA.out.box1.touch ht24 (hnb _ (.inl rfl)))
      have B2 := Lib.hid (HA.out.box2.touch ht24 (hnb _ (.inr rfl)))
      have HS3T := Lib.hid (show ∀ k, S3 k → ¬ T k ∧ (W.heap.size ≤ k ∨ S k) from fun k hk => by
        rcases HS4.out k hk with h | h
        · exact HA.out.own k h
        · exact ⟨fun h' => by have := HA.out.lies k h'; omega, .inl (by omega)⟩)
      have FAR := Lib.hid HA.out.far
      have hw4l : ∀ k, S3 k → k < W4.heap.size := wbx_lies HW4.out
      have HTL := Lib.hid HA.out.lies
      have fin : ∀ (J' : List ByteArray → World → (Nat → Prop) → Prop) (W5 : World), LeftW W4 T (pceBlk ⟨O, co, W3.heap.size, pceAt x.rest M i⟩) J' ((pcesE x.rest M).take i ++ [pceAt x.rest M i]) W5 → ∃ T2, Lies W5 T2 ∧ J' ((pcesE x.rest M).take i ++ [pceAt x.rest M i]) W5 T2 ∧ WBx W5 p (x.drained M (i + 1)) S3 ∧ (∀ k, S3 k → ¬ T2 k ∧ (W.heap.size ≤ k ∨ S k)) ∧ W.heap.size ≤ W5.heap.size ∧
          StB W5 b1 27 #[.pointer (some p)] ∧ StB W5 b2 3 #[.int .i64 sz] ∧ ¬ T2 b1 ∧ ¬ T2 b2 := fun J' W5 hleft => by
        obtain ⟨T2, p1, p2, p3, p4⟩ := hleft
        have hno : ∀ k, S3 k → ¬ (T k ∨ pceBlk ⟨O, co, W3.heap.size, pceAt x.rest M i⟩ k) := fun k hk h => by
          rcases h with h | h
          · exact (HS3T.out k hk).1 h
          · exact HON.out k h hk
        have hbx : ∀ b, (b = b1 ∨ b = b2) → ¬ (T b ∨ pceBlk ⟨O, co, W3.heap.size, pceAt x.rest M i⟩ b) := fun b hb h => by
          have h2 : b < W.heap.size := by rcases hb with hb | hb <;> rw [hb] <;> assumption
          rcases h with h | h
          · rcases hb with hb | hb
            · exact FAR.out.1 (hb ▸ h)
            · exact FAR.out.2 (hb ▸ h)
          · have := (HNT.out b h).2.1; omega
        refine ⟨T2, p1, p4, wbx_keep HW4.out p3 hno, fun k hk => ⟨fun h => ?_, (HS3T.out k hk).2⟩, by have := p3.size; omega, B1.out.touch p3 (hbx _ (.inl rfl)), B2.out.touch p3 (hbx _ (.inr rfl)), fun h => ?_, fun h => ?_⟩
        · rcases p2 k h with h1 | h1
          · exact hno k hk h1
          · have := hw4l k hk; omega
        · rcases p2 b1 h with h1 | h1
          · exact hbx _ (.inl rfl) h1
          · omega
        · rcases p2 b2 h with h1 | h1
          · exact hbx _ (.inr rfl) h1
          · omega
      have HFIN := Lib.hid fin
      clear hj4 hpre hta hnT hnb fin hw4l ht24 hl4
      gi_wp2
      refine hRR.mono ?_
      rintro _ W5 (⟨rfl, hleft⟩ | ⟨rfl, hleft⟩)
      · obtain ⟨T2, q1, q2, q3, q4, q5, q6, q7, q8, q9⟩ := HFIN.out _ _ hleft
        have HA2 := Lib.hid (show DAt W S b1 b2 p sz x M J (i + 1) T2 S3 W5 from ⟨by rw [HTA.out]; exact q2, q1, q3, q4, q5, HI.out, q6, q7, q8, q9⟩)
        have hr2 : remN W5 p = x.S.size - (x.tk + min ((i + 1) * M) (x.S.size - x.tk)) := remN_is q3
        have HMEAS := Lib.hid (show remN W5 p < remN W2 p by
          rw [hr2, HRM.out, HRMD.out, Nat.add_mul, Nat.one_mul]
          have h1 := HLT.out
          rw [rest_size] at h1
          omega)
        clear hr2 q1 q2 q3 q4 q5 q6 q7 q8 q9 hleft
        gi_wp2
        go_roundw
        case rel => exact ⟨i + 1, T2, S3, HA2⟩
        case measure => exact HMEAS.out
      · obtain ⟨T2, q1, q2, q3, q4, q5, q6, q7, q8, q9⟩ := HFIN.out _ _ hleft
        have hlen : ((pcesE x.rest M).take i ++ [pceAt x.rest M i]).length = i + 1 := by
          rw [← HTA.out, List.length_take, pcesE_len]
          have := HI.out; omega
        have HEND := Lib.hid (show WBx W5 p (x.drained M ((pcesE x.rest M).take i ++ [pceAt x.rest M i]).length) S3 by rw [hlen]; exact q3)
        have HQ := Lib.hid (And.intro q1 (And.intro q2 q4))
        clear q1 q2 q3 q4 q5 q6 q7 q8 q9 hleft hlen
        gi_wp2
        refine bodyPost_ret (results_none rfl _ _ _) rfl ?_
        exact ⟨⟨_, rfl⟩, T2, S3, HQ.out.1, fun k hk => ⟨(HQ.out.2.2 k hk).1, (HQ.out.2.2 k hk).2.imp id .inl⟩, .inr ⟨_, HPRE.out, HQ.out.2.1, HEND.out⟩⟩
    · have hcond : ¬ ((rm : Int) > 0) := by omega
      have hiN : i = pceN x.rest M := by
        rcases Nat.lt_or_ge i (pceN x.rest M) with h2 | h2
        · have := pceN_lt hM1 h2
          rw [rest_size] at this
          omega
        · exact Nat.le_antisymm HA.out.le h2
      have hall : (pcesE x.rest M).take i = pcesE x.rest M := List.take_of_length_le (by rw [pcesE_len, hiN]; exact Nat.le_refl _)
      have HJE := Lib.hid (show J (pcesE x.rest M) W2 T by rw [← hall]; exact HA.out.j)
      have HWE := Lib.hid (show WBx W2 p (x.drained M (pcesE x.rest M).length) S2 by rw [pcesE_len, ← hiN]; exact HA.out.wb)
      clear hrm hiN hall
      gi_wp2
      refine ⟨trivial, callsIn_wide.2 (HRD.out.mono ?_)⟩
      rintro _ W3 ⟨rfl, hb3⟩
      have HB3 := Lib.hid hb3
      clear hb3 m1 m2 HRD
      gi_wp2
      go_end0
      exact ⟨⟨_, rfl⟩, T, S2, HA.out.lies.later HB3.out.size, fun k hk => ⟨(HA.out.own k hk).1, (HA.out.own k hk).2.imp id .inl⟩, .inl ⟨hJ _ _ _ _ (fun _ => False) HJE.out HA.out.lies (Touch.of_below HB3.out _) (fun _ h => h.elim), wbx_keep HWE.out (Touch.of_below HB3.out (fun _ => False)) (fun _ _ h => h)⟩⟩
end

set_option maxRecDepth 100000 in
theorem drain_says : DrainSays WBx := by
  intro x p S sz w hx hxs s0 s1 hw
  obtain ⟨W1, hW1⟩ : ∃ W1, W1 = (w.alloc (.cells #[.pointer (some p)] 27)).alloc (.cells #[.int .i64 sz] 3) := ⟨_, rfl⟩
  have HX := Lib.hid (show StB W1 w.heap.size 27 #[.pointer (some p)] by rw [hW1]; exact (StB.new _ _ _).alloc _)
  have HS := Lib.hid (show StB W1 (w.heap.size + 1) 3 #[.int .i64 sz] by rw [hW1]; exact StB.made _ (by simp) _ _)
  have HB := Lib.hid (show Below w.heap.size w W1 by rw [hW1]; exact up_alloc (up_alloc (Below.refl _ w) _) _)
  have HZ := Lib.hid (show W1.heap.size = w.heap.size + 2 by rw [hW1]; simp)
  have hne : ∀ w, (binOp .eql 55 (.func (.func 33) #[] #[.pointer (some ⟨w.heap.size, 0, none⟩), .pointer (some ⟨w.heap.size + 1, 0, none⟩)]) Value.nilFunc).run Tryd.prog w = .ok (.bool false) w := fun w => by kernel_rfl
  have HL := Lib.hid (wbx_lies hw.out)
  go_enter Tryd.func25, Tryd.ntmps25
  go_wp2_with fail
  rw [← hW1]
  clear hW1
  go_ret
  refine ⟨33, _, (fun k => k = w.heap.size ∨ k = w.heap.size + 1), rfl, Lib.hid (enters_of Tryd.func33 (by kernel_rfl) rfl), Lib.hid (fun w' => by kernel_rfl), HB, Lib.hid (fun k hk => ?_), Lib.hid (fun W2 hb2 => ?_)⟩
  · have := HZ.out
    rcases hk with hk | hk <;> omega
  · intro l J Jx hJ hJx hY T hj hT hK
    have h2 := hb2.size
    have h3 := HZ.out
    refine drain1_in (by omega) hx hxs s0 s1 rfl hJ hJx (Lib.hid hY) (Lib.hid (HX.out.below hb2)) (Lib.hid (HS.out.below hb2)) (Lib.hid (fun k hk => ?_)) (Lib.hid (wbx_keep hw.out (Touch.of_below (HB.out.trans (hb2.mono HB.out.size)) (fun _ => False)) (fun _ _ h => h))) (Lib.hid hj) (Lib.hid hT) (Lib.hid hK)
    have := HL.out k hk
    exact ⟨by omega, by omega, by omega⟩
end Go.Proofs.YtaoncnlhilpgfaaDoor

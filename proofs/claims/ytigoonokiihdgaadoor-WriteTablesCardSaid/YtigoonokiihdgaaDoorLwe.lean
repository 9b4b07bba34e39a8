/- Layer 10: the program's Size. -/
import Derived.Test.YtigoonokiihdgaaDoorLwd
namespace Go.Proofs.YtigoonokiihdgaaDoor
open Go.ChangeShapes Go.WideShapes Go.ChangeAt Go.RowKit
set_option linter.unusedVariables false
set_option linter.unusedSimpArgs false
attribute [local go_sem] Oper.semAt_some

/-- What holds in the loop: box sb has how many bytes all lines so far have; nothing else of W6 has turned. -/
def WsI (W6 : World) (sb : Nat) (d q e : Int) (t : List (List ByteArray)) (pre : List (Nat × ByteArray)) (W : World) (T : Nat → Prop) : Prop :=
  T sb ∧ (∀ k, T k → k = sb) ∧ Touch W6 W (fun k => k = sb) ∧ StB W sb 3 #[.int .i64 ((textN d q e t pre.length).length : Int)]
theorem wsI_ab (W6 : World) (sb : Nat) (d q e : Int) (t : List (List ByteArray)) (B : Nat) (hB : W6.heap.size ≤ B) : AbT B (WsI W6 sb d q e t) := fun s W1 W2 T S h hl ht hS => by
  obtain ⟨h1, h2, h3, h4⟩ := h
  refine ⟨h1, h2, ⟨ht.os.trans h3.os, ht.tape.trans h3.tape, ht.output.trans h3.output, Nat.le_trans h3.size ht.size, fun k hk hn => ?_⟩, h4.touch ht (fun hs => (hS _ hs).1 h1)⟩
  exact (ht.block k (Nat.lt_of_lt_of_le hk h3.size) (fun hs => by have := (hS k hs).2; omega)).trans (h3.block k hk hn)

set_option maxRecDepth 100000 in
set_option maxHeartbeats 1600000 in
theorem size_says : SizeSays10 := by
  intro d q e t A n c V w d0 d1 q0 q1 hn hf hb ht hok
  have HLN := Lib.hid ht.out.len
  have HF := Lib.hid (And.intro hf hb)
  obtain ⟨N, hN⟩ : ∃ N, tabN d q e t = N := ⟨_, rfl⟩
  have hZ : sizN d q e t = (textN d q e t N).length := by
    unfold sizN
    by_cases hR : rightB d q e = true
    · rw [if_pos hR]
      have : N = frontN t := by rw [← hN]; unfold tabN; rw [if_pos hR]
      rw [this]
    · rw [if_neg hR]
      have : N = 0 := by rw [← hN]; unfold tabN; rw [if_neg hR]
      rw [this]; rfl
  have HZ := Lib.hid hZ
  have HNN := Lib.hid (show N ≤ n by
    rw [← hN, ← HLN.out]; unfold tabN
    split
    · exact frontN_le t
    · omega)
  obtain ⟨h, hh⟩ : ∃ h, w.heap.size = h := ⟨_, rfl⟩
  obtain ⟨sb, hsb⟩ : ∃ sb, h + 1 = sb := ⟨_, rfl⟩
  obtain ⟨U, hU⟩ : ∃ U, U = (w.alloc (.cells #[.int .u8 d, .int .u8 q, .int .i64 e] 23)).alloc (.cells #[.int .i64 0] 3) := ⟨_, rfl⟩
  have HBU := Lib.hid (show Below w.heap.size w U by rw [hU]; exact up_alloc (up_alloc (Below.refl _ w) _) _)
  have HXU := Lib.hid (show StB U h 23 #[.int .u8 d, .int .u8 q, .int .i64 e] by rw [hU]; exact (StB.made _ hh.symm _ _).alloc _)
  have HSU := Lib.hid (show StB U sb 3 #[.int .i64 0] by rw [hU]; exact StB.made _ (by simp; omega) _ _)
  have HLS := Lib.hid (lines_says d q e t A n c V w U d0 d1 q0 q1 hn hf hb ht hok HBU)
  rw [hN] at HLS
  have HH := Lib.hid (And.intro hh hsb)
  have HUS := Lib.hid (show U.heap.size = h + 2 by rw [hU]; simp; omega)
  clear hZ hf hb hN hh hsb
  refine (callsIn_wide (n := 20)).1 ?_
  refine callsIn_of_wp_marks Tryd.func16 rfl trivial ?_ rfl
  simp only [Tryd.ntmps16, List.size_toArray, List.length_cons, List.length_nil, Nat.reduceAdd, Nat.reduceSub, Array.replicate_succ, Array.replicate_zero, List.push_toArray, List.append_toArray, List.nil_append, List.cons_append]
  refine wpIn_wide.2 ?_
  go_wp2_with fail
  rw [← hU, HH.out.1, HH.out.2]
  clear hU
  refine HLS.out.mono ?_
  rintro x U3 ⟨gf, lb, Kp, rfl, HEN, HNIL, HB3, HKP, HSEQ⟩
  have hnil := HNIL.out
  have HS3 := Lib.hid (HSU.out.below HB3.out)
  have HB6 := Lib.hid (HBU.out.trans (HB3.out.mono HBU.out.size))
  go_wp2_with fail
  have start : WsI U3 sb d q e t [] U3 (fun k => k = sb) := ⟨rfl, (fun k hk => hk), Touch.refl _ _, HS3.out⟩
  have lies : Lies U3 (fun k => k = sb) := fun k hk => by have : k = sb := hk; have := HS3.out.lt; omega
  have hkp : ∀ k, Kp k → ¬ (k = sb) ∧ k < U3.heap.size := fun k hk => by
    have h1 := HB3.out.size
    have h2 := HUS.out
    have h3 := HH.out
    rcases HKP.out k hk with h4 | ⟨h4, h5⟩ <;> omega
  refine (wpIn_wide (n := 20)).1 ?_
  refine wpIn_range_W rfl (by simp [Fence.wide]) (gf := gf) (lb := lb) rfl trivial HEN.out (encs := lnArgs) (gh := id) (hand := noHand) (blk := noBlk) (evs := linesE d q e t N) (Kp := Kp) (fun W1 hb => HSEQ.out W1 hb) noHand_keep (fun _ => rfl)
    (WsI U3 sb d q e t) WtX (wsI_ab _ _ _ _ _ _ _ (Nat.le_refl _)) (fun c => wtX_ab _ c) _ start lies hkp
    (fun y V => { tmps := #[.agg #[.int .u8 d, .int .u8 q, .int .i64 e], .slice A n c, .pointer (some ⟨h, 0, none⟩), undef, .int .i64 0, .pointer (some ⟨sb, 0, none⟩), undef, .string y.2, .agg #[.int .u8 d, .int .u8 q, .int .i64 e], .slice A n c, .func (.func gf) #[] lb, .int .i64 (y.1 : Int), .string y.2, undef, undef, undef, undef, undef], defers := [] }) (fun y V => V) (fun y V => Below.refl _ V) ?assign ?body ?done ?stop
  case assign =>
    rintro l ⟨i, s⟩ W K hK
    dsimp only [lnArgs] at hK ⊢
    gi_wp2
    exact hK
  case body =>
    rintro l pre ⟨i, s⟩ V2 W T ⟨hTs, hT, ht6, hS⟩ hlT hpre hhand hblk hge htouch hl
    obtain ⟨hlt, hx⟩ := linesE_at hpre
    simp only [id] at hx
    obtain ⟨p, hp⟩ : ∃ p, pre.length = p := ⟨_, rfl⟩
    rw [hp] at hlt hx hS
    obtain ⟨rfl, rfl⟩ := Prod.mk.inj hx
    obtain ⟨r, hr⟩ : ∃ r, t[i]? = some r := ⟨_, List.getElem?_eq_getElem (by have := HNN.out; have := HLN.out; omega)⟩
    have hgd : t.getD i [] = r := by rw [List.getD_eq_getElem?_getD, hr]; rfl
    rw [hgd]
    obtain ⟨O, hO⟩ : ∃ O, lineO d q e (decide (i = 0)) r = O := ⟨_, rfl⟩
    obtain ⟨L0, hL0⟩ : ∃ L0, (textN d q e t i).length = L0 := ⟨_, rfl⟩
    have hadd : (textN d q e t (i + 1)).length = L0 + O.size := by
      have h1 : textN d q e t (i + 1) = textN d q e t i ++ lineN d q e (decide (i = 0)) r := rowsL_at hr
      rw [h1, List.length_append, hL0, ← hO, ← bl_length, bl_lineO d0 d1 q0 q1]
    have hsz : L0 + O.size ≤ 10000 := by
      have h1 := rowsL_len d q e (t.take (i + 1)) true
      have h2 := fldN_take_le t (i + 1)
      have h3 := bytN_take_le t (i + 1)
      have h4 : (t.take (i + 1)).length ≤ t.length := by rw [List.length_take]; omega
      have h5 := HF.out
      have h6 := HLN.out
      rw [← hadd]
      unfold textN
      omega
    rw [hL0] at hS
    have HPL := Lib.hid (show (textN d q e t (pre ++ [id (i, O)]).length).length = L0 + O.size by rw [List.length_append, hp]; exact hadd)
    rw [hO]
    have k0 : W.cell? ⟨sb, 0, none⟩ = some (.int .i64 (L0 : Int)) := hS.cell 0
    have k1 := hS.lt
    have k2 := hS.free 0
    have TB := Lib.hid (show Touch W (W.setCell ⟨sb, 0, none⟩ (.int .i64 ((L0 : Int) + (O.size : Int)))) (fun k => T k ∨ noBlk (i, O) k) from
      (Touch.refl W _).then_set (p := ⟨sb, 0, none⟩) (.inl (.inl hTs)) _)
    have T6 := Lib.hid (show Touch U3 (W.setCell ⟨sb, 0, none⟩ (.int .i64 ((L0 : Int) + (O.size : Int)))) (fun k => k = sb) from
      ht6.trans (fun j hj => by
        rcases hj with hj | hj
        · exact .inl (hT j hj)
        · exact hj.elim) TB.out)
    have sS := Lib.hid (show StB (W.setCell ⟨sb, 0, none⟩ (.int .i64 ((L0 : Int) + (O.size : Int)))) sb 3 #[.int .i64 ((textN d q e t (pre ++ [id (i, O)]).length).length : Int)] by
      rw [HPL.out]; exact hS.set_ 0 _)
    have HFIN := Lib.hid (show LeftW W T (noBlk (i, O)) (WsI U3 sb d q e t) (pre ++ [id (i, O)]) (W.setCell ⟨sb, 0, none⟩ (.int .i64 ((L0 : Int) + (O.size : Int)))) from
      ⟨T, (hlT.later htouch.size).later TB.out.size, (fun j hj => .inl (.inl hj)), TB.out, hTs, hT, T6.out, sS.out⟩)
    clear hadd hO hL0 hgd hr hx hlt hp hS hT ht6 hTs hlT hpre hhand hblk hge htouch hl TB T6 sS HPL
    gi_wp2
    exact HFIN.out
  case done =>
    rintro D W T hD ⟨hTs, hT, ht6, hS⟩ hlT hTD hK
    rw [linesE_len] at hS
    have hDN : ¬ D = sb := fun e => hTD (e ▸ hTs)
    obtain ⟨L0, hL0⟩ : ∃ L0, (textN d q e t N).length = L0 := ⟨_, rfl⟩
    rw [hL0] at hS
    have HL0 := Lib.hid hL0
    have hbel := HB6.out.trans (ht6.below HB6.out.size (fun k hk => by have h1 : k = sb := hk; have := HH.out; omega))
    have hDw : w.heap.size ≤ D := by have := HB6.out.size; omega
    have HBF := Lib.hid (hbel.trans ((Touch.putObj W D (.deferred none)).below hbel.size (fun k hk => by have : k = D := hk; omega)))
    have k0 : W.cell? ⟨sb, 0, none⟩ = some (.int .i64 (L0 : Int)) := hS.cell 0
    have k1 := hS.lt
    clear hS hT ht6 hTs hlT hTD hL0 hbel hDw
    go_wp2_with fail
    refine ⟨by simp, .inl ⟨_, _, rfl, run_takeDeferred hK, ?_⟩⟩
    exact ⟨.int .i64 (L0 : Int), by simp [results, Tryd.results16, go_sem], by rw [HZ.out, HL0.out], HBF.out⟩
  case stop =>
    rintro D c pre W T hD hpre hx hlT hTD hK
    exact hx.elim
end Go.Proofs.YtigoonokiihdgaaDoor

/- Layer 12: the statements' fed: a reader that is fed a text in pieces, closed, and asked for all records. -/
import Derived.Test.YtoeanbfemgmgnaaGreatDoorTra
import Derived.Test.YtoeanbfemgmgnaaGreatDoorZc
import Derived.Test.YtoeanbfemgmgnaaGreatDoorZk
import Derived.Deep.CutBlock
namespace Go.Proofs.YtoeanbfemgmgnaaGreatDoor
open Go.ChangeShapes Go.WideShapes Go.ChangeAt Go.RowKit
set_option linter.unusedVariables false
set_option linter.unusedSimpArgs false

theorem infoRow12 : (Tryz.prog.info? 38).map (fun i => (i.zero, i.size, i.bytes)) = some (some (.slice none 0 0), 1, 24) := by kernel_rfl
/-- A reader that was fed x. -/
def RdS.at_ (d q e lf ls lr : Int) (un : Bool) (x : ByteArray) (cl : Bool) (h : Nat) : RdS := ⟨d, q, e, lf, ls, lr, un, x, cl, h⟩
theorem jn_take {X : List ByteArray} {k : Nat} {b : ByteArray} (h : X[k]? = some b) : jn (X.take k) ++ b = jn (X.take (k + 1)) := by
  rw [List.take_add_one, h]; exact (jn_snoc _ _).symm
def slLen : Value → Nat
  | .slice _ n _ => n
  | _ => 0

set_option maxRecDepth 100000 in
set_option maxHeartbeats 6400000 in
theorem fed_new {RZ : World → Addr → RdS → (Nat → Prop) → Prop} {kf : RdS → Int × Int} {cf of : RdS → Int} (H : Hid (PR RZ kf cf of)) (d q e lf ls lr : Int) (un : Bool) (s : ByteArray) (hok : Hid (RdS.at_ d q e lf ls lr un s true 0).Ok) (hs : s.size ≤ 2200) (ps : List Int) (P : Option Addr) (n c : Nat) (hn : n ≤ 100) (w : World) (hp : Hid (SlIn w P n (ps.map (Value.int .i64))))
    (rs : List (List ByteArray)) (K A : Int) (m : Nat) (hrs : Hid ((RdS.at_ d q e lf ls lr un s true 0).rs = rs)) (hK : Hid ((RdS.at_ d q e lf ls lr un s true 0).K = (K, A))) (hm : Hid (rs.length = m)) :
    Calls Tryz.prog 14 #[.agg #[.int .u8 d, .int .u8 q, .int .i64 e], .agg #[.int .i64 lf, .int .i64 ls, .int .i64 lr, .bool un], .string s, .slice P n c] w fun y w' =>
      ∃ C cc V, y = .returned (.tuple #[.slice C m cc, .agg #[.int .i64 K, .int .i64 A], .bool true]) ∧ Hid (TabAp w' C m V rs w.heap.size) ∧ Hid (Below w.heap.size w w') := by
  obtain ⟨i0, hi, hz0, hz1, hz2⟩ := info_parts infoRow12
  have Hi := Lib.hid hi
  have Hz0 := Lib.hid hz0
  have Hz1 := Lib.hid hz1
  have Hz2 := Lib.hid hz2
  clear hi hz0 hz1 hz2
  have HOK : ∀ x cl h, (RdS.at_ d q e lf ls lr un x cl h).Ok := fun x cl h => ⟨hok.out.d0, hok.out.d1, hok.out.q0, hok.out.q1, hok.out.right, hok.out.fits⟩
  have HOK2 := Lib.hid HOK
  have hmf : m ≤ 2300 := by have := hok.out.few; rw [hrs.out, hm.out] at this; have h2 : (RdS.at_ d q e lf ls lr un s true 0).x = s := rfl; rw [h2] at this; omega
  obtain ⟨W0, hW0⟩ : ∃ W0, W0 = ((w.alloc (.cells #[.int .u8 d, .int .u8 q, .int .i64 e] 23)).alloc (.cells #[.int .i64 lf, .int .i64 ls, .int .i64 lr, .bool un] 49)).alloc (.cells #[.int .i64 0, .int .i64 0] 45) := ⟨_, rfl⟩
  have HB0 := Lib.hid (show Below w.heap.size w W0 by rw [hW0]; exact up_alloc (up_alloc (up_alloc (Below.refl _ w) _) _) _)
  have hnew := H.out.new_yes d q e lf ls lr un W0 (HOK ⟨#[]⟩ false 0)
  obtain ⟨g0, hg0⟩ : ∃ g0, w.heap.size = g0 := ⟨_, rfl⟩
  have HRB := Lib.hid (show StB W0 (g0 + 1 + 1) 45 #[.int .i64 0, .int .i64 0] by rw [hW0]; exact StB.made _ (by simp; omega) _ _)
  obtain ⟨k0, k1, k2, k3⟩ : W0.cell? ⟨g0, 0, none⟩ = some (.int .u8 d) ∧ W0.cell? ⟨g0, 1, none⟩ = some (.int .u8 q) ∧ W0.cell? ⟨g0, 2, none⟩ = some (.int .i64 e) ∧ g0 < W0.heap.size := by
    have h : StB W0 g0 23 #[.int .u8 d, .int .u8 q, .int .i64 e] := by
      rw [hW0]; exact (StB.made w hg0.symm _ _).below (up_alloc (up_alloc (Below.refl _ _) _) _)
    exact ⟨h.cell 0, h.cell 1, h.cell 2, h.lt⟩
  obtain ⟨l0, l1, l2, l3, l4⟩ : W0.cell? ⟨g0 + 1, 0, none⟩ = some (.int .i64 lf) ∧ W0.cell? ⟨g0 + 1, 1, none⟩ = some (.int .i64 ls) ∧ W0.cell? ⟨g0 + 1, 2, none⟩ = some (.int .i64 lr) ∧ W0.cell? ⟨g0 + 1, 3, none⟩ = some (.bool un) ∧ g0 + 1 < W0.heap.size := by
    have h : StB W0 (g0 + 1) 49 #[.int .i64 lf, .int .i64 ls, .int .i64 lr, .bool un] := by
      rw [hW0]; exact (StB.made _ (by simp; omega) _ _).below (up_alloc (Below.refl _ _) _)
    exact ⟨h.cell 0, h.cell 1, h.cell 2, h.cell 3, h.lt⟩
  clear HOK
  go_enter Tryz.func14, Tryz.ntmps14
  go_upto_region 1 with fail
  rw [← hW0]
  clear hW0
  go_wp2_with (go_at_call 24; refine hnew.mono ?_; rintro y U3 ⟨p, S3, rfl, HW3, HS3, HB3⟩)
  have HPS := Lib.hid (hp.out.below (HB0.out.trans (HB3.out.mono HB0.out.size)))
  obtain ⟨rb, hrb⟩ : ∃ rb, g0 + 1 + 1 = rb := ⟨_, rfl⟩
  rw [hrb] at HRB
  refine (refBy_new s ps P n c (by omega) hn U3 HPS).mono ?_
  rintro y U4 ⟨X, O, co, rfl, HX, hXl, HO, HON, HB4⟩
  obtain ⟨M, hM⟩ : ∃ M, X.length = M := ⟨_, rfl⟩
  rw [hM] at HO hXl
  rw [hM]
  have HM := Lib.hid hM
  clear hM
  have HB34 := Lib.hid (HB3.out.trans (HB4.out.mono HB3.out.size))
  have HW4 := Lib.hid (H.out.below HW3.out HB4.out)
  have HOA := Lib.hid (show Apart U4 O S3 from fun k hk => ⟨fun hs3 => by have h1 := HON.out k hk; have h2 := H.out.lies HW3.out k hs3; omega, (HON.out k hk).2⟩)
  have hXm := hXl.out
  have HRBW := Lib.hid (show w.heap.size ≤ rb ∧ rb < W0.heap.size from ⟨by omega, HRB.out.lt⟩)
  rw [hrb]
  clear hnew hXl HB3 HB4 HW3 HON k0 k1 k2 k3 l0 l1 l2 l3 l4 hrb hg0
  go_wp2_with fail
  go_loopw [36] (fun i wr => ∃ (k : Nat) (S : Nat → Prop), k ≤ M ∧ i = .int .i64 k ∧ Hid (RZ wr p (RdS.at_ d q e lf ls lr un (jn (X.take k)) false 0) S) ∧ Hid (∀ j, S j → W0.heap.size ≤ j) ∧ Hid (SlIn wr O M (strs X)) ∧ Hid (Apart wr O S) ∧ Hid (Below W0.heap.size W0 wr)) (fun i _ => M - (intOf i).toNat)
  case atStart => exact ⟨0, S3, Nat.zero_le _, rfl, HW4, HS3, HO, HOA, HB34⟩
  case round =>
    obtain ⟨k, S, hk, rfl, HW, HS, HOw, HAp, HB⟩ := hrel
    obtain ⟨W, hW⟩ : ∃ W, W = wr := ⟨_, rfl⟩
    subst hW
    clear HW4 HS3 HO HOA HB34
    by_cases hlt : k < M
    · obtain ⟨b, hb⟩ : ∃ b, X[k]? = some b := ⟨_, List.getElem?_eq_getElem (by rw [HM.out]; exact hlt)⟩
      obtain ⟨a, rfl, hca⟩ := HOw.out.at_ (strs_get hb)
      have hjn := jn_take hb
      have hle := jn_take_le X (k + 1)
      rw [← hjn, ByteArray.size_append, HX.out.joined] at hle
      obtain ⟨cb, wb, hcv, hob, hbb⟩ := conv_bytes (P := Tryz.prog) W 9 42 5 b rfl rfl rfl (by unfold maxLen; omega)
      have hfeed := H.out.feed (RdS.at_ d q e lf ls lr un (jn (X.take k)) false 0) p S (some ⟨W.heap.size, 0, none⟩) b.size cb b wb (HOK2.out _ _ _) rfl (by show (jn (X.take k)).size + b.size ≤ 2500; omega) hob.2.1 (Lib.hid (H.out.below HW.out hbb)) (Lib.hid hob.toIn)
      have HBB := Lib.hid hbb
      have HJN := Lib.hid hjn
      clear hb hjn hle hob hbb
      go_wp2_with fail
      refine hfeed.mono ?_
      rintro y W1 ⟨rfl, S1, HW1, HT1, HS1⟩
      have HOwb := HOw.out.below HBB.out
      have HApb := HAp.out.size HBB.out.size
      have HBwb := Lib.hid (HB.out.trans (HBB.out.mono HB.out.size))
      have HO1 := Lib.hid (HOwb.touch HT1.out (fun j hj => (HApb j hj).1))
      have HA1 := Lib.hid (HApb.touch HT1.out HS1.out)
      have HB1 := Lib.hid (HBwb.out.trans (Touch.below HT1.out HBwb.out.size (fun j hj => HS.out j hj)))
      have HS11 := Lib.hid (show ∀ j, S1 j → W0.heap.size ≤ j from fun j hj => by
        rcases HS1.out j hj with h | h
        · exact HS.out j h
        · have := HBwb.out.size; omega)
      have HW2 := Lib.hid (show RZ W1 p (RdS.at_ d q e lf ls lr un (jn (X.take (k + 1))) false 0) S1 by rw [← HJN.out]; exact HW1.out)
      clear hfeed hcv hca HW1 HT1 HS1 HOwb HApb
      go_wp2_with fail
      go_roundw
      case rel => exact ⟨k + 1, S1, by omega, by go_num, HW2, HS11, HO1, HA1, HB1⟩
      case measure => simp [intOf]; omega
    · obtain rfl : k = M := by omega
      have hx : jn (X.take k) = s := by rw [List.take_of_length_le (by rw [HM.out]; exact Nat.le_refl _), HX.out.joined]
      rw [hx] at HW
      have hcl := H.out.close (RdS.at_ d q e lf ls lr un s false 0) p S W (HOK2.out _ _ _) rfl (by show s.size ≤ 2500; omega) HW
      have HRW := Lib.hid (HRB.out.below HB.out)
      have hrbl := HRB.out.lt
      clear hx hlt HOw HAp
      go_wp2_with fail
      refine hcl.mono ?_
      rintro y W1 ⟨rfl, S1, HW1, HT1, HS1⟩
      have hkf : kf (RdS.at_ d q e lf ls lr un s true 0) = (K, A) := (H.out.told _ (HOK2.out _ _ _) rfl).trans hK.out
      have hkf2 : fltV (kf (RdS.shut (RdS.at_ d q e lf ls lr un s false 0))) = .agg #[.int .i64 K, .int .i64 A] := by
        show fltV (kf (RdS.at_ d q e lf ls lr un s true 0)) = _
        rw [hkf]; rfl
      rw [hkf2]
      have HB1 := Lib.hid (HB.out.trans (Touch.below HT1.out HB.out.size (fun j hj => HS.out j hj)))
      have HS11 := Lib.hid (show ∀ j, S1 j → W0.heap.size ≤ j from fun j hj => by
        rcases HS1.out j hj with h | h
        · exact HS.out j h
        · have := HB.out.size; omega)
      have HW2 := Lib.hid (show RZ W1 p (RdS.at_ d q e lf ls lr un s true 0) S1 from HW1.out)
      have HR1 := Lib.hid (HRB.out.below HB1.out)
      clear hcl hkf hkf2 HW1 HT1 HS1 HRW HW HS HB
      go_wp2_with fail
      generalize hW5 : W1.alloc (.cells #[.int .i64 K, .int .i64 A] 45) = W2
      obtain ⟨fb, hfb⟩ : ∃ fb, W1.heap.size = fb := ⟨_, rfl⟩
      rw [hfb]
      have hb12 : Below W1.heap.size W1 W2 := by rw [← hW5]; exact up_alloc (Below.refl _ _) _
      have HF2 := Lib.hid (show StB W2 fb 45 #[.int .i64 K, .int .i64 A] by rw [← hW5]; exact StB.made _ hfb.symm _ _)
      have HNF := Lib.hid (show ¬ S1 fb from fun h => by have := H.out.lies HW2.out fb h; omega)
      have HB2 := Lib.hid (HB1.out.trans (hb12.mono HB1.out.size))
      have HW22 := Lib.hid (H.out.below HW2.out hb12)
      have hfb0 : W0.heap.size ≤ fb := by have := HB1.out.size; omega
      have hfb2 : fb < W2.heap.size := HF2.out.lt
      clear hW5 hfb hb12 HW2 HR1 HB1
      go_loopw [16] (fun s16 wr => ∃ (h cc : Nat) (C : Option Addr) (V : List Value) (S : Nat → Prop), h ≤ m ∧ s16 = .slice C h cc ∧ Hid (RZ wr p (RdS.at_ d q e lf ls lr un s true h) S) ∧ Hid (∀ j, S j → W0.heap.size ≤ j) ∧ Hid (¬ S fb) ∧ Hid (StB wr fb 45 #[.int .i64 K, .int .i64 A]) ∧
          Hid (SlOwn wr W2.heap.size 38 C h cc V) ∧ Hid (∀ k, blkOf C = some k → ¬ S k) ∧ Hid (RowsOut wr V (rs.take h) (Plus S C W0.heap.size)) ∧ Hid (Below W0.heap.size W0 wr) ∧ W2.heap.size ≤ wr.heap.size) (fun s16 _ => m - slLen s16)
      case atStart => exact ⟨0, 0, none, [], S1, Nat.zero_le _, rfl, HW22, HS11, HNF, HF2, Lib.hid (SlOwn.nothing _ _ _), Lib.hid (fun k hk => by cases hk), Lib.hid (RowsOut.none _ _), HB2, Nat.le_refl _⟩
      case round =>
        obtain ⟨h, cc, C, V, S, hh, rfl, HW, HS, HNS, HF, HC, HCS, HRO, HB, hz⟩ := hrel
        obtain ⟨W, hW⟩ : ∃ W, W = wr := ⟨_, rfl⟩
        subst hW
        clear HW22 HS11 HNF HF2 HB2
        by_cases hlt : h < m
        · obtain ⟨r, hr⟩ : ∃ r, rs[h]? = some r := ⟨_, List.getElem?_eq_getElem (by rw [hm.out]; exact hlt)⟩
          have hnx := H.out.next_yes (RdS.at_ d q e lf ls lr un s true h) p S r W (HOK2.out _ _ _) rfl (by show s.size ≤ 2500; omega) (by show (RdS.at_ d q e lf ls lr un s true 0).rs[h]? = some r; rw [hrs.out]; exact hr) HW
          have HR := Lib.hid hr
          obtain ⟨rl, hrl⟩ : ∃ rl, r.length = rl := ⟨_, rfl⟩
          rw [hrl] at hnx
          have HRL := Lib.hid hrl
          clear hr hrl
          go_wp2_with fail
          refine hnx.mono ?_
          rintro y W3 ⟨A3, c3, S3, rfl, HI3, HA3, HN3, HW3, HT3, HS3⟩
          have HCblk := Lib.hid (show ∀ k, blkOf C = some k → W2.heap.size ≤ k ∧ k < W.heap.size from HC.out.blk)
          have hsz3 := HT3.out.size
          have HC3 := Lib.hid (HC.out.touch HT3.out HCS.out)
          have HCS3 := Lib.hid (show ∀ k, blkOf C = some k → ¬ S3 k from fun k hk h3 => by
            rcases HS3.out k h3 with h4 | h4
            · exact HCS.out k hk h4
            · have := (HCblk.out k hk).2; omega)
          have hfbW : fb < W.heap.size := HF.out.lt
          have HNS3 := Lib.hid (show ¬ S3 fb from fun h3 => by
            rcases HS3.out fb h3 with h4 | h4
            · exact HNS.out h4
            · omega)
          have HF3 := Lib.hid (HF.out.touch HT3.out HNS.out)
          have HB3 := Lib.hid (HB.out.trans (Touch.below HT3.out HB.out.size (fun j hj => HS.out j hj)))
          have HS33 := Lib.hid (show ∀ j, S3 j → W0.heap.size ≤ j from fun j hj => by
            rcases HS3.out j hj with h4 | h4
            · exact HS.out j h4
            · have := HB.out.size; omega)
          have HAC := Lib.hid (show Apart W3 A3 (Plus S3 C W0.heap.size) from fun k hk => ⟨fun h4 => by
            rcases h4 with h4 | h4 | h4
            · exact (HA3.out k hk).1 h4
            · rcases HN3.out k hk with h5 | h5
              · exact HCS.out k h4 h5
              · have := (HCblk.out k h4).2; omega
            · rcases HN3.out k hk with h5 | h5
              · have := HS.out k h5; omega
              · have := HB.out.size; omega, (HA3.out k hk).2⟩)
          have HRO3 := Lib.hid (show RowsOut W3 (V ++ [.slice A3 rl c3]) (rs.take (h + 1)) (Plus S3 C W0.heap.size) by
            have h1 := (HRO.out.touch (HT3.out.mono (fun k hk => .inl hk)) (plus_sub (B := C) HS3.out)).snoc (a := c3) (x := r) (A := A3) (by rw [HRL.out]; exact HI3.out) HAC.out
            rw [HRL.out] at h1
            rw [List.take_add_one, HR.out]
            exact h1)
          obtain ⟨Wa, hWa⟩ : ∃ Wa, Wa = W3.alloc (.cells #[.slice A3 rl c3] 38) := ⟨_, rfl⟩
          have hba : Below W3.heap.size W3 Wa := by rw [hWa]; exact up_alloc (Below.refl _ _) _
          have HBa := Lib.hid hba
          have HCa := Lib.hid (show SlOwn (W3.alloc (.cells #[.slice A3 rl c3] 38)) W2.heap.size 38 C h cc V from HC3.out.below (by rw [← hWa]; exact hba))
          have HIa := Lib.hid (slIn_new1 W3 38 (.slice A3 rl c3))
          have HWa := Lib.hid (H.out.below HW3.out hba)
          have hWas : W2.heap.size ≤ (W3.alloc (.cells #[.slice A3 rl c3] 38)).heap.size := by rw [← hWa]; have := hba.size; omega
          have hh1 : h + 1 ≤ 2300 := by omega
          clear hnx HI3 HA3 HN3 HT3 HS3 HW3 HRO HB HF HNS HCS HC HW HS hba HAC HC3
          go_wp2_with (at_builtin; refine wpList_append_sl _ rfl (.tmp 56) (.tmp 58) 24 rfl 38 i0 _ 24 Tryz.underlying24 Hi.out Hz0.out Hz1.out Hz2.out rfl W2.heap.size C h cc V rfl HCa.out (some ⟨W3.heap.size, 0, none⟩) 1 1 [.slice A3 rl c3] rfl HIa.out (by intro v hv; simp at hv; subst hv; rfl) (by unfold maxLen; omega) (by omega) hWas ?_; intro C' cc' w' hown hgrow hat)
          rw [← hWa] at hgrow hat
          have HRa := Lib.hid (show RowsOut Wa (V ++ [.slice A3 rl c3]) (rs.take (h + 1)) (Plus S3 C W0.heap.size) from HRO3.out.touch (Touch.of_below HBa.out _) (Sub.refl _ _))
          have HRw := Lib.hid (HRa.out.grown hgrow hat)
          have HWw := Lib.hid (H.out.keep HWa.out (Touch.of_grown (S := fun k => blkOf C = some k) hgrow (fun k hk => hk)) (fun k hk hc => HCS3.out k hc hk))
          have HFa := Lib.hid ((HF3.out.below HBa.out).grown hgrow (fun e => by have := (HCblk.out fb e.symm).1; omega))
          have HBw := Lib.hid ((HB3.out.trans (HBa.out.mono HB3.out.size)).grown hgrow (Nat.le_trans HB3.out.size HBa.out.size) (fun k hk => by have := (HCblk.out k hk).1; omega))
          have HCS' := Lib.hid (show ∀ k, blkOf C' = some k → ¬ S3 k from fun k hk h3 => by
            rcases hat with rfl | rfl
            · exact HCS3.out k hk h3
            · have h4 := H.out.lies HWa.out k h3
              simp [blkOf] at hk
              omega)
          have hzw : W2.heap.size ≤ w'.heap.size := by have := hgrow.size; have := HBa.out.size; omega
          have HOw := Lib.hid hown
          clear hown hgrow hat hWa HRa HWa HCa HIa hWas
          go_wp2_with fail
          go_roundw
          case rel => exact ⟨h + 1, cc', C', V ++ [.slice A3 rl c3], S3, by omega, rfl, HWw, HS33, HNS3, HFa, HOw, HCS', HRw, HBw, hzw⟩
          case measure => simp [slLen]; omega
        · obtain rfl : h = m := by omega
          have hnx := H.out.next_no (RdS.at_ d q e lf ls lr un s true h) p S W (HOK2.out _ _ _) rfl (by show s.size ≤ 2500; omega) (by show (RdS.at_ d q e lf ls lr un s true 0).rs.length ≤ h; rw [hrs.out, hm.out]; exact Nat.le_refl _) HW
          clear hlt
          go_wp2_with fail
          refine hnx.mono ?_
          rintro y W3 ⟨S3, rfl, HW3, HT3, HS3⟩
          have HF3 := Lib.hid (HF.out.touch HT3.out HNS.out)
          have HB3 := Lib.hid (HB.out.trans (Touch.below HT3.out HB.out.size (fun j hj => HS.out j hj)))
          have HRB3 := Lib.hid (HRB.out.below HB3.out)
          have HC3 := Lib.hid (HC.out.touch HT3.out HCS.out)
          have HRO3 := Lib.hid (HRO.out.touch (HT3.out.mono (fun k hk => .inl hk)) (plus_sub (B := C) HS3.out))
          obtain ⟨r0, r1, r2⟩ : W3.cell? ⟨rb, 0, none⟩ = some (.int .i64 0) ∧ W3.cell? ⟨rb, 1, none⟩ = some (.int .i64 0) ∧ rb < W3.heap.size := ⟨HRB3.out.cell 0, HRB3.out.cell 1, HRB3.out.lt⟩
          have r3 := HRB3.out.free 0
          have r4 := HRB3.out.free 1
          obtain ⟨f0, f1, f2⟩ : W3.cell? ⟨fb, 0, none⟩ = some (.int .i64 K) ∧ W3.cell? ⟨fb, 1, none⟩ = some (.int .i64 A) ∧ fb < W3.heap.size := ⟨HF3.out.cell 0, HF3.out.cell 1, HF3.out.lt⟩
          have hne : ¬ fb = rb := by omega
          have hne2 : ¬ rb = fb := by omega
          have hmx : Tryz.prog.follows .mixedOrders = true := by kernel_rfl
          clear hnx HW3 HT3 HS3 HRO HB HF HNS HCS HC HW HS
          go_wp2_with fail
          go_region
          all_goals
            go_wp2_with fail
            obtain ⟨Wf, hWf⟩ : ∃ Wf, Wf = ((W3.setCell ⟨rb, 0, none⟩ (.int .i64 K)).setCell ⟨rb, 1, none⟩ (.int .i64 A)).drew := ⟨_, rfl⟩
            rw [← hWf]
            have hsf : StB Wf rb 45 #[.int .i64 K, .int .i64 A] := by rw [hWf]; exact ((HRB3.out.set_ 0 (.int .i64 K)).set_ 1 (.int .i64 A)).drew
            have htf : Touch W3 Wf (fun k => k = rb) := by rw [hWf]; exact (((Touch.refl W3 (fun k => k = rb)).then_set (.inl rfl) _).then_set (.inl rfl) _).then_drew
            have hbf : Below w.heap.size w Wf := by rw [hWf]; exact (((HB0.out.trans (HB3.out.mono HB0.out.size)).setCell (p := ⟨rb, 0, none⟩) HRBW.out.1 _).setCell (p := ⟨rb, 1, none⟩) HRBW.out.1 _).drew
            have hrof := HRO3.out.touch (htf.mono (S' := Plus S3 C W0.heap.size) (fun k hk => .inr (.inr (by rw [hk]; exact HRBW.out.2)))) (Sub.refl _ _)
            have hcf := HC3.out.touch htf (fun k hk e => by have := (HC3.out.blk k hk).1; have := HRBW.out.2; omega)
            have y0 := hsf.cell 0
            have y1 := hsf.cell 1
            refine bodyPost_ret (v := .tuple #[.slice C h cc, .agg #[.int .i64 K, .int .i64 A], .bool true]) (by simp [results, Tryz.results14, go_sem, y0, y1]) rfl ⟨C, cc, V, rfl, Lib.hid ⟨hcf.toIn, fun k hk => ⟨by have := (hcf.blk k hk).1; have := HB0.out.size; have := HRBW.out.2; omega, (hcf.blk k hk).2⟩, ?_⟩, Lib.hid hbf⟩
            rw [List.take_of_length_le (by rw [hm.out]; exact Nat.le_refl _)] at hrof
            refine ⟨hrof.1, fun j x hx => ?_⟩
            obtain ⟨A2, a2, e1, e2, e3⟩ := hrof.2 j x hx
            exact ⟨A2, a2, e1, e2, e3.weak (fun k hk => .inr (.inr (Nat.lt_of_lt_of_le hk HB0.out.size)))⟩
theorem fed_any {RZ : World → Addr → RdS → (Nat → Prop) → Prop} {kf : RdS → Int × Int} {cf of : RdS → Int} (H : Hid (PR RZ kf cf of)) (d q e lf ls lr : Int) (un : Bool) (s : ByteArray) (hok : Hid (RdS.at_ d q e lf ls lr un s true 0).Ok) (hs : s.size ≤ 2200) (ps : List Int) (P : Option Addr) (n c : Nat) (hn : n ≤ 100) (w : World) (hp : Hid (SlIn w P n (ps.map (Value.int .i64))))
    (rs : List (List ByteArray)) (K A : Int) (m : Nat) (hrs : Hid ((RdS.at_ d q e lf ls lr un s true 0).rs = rs)) (hK : Hid ((RdS.at_ d q e lf ls lr un s true 0).K = (K, A))) (hm : Hid (rs.length = m)) :
    Calls Tryz.prog 14 #[.agg #[.int .u8 d, .int .u8 q, .int .i64 e], .agg #[.int .i64 lf, .int .i64 ls, .int .i64 lr, .bool un], .string s, .slice P n c] w fun y w' =>
      ∃ C cc V, y = .returned (.tuple #[.slice C m cc, .agg #[.int .i64 K, .int .i64 A], .bool true]) ∧ Hid (TabIn w' C m V rs) ∧ Hid (Below w.heap.size w w') :=
  (fed_new H d q e lf ls lr un s hok hs ps P n c hn w hp rs K A m hrs hK hm).mono fun y w' ⟨C, cc, V, h1, h2, h3⟩ => ⟨C, cc, V, h1, Lib.hid h2.out.toIn, h3⟩
end Go.Proofs.YtoeanbfemgmgnaaGreatDoor

/- Layer 11: the walk of PiecesOwn. -/
import Derived.Test.YtaoncnlhilpgfaaDoorWrb
import Derived.Test.YtaoncnlhilpgfaaDoorWra
import Derived.Test.YtaoncnlhilpgfaaDoorQrl
import Derived.Test.YtaoncnlhilpgfaaDoorZk
import Derived.Test.YtaoncnlhilpgfaaDoorNda
namespace Go.Proofs.YtaoncnlhilpgfaaDoor
open Go.ChangeShapes Go.WideShapes Go.ChangeAt Go.RowKit
set_option linter.unusedVariables false
set_option linter.unusedSimpArgs false

def AwakeSays11 : Prop := ∀ w : World, Calls Tryd.prog 8 #[] w fun x w' => x = .returned (.bool true) ∧ Below w.heap.size w w'
theorem infoStr11 : (Tryd.prog.info? 9).map (fun i => (i.zero, i.size, i.bytes)) = some (some (.string ⟨#[]⟩), 1, 16) := by kernel_rfl

set_option maxRecDepth 100000 in
set_option maxHeartbeats 6400000 in
theorem piecesOwn_walk {WB : World → Addr → Wr1 → (Nat → Prop) → Prop} (H : Hid (PW WB)) (hAw : Hid AwakeSays11) (d q e : Int) (A : Option Addr) (n c : Nat) (l : List ByteArray) (x : Int) (w : World) (hd : (Lit.int .u8 d).wf = true) (hq : (Lit.int .u8 q).wf = true) (_ : (Lit.int .i64 e).wf = true) (hnc : n ≤ c) (hcm : c ≤ maxLen) (hin : SlIn w A n (strs l)) (hok : ∀ x ∈ l, x.size ≤ 140737488351232) (hx : (Lit.int .u8 x).wf = true) :
    Calls Tryd.prog 6 #[.agg #[.int .u8 d, .int .u8 q, .int .i64 e], .slice A n c, .int .u8 x] w fun x w' => x = .returned (.bool true) ∧ Below w.heap.size w w' := by
  obtain ⟨d0, d1⟩ := bounds_u8 hd
  obtain ⟨q0, q1⟩ := bounds_u8 hq
  obtain ⟨x0, x1⟩ := bounds_u8 hx
  have HAW := Lib.hid (show ∀ w : World, Calls Tryd.prog 8 #[] w fun x w' => x = .returned (.bool true) ∧ Below w.heap.size w w' from fun w => hAw.out w)
  have HLN := Lib.hid hin.lenS
  have hnm : n ≤ maxLen := by omega
  have hn9 : n ≤ 9223372036854775807 := by unfold maxLen at hnm; omega
  obtain ⟨v, hv⟩ : ∃ v, rightB d q e = v := ⟨_, rfl⟩
  have HR := Lib.hid (show rightR d q e = v by rw [right_eq d q e d0 q0]; exact hv)
  obtain ⟨u, hu⟩ : ∃ u, greatB 1 20 400 [l] = u := ⟨_, rfl⟩
  have HI := Lib.hid hin
  have HK := Lib.hid hok
  obtain ⟨h, hh⟩ : ∃ h, w.heap.size = h := ⟨_, rfl⟩
  have HH := Lib.hid hh
  obtain ⟨U, hU⟩ : ∃ U, U = (w.alloc (.cells #[.int .u8 d, .int .u8 q, .int .i64 e] 23)).alloc (.cells #[.slice A n c] 38) := ⟨_, rfl⟩
  have HBU := Lib.hid (show Below w.heap.size w U by rw [hU]; exact up_alloc (up_alloc (Below.refl _ w) _) _)
  have hcU : U.cell? ⟨h + 1, 0, none⟩ = some (.slice A n c) := by rw [hU]; exact stb_one (h := 0) (by simp; omega) _ _
  have HXU := Lib.hid (show StB U h 23 #[.int .u8 d, .int .u8 q, .int .i64 e] by rw [hU]; exact (StB.made _ hh.symm _ _).alloc _)
  have HG := Lib.hid (show Calls Tryd.prog 21 #[.slice (some ⟨h + 1, 0, none⟩) 1 1, .int .i64 1, .int .i64 20, .int .i64 400] U fun x w' => x = .returned (.bool u) ∧ Below U.heap.size U w' from
    great_is (some ⟨h + 1, 0, none⟩) 1 1 [.slice A n c] [l] 1 20 400 (by omega) (by omega) (by omega) u (Lib.hid hu) U (Lib.hid (TabIn.one (HI.out.below HBU.out) HLN.out hcU)) (Lib.hid (sizes_one (by rw [HLN.out]; exact hnm) hok)) (by omega))
  obtain ⟨M, hM⟩ : ∃ M, mayN l = M := ⟨_, rfl⟩
  have HM := Lib.hid hM
  have hmay := Lib.hid (fun (W : World) (hb : Below w.heap.size w W) => may_is A n c l hn9 M HM W (Lib.hid (HI.out.below hb)) HK)
  by_cases hgo : u = false ∧ v = true ∧ M = 0
  · obtain ⟨rfl, rfl, rfl⟩ := hgo
    have h20 : n ≤ 20 ∧ lenL l ≤ 400 := by
      rw [great_one] at hu
      simp only [Bool.or_eq_false_iff, decide_eq_false_iff_not] at hu
      have := HLN.out
      omega
    have hn20 := h20.1
    have HSM := Lib.hid h20.2
    have HV := Lib.hid hv
    have hnew := Lib.hid (fun (W : World) => H.out.new_yes d q e W d0 d1 q0 q1 hv)
    have hok0 := new_ok (e := e) d0 d1 q0 q1
    have hp1 := put_one (d := d) (q := q) (e := e) hM
    obtain ⟨T, hT⟩ : ∃ T, lineO d q e true l = T := ⟨_, rfl⟩
    rw [hT] at hp1
    have HTB := Lib.hid (show bl T = lineN d q e true l by rw [← hT]; exact bl_lineO d0 d1 q0 q1 e _ l)
    have hTs : T.size ≤ 10000 := by
      have := lineN_len d q e true l
      rw [← HTB.out, bl_length] at this; have := HLN.out; omega
    have HP1 := Lib.hid hp1
    obtain ⟨i0, hi, hz0, hz1, hz2⟩ := info_parts infoStr11
    have Hi := Lib.hid hi
    have Hz0 := Lib.hid hz0
    have Hz1 := Lib.hid hz1
    have Hz2 := Lib.hid hz2
    clear hu hv hM hp1 hT h20 hi hz0 hz1 hz2 hin hok hd hq hx hcU
    go_enter Tryd.func6, Tryd.ntmps6
    go_wp2_with fail
    rw [← hU]
    clear hU hh
    refine HG.out.mono ?_
    rintro y U1 ⟨rfl, hb1⟩
    obtain ⟨k0, k1, k2, k3⟩ := dia3' (HXU.out.below hb1)
    have HX1 := Lib.hid (HXU.out.below hb1)
    have HB1 := Lib.hid (HBU.out.trans (hb1.mono HBU.out.size))
    have hm1 := fun (y : Above U1) => hmay.out (onto U1 y) (HB1.out.trans ((onto_below U1 y).mono HB1.out.size))
    clear hb1
    go_wp2_with (first
      | (go_at_call 11; with_reducible refine (above (ref_any d q e d0 d1 q0 q1 _)).mono ?_; rintro x _ ⟨rfl, y1, rfl⟩)
      | (go_at_call 10; with_reducible refine (above (refRight_is d q e _ HR _)).mono ?_; rintro x _ ⟨rfl, y2, rfl⟩)
      | (go_at_call 22; with_reducible refine (above (hm1 _)).mono ?_; rintro x _ ⟨rfl, y3, rfl⟩))
    obtain ⟨U2, hU2⟩ : ∃ U2, U2 = onto U1 ((y1.up y2).up y3) := ⟨_, rfl⟩
    have HB2 := Lib.hid (show Below w.heap.size w U2 by rw [hU2]; exact up_onto' HB1.out _)
    have HX2 := Lib.hid (show StB U2 h 23 #[.int .u8 d, .int .u8 q, .int .i64 e] by rw [hU2]; exact HX1.out.below (onto_below U1 _))
    rw [← hU2]
    clear hU2 k0 k1 k2 k3 hm1
    refine (hnew.out U2).mono ?_
    rintro y U3 ⟨p, S3, rfl, HW3, HS3, hb23⟩
    have HB3 := Lib.hid (HB2.out.trans (hb23.out.mono HB2.out.size))
    have HX3 := Lib.hid (HX2.out.below hb23.out)
    have HL3 := Lib.hid (H.out.lies HW3.out)
    have HI3 := Lib.hid (HI.out.below HB3.out)
    have HU23 := Lib.hid hb23.out.size
    clear hb23
    go_wp2_with (at_builtin; refine wpList_append_sl _ rfl (.tmp 40) (.tmp 41) 38 rfl 9 i0 (.string ⟨#[]⟩) 16 Tryd.underlying38 Hi.out Hz0.out Hz1.out Hz2.out rfl U3.heap.size (some ⟨U3.heap.size, 0, none⟩) 0 0 [] rfl (SlOwn.made U3 U3.heap.size (Nat.le_refl _) 9 [] (Nat.zero_le _)) A n c (strs l) rfl (HI3.out.alloc _) strs_one (by unfold maxLen; omega) (by omega) (by simp) ?_; intro A' c' w1 hown hgrow hat)
    rw [Nat.zero_add, List.nil_append] at hown
    have HOWN := Lib.hid hown
    have hb31 : Below U3.heap.size U3 w1 := ((Below.refl _ U3).alloc (Nat.le_refl _) _).grown hgrow (by simp) (fun k hk => by simp [blkOf] at hk; omega)
    have HB31 := Lib.hid hb31
    have HBW1 := Lib.hid (HB3.out.trans (hb31.mono HB3.out.size))
    have HW1 := Lib.hid (H.out.below HW3.out hb31)
    have HX1' := Lib.hid (HX3.out.below hb31)
    have HABK := Lib.hid (show ∀ k, blkOf A' = some k → U3.heap.size ≤ k ∧ k < w1.heap.size from fun k hk => hown.blk k hk)
    clear hown hgrow hat hb31 HX3
    refine (H.out.put (Wr1.new d q e) p S3 A' n c' l w1 hok0 (by show (0 : Nat) ≤ _; omega) (by show (0 : Nat) ≤ _; omega) (by omega) (by have := HSM.out; omega) HW1 (Lib.hid HOWN.out.toIn)).mono ?_
    rintro y w2 ⟨rfl, S4, HW2, HT2, HS4⟩
    rw [HP1.out.2] at HW2
    have HBW2 := Lib.hid (show Below w.heap.size w w2 from HBW1.out.trans (HT2.out.below HBW1.out.size (fun k hk => by have := HS3.out k hk; have := HB2.out.size; omega)))
    have HOWN2 := Lib.hid (HOWN.out.touch HT2.out (fun k hk hs => by have := (HABK.out k hk).1; have := HL3.out k hs; omega))
    have HX2' := Lib.hid (show StB w2 h 23 #[.int .u8 d, .int .u8 q, .int .i64 e] from HX1'.out.touch HT2.out (fun hs => by have := HS3.out h hs; have := HX2.out.lt; omega))
    have HAS4 := Lib.hid (show ∀ k, blkOf A' = some k → ¬ S4 k from fun k hk hs => by
      have h1 := HABK.out k hk
      rcases HS4.out k hs with h2 | h2
      · have := HL3.out k h2; omega
      · omega)
    have HZ2 := Lib.hid HT2.out.size
    have HABW := Lib.hid (show h < w1.heap.size from HX1'.out.lt)
    clear HOWN HW1 HX1'
    go_wp2_with fail
    go_loopw [48, 10] (fun i i2 wr => ∃ (k : Nat) (L : List Value), k ≤ n ∧ i = .int .i64 k ∧ Hid (SlOwn wr U3.heap.size 9 A' n c' L) ∧ Hid (Touch w2 wr (fun k => blkOf A' = some k))) (fun i _ _ => n - (intOf i).toNat)
    case atStart => exact ⟨0, _, Nat.zero_le _, rfl, HOWN2, Lib.hid (Touch.refl _ _)⟩
    case round =>
      obtain ⟨k, L, hk, rfl, HO, HT⟩ := hrel
      obtain ⟨W, hW⟩ : ∃ W, W = wr := ⟨_, rfl⟩
      subst hW
      by_cases hlt : k < n
      · obtain ⟨g, u, rfl, hgb, hgs, hxu, hcu, hfu⟩ := HO.out.cellAt hlt
        have HST := Lib.hid (HO.out.store k (.string ⟨#[115, 112, 111, 105, 108, 116]⟩) hlt)
        have HTS := Lib.hid (HT.out.then_set (p := ⟨g, k, none⟩) (.inl rfl) (.string ⟨#[115, 112, 111, 105, 108, 116]⟩))
        clear hxu
        go_wp2_with fail
        go_roundw
        case rel => exact ⟨k + 1, _, by omega, by go_num, HST, HTS⟩
        case measure => simp [intOf]; omega
      · obtain rfl : k = n := by omega
        have HW5 := Lib.hid (H.out.keep HW2.out HT.out (fun j hs hA => HAS4.out j hA hs))
        have HX5 := Lib.hid (show StB W h 23 #[.int .u8 d, .int .u8 q, .int .i64 e] from HX2'.out.touch HT.out (fun hA => by have := (HABK.out h hA).1; have := HX2.out.lt; have := HB3.out.size; have := HL3; have hz := (HABK.out h hA).1; have := HX2.out.lt; exact absurd hz (by have := HU23.out; omega)))
        have HBW5 := Lib.hid (HBW2.out.trans (HT.out.below HBW2.out.size (fun j hA => by have := (HABK.out j hA).1; have := HB3.out.size; omega)))
        have HL5 := Lib.hid (H.out.lies HW5.out)
        clear hlt HO
        go_wp2_with fail
        obtain ⟨X1, hX1⟩ : ∃ X1, X1 = Wr1.mk d q e T 0 1 false := ⟨_, rfl⟩
        have hX1S : X1.S = T := by rw [hX1]
        have hX1k : X1.tk = 0 := by rw [hX1]
        have hok1 : X1.Ok := by rw [hX1]; exact ⟨d0, d1, q0, q1, Nat.zero_le _⟩
        rw [← hX1] at HW5
        obtain ⟨G, hG⟩ : ∃ G, X1.got x = G := ⟨_, rfl⟩
        have HOK1 := Lib.hid hok1
        have HALL := Lib.hid (show G ++ (X1.take x).got 1048576 = T by rw [← hG, got_append X1 x 1048576 hok1 hX1k (by rw [hX1S]; omega), hX1S])
        have HOK2 := Lib.hid (hok1.take x)
        have HX2S := Lib.hid (show (X1.take x).S = T from hX1S)
        have htake := H.out.take X1 p S4 x W hok1 (by rw [hX1S]; omega) (by omega) (by omega) HW5
        rw [hG] at htake
        have HGG := Lib.hid hG
        clear hX1 hX1S hX1k hok1 hG
        refine htake.mono ?_
        rintro y w6 ⟨O, m, c2, S6, rfl, hm, HO6, HOS6, HW6, HT6, HS6⟩
        have hm9 : m ≤ 10000 := by
          have h1 := HALL.out
          have : (G ++ (X1.take x).got 1048576).size = T.size := by rw [h1]
          rw [ByteArray.size_append] at this; omega
        clear hm
        have hcv : (convert 43 9 (.slice O m c2)).run Tryd.prog w6 = .ok (.string G) w6 := by
          rw [conv_text c2 Tryd.underlying43 Tryd.underlying5 Tryd.underlying9 HO6.out.toIn, toBA_bl]
        have HBW6 := Lib.hid (show Below w.heap.size w w6 from HBW5.out.trans (HT6.out.below HBW5.out.size (fun k hk => by
          rcases HS4.out k hk with h2 | h2
          · have := HS3.out k h2; have := HB2.out.size; omega
          · have := HBW1.out.size; omega)))
        have HX6 := Lib.hid (show StB w6 h 23 #[.int .u8 d, .int .u8 q, .int .i64 e] from HX5.out.touch HT6.out (fun hs => by
          have := HX2.out.lt
          rcases HS4.out h hs with h2 | h2
          · have := HS3.out h h2; omega
          · have := HABW.out; omega))
        have HOB := Lib.hid (show ∀ k, blkOf O = some k → W.heap.size ≤ k ∧ k < w6.heap.size from fun k hk => HO6.out.blk k hk)
        have HWZ := Lib.hid (show w.heap.size ≤ W.heap.size from HBW5.out.size)
        have HXW := Lib.hid HX5.out.lt
        clear htake
        go_wp2_with fail
        clear hcv
        go_loopw [63, 13] (fun i i2 wr => ∃ (k : Nat) (ys : List Int), k ≤ m ∧ i = .int .i64 k ∧ Hid (SlOwn wr W.heap.size 5 O m c2 (u8s ys)) ∧ Hid (Touch w6 wr (fun k => blkOf O = some k))) (fun i _ _ => m - (intOf i).toNat)
        case atStart => exact ⟨0, _, Nat.zero_le _, rfl, HO6, Lib.hid (Touch.refl _ _)⟩
        case round =>
          obtain ⟨k2, ys, hk2, rfl, HO, HT7⟩ := hrel
          obtain ⟨W7, hW7⟩ : ∃ W7, W7 = wr := ⟨_, rfl⟩
          subst hW7
          by_cases hlt : k2 < m
          · obtain ⟨g, u, rfl, hgb, hgs, hxu, hcu, hfu⟩ := HO.out.cellAt hlt
            obtain ⟨yv, hyv, rfl⟩ := u8s_get_inv hxu
            obtain ⟨z, hz⟩ : ∃ z, bits BinOp.xor IntKind.u8 yv 255 = z := ⟨_, rfl⟩
            have HST := Lib.hid (show SlOwn (W7.setCell ⟨g, k2, none⟩ (.int .u8 z)) W.heap.size 5 (some ⟨g, 0, none⟩) m c2 (u8s (ys.set k2 z)) by
              have := HO.out.store k2 (.int .u8 z) hlt
              rw [show (u8s ys).set k2 (.int .u8 z) = u8s (ys.set k2 z) by unfold u8s; rw [List.map_set]] at this
              exact this)
            have HTS := Lib.hid (HT7.out.then_set (p := ⟨g, k2, none⟩) (.inl rfl) (.int .u8 z))
            clear hxu hyv
            go_wp2_with fail
            go_roundw
            case rel => exact ⟨k2 + 1, _, by omega, by go_num, HST, HTS⟩
            case measure => simp [intOf]; omega
          · obtain rfl : k2 = m := by omega
            have HW7 := Lib.hid (H.out.keep HW6.out HT7.out (fun j hs hA => HOS6.out j hA hs))
            have HX7 := Lib.hid (show StB W7 h 23 #[.int .u8 d, .int .u8 q, .int .i64 e] from HX6.out.touch HT7.out (fun hA => by have := (HOB.out h hA).1; have := HXW.out; omega))
            have HBW7 := Lib.hid (HBW6.out.trans (HT7.out.below HBW6.out.size (fun j hA => by have := (HOB.out j hA).1; have := HWZ.out; omega)))
            clear hlt HO
            go_wp2_with fail
            refine region_W 5 (fun w' => StB w' h 23 #[.int .u8 d, .int .u8 q, .int .i64 e]) (by kernel_rfl) ?_
            have hC0 : StB W7.drew h 23 #[.int .u8 d, .int .u8 q, .int .i64 e] := HX7.out.drew
            refine takeC (i := 0) (v := .string G) rfl (by kernel_rfl) (by kernel_rfl) (by kernel_rfl) (by kernel_rfl) (fun _ _ _ h => h) hC0 (.inl ⟨by rfl, fun w hw => by go_simp⟩) ?_
            refine takeC (i := 1) (v := .pointer (some p)) rfl (by kernel_rfl) (by kernel_rfl) (by kernel_rfl) (by kernel_rfl) (fun _ _ _ h => h) hC0 (.inl ⟨by rfl, fun w hw => by go_simp⟩) ?_
            refine takeC (i := 5) (v := .agg #[.int .u8 d, .int .u8 q, .int .i64 e]) rfl (by kernel_rfl) (by kernel_rfl) (by kernel_rfl) (by kernel_rfl) (fun _ _ _ h => h) hC0 (.inl ⟨by rfl, fun w hw => by obtain ⟨k0, k1, k2, k3⟩ := dia3' hw; go_simp⟩) ?_
            refine takeC (i := 7) (v := .slice A k c) rfl (by kernel_rfl) (by kernel_rfl) (by kernel_rfl) (by kernel_rfl) (fun _ _ _ h => h) hC0 (.inl ⟨by rfl, fun w hw => by go_simp⟩) ?_
            refine onlyC (i := 2) (by kernel_rfl) rfl (by kernel_rfl) (fun K hK => ?_)
            go_simp
            refine callsIn_wide.2 ((H.out.take (X1.take x) p S6 1048576 W7.drew HOK2.out (by rw [HX2S.out]; omega) (by omega) (by omega) (Lib.hid (H.out.below HW7.out (Below.refl _ W7).drew))).mono ?_)
            rintro y w8 ⟨O2, m2, c3, S8, rfl, hm2, HO8, HOS8, HW8, HT8, HS8⟩
            have hX8 : StB w8 h 23 #[.int .u8 d, .int .u8 q, .int .i64 e] := hC0.touch HT8.out (fun hs => by
              rcases HS6.out h hs with h2 | h2
              · rcases HS4.out h h2 with h3 | h3
                · have := HS3.out h h3; have := HX2.out.lt; omega
                · have := HABW.out; omega
              · have := HXW.out; omega)
            obtain ⟨G2, hG2⟩ : ∃ G2, (X1.take x).got 1048576 = G2 := ⟨_, rfl⟩
            rw [hG2] at HO8
            have hGT : G ++ G2 = T := by rw [← hG2]; exact HALL.out
            have hEQ : ((G ++ G2).toList == T.toList) = true := by rw [hGT]; simp
            have hGs : G.size ≤ 10000 := by have := congrArg ByteArray.size hGT; rw [ByteArray.size_append] at this; omega
            have hG2s : G2.size ≤ 10000 := by have := congrArg ByteArray.size hGT; rw [ByteArray.size_append] at this; omega
            have HBW8 := Lib.hid (show Below w.heap.size w w8 from HBW7.out.drew.trans (HT8.out.below HBW7.out.size (fun j hs => by
              rcases HS6.out j hs with h2 | h2
              · rcases HS4.out j h2 with h3 | h3
                · have := HS3.out j h3; have := HB2.out.size; omega
                · have := HBW1.out.size; omega
              · have := HWZ.out; omega)))
            have hc8 : StB w8 h 23 #[.int .u8 d, .int .u8 q, .int .i64 e] ∧ SlIn w8 O2 m2 (u8s (bl G2)) := ⟨hX8, HO8.out.toIn⟩
            refine hK _ _ hX8 ?_
            clear hK K hm2 HOS8 HO8 hG2
            refine anyC_mono (C' := fun w' => StB w' h 23 #[.int .u8 d, .int .u8 q, .int .i64 e] ∧ SlIn w' O2 m2 (u8s (bl G2))) (fun _ h => h.1) _ _ _ _ ?_
            refine takeC (i := 3) (v := .string G2) rfl (by kernel_rfl) (by kernel_rfl) (by kernel_rfl) (by kernel_rfl) (fun _ _ _ h => h) hc8 (.inl ⟨by rfl, fun w hw => by have hcv : (convert 43 9 (.slice O2 m2 c3)).run Tryd.prog w = .ok (.string G2) w := (by rw [conv_text c3 Tryd.underlying43 Tryd.underlying5 Tryd.underlying9 hw.2, toBA_bl]); go_simp⟩) ?_
            refine takeC (i := 4) (v := .string (G ++ G2)) rfl (by kernel_rfl) (by kernel_rfl) (by kernel_rfl) (by kernel_rfl) (fun _ _ _ h => h) hc8 (.inl ⟨by rfl, fun w hw => by have hsum : G.size + G2.size ≤ 9223372036854775807 := (by omega); go_simp⟩) ?_
            refine onlyC (i := 6) (by kernel_rfl) rfl (by kernel_rfl) (fun K hK => ?_)
            go_simp
            refine callsIn_wide.2 ((above (ref_any d q e d0 d1 q0 q1 _)).mono ?_)
            rintro y _ ⟨rfl, y7, rfl⟩
            have hc9 : StB (onto w8 y7) h 23 #[.int .u8 d, .int .u8 q, .int .i64 e] ∧ SlIn (onto w8 y7) O2 m2 (u8s (bl G2)) := ⟨hc8.1.below (onto_below w8 y7), hc8.2.below (onto_below w8 y7)⟩
            refine hK _ _ hc9 ?_
            clear hK K
            refine onlyC (i := 8) (by kernel_rfl) rfl (by kernel_rfl) (fun K hK => ?_)
            go_simp
            refine callsIn_wide.2 ((above (line_any d q e d0 d1 q0 q1 A k c l true (by omega) (by have := HSM.out; omega) (onto w8 y7) (Lib.hid (HI.out.below (HBW8.out.trans ((onto_below w8 y7).mono HBW8.out.size)))) T HTB)).mono ?_)
            rintro y _ ⟨rfl, y8, rfl⟩
            obtain ⟨w9, hw9⟩ : ∃ w9, w9 = onto (onto w8 y7) y8 := ⟨_, rfl⟩
            have hc10 : StB w9 h 23 #[.int .u8 d, .int .u8 q, .int .i64 e] ∧ SlIn w9 O2 m2 (u8s (bl G2)) := by rw [hw9]; exact ⟨hc9.1.below (onto_below _ y8), hc9.2.below (onto_below _ y8)⟩
            have HBW9 := Lib.hid (show Below w.heap.size w w9 by rw [hw9]; exact up_onto' (up_onto' HBW8.out _) _)
            rw [← hw9]
            clear hw9 hc8 hc9
            refine hK _ _ hc10 ?_
            clear hK K
            refine takeC (i := 9) (v := .bool true) rfl (by kernel_rfl) (by kernel_rfl) (by kernel_rfl) (by kernel_rfl) (fun _ _ _ h => h) hc10 (.inl ⟨by rfl, fun w hw => by go_simp⟩) ?_
            refine takeC (i := 10) (v := .bool true) rfl (by kernel_rfl) (by kernel_rfl) (by kernel_rfl) (by kernel_rfl) (fun _ _ _ h => h) hc10 (.inl ⟨by rfl, fun w hw => by go_simp⟩) ?_
            refine onlyC (i := 11) (by kernel_rfl) rfl (by kernel_rfl) (fun K hK => ?_)
            go_simp
            refine callsIn_wide.2 ((above (HAW.out w9)).mono ?_)
            rintro y _ ⟨rfl, y9, rfl⟩
            have hc11 : StB (onto w9 y9) h 23 #[.int .u8 d, .int .u8 q, .int .i64 e] ∧ SlIn (onto w9 y9) O2 m2 (u8s (bl G2)) := ⟨hc10.1.below (onto_below w9 y9), hc10.2.below (onto_below w9 y9)⟩
            refine hK _ _ hc11 ?_
            clear hK K
            refine takeC (i := 12) (v := .bool true) rfl (by kernel_rfl) (by kernel_rfl) (by kernel_rfl) (by kernel_rfl) (fun _ _ _ h => h) hc11 (.inl ⟨by rfl, fun w hw => by go_simp⟩) ?_
            refine takeC (i := 13) (v := .bool true) rfl (by kernel_rfl) (by kernel_rfl) (by kernel_rfl) (by kernel_rfl) (fun _ _ _ h => h) hc11 (.inl ⟨by rfl, fun w hw => by go_simp⟩) ?_
            refine doneC (by kernel_rfl) ?_
            go_wp2
            go_ret
            exact ⟨rfl, up_onto' HBW9.out y9⟩
  · clear hu hv hM hin hok hd hq hx hcU
    cases u
    · cases v
      · clear hgo
        go_enter Tryd.func6, Tryd.ntmps6
        go_wp2_with fail
        rw [← hU]
        clear hU hh
        refine HG.out.mono ?_
        rintro y U1 ⟨rfl, hb1⟩
        obtain ⟨k0, k1, k2, k3⟩ := dia3' (HXU.out.below hb1)
        have HB1 := Lib.hid (HBU.out.trans (hb1.mono HBU.out.size))
        have hm1 := fun (y : Above U1) => hmay.out (onto U1 y) (HB1.out.trans ((onto_below U1 y).mono HB1.out.size))
        clear hb1
        go_wp2_with (first
          | (go_at_call 11; with_reducible refine (above (ref_any d q e d0 d1 q0 q1 _)).mono ?_; rintro x _ ⟨rfl, y1, rfl⟩)
          | (go_at_call 10; with_reducible refine (above (refRight_is d q e _ HR _)).mono ?_; rintro x _ ⟨rfl, y2, rfl⟩)
          | (go_at_call 22; with_reducible refine (above (hm1 _)).mono ?_; rintro x _ ⟨rfl, y3, rfl⟩)
          | (go_at_call 8; with_reducible refine (above (HAW.out _)).mono ?_; rintro x _ ⟨rfl, y4, rfl⟩))
        all_goals go_ret
        all_goals exact ⟨rfl, up_onto' HB1.out _⟩
      · have hMn : (M != 0) = true := by
          have : M ≠ 0 := fun h => hgo ⟨rfl, rfl, h⟩
          simpa using this
        clear hgo
        go_enter Tryd.func6, Tryd.ntmps6
        go_wp2_with fail
        rw [← hU]
        clear hU hh
        refine HG.out.mono ?_
        rintro y U1 ⟨rfl, hb1⟩
        obtain ⟨k0, k1, k2, k3⟩ := dia3' (HXU.out.below hb1)
        have HB1 := Lib.hid (HBU.out.trans (hb1.mono HBU.out.size))
        have hm1 := fun (y : Above U1) => hmay.out (onto U1 y) (HB1.out.trans ((onto_below U1 y).mono HB1.out.size))
        clear hb1
        go_wp2_with (first
          | (go_at_call 11; with_reducible refine (above (ref_any d q e d0 d1 q0 q1 _)).mono ?_; rintro x _ ⟨rfl, y1, rfl⟩)
          | (go_at_call 10; with_reducible refine (above (refRight_is d q e _ HR _)).mono ?_; rintro x _ ⟨rfl, y2, rfl⟩)
          | (go_at_call 22; with_reducible refine (above (hm1 _)).mono ?_; rintro x _ ⟨rfl, y3, rfl⟩)
          | (go_at_call 8; with_reducible refine (above (HAW.out _)).mono ?_; rintro x _ ⟨rfl, y4, rfl⟩))
        all_goals go_ret
        all_goals exact ⟨rfl, up_onto' HB1.out _⟩
    · clear hgo
      go_enter Tryd.func6, Tryd.ntmps6
      go_wp2_with fail
      rw [← hU]
      clear hU hh
      refine HG.out.mono ?_
      rintro y U1 ⟨rfl, hb1⟩
      obtain ⟨k0, k1, k2, k3⟩ := dia3' (HXU.out.below hb1)
      have HB1 := Lib.hid (HBU.out.trans (hb1.mono HBU.out.size))
      have hm1 := fun (y : Above U1) => hmay.out (onto U1 y) (HB1.out.trans ((onto_below U1 y).mono HB1.out.size))
      clear hb1
      go_wp2_with (first
        | (go_at_call 11; with_reducible refine (above (ref_any d q e d0 d1 q0 q1 _)).mono ?_; rintro x _ ⟨rfl, y1, rfl⟩)
        | (go_at_call 10; with_reducible refine (above (refRight_is d q e _ HR _)).mono ?_; rintro x _ ⟨rfl, y2, rfl⟩)
        | (go_at_call 22; with_reducible refine (above (hm1 _)).mono ?_; rintro x _ ⟨rfl, y3, rfl⟩)
        | (go_at_call 8; with_reducible refine (above (HAW.out _)).mono ?_; rintro x _ ⟨rfl, y4, rfl⟩))
      all_goals go_ret
      all_goals exact ⟨rfl, up_onto' HB1.out _⟩
end Go.Proofs.YtaoncnlhilpgfaaDoor

/- Layer 11: the walk of PiecesPlays. -/
import Derived.Test.YtaoncnlhilpgfaaDoorWrd
import Derived.Test.YtaoncnlhilpgfaaDoorOpy
namespace Go.Proofs.YtaoncnlhilpgfaaDoor
open Go.ChangeShapes Go.WideShapes Go.ChangeAt Go.RowKit
set_option linter.unusedVariables false
set_option linter.unusedSimpArgs false

/-- How much a writer may have that was handed the first k of these records. -/
def roomN (t : List (List ByteArray)) (k : Nat) : Nat := 2 * bytN (t.take k) + 3 * fldN (t.take k) + 2 * k
theorem roomN_at {t : List (List ByteArray)} {k : Nat} {r : List ByteArray} (h : t[k]? = some r) : roomN t (k + 1) = roomN t k + (2 * lenL r + 3 * r.length + 2) := by
  unfold roomN
  rw [bytN_at h, fldN_at h]; omega
theorem put_room {X : Wr1} (h : X.Ok) (r : List ByteArray) : (X.put r).S.size ≤ X.S.size + (2 * lenL r + 3 * r.length + 2) ∧ (X.put r).ct ≤ X.ct + 1 := by
  unfold Wr1.put
  split
  · refine ⟨?_, Nat.le_refl _⟩
    show (X.S ++ X.lnO r).size ≤ _
    have h1 := lineN_len X.d X.q X.e (decide (X.ct = 0)) r
    have h2 : (X.lnO r).size = (lineN X.d X.q X.e (decide (X.ct = 0)) r).length := by rw [← bl_length, Wr1.lnO, bl_lineO h.d0 h.d1 h.q0 h.q1]
    rw [ByteArray.size_append]; omega
  · exact ⟨by omega, by omega⟩
theorem rem3 (x : Int) (h0 : 0 ≤ x) (h1 : x ≤ 255) : Int.tmod x 3 = 0 ∨ Int.tmod x 3 = 1 ∨ Int.tmod x 3 = 2 := by
  have := rem_nat x 3 3 h0 (by omega) rfl
  rw [this]; omega

set_option maxRecDepth 100000 in
set_option maxHeartbeats 12800000 in
theorem piecesPlays_walk {WB : World → Addr → Wr1 → (Nat → Prop) → Prop} (H : Hid (PW WB)) (hAw : Hid AwakeSays11) (d q e : Int) (A : Option Addr) (n c : Nat) (l : List Opz) (w : World) (hd : (Lit.int .u8 d).wf = true) (hq : (Lit.int .u8 q).wf = true) (_ : (Lit.int .i64 e).wf = true) (hnc : n ≤ c) (hcm : c ≤ maxLen) (hlen : l.length = n) (hin : OpsIn w A l) :
    Calls Tryd.prog 3 #[.agg #[.int .u8 d, .int .u8 q, .int .i64 e], .slice A n c] w fun x w' => x = .returned (.bool true) ∧ Below w.heap.size w w' := by
  obtain ⟨d0, d1⟩ := bounds_u8 hd
  obtain ⟨q0, q1⟩ := bounds_u8 hq
  have HAW := Lib.hid (show ∀ w : World, Calls Tryd.prog 8 #[] w fun x w' => x = .returned (.bool true) ∧ Below w.heap.size w w' from fun w => hAw.out w)
  have HLN := Lib.hid hlen
  have hnm : n ≤ maxLen := by omega
  have hn9 : n ≤ 9223372036854775807 := by unfold maxLen at hnm; omega
  obtain ⟨v, hv⟩ : ∃ v, rightB d q e = v := ⟨_, rfl⟩
  have HR := Lib.hid (show rightR d q e = v by rw [right_eq d q e d0 q0]; exact hv)
  have HI := Lib.hid hin
  obtain ⟨u, hu⟩ : ∃ u, greatB 60 100 800 (l.map (·.r)) = u := ⟨_, rfl⟩
  obtain ⟨h, hh⟩ : ∃ h, w.heap.size = h := ⟨_, rfl⟩
  have HH := Lib.hid hh
  obtain ⟨U, hU⟩ : ∃ U, U = w.alloc (.cells #[.int .u8 d, .int .u8 q, .int .i64 e] 23) := ⟨_, rfl⟩
  have HBU := Lib.hid (show Below w.heap.size w U by rw [hU]; exact up_alloc (Below.refl _ w) _)
  have HXU := Lib.hid (show StB U h 23 #[.int .u8 d, .int .u8 q, .int .i64 e] by rw [hU]; exact StB.made _ hh.symm _ _)
  have hsm := small_any A n c l hnm U (Lib.hid (HI.out.below HBU.out)) HLN
  rw [hu] at hsm
  have HSMALL := Lib.hid hsm
  clear hsm
  cases u
  · have hg := great_no hu
    have hn60 : n ≤ 60 := by have := HLN.out; have := hg.1; rw [List.length_map] at this; omega
    have HGR := Lib.hid hg
    cases v
    · have hnew := Lib.hid (fun (W : World) => H.out.new_no d q e W d0 d1 q0 q1 hv)
      clear hu hv hg hin hd hq hlen
      go_enter Tryd.func3, Tryd.ntmps3
      go_wp2_with fail
      rw [← hU]
      clear hU hh
      refine HSMALL.out.mono ?_
      rintro y U1 ⟨rfl, hb1⟩
      obtain ⟨k0, k1, k2, k3⟩ := dia3' (HXU.out.below hb1)
      have HB1 := Lib.hid (HBU.out.trans (hb1.mono HBU.out.size))
      clear hb1
      go_wp2_with (first
        | (go_at_call 9; with_reducible refine (above (hnew.out _)).mono ?_; rintro x _ ⟨rfl, y0, rfl⟩)
        | (go_at_call 11; with_reducible refine (above (ref_any d q e d0 d1 q0 q1 _)).mono ?_; rintro x _ ⟨rfl, y1, rfl⟩)
        | (go_at_call 10; with_reducible refine (above (refRight_is d q e _ HR _)).mono ?_; rintro x _ ⟨rfl, y2, rfl⟩)
        | (go_at_call 8; with_reducible refine (above (HAW.out _)).mono ?_; rintro x _ ⟨rfl, y4, rfl⟩))
      all_goals go_ret
      all_goals exact ⟨rfl, up_onto' HB1.out _⟩
    · have hnew := Lib.hid (fun (W : World) => H.out.new_yes d q e W d0 d1 q0 q1 hv)
      clear hu hv hg hin hd hq hlen
      go_enter Tryd.func3, Tryd.ntmps3
      go_wp2_with fail
      rw [← hU]
      clear hU hh
      refine HSMALL.out.mono ?_
      rintro y U1 ⟨rfl, hb1⟩
      obtain ⟨k0, k1, k2, k3⟩ := dia3' (HXU.out.below hb1)
      have HX1 := Lib.hid (HXU.out.below hb1)
      have HB1 := Lib.hid (HBU.out.trans (hb1.mono HBU.out.size))
      clear hb1
      go_wp2_with fail
      refine (hnew.out U1).mono ?_
      rintro y U2 ⟨p, S0, rfl, HW0, HS0, HB12⟩
      have HB2 := Lib.hid (HB1.out.trans (HB12.out.mono HB1.out.size))
      have HX2 := Lib.hid (HX1.out.below HB12.out)
      obtain ⟨j0, j1, j2, j3⟩ := dia3' HX2.out
      clear k0 k1 k2 k3
      go_upto_region 8 with (first
        | (go_at_call 11; with_reducible refine (above (ref_any d q e d0 d1 q0 q1 _)).mono ?_; rintro x _ ⟨rfl, y1, rfl⟩)
        | (go_at_call 10; with_reducible refine (above (refRight_is d q e _ HR _)).mono ?_; rintro x _ ⟨rfl, y2, rfl⟩))
      go_wp2_with (go_at_call 11; with_reducible refine (above (ref_any d q e d0 d1 q0 q1 _)).mono ?_; rintro x _ ⟨rfl, y3, rfl⟩)
      obtain ⟨U3, hU3⟩ : ∃ U3, U3 = onto U2 ((y1.up y2).up y3) := ⟨_, rfl⟩
      have hb23 : Below U2.heap.size U2 U3 := by rw [hU3]; exact onto_below U2 _
      rw [← hU3]
      have HB23 := Lib.hid hb23
      have HW3 := Lib.hid (H.out.below HW0.out hb23)
      have HL3 := Lib.hid (H.out.lies HW0.out)
      clear hU3 j0 j1 j2 j3 hb23
      obtain ⟨g, hg⟩ : ∃ g, U3.heap.size = g := ⟨_, rfl⟩
      have HGG := Lib.hid hg
      obtain ⟨U4, hU4⟩ : ∃ U4, U4 = U3.alloc (.cells #[.int .i64 d, .int .i64 q, .int .i64 e, .string ⟨#[]⟩, .int .i64 0, .int .i64 0, .int .i64 0] 37) := ⟨_, rfl⟩
      have HG4 := Lib.hid (show WrB U4 g (Wr1.new d q e) by rw [hU4]; exact StB.made _ hg.symm _ _)
      have hb34 : Below U3.heap.size U3 U4 := by rw [hU4]; exact up_alloc (Below.refl _ _) _
      have HB24 := Lib.hid (HB23.out.trans (hb34.mono HB23.out.size))
      have HW4 := Lib.hid (H.out.below HW3.out hb34)
      have HL4 := Lib.hid (H.out.lies HW3.out)
      rw [hg, ← hU4]
      have HSP := Lib.hid (show (∀ j, S0 j → U1.heap.size ≤ j) ∧ ¬ S0 g from ⟨fun j hj => HS0.out j hj, fun hj => by have := HL4.out g hj; omega⟩)
      have HUG := Lib.hid (show U1.heap.size ≤ g by have := HB12.out.size; have := HB23.out.size; omega)
      have HB14 := Lib.hid (HB12.out.trans (HB24.out.mono HB12.out.size))
      have HI1 := Lib.hid (HI.out.below HB1.out)
      clear hU4 hb34 hg HW3 HL4 HB12 HX1 HX2 HL3
      go_loopw [9, 44] (fun s9 i wr => ∃ (k : Nat) (X : Wr1) (S : Nat → Prop), k ≤ n ∧ i = .int .i64 k ∧ Hid X.Ok ∧ Hid (X.ct ≤ k) ∧ Hid (X.S.size ≤ roomN (l.map (·.r)) k) ∧ Hid (WB wr p X S) ∧ Hid (WrB wr g X) ∧ Hid ((∀ j, S j → U1.heap.size ≤ j) ∧ ¬ S g) ∧ Hid (Below U1.heap.size U1 wr)) (fun _ i _ => n - (intOf i).toNat)
      case atStart => exact ⟨0, _, S0, Nat.zero_le _, rfl, Lib.hid (new_ok d0 d1 q0 q1), Lib.hid (Nat.le_refl _), Lib.hid (Nat.zero_le _), HW4, HG4, HSP, HB14⟩
      case round =>
        obtain ⟨k, X, S, hk, rfl, HOK, HCT, HSS, HW, HG, HSP, HB⟩ := hrel
        obtain ⟨W, hW⟩ : ∃ W, W = wr := ⟨_, rfl⟩
        subst hW
        clear HW4 HG4 HB14
        by_cases hlt : k < n
        · obtain ⟨o, ho⟩ : ∃ o, l[k]? = some o := ⟨_, List.getElem?_eq_getElem (by rw [HLN.out]; exact hlt)⟩
          obtain ⟨hok, a, rfl, e0, e1, e2⟩ := (HI1.out.below HB.out) k o ho
          have HOO := Lib.hid ho
          have HO := Lib.hid hok
          have ok0 := hok.k0
          have ok1 := hok.k1
          have on0 := hok.n0
          have on1 := hok.n1
          obtain ⟨pp, hp⟩ : ∃ pp, a.add (k * 3) = pp := ⟨_, rfl⟩
          rw [hp] at e0 e1 e2
          have f0 : W.cell? pp = some (.int .u8 o.k) := by have := e0; simpa [Addr.add] using this
          have f1 : W.cell? ⟨pp.block, pp.off + 1, none⟩ = some (.int .i64 o.n) := by have := e1; simpa [Addr.add] using this
          have f2 : W.cell? ⟨pp.block, pp.off + 2, none⟩ = some (.slice o.A o.r.length o.c) := by have := e2; simpa [Addr.add] using this
          have hrk : (l.map (·.r))[k]? = some o.r := by rw [List.getElem?_map, ho]; rfl
          have HRK := Lib.hid hrk
          have HROOM := Lib.hid (roomN_at hrk)
          have hrl : o.r.length ≤ 1000 := by have := fldN_mem (List.mem_of_getElem? hrk); have := HGR.out; omega
          have hll : lenL o.r ≤ 1000 := by have := bytN_mem (List.mem_of_getElem? hrk); have := HGR.out; omega
          have HROOM0 := Lib.hid (show X.S.size ≤ 100000 ∧ roomN (l.map (·.r)) (k + 1) ≤ 100000 from ⟨by
            have h1 := HSS.out
            have h2 := fldN_take_le (l.map (·.r)) k
            have h3 := bytN_take_le (l.map (·.r)) k
            have h4 := HGR.out
            unfold roomN at h1; omega, by
            have h2 := fldN_take_le (l.map (·.r)) (k + 1)
            have h3 := bytN_take_le (l.map (·.r)) (k + 1)
            have h4 := HGR.out
            unfold roomN; omega⟩)
          obtain ⟨W1, hW1⟩ : ∃ W1, W1 = W.alloc (.cells #[.int .u8 o.k, .int .i64 o.n, .slice o.A o.r.length o.c] 40) := ⟨_, rfl⟩
          obtain ⟨b9, hb9⟩ : ∃ b9, W.heap.size = b9 := ⟨_, rfl⟩
          have hbw1 : Below W.heap.size W W1 := by rw [hW1]; exact up_alloc (Below.refl _ _) _
          have HC1 := Lib.hid (show StB W1 b9 40 #[.int .u8 o.k, .int .i64 o.n, .slice o.A o.r.length o.c] by rw [hW1]; exact StB.made _ hb9.symm _ _)
          have HWW := Lib.hid (H.out.below HW.out hbw1)
          have HGW := Lib.hid (show WrB W1 g X from StB.below HG.out hbw1)
          have HBB := Lib.hid (HB.out.trans (hbw1.mono HB.out.size))
          have HSB9 := Lib.hid (show ¬ S b9 ∧ g < b9 ∧ U1.heap.size ≤ b9 from ⟨fun hs => by have := H.out.lies HW.out b9 hs; omega, by have := StB.lt HG.out; omega, by have := HB.out.size; omega⟩)
          obtain ⟨q0', q1', q2', q3'⟩ := dia3' HC1.out
          obtain ⟨κ, hκ⟩ : ∃ κ, Int.tmod o.k 3 = κ := ⟨_, rfl⟩
          have hκ3 := rem3 o.k ok0 ok1
          rw [hκ] at hκ3
          have HBW1 := Lib.hid hbw1
          clear ho hok e0 e1 e2 hrk hbw1
          rcases hκ3 with rfl | rfl | rfl
          · skip
            go_wp2_with fail
            rw [← hW1]
            clear hW1 hb9 q0' q1' q2' q3' f0 f1 f2
            refine region_W 5 (fun w' => StB w' b9 40 #[.int .u8 o.k, .int .i64 o.n, .slice o.A o.r.length o.c]) (by kernel_rfl) ?_
            have hC0 : StB W1.drew b9 40 #[.int .u8 o.k, .int .i64 o.n, .slice o.A o.r.length o.c] := HC1.out.drew
            refine takeC (i := 0) (v := .pointer (some p)) rfl (by kernel_rfl) (by kernel_rfl) (by kernel_rfl) (by kernel_rfl) (fun _ _ _ h => h) hC0 (.inl ⟨by rfl, fun w hw => by go_simp⟩) ?_
            refine takeC (i := 1) (v := .pointer (some ⟨b9, 2, none⟩)) rfl (by kernel_rfl) (by kernel_rfl) (by kernel_rfl) (by kernel_rfl) (fun _ _ _ h => h) hC0 (.inl ⟨by rfl, fun w hw => by obtain ⟨j0, j1, j2, j3⟩ := dia3' hw; go_simp⟩) ?_
            refine takeC (i := 2) (v := .slice o.A o.r.length o.c) rfl (by kernel_rfl) (by kernel_rfl) (by kernel_rfl) (by kernel_rfl) (fun _ _ _ h => h) hC0 (.inl ⟨by rfl, fun w hw => by obtain ⟨j0, j1, j2, j3⟩ := dia3' hw; go_simp⟩) ?_
            refine takeC (i := 4) (v := .pointer (some ⟨g, 0, none⟩)) rfl (by kernel_rfl) (by kernel_rfl) (by kernel_rfl) (by kernel_rfl) (fun _ _ _ h => h) hC0 (.inl ⟨by rfl, fun w hw => by go_simp⟩) ?_
            refine takeC (i := 5) (v := .pointer (some ⟨b9, 2, none⟩)) rfl (by kernel_rfl) (by kernel_rfl) (by kernel_rfl) (by kernel_rfl) (fun _ _ _ h => h) hC0 (.inl ⟨by rfl, fun w hw => by obtain ⟨j0, j1, j2, j3⟩ := dia3' hw; go_simp⟩) ?_
            refine takeC (i := 6) (v := .slice o.A o.r.length o.c) rfl (by kernel_rfl) (by kernel_rfl) (by kernel_rfl) (by kernel_rfl) (fun _ _ _ h => h) hC0 (.inl ⟨by rfl, fun w hw => by obtain ⟨j0, j1, j2, j3⟩ := dia3' hw; go_simp⟩) ?_
            refine onlyC (i := 3) (by kernel_rfl) rfl (by kernel_rfl) (fun K hK => ?_)
            go_simp
            have hP := H.out.put X p S o.A o.r.length o.c o.r W1.drew HOK.out (by have := HROOM0.out.1; omega) (by have := HCT.out; omega) hrl hll (Lib.hid (H.out.below HWW.out (Below.refl _ W1).drew)) (Lib.hid ((HO.out.reads.below HBW1.out).below (Below.refl _ W1).drew))
            obtain ⟨E, hE⟩ : ∃ E, X.putE o.r = E := ⟨_, rfl⟩
            rw [hE] at hP
            refine callsIn_wide.2 (hP.mono ?_)
            rintro y w8 ⟨rfl, S8, HW8, HT8, HS8⟩
            have hc8 : StB w8 b9 40 #[.int .u8 o.k, .int .i64 o.n, .slice o.A o.r.length o.c] := hC0.touch HT8.out HSB9.out.1
            have hb8 : Below U1.heap.size U1 w8 := HBB.out.drew.trans (HT8.out.below HBB.out.size (fun j hs => HSP.out.1 j hs))
            have hG8 := Lib.hid (show WrB w8 g X from StB.touch (show StB W1.drew g _ X.cells from StB.drew HGW.out) HT8.out HSP.out.2)
            have hO8 := Lib.hid (((HI1.out.below hb8) k o HOO.out).1.reads)
            refine hK _ _ hc8 ?_
            clear hK K hP
            refine onlyC (i := 7) (by kernel_rfl) rfl (by kernel_rfl) (fun K hK => ?_)
            go_simp
            have hP := put11_any g X o.A o.r.length o.c o.r HOK (by have := HROOM0.out.1; omega) (by have := HCT.out; omega) hrl hll w8 hG8 hO8
            rw [hE] at hP
            refine callsIn_wide.2 (hP.mono ?_)
            rintro y W5 ⟨rfl, hG9, hT9⟩
            have hc9 : StB W5 b9 40 #[.int .u8 o.k, .int .i64 o.n, .slice o.A o.r.length o.c] := hc8.touch hT9 (by have := HSB9.out.2.1; omega)
            obtain ⟨X5, hX5⟩ : ∃ X5, X.put o.r = X5 := ⟨_, rfl⟩
            have hpr := put_room HOK.out o.r
            rw [hX5] at hG9 HW8 hpr
            have HG5 := Lib.hid hG9
            have HGB := Lib.hid (StB.lt HGW.out)
            have HW5 := Lib.hid (H.out.keep HW8.out hT9 (fun j hj hje => by
              rcases HS8.out j hj with h1 | h1
              · rw [hje] at h1; exact HSP.out.2 h1
              · rw [hje] at h1; have h2 : W1.heap.size ≤ g := h1; have := HGB.out; omega))
            have HB5 := Lib.hid (hb8.trans (hT9.below hb8.size (fun j hj => by rw [hj]; exact HUG.out)))
            have HSP5 := Lib.hid (show (∀ j, S8 j → U1.heap.size ≤ j) ∧ ¬ S8 g from ⟨fun j hj => by
              rcases HS8.out j hj with h1 | h1
              · exact HSP.out.1 j h1
              · have h2 : W1.heap.size ≤ j := h1; have := HBB.out.size; omega, fun hg8 => by
              rcases HS8.out g hg8 with h1 | h1
              · exact HSP.out.2 h1
              · have h2 : W1.heap.size ≤ g := h1; have := HGB.out; omega⟩)
            obtain ⟨S5, hS5⟩ : ∃ S5, S8 = S5 := ⟨_, rfl⟩
            rw [hS5] at HW5 HSP5
            have HOK5 := Lib.hid (show X5.Ok by rw [← hX5]; exact HOK.out.put o.r)
            have HCT5 := Lib.hid (show X5.ct ≤ k + 1 by have := hpr.2; have := HCT.out; omega)
            have HSS5 := Lib.hid (show X5.S.size ≤ roomN (l.map (·.r)) (k + 1) by have := hpr.1; have := HSS.out; have := HROOM.out; omega)
            have HSB := Lib.hid (show X5.S.size ≤ 1000000 by have := HSS5.out; have := HROOM0.out.2; omega)
            have HCB := Lib.hid (show X5.ct ≤ 1000 by have := HCT5.out; omega)
            refine hK _ _ hc9 ?_
            have hEE : (E != E) = false := by simp
            clear hK K hP hG8 hO8 hb8 hc8 hC0 hpr hX5 hS5 HW8 HS8 hG9 HGB HT8 hT9
            refine takeC (i := 8) (v := .bool false) rfl (by kernel_rfl) (by kernel_rfl) (by kernel_rfl) (by kernel_rfl) (fun _ _ _ h => h) hc9 (.inl ⟨by rfl, fun w hw => by go_simp⟩) ?_
            refine doneC (by kernel_rfl) ?_
            clear hc9 hEE hE
            go_simp
            go_wp2_with fail
            obtain ⟨gl, c0, c1, c2, c3, c4, c5, c6⟩ := HG5.out.all
            obtain ⟨sz, hsz⟩ : ∃ sz, X5.S.size = sz := ⟨_, rfl⟩
            obtain ⟨tk, htk⟩ : ∃ tk, X5.tk = tk := ⟨_, rfl⟩
            obtain ⟨ct, hct⟩ : ∃ ct, X5.ct = ct := ⟨_, rfl⟩
            obtain ⟨cl, hcl⟩ : ∃ cl, X5.cl = cl := ⟨_, rfl⟩
            have hszb : sz ≤ 1000000 := by rw [← hsz]; exact HSB.out
            have htkb : tk ≤ sz := by rw [← hsz, ← htk]; exact HOK5.out.tk
            have hctb : ct ≤ 1000 := by rw [← hct]; exact HCB.out
            have p3 : ∀ z, (onto W5 z).cell? ⟨g, 3, none⟩ = some (.string X5.S) := fun z => mem_cell (onto_below W5 z) c3
            have p4 : ∀ z, (onto W5 z).cell? ⟨g, 4, none⟩ = some (.int .i64 tk) := fun z => by rw [← htk]; exact mem_cell (onto_below W5 z) c4
            have p5 : ∀ z, (onto W5 z).cell? ⟨g, 5, none⟩ = some (.int .i64 ct) := fun z => by rw [← hct]; exact mem_cell (onto_below W5 z) c5
            have p6 : ∀ z, (onto W5 z).cell? ⟨g, 6, none⟩ = some (.int .i64 (numB cl)) := fun z => by rw [← hcl]; exact mem_cell (onto_below W5 z) c6
            have hrd := fun (z : Above W5) => calls_onto (H.out.ready X5 p S5 (onto W5 z) (Lib.hid (H.out.below HW5.out (onto_below W5 z))))
            have hcn := fun (z : Above W5) => calls_onto (H.out.count X5 p S5 (onto W5 z) (Lib.hid (H.out.below HW5.out (onto_below W5 z))))
            have htt := fun (z : Above W5) => calls_onto (H.out.total X5 p S5 (onto W5 z) (Lib.hid (H.out.below HW5.out (onto_below W5 z))))
            have hcd := fun (z : Above W5) => calls_onto (H.out.closed X5 p S5 (onto W5 z) (Lib.hid (H.out.below HW5.out (onto_below W5 z))))
            rw [hsz, htk] at hrd
            rw [hct] at hcn
            rw [hsz] at htt
            rw [hcl] at hcd
            have n1 : (((sz : Int) - (tk : Int)) != ((sz : Int) - (tk : Int))) = false := by simp
            have n2 : ((ct : Int) != (ct : Int)) = false := by simp
            have n3 : ((sz : Int) != (sz : Int)) = false := by simp
            have HSZE := Lib.hid hsz
            clear c0 c1 c2 c3 c4 c5 c6 htk hct hcl
            cases cl
            all_goals
              simp only [show numB true = 1 from rfl, show numB false = 0 from rfl] at p6
              refine wp_region_onto (by kernel_rfl) (by kernel_rfl) ?_
              repeat (go_big_quiet_step (first | (go_at_call 17; with_reducible exact hrd _) | (go_at_call 18; with_reducible exact hcn _) | (go_at_call 19; with_reducible exact htt _) | (go_at_call 20; with_reducible exact hcd _)))
              refine wpQuiet_nil ?_
              intro _ hw'
              obtain ⟨zz, hw''⟩ := hw'
              subst hw''
              go_wp2_with fail
              go_roundw
              case rel => exact ⟨k + 1, X5, S5, by omega, by go_num, HOK5, HCT5, HSS5, Lib.hid (H.out.below HW5.out (onto_below W5 zz)), Lib.hid (StB.below HG5.out (onto_below W5 zz)), HSP5, Lib.hid (HB5.out.trans ((onto_below W5 zz).mono HB5.out.size))⟩
              case measure => simp [intOf]; omega
          · skip
            go_wp2_with fail
            rw [← hW1]
            clear hW1 hb9 q0' q1' q2' q3' f0 f1 f2
            refine region_W 5 (fun w' => StB w' b9 40 #[.int .u8 o.k, .int .i64 o.n, .slice o.A o.r.length o.c]) (by kernel_rfl) ?_
            have hC0 : StB W1.drew b9 40 #[.int .u8 o.k, .int .i64 o.n, .slice o.A o.r.length o.c] := HC1.out.drew
            refine takeC (i := 0) (v := .pointer (some p)) rfl (by kernel_rfl) (by kernel_rfl) (by kernel_rfl) (by kernel_rfl) (fun _ _ _ h => h) hC0 (.inl ⟨by rfl, fun w hw => by go_simp⟩) ?_
            refine takeC (i := 1) (v := .pointer (some ⟨b9, 1, none⟩)) rfl (by kernel_rfl) (by kernel_rfl) (by kernel_rfl) (by kernel_rfl) (fun _ _ _ h => h) hC0 (.inl ⟨by rfl, fun w hw => by obtain ⟨j0, j1, j2, j3⟩ := dia3' hw; go_simp⟩) ?_
            refine takeC (i := 2) (v := .int .i64 o.n) rfl (by kernel_rfl) (by kernel_rfl) (by kernel_rfl) (by kernel_rfl) (fun _ _ _ h => h) hC0 (.inl ⟨by rfl, fun w hw => by obtain ⟨j0, j1, j2, j3⟩ := dia3' hw; go_simp⟩) ?_
            refine takeC (i := 5) (v := .pointer (some ⟨g, 0, none⟩)) rfl (by kernel_rfl) (by kernel_rfl) (by kernel_rfl) (by kernel_rfl) (fun _ _ _ h => h) hC0 (.inl ⟨by rfl, fun w hw => by go_simp⟩) ?_
            refine takeC (i := 6) (v := .pointer (some ⟨b9, 1, none⟩)) rfl (by kernel_rfl) (by kernel_rfl) (by kernel_rfl) (by kernel_rfl) (fun _ _ _ h => h) hC0 (.inl ⟨by rfl, fun w hw => by obtain ⟨j0, j1, j2, j3⟩ := dia3' hw; go_simp⟩) ?_
            refine takeC (i := 7) (v := .int .i64 o.n) rfl (by kernel_rfl) (by kernel_rfl) (by kernel_rfl) (by kernel_rfl) (fun _ _ _ h => h) hC0 (.inl ⟨by rfl, fun w hw => by obtain ⟨j0, j1, j2, j3⟩ := dia3' hw; go_simp⟩) ?_
            refine onlyC (i := 3) (by kernel_rfl) rfl (by kernel_rfl) (fun K hK => ?_)
            go_simp
            refine callsIn_wide.2 ((H.out.take X p S o.n W1.drew HOK.out (by have := HROOM0.out.1; omega) on0 on1 (Lib.hid (H.out.below HWW.out (Below.refl _ W1).drew))).mono ?_)
            rintro y w8 ⟨O2, m2, c3, S8, rfl, hm2, HO8, HOS8, HW8, HT8, HS8⟩
            obtain ⟨T, hT⟩ : ∃ T, X.got o.n = T := ⟨_, rfl⟩
            rw [hT] at HO8
            have hc8 : StB w8 b9 40 #[.int .u8 o.k, .int .i64 o.n, .slice o.A o.r.length o.c] ∧ SlIn w8 O2 m2 (u8s (bl T)) := ⟨hC0.touch HT8.out HSB9.out.1, HO8.out.toIn⟩
            have hb8 : Below U1.heap.size U1 w8 := HBB.out.drew.trans (HT8.out.below HBB.out.size (fun j hs => HSP.out.1 j hs))
            have hG8 := Lib.hid (show WrB w8 g X from StB.touch (show StB W1.drew g _ X.cells from StB.drew HGW.out) HT8.out HSP.out.2)
            refine hK _ _ hc8.1 ?_
            clear hK K hm2
            refine anyC_mono (C' := fun w' => StB w' b9 40 #[.int .u8 o.k, .int .i64 o.n, .slice o.A o.r.length o.c] ∧ SlIn w' O2 m2 (u8s (bl T))) (fun _ h => h.1) _ _ _ _ ?_
            refine takeC (i := 4) (v := .string T) rfl (by kernel_rfl) (by kernel_rfl) (by kernel_rfl) (by kernel_rfl) (fun _ _ _ h => h) hc8 (.inl ⟨by rfl, fun w hw => by have hcv : (convert 43 9 (.slice O2 m2 c3)).run Tryd.prog w = .ok (.string T) w := (by rw [conv_text c3 Tryd.underlying43 Tryd.underlying5 Tryd.underlying9 hw.2, toBA_bl]); go_simp⟩) ?_
            refine onlyC (i := 8) (by kernel_rfl) rfl (by kernel_rfl) (fun K hK => ?_)
            go_simp
            have hP := take11_any g X o.n HOK (by have := HROOM0.out.1; omega) on0 on1 w8 hG8
            rw [hT] at hP
            refine callsIn_wide.2 (hP.mono ?_)
            rintro y W5 ⟨rfl, hG9, hT9⟩
            have HGB := Lib.hid (StB.lt HGW.out)
            have hc9 : StB W5 b9 40 #[.int .u8 o.k, .int .i64 o.n, .slice o.A o.r.length o.c] ∧ SlIn W5 O2 m2 (u8s (bl T)) := ⟨hc8.1.touch hT9 (by have := HSB9.out.2.1; omega), (HO8.out.touch hT9 (fun j hj hje => by have := (HO8.out.blk j hj).1; have h2 : W1.heap.size ≤ j := this; have := HGB.out; omega)).toIn⟩
            obtain ⟨X5, hX5⟩ : ∃ X5, X.take o.n = X5 := ⟨_, rfl⟩
            have hpr : X5.S = X.S ∧ X5.ct = X.ct := by rw [← hX5]; exact ⟨rfl, rfl⟩
            rw [hX5] at hG9 HW8
            have HG5 := Lib.hid hG9
            have HW5 := Lib.hid (H.out.keep HW8.out hT9 (fun j hj hje => by
              rcases HS8.out j hj with h1 | h1
              · rw [hje] at h1; exact HSP.out.2 h1
              · rw [hje] at h1; have h2 : W1.heap.size ≤ g := h1; have := HGB.out; omega))
            have HB5 := Lib.hid (hb8.trans (hT9.below hb8.size (fun j hj => by rw [hj]; exact HUG.out)))
            have HSP5 := Lib.hid (show (∀ j, S8 j → U1.heap.size ≤ j) ∧ ¬ S8 g from ⟨fun j hj => by
              rcases HS8.out j hj with h1 | h1
              · exact HSP.out.1 j h1
              · have h2 : W1.heap.size ≤ j := h1; have := HBB.out.size; omega, fun hg8 => by
              rcases HS8.out g hg8 with h1 | h1
              · exact HSP.out.2 h1
              · have h2 : W1.heap.size ≤ g := h1; have := HGB.out; omega⟩)
            obtain ⟨S5, hS5⟩ : ∃ S5, S8 = S5 := ⟨_, rfl⟩
            rw [hS5] at HW5 HSP5
            have HOK5 := Lib.hid (show X5.Ok by rw [← hX5]; exact HOK.out.take o.n)
            have HCT5 := Lib.hid (show X5.ct ≤ k + 1 by have := hpr.2; have := HCT.out; omega)
            have HSS5 := Lib.hid (show X5.S.size ≤ roomN (l.map (·.r)) (k + 1) by rw [hpr.1]; have := HSS.out; have := HROOM.out; omega)
            have HSB := Lib.hid (show X5.S.size ≤ 1000000 by have := HSS5.out; have := HROOM0.out.2; omega)
            have HCB := Lib.hid (show X5.ct ≤ 1000 by have := HCT5.out; omega)
            refine hK _ _ hc9 ?_
            have hEE : (T.toList == T.toList) = true := by simp
            clear hK K hP hG8 hb8 hc8 hC0 hpr hX5 hS5 HW8 HS8 HO8 HOS8 hG9 HGB HT8 hT9
            refine takeC (i := 9) (v := .bool false) rfl (by kernel_rfl) (by kernel_rfl) (by kernel_rfl) (by kernel_rfl) (fun _ _ _ h => h) hc9 (.inl ⟨by rfl, fun w hw => by go_simp⟩) ?_
            refine doneC (by kernel_rfl) ?_
            clear hc9 hEE hT
            go_simp
            go_wp2_with fail
            obtain ⟨gl, c0, c1, c2, c3, c4, c5, c6⟩ := HG5.out.all
            obtain ⟨sz, hsz⟩ : ∃ sz, X5.S.size = sz := ⟨_, rfl⟩
            obtain ⟨tk, htk⟩ : ∃ tk, X5.tk = tk := ⟨_, rfl⟩
            obtain ⟨ct, hct⟩ : ∃ ct, X5.ct = ct := ⟨_, rfl⟩
            obtain ⟨cl, hcl⟩ : ∃ cl, X5.cl = cl := ⟨_, rfl⟩
            have hszb : sz ≤ 1000000 := by rw [← hsz]; exact HSB.out
            have htkb : tk ≤ sz := by rw [← hsz, ← htk]; exact HOK5.out.tk
            have hctb : ct ≤ 1000 := by rw [← hct]; exact HCB.out
            have p3 : ∀ z, (onto W5 z).cell? ⟨g, 3, none⟩ = some (.string X5.S) := fun z => mem_cell (onto_below W5 z) c3
            have p4 : ∀ z, (onto W5 z).cell? ⟨g, 4, none⟩ = some (.int .i64 tk) := fun z => by rw [← htk]; exact mem_cell (onto_below W5 z) c4
            have p5 : ∀ z, (onto W5 z).cell? ⟨g, 5, none⟩ = some (.int .i64 ct) := fun z => by rw [← hct]; exact mem_cell (onto_below W5 z) c5
            have p6 : ∀ z, (onto W5 z).cell? ⟨g, 6, none⟩ = some (.int .i64 (numB cl)) := fun z => by rw [← hcl]; exact mem_cell (onto_below W5 z) c6
            have hrd := fun (z : Above W5) => calls_onto (H.out.ready X5 p S5 (onto W5 z) (Lib.hid (H.out.below HW5.out (onto_below W5 z))))
            have hcn := fun (z : Above W5) => calls_onto (H.out.count X5 p S5 (onto W5 z) (Lib.hid (H.out.below HW5.out (onto_below W5 z))))
            have htt := fun (z : Above W5) => calls_onto (H.out.total X5 p S5 (onto W5 z) (Lib.hid (H.out.below HW5.out (onto_below W5 z))))
            have hcd := fun (z : Above W5) => calls_onto (H.out.closed X5 p S5 (onto W5 z) (Lib.hid (H.out.below HW5.out (onto_below W5 z))))
            rw [hsz, htk] at hrd
            rw [hct] at hcn
            rw [hsz] at htt
            rw [hcl] at hcd
            have n1 : (((sz : Int) - (tk : Int)) != ((sz : Int) - (tk : Int))) = false := by simp
            have n2 : ((ct : Int) != (ct : Int)) = false := by simp
            have n3 : ((sz : Int) != (sz : Int)) = false := by simp
            have HSZE := Lib.hid hsz
            clear c0 c1 c2 c3 c4 c5 c6 htk hct hcl
            cases cl
            all_goals
              simp only [show numB true = 1 from rfl, show numB false = 0 from rfl] at p6
              refine wp_region_onto (by kernel_rfl) (by kernel_rfl) ?_
              repeat (go_big_quiet_step (first | (go_at_call 17; with_reducible exact hrd _) | (go_at_call 18; with_reducible exact hcn _) | (go_at_call 19; with_reducible exact htt _) | (go_at_call 20; with_reducible exact hcd _)))
              refine wpQuiet_nil ?_
              intro _ hw'
              obtain ⟨zz, hw''⟩ := hw'
              subst hw''
              go_wp2_with fail
              go_roundw
              case rel => exact ⟨k + 1, X5, S5, by omega, by go_num, HOK5, HCT5, HSS5, Lib.hid (H.out.below HW5.out (onto_below W5 zz)), Lib.hid (StB.below HG5.out (onto_below W5 zz)), HSP5, Lib.hid (HB5.out.trans ((onto_below W5 zz).mono HB5.out.size))⟩
              case measure => simp [intOf]; omega
          · skip
            go_wp2_with fail
            rw [← hW1]
            clear hW1 hb9 q0' q1' q2' q3' f0 f1 f2
            refine (H.out.close X p S W1 HWW).mono ?_
            rintro y w8 ⟨rfl, S8, HW8, HT8, HS8⟩
            have hb8 : Below U1.heap.size U1 w8 := HBB.out.trans (HT8.out.below HBB.out.size (fun j hs => HSP.out.1 j hs))
            have hG8 : WrB w8 g X := StB.touch (show StB W1 g _ X.cells from HGW.out) HT8.out HSP.out.2
            have HGB := Lib.hid (StB.lt HGW.out)
            have g8 := StB.lt hG8
            have c8 : w8.cell? ⟨g, 6, none⟩ = some (.int .i64 (numB X.cl)) := StB.cell hG8 6
            have f8 := StB.free hG8 6
            go_wp2_with fail
            obtain ⟨W5, hW5⟩ : ∃ W5, W5 = w8.setCell ⟨g, 6, none⟩ (.int .i64 1) := ⟨_, rfl⟩
            rw [← hW5]
            have hT9 : Touch w8 W5 (fun k => k = g) := by rw [hW5]; exact (Touch.refl w8 (fun k => k = g)).then_set (p := ⟨g, 6, none⟩) (.inl rfl) _
            obtain ⟨X5, hX5⟩ : ∃ X5, X.shut = X5 := ⟨_, rfl⟩
            have hG9 : WrB W5 g X5 := by rw [hW5, ← hX5]; exact StB.set_ hG8 6 _
            have hpr : X5.S = X.S ∧ X5.ct = X.ct := by rw [← hX5]; exact ⟨rfl, rfl⟩
            rw [hX5] at HW8
            have HG5 := Lib.hid hG9
            have HW5 := Lib.hid (H.out.keep HW8.out hT9 (fun j hj hje => by
              rcases HS8.out j hj with h1 | h1
              · rw [hje] at h1; exact HSP.out.2 h1
              · rw [hje] at h1; have h2 : W1.heap.size ≤ g := h1; have := HGB.out; omega))
            have HB5 := Lib.hid (hb8.trans (hT9.below hb8.size (fun j hj => by rw [hj]; exact HUG.out)))
            have HSP5 := Lib.hid (show (∀ j, S8 j → U1.heap.size ≤ j) ∧ ¬ S8 g from ⟨fun j hj => by
              rcases HS8.out j hj with h1 | h1
              · exact HSP.out.1 j h1
              · have h2 : W1.heap.size ≤ j := h1; have := HBB.out.size; omega, fun hg8 => by
              rcases HS8.out g hg8 with h1 | h1
              · exact HSP.out.2 h1
              · have h2 : W1.heap.size ≤ g := h1; have := HGB.out; omega⟩)
            obtain ⟨S5, hS5⟩ : ∃ S5, S8 = S5 := ⟨_, rfl⟩
            rw [hS5] at HW5 HSP5
            have HOK5 := Lib.hid (show X5.Ok by rw [← hX5]; exact ⟨HOK.out.d0, HOK.out.d1, HOK.out.q0, HOK.out.q1, HOK.out.tk⟩)
            have HCT5 := Lib.hid (show X5.ct ≤ k + 1 by have := hpr.2; have := HCT.out; omega)
            have HSS5 := Lib.hid (show X5.S.size ≤ roomN (l.map (·.r)) (k + 1) by rw [hpr.1]; have := HSS.out; have := HROOM.out; omega)
            have HSB := Lib.hid (show X5.S.size ≤ 1000000 by have := HSS5.out; have := HROOM0.out.2; omega)
            have HCB := Lib.hid (show X5.ct ≤ 1000 by have := HCT5.out; omega)
            clear hG8 hb8 g8 c8 f8 hpr hX5 hS5 HW8 HS8 hG9 HGB HT8 hT9 hW5
            obtain ⟨gl, c0, c1, c2, c3, c4, c5, c6⟩ := HG5.out.all
            obtain ⟨sz, hsz⟩ : ∃ sz, X5.S.size = sz := ⟨_, rfl⟩
            obtain ⟨tk, htk⟩ : ∃ tk, X5.tk = tk := ⟨_, rfl⟩
            obtain ⟨ct, hct⟩ : ∃ ct, X5.ct = ct := ⟨_, rfl⟩
            obtain ⟨cl, hcl⟩ : ∃ cl, X5.cl = cl := ⟨_, rfl⟩
            have hszb : sz ≤ 1000000 := by rw [← hsz]; exact HSB.out
            have htkb : tk ≤ sz := by rw [← hsz, ← htk]; exact HOK5.out.tk
            have hctb : ct ≤ 1000 := by rw [← hct]; exact HCB.out
            have p3 : ∀ z, (onto W5 z).cell? ⟨g, 3, none⟩ = some (.string X5.S) := fun z => mem_cell (onto_below W5 z) c3
            have p4 : ∀ z, (onto W5 z).cell? ⟨g, 4, none⟩ = some (.int .i64 tk) := fun z => by rw [← htk]; exact mem_cell (onto_below W5 z) c4
            have p5 : ∀ z, (onto W5 z).cell? ⟨g, 5, none⟩ = some (.int .i64 ct) := fun z => by rw [← hct]; exact mem_cell (onto_below W5 z) c5
            have p6 : ∀ z, (onto W5 z).cell? ⟨g, 6, none⟩ = some (.int .i64 (numB cl)) := fun z => by rw [← hcl]; exact mem_cell (onto_below W5 z) c6
            have hrd := fun (z : Above W5) => calls_onto (H.out.ready X5 p S5 (onto W5 z) (Lib.hid (H.out.below HW5.out (onto_below W5 z))))
            have hcn := fun (z : Above W5) => calls_onto (H.out.count X5 p S5 (onto W5 z) (Lib.hid (H.out.below HW5.out (onto_below W5 z))))
            have htt := fun (z : Above W5) => calls_onto (H.out.total X5 p S5 (onto W5 z) (Lib.hid (H.out.below HW5.out (onto_below W5 z))))
            have hcd := fun (z : Above W5) => calls_onto (H.out.closed X5 p S5 (onto W5 z) (Lib.hid (H.out.below HW5.out (onto_below W5 z))))
            rw [hsz, htk] at hrd
            rw [hct] at hcn
            rw [hsz] at htt
            rw [hcl] at hcd
            have n1 : (((sz : Int) - (tk : Int)) != ((sz : Int) - (tk : Int))) = false := by simp
            have n2 : ((ct : Int) != (ct : Int)) = false := by simp
            have n3 : ((sz : Int) != (sz : Int)) = false := by simp
            have HSZE := Lib.hid hsz
            clear c0 c1 c2 c3 c4 c5 c6 htk hct hcl
            cases cl
            all_goals
              simp only [show numB true = 1 from rfl, show numB false = 0 from rfl] at p6
              refine wp_region_onto (by kernel_rfl) (by kernel_rfl) ?_
              repeat (go_big_quiet_step (first | (go_at_call 17; with_reducible exact hrd _) | (go_at_call 18; with_reducible exact hcn _) | (go_at_call 19; with_reducible exact htt _) | (go_at_call 20; with_reducible exact hcd _)))
              refine wpQuiet_nil ?_
              intro _ hw'
              obtain ⟨zz, hw''⟩ := hw'
              subst hw''
              go_wp2_with fail
              go_roundw
              case rel => exact ⟨k + 1, X5, S5, by omega, by go_num, HOK5, HCT5, HSS5, Lib.hid (H.out.below HW5.out (onto_below W5 zz)), Lib.hid (StB.below HG5.out (onto_below W5 zz)), HSP5, Lib.hid (HB5.out.trans ((onto_below W5 zz).mono HB5.out.size))⟩
              case measure => simp [intOf]; omega
        · obtain rfl : k = n := by omega
          have HBE := Lib.hid (HB1.out.trans (HB.out.mono HB1.out.size))
          go_wp2_with (go_at_call 8; with_reducible refine (above (HAW.out _)).mono ?_; rintro x _ ⟨rfl, y4, rfl⟩)
          go_ret
          exact ⟨rfl, up_onto' HBE.out _⟩
  · skip
    clear hu hv hin hd hq hlen
    go_enter Tryd.func3, Tryd.ntmps3
    go_wp2_with fail
    rw [← hU]
    clear hU hh
    refine HSMALL.out.mono ?_
    rintro y U1 ⟨rfl, hb1⟩
    have HB1 := Lib.hid (HBU.out.trans (hb1.mono HBU.out.size))
    clear hb1
    go_wp2_with (go_at_call 8; with_reducible refine (above (HAW.out _)).mono ?_; rintro x _ ⟨rfl, y4, rfl⟩)
    go_ret
    exact ⟨rfl, up_onto' HB1.out _⟩
end Go.Proofs.YtaoncnlhilpgfaaDoor

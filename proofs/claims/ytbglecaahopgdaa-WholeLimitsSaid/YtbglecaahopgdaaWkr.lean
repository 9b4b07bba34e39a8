/- Layer 6: the walk of the statement WholeLimits: the Go text returns true and leaves all that was there as it was. -/
import Derived.Test.YtbglecaahopgdaaWkm
import Derived.Test.YtbglecaahopgdaaWkj
import Derived.Test.YtbglecaahopgdaaPwd
import Derived.Deep.DeepCutAuto
import Derived.Deep.CutRange
import Derived.Deep.CutBlock
namespace Go.Proofs.Ytbglecaahopgdaa
open Go.ChangeShapes Go.WideShapes Go.ChangeAt Go.RowKit
set_option linter.unusedVariables false
set_option linter.unusedSimpArgs false

/-- What a text without a fault within limits has. -/
structure LimOk (a b c : Int) (u : Bool) (rs : List (List ByteArray)) : Prop where
  len : (rs.length : Int) ≤ c
  each : ∀ r ∈ rs, 1 ≤ r.length ∧ (r.length : Int) ≤ b ∧ ∀ x ∈ r, (x.size : Int) ≤ a
  even : u = true → ∀ r ∈ rs, ∀ r' ∈ rs, r.length = r'.length
theorem limits_facts (d q e a b c : Int) (u : Bool) (s : ByteArray) (hs : s.size ≤ 300) : ∃ rs k A, parW d q e a b c u s = ⟨rs, k, A⟩ ∧ (k = 0 → parW d q e 2147483648 2147483648 2147483648 false s = ⟨rs, 0, 0⟩ ∧ LimOk a b c u rs ∧ (∀ r ∈ rs, r.length ≤ 1000) ∧ rs.length ≤ 1000) := by
  refine ⟨(parW d q e a b c u s).rs, (parW d q e a b c u s).k, (parW d q e a b c u s).a, rfl, fun hk => ?_⟩
  by_cases hr : rightB d q e = true
  · by_cases hw : (withinB a && (withinB b && withinB c)) = true
    · have hd := right_dia hr
      have hw2 : (withinB 2147483648 && (withinB 2147483648 && withinB 2147483648)) = true := by decide
      have hw' := hw
      simp only [Bool.and_eq_true, withinB, decide_eq_true_eq] at hw'
      obtain ⟨c1, c2⟩ := whP_few (d := d) (q := q) (e := e) (u := u) hs hw
      rw [parW_go hr hw] at hk ⊢
      dsimp only at hk ⊢
      obtain ⟨l1, l2, l3, l4⟩ := wh_limits hd a b c u 2147483648 (by omega) (by omega) (by omega) (by omega) (by omega) (by omega) (bl s) hk
      refine ⟨?_, ⟨by rw [List.length_map]; exact l2, fun r hr' => ⟨(l3 r hr').least, (l3 r hr').most, (l3 r hr').size⟩, fun hu r h1 r' h2 => ?_⟩, c1, c2⟩
      · rw [parW_go hr hw2, l1, hk]; rfl
      · obtain ⟨V, hV⟩ := l4 hu
        have e1 := hV r h1
        have e2 := hV r' h2
        omega
    · exfalso
      unfold parW at hk
      rw [if_neg (by rw [hr]; simp), if_pos (by simpa using hw)] at hk
      exact absurd hk (by decide)
  · exfalso
    unfold parW at hk
    rw [if_pos (by simpa using hr)] at hk
    exact absurd hk (by decide)

set_option maxRecDepth 100000 in
set_option maxHeartbeats 3200000 in
theorem wholeLimits_walk (d q e a b c : Int) (u : Bool) (s : ByteArray) (w : World) (hd : (Lit.int .u8 d).wf = true) (hq : (Lit.int .u8 q).wf = true) (_ : (Lit.int .i64 e).wf = true) (_ : (Lit.int .i64 a).wf = true) (_ : (Lit.int .i64 b).wf = true) (_ : (Lit.int .i64 c).wf = true) (hs : s.size ≤ maxLen) :
    Calls Try.prog 6 #[.agg #[.int .u8 d, .int .u8 q, .int .i64 e], .agg #[.int .i64 a, .int .i64 b, .int .i64 c, .bool u], .string s] w fun x w' => x = .returned (.bool true) ∧ Below w.heap.size w w' := by
  obtain ⟨d0, d1⟩ := bounds_u8 hd
  obtain ⟨q0, q1⟩ := bounds_u8 hq
  have hs0 : s.size ≤ 9223372036854775807 := hs
  clear hd hq
  by_cases h300 : s.size ≤ 300
  · obtain ⟨rs, k, A, p1, p2⟩ := limits_facts d q e a b c u s h300
    obtain ⟨n, hn⟩ : ∃ n, rs.length = n := ⟨_, rfl⟩
    have P1 := Lib.hid p1
    have P2 := Lib.hid p2
    have HN := Lib.hid hn
    clear p1 p2 hn
    go_enter Try.func6, Try.ntmps6
    go_wp2_with fail
    obtain ⟨W0, hW0⟩ : ∃ W0, (w.alloc (.cells #[.int .u8 d, .int .u8 q, .int .i64 e] 23)).alloc (.cells #[.int .i64 a, .int .i64 b, .int .i64 c, .bool u] 25) = W0 := ⟨_, rfl⟩
    have HB0 := Lib.hid (show Below w.heap.size w W0 by rw [← hW0]; exact up_alloc (up_alloc (Below.refl _ _) _) _)
    have HD0 := Lib.hid (show StB W0 w.heap.size 23 #[.int .u8 d, .int .u8 q, .int .i64 e] by rw [← hW0]; exact (StB.made _ rfl _ _).alloc _)
    have HL0 := Lib.hid (show StB W0 (w.heap.size + 1) 25 #[.int .i64 a, .int .i64 b, .int .i64 c, .bool u] by rw [← hW0]; exact StB.made _ (by simp) _ _)
    rw [hW0]
    clear hW0
    refine (parse_is d q e a b c u s (by omega) d0 d1 q0 q1 rs k A n P1 HN _).mono ?_
    rintro x w1 ⟨C, cc, V, rfl, HX, HB⟩
    go_upto_region 4 with fail
    obtain ⟨W2, hW2⟩ : ∃ W2, w1.alloc (.cells #[.int .i64 k, .int .i64 A] 30) = W2 := ⟨_, rfl⟩
    obtain ⟨fb, hfb⟩ : ∃ fb, w1.heap.size = fb := ⟨_, rfl⟩
    have hb2 : Below w1.heap.size w1 W2 := by rw [← hW2]; exact up_alloc (Below.refl _ _) _
    have HB2 := Lib.hid (show Below w.heap.size w W2 from (HB0.out.trans (HB.out.mono HB0.out.size)).trans (hb2.mono (Nat.le_trans HB0.out.size HB.out.size)))
    have HX2 := Lib.hid (show SlIn W2 C n V ∧ RowsIn W2 V rs from ⟨HX.out.1.below hb2, HX.out.2.below hb2⟩)
    have HD2 := (HD0.out.below HB.out).below hb2
    have HL2 := (HL0.out.below HB.out).below hb2
    have HF2 : StB W2 fb 30 #[.int .i64 k, .int .i64 A] := by rw [← hW2]; exact StB.made _ hfb.symm _ _
    rw [hW2, hfb]
    clear hW2 hfb hb2 HX HB HB0 HD0 HL0
    have k0 : W2.cell? ⟨w.heap.size, 0, none⟩ = some (.int .u8 d) := HD2.cell 0
    have k1 : W2.cell? ⟨w.heap.size, 1, none⟩ = some (.int .u8 q) := HD2.cell 1
    have k2 : W2.cell? ⟨w.heap.size, 2, none⟩ = some (.int .i64 e) := HD2.cell 2
    have k3 : W2.cell? ⟨w.heap.size + 1, 0, none⟩ = some (.int .i64 a) := HL2.cell 0
    have k4 : W2.cell? ⟨w.heap.size + 1, 1, none⟩ = some (.int .i64 b) := HL2.cell 1
    have k5 : W2.cell? ⟨w.heap.size + 1, 2, none⟩ = some (.int .i64 c) := HL2.cell 2
    have k6 : W2.cell? ⟨w.heap.size + 1, 3, none⟩ = some (.bool u) := HL2.cell 3
    have f0 : W2.cell? ⟨fb, 0, none⟩ = some (.int .i64 k) := HF2.cell 0
    have f1 : W2.cell? ⟨fb, 1, none⟩ = some (.int .i64 A) := HF2.cell 1
    have f2 := HF2.lt
    have k7 := HD2.lt
    have k8 := HL2.lt
    by_cases hk : k = 0
    · subst hk
      obtain ⟨g1, g2, g3, g4⟩ := P2.out rfl
      have G1 := Lib.hid g1
      have G2 := Lib.hid g2
      have G3 := Lib.hid g3
      rw [HN.out] at g4
      have hnc : (n : Int) ≤ c := by have := G2.out.len; rw [HN.out] at this; exact this
      have HL3 := Lib.hid HL2
      have HD3 := Lib.hid HD2
      clear g1 g2 g3 HF2 HD2 HL2 P1 P2
      go_wp2_with fail
      go_loopw [32] (fun i wr => ∃ j : Nat, j ≤ n ∧ i = .int .i64 j ∧ wr = W2) (fun i _ => n - (intOf i).toNat)
      case atStart => exact ⟨0, Nat.zero_le _, rfl, rfl⟩
      case round =>
        obtain ⟨j, hj, rfl, rfl⟩ := hrel
        by_cases hlt : j < n
        · obtain ⟨r, hr⟩ : ∃ r, rs[j]? = some r := ⟨_, List.getElem?_eq_getElem (by rw [HN.out]; exact hlt)⟩
          obtain ⟨r0, hr0⟩ : ∃ r, rs[0]? = some r := ⟨_, List.getElem?_eq_getElem (by rw [HN.out]; omega)⟩
          obtain ⟨B, bb, hvb, hrb⟩ := HX2.out.2.2 j r hr
          obtain ⟨B0, bb0, hvb0, hrb0⟩ := HX2.out.2.2 0 r0 hr0
          obtain ⟨ca, rfl, hca⟩ := HX2.out.1.at_ hvb
          obtain ⟨ca', hce, hca0⟩ := HX2.out.1.at_ hvb0
          cases hce
          have za0 : wr.cell? ca = some (.slice B0 r0.length bb0) := by simpa [Addr.add] using hca0
          have hmem := List.mem_of_getElem? hr
          obtain ⟨e1, e2, e3⟩ := G2.out.each r hmem
          have HEV := Lib.hid (G2.out.even)
          have HMEM := Lib.hid hmem
          have HMEM0 := Lib.hid (List.mem_of_getElem? hr0)
          have HRB := Lib.hid hrb
          have HE3 := Lib.hid e3
          obtain ⟨m, hm⟩ : ∃ m, r.length = m := ⟨_, rfl⟩
          obtain ⟨m0, hm0⟩ : ∃ m, r0.length = m := ⟨_, rfl⟩
          have HM := Lib.hid hm
          have HM0 := Lib.hid hm0
          rw [hm] at hca e1 e2
          rw [hm0] at za0
          have t1 : ((m : Int) == 0) = false := by simp; omega
          have t1' : (m == 0) = false := by simp; omega
          have t2 : decide (b < (m : Int)) = false := by simp; omega
          have hm1 : m ≤ 1000 := by rw [← hm]; exact G3.out r hmem
          clear hr hr0 hvb hvb0 hrb hrb0 hca0 hmem e3 hm hm0
          cases u
          · go_wp2_with fail
            go_loopw [61] (fun i wr2 => ∃ t : Nat, t ≤ m ∧ i = .int .i64 t ∧ wr2 = wr) (fun i _ => m - (intOf i).toNat)
            case atStart => exact ⟨0, Nat.zero_le _, rfl, rfl⟩
            case round =>
              obtain ⟨t, ht, rfl, hw2⟩ := hrel
              have hw2' := hw2.symm
              subst hw2'
              by_cases hlt2 : t < m
              · obtain ⟨x, hx⟩ : ∃ x, r[t]? = some x := ⟨_, List.getElem?_eq_getElem (by rw [HM.out]; exact hlt2)⟩
                obtain ⟨cb, rfl, hcb⟩ := HRB.out.at_ (strs_get hx)
                have hax := HE3.out x (List.mem_of_getElem? hx)
                have t3 : decide (a < (x.size : Int)) = false := by simp; omega
                clear hx hax
                go_wp2_with fail
                go_roundw
                case rel => exact ⟨t + 1, by omega, by go_num, by first | rfl | trivial⟩
                case measure => simp [intOf]; omega
              · obtain rfl : t = m := by omega
                clear hlt2
                go_wp2_with fail
                go_roundw
                case rel => exact ⟨j + 1, by omega, by go_num, by first | rfl | trivial⟩
                case measure => simp [intOf]; omega
          · have hmm : m = m0 := by rw [← HM.out, ← HM0.out]; exact HEV.out rfl r HMEM.out r0 HMEM0.out
            subst hmm
            go_wp2_with fail
            go_loopw [61] (fun i wr2 => ∃ t : Nat, t ≤ m ∧ i = .int .i64 t ∧ wr2 = wr) (fun i _ => m - (intOf i).toNat)
            case atStart => exact ⟨0, Nat.zero_le _, rfl, rfl⟩
            case round =>
              obtain ⟨t, ht, rfl, hw2⟩ := hrel
              have hw2' := hw2.symm
              subst hw2'
              by_cases hlt2 : t < m
              · obtain ⟨x, hx⟩ : ∃ x, r[t]? = some x := ⟨_, List.getElem?_eq_getElem (by rw [HM.out]; exact hlt2)⟩
                obtain ⟨cb, rfl, hcb⟩ := HRB.out.at_ (strs_get hx)
                have hax := HE3.out x (List.mem_of_getElem? hx)
                have t3 : decide (a < (x.size : Int)) = false := by simp; omega
                clear hx hax
                go_wp2_with fail
                go_roundw
                case rel => exact ⟨t + 1, by omega, by go_num, by first | rfl | trivial⟩
                case measure => simp [intOf]; omega
              · obtain rfl : t = m := by omega
                clear hlt2
                go_wp2_with fail
                go_roundw
                case rel => exact ⟨j + 1, by omega, by go_num, by first | rfl | trivial⟩
                case measure => simp [intOf]; omega
        · obtain rfl : j = n := by omega
          go_wp2_with fail
          refine (parse_is d q e 2147483648 2147483648 2147483648 false s (by omega) d0 d1 q0 q1 rs 0 0 j G1 HN _).mono ?_
          rintro x w4 ⟨D, dd, V2, rfl, HY, HB4⟩
          go_upto_region 19 with fail
          obtain ⟨W5, hW5⟩ : ∃ W5, w4.alloc (.cells #[.int .i64 0, .int .i64 0] 30) = W5 := ⟨_, rfl⟩
          obtain ⟨gb, hgb⟩ : ∃ gb, w4.heap.size = gb := ⟨_, rfl⟩
          have hb5 : Below wr.heap.size wr W5 := by rw [← hW5]; exact up_alloc HB4.out _
          have hb45 : Below w4.heap.size w4 W5 := by rw [← hW5]; exact up_alloc (Below.refl _ _) _
          have HX5 := Lib.hid (show SlIn W5 C j V ∧ RowsIn W5 V rs from ⟨HX2.out.1.below hb5, HX2.out.2.below hb5⟩)
          have HY5 := Lib.hid (show SlIn W5 D j V2 ∧ RowsIn W5 V2 rs from ⟨HY.out.1.below hb45, HY.out.2.below hb45⟩)
          have HL5 := HL3.out.below hb5
          have HG5 : StB W5 gb 30 #[.int .i64 0, .int .i64 0] := by rw [← hW5]; exact StB.made _ hgb.symm _ _
          have HB5 := Lib.hid (HB2.out.trans (hb5.mono HB2.out.size))
          rw [hW5, hgb]
          clear hW5 hgb hb5 hb45 k0 k1 k2 k3 k4 k5 k6 f0 f1 f2 k7 k8
          have k5 : W5.cell? ⟨w.heap.size + 1, 2, none⟩ = some (.int .i64 c) := HL5.cell 2
          have k8 := HL5.lt
          have f0 : W5.cell? ⟨gb, 0, none⟩ = some (.int .i64 0) := HG5.cell 0
          have f1 : W5.cell? ⟨gb, 1, none⟩ = some (.int .i64 0) := HG5.cell 1
          have f2 := HG5.lt
          have hfe := fun w => fault_eq 0 0 0 0 w
          have hjc : decide ((j : Int) ≤ c) = true := decide_eq_true hnc
          clear HL5 HG5
          go_wp2_with fail
          refine (above (sameTable_yes C D j cc dd V V2 rs g4 G3 W5 HX5 HY5)).mono ?_
          rintro x _ ⟨rfl, y6, rfl⟩
          go_wp2_with (go_at_call 7; ((with_reducible refine (above (awake6_any _)).mono ?_); rintro x _ ⟨rfl, y7, rfl⟩))
          go_ret
          exact ⟨rfl, up_onto (up_onto HB5.out y6) y7⟩
    · have hkb : (k != 0) = true := by simpa using hk
      clear HF2 HD2 HL2
      go_wp2_with (go_at_call 7; ((with_reducible refine (above (awake6_any _)).mono ?_); rintro x _ ⟨rfl, y, rfl⟩))
      go_ret
      exact ⟨rfl, up_onto HB2.out y⟩
  · go_enter Try.func6, Try.ntmps6
    go_wp2_with (go_at_call 7; ((with_reducible refine (above (awake6_any _)).mono ?_); rintro x _ ⟨rfl, y, rfl⟩))
    go_ret
    exact ⟨rfl, up_onto (up_alloc (up_alloc (Below.refl _ _) _) _) y⟩
end Go.Proofs.Ytbglecaahopgdaa

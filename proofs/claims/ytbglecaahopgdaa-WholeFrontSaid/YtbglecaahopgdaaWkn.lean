/- Layer 6: the walk of the statement WholeFront: the Go text returns true and leaves all that was there as it was. -/
import Derived.Test.YtbglecaahopgdaaWkm
import Derived.Test.YtbglecaahopgdaaWkj
import Derived.Deep.DeepCutAuto
import Derived.Deep.CutRange
import Derived.Deep.CutBlock
import Derived.Deep.RegionWith
namespace Go.Proofs.Ytbglecaahopgdaa
open Go.ChangeShapes Go.WideShapes Go.ChangeAt Go.RowKit
set_option linter.unusedVariables false
set_option linter.unusedSimpArgs false

theorem ref_iz (d q e : Int) (d0 : 0 ≤ d) (d1 : d ≤ 255) (q0 : 0 ≤ q) (q1 : q ≤ 255) (w : World) :
    Calls Try.prog 10 #[.agg #[.int .u8 d, .int .u8 q, .int .i64 e]] w fun x w' => x = .returned (.agg #[.int .i64 d, .int .i64 q, .int .i64 e]) ∧ ∃ y, w' = onto w y := above (ref_any d q e d0 d1 q0 q1 w)
theorem right_iz (d q e : Int) (r : Bool) (hr : Hid (rightR d q e = r)) (w : World) :
    Calls Try.prog 9 #[.agg #[.int .i64 d, .int .i64 q, .int .i64 e]] w fun x w' => x = .returned (.bool r) ∧ ∃ y, w' = onto w y := by rw [← hr.out]; exact above (refRight_any d q e w)
theorem parse_iz (d q e a b c : Int) (u : Bool) (s : ByteArray) (hs : s.size ≤ 900) (d0 : 0 ≤ d) (d1 : d ≤ 255) (q0 : 0 ≤ q) (q1 : q ≤ 255) (rs : List (List ByteArray)) (k at_ : Int) (n : Nat) (hp : Hid (parW d q e a b c u s = ⟨rs, k, at_⟩)) (hn : Hid (rs.length = n)) (w : World) :
    Calls Try.prog 8 #[.agg #[.int .u8 d, .int .u8 q, .int .i64 e], .agg #[.int .i64 a, .int .i64 b, .int .i64 c, .bool u], .string s] w fun x w' =>
      ∃ C c V, x = .returned (.tuple #[.slice C n c, .agg #[.int .i64 k, .int .i64 at_]]) ∧ Hid (SlIn w' C n V ∧ RowsIn w' V rs) ∧ ∃ y, w' = onto w y := by
  refine (parse_is d q e a b c u s hs d0 d1 q0 q1 rs k at_ n hp hn w).mono ?_
  rintro x w' ⟨C, cc, V, rfl, h1, h2⟩
  exact ⟨C, cc, V, rfl, h1, onto_of h2.out⟩

/-- A cell with a number is written: slices of texts stay. -/
theorem rows_set {W : World} {C : Option Addr} {n fb i : Nat} {V : List Value} {rs : List (List ByteArray)} {z : Int} (u : Value) (h : SlIn W C n V ∧ RowsIn W V rs) (hz : W.cell? ⟨fb, i, none⟩ = some (.int .i64 z)) : SlIn (W.setCell ⟨fb, i, none⟩ u) C n V ∧ RowsIn (W.setCell ⟨fb, i, none⟩ u) V rs := by
  have keep : ∀ (a : Addr) (v : Value), W.cell? a = some v → (∀ z, v ≠ Value.int .i64 z) → (W.setCell ⟨fb, i, none⟩ u).cell? a = some v := fun a v ha hv => by
    rw [World.cell?_setCell_other]
    · exact ha
    · rintro rfl
      rw [hz] at ha
      exact hv z (Option.some.inj ha).symm
  obtain ⟨⟨h1, h2⟩, h3, h4⟩ := h
  have hV : ∀ j v, V[j]? = some v → ∀ z, v ≠ Value.int .i64 z := fun j v hv z e => by
    have hj := (List.getElem?_eq_some_iff.1 hv).1
    obtain ⟨A, a, g1, _⟩ := h4 j (rs[j]'(by omega)) (List.getElem?_eq_getElem (by omega))
    rw [hv] at g1
    rw [e] at g1
    cases g1
  refine ⟨⟨h1, fun j v hv => ?_⟩, h3, fun j x hx => ?_⟩
  · obtain ⟨a, e, hc⟩ := h2 j v hv
    exact ⟨a, e, keep _ _ hc (hV j v hv)⟩
  · obtain ⟨A, a, g1, g2, g3⟩ := h4 j x hx
    refine ⟨A, a, g1, g2, fun k v hv => ?_⟩
    obtain ⟨b, e, hc⟩ := g3 k v hv
    exact ⟨b, e, keep _ _ hc (fun z e => by subst e; unfold strs at hv; rw [List.getElem?_map] at hv; obtain ⟨y, _, hy⟩ := Option.map_eq_some_iff.1 hv; cases hy)⟩
theorem fault_end {W2 U : World} {C : Option Addr} {n fb : Nat} {V : List Value} {rs : List (List ByteArray)} {z0 z1 : Int} (k a : Int) (hU : Below W2.heap.size W2 U) (hfb : W2.heap.size ≤ fb) (hs : StB U fb 30 #[.int .i64 z0, .int .i64 z1]) (hx : SlIn U C n V ∧ RowsIn U V rs) :
    Hid (SlIn ((U.setCell ⟨fb, 0, none⟩ (.int .i64 k)).setCell ⟨fb, 1, none⟩ (.int .i64 a)) C n V ∧ RowsIn ((U.setCell ⟨fb, 0, none⟩ (.int .i64 k)).setCell ⟨fb, 1, none⟩ (.int .i64 a)) V rs) ∧ Hid (Below W2.heap.size W2 ((U.setCell ⟨fb, 0, none⟩ (.int .i64 k)).setCell ⟨fb, 1, none⟩ (.int .i64 a))) ∧
      Hid (StB ((U.setCell ⟨fb, 0, none⟩ (.int .i64 k)).setCell ⟨fb, 1, none⟩ (.int .i64 a)) fb 30 #[.int .i64 k, .int .i64 a]) := by
  have s1 := hs.set_ 0 (.int .i64 k)
  have x1 := rows_set (.int .i64 k) hx (hs.cell 0)
  have x2 := rows_set (.int .i64 a) x1 (s1.cell 1)
  have b1 := hU.setCell (p := ⟨fb, 0, none⟩) hfb (.int .i64 k)
  exact ⟨Lib.hid x2, Lib.hid (b1.setCell (p := ⟨fb, 1, none⟩) hfb (.int .i64 a)), Lib.hid (s1.set_ 1 (.int .i64 a))⟩
theorem bounds_u16 {x : Int} (h : (Lit.int .u16 x).wf = true) : 0 ≤ x ∧ x ≤ 65535 := by
  have h1 : IntKind.u16.min = 0 := by decide
  have h2 : IntKind.u16.max = 65535 := by decide
  simp [Lit.wf] at h
  omega

set_option maxRecDepth 100000 in
set_option maxHeartbeats 3200000 in
theorem wholeFront_walk (d q e : Int) (s : ByteArray) (x : Int) (w : World) (hd : (Lit.int .u8 d).wf = true) (hq : (Lit.int .u8 q).wf = true) (_ : (Lit.int .i64 e).wf = true) (hs : s.size ≤ maxLen) (hx : (Lit.int .u16 x).wf = true) :
    Calls Try.prog 5 #[.agg #[.int .u8 d, .int .u8 q, .int .i64 e], .string s, .int .u16 x] w fun x w' => x = .returned (.bool true) ∧ Below w.heap.size w w' := by
  obtain ⟨d0, d1⟩ := bounds_u8 hd
  obtain ⟨q0, q1⟩ := bounds_u8 hq
  have hs0 : s.size ≤ 9223372036854775807 := hs
  have hx0 := bounds_u16 hx
  obtain ⟨x0, x1⟩ := hx0
  clear hd hq hx
  by_cases h300 : s.size ≤ 300
  · by_cases hr : rightB d q e = true
    · have HR := Lib.hid (show rightR d q e = true by rw [right_eq d q e d0 q0]; exact hr)
      obtain ⟨k, hk⟩ : ∃ k : Nat, x % ((s.size : Int) + 1) = k := ⟨(x % ((s.size : Int) + 1)).toNat, by rw [Int.toNat_of_nonneg (Int.emod_nonneg _ (by omega))]⟩
      have hk1 : k ≤ s.size := by have := Int.emod_lt_of_pos x (show (0 : Int) < (s.size : Int) + 1 by omega); omega
      have hk2 : (k : Int) ≤ s.size := by omega
      have hex : (s.extract 0 k).size ≤ 900 := by rw [ByteArray.size_extract]; omega
      obtain ⟨rs1, ka, aa, rs2, kb, ab, p1, p2, f1, f2, f3, f4, f5⟩ := front_facts d q e s h300 k hk1 hr
      obtain ⟨n1, hn1⟩ : ∃ n1, rs1.length = n1 := ⟨_, rfl⟩
      obtain ⟨n2, hn2⟩ : ∃ n2, rs2.length = n2 := ⟨_, rfl⟩
      rw [hn1] at f2 f4
      rw [hn2] at f5
      have P1 := Lib.hid p1
      have P2 := Lib.hid p2
      have F1 := Lib.hid f1
      have F2 := Lib.hid f2
      have F3 := Lib.hid f3
      have N1 := Lib.hid hn1
      have N2 := Lib.hid hn2
      clear p1 p2 f1 f2 f3 hn1 hn2 hr
      go_enter Try.func5, Try.ntmps5
      go_wp2_with fail
      refine (ref_iz d q e d0 d1 q0 q1 _).mono ?_
      rintro x _ ⟨rfl, y1, rfl⟩
      go_wp2_with fail
      refine (right_iz d q e true HR _).mono ?_
      rintro x _ ⟨rfl, y2, rfl⟩
      go_upto_region 5 with fail
      rw [hk]
      obtain ⟨W1, hW1⟩ : ∃ W1, onto (w.alloc (.cells #[.int .u8 d, .int .u8 q, .int .i64 e] 23)) (y1.up y2) = W1 := ⟨_, rfl⟩
      have hb1 : Below w.heap.size w W1 := by rw [← hW1]; exact up_onto (up_alloc (Below.refl _ _) _) _
      have hd1 : StB W1 w.heap.size 23 #[.int .u8 d, .int .u8 q, .int .i64 e] := by rw [← hW1]; exact (StB.made _ rfl _ _).onto _
      rw [hW1]
      clear hW1
      obtain ⟨W2, hW2⟩ : ∃ W2, W1.alloc (.cells #[.int .i64 2147483648, .int .i64 2147483648, .int .i64 2147483648, .bool false] 25) = W2 := ⟨_, rfl⟩
      obtain ⟨lb, hlb⟩ : ∃ lb, W1.heap.size = lb := ⟨_, rfl⟩
      have HB2 := Lib.hid (show Below w.heap.size w W2 by rw [← hW2]; exact up_alloc hb1 _)
      have HD2 := Lib.hid (show StB W2 w.heap.size 23 #[.int .u8 d, .int .u8 q, .int .i64 e] by rw [← hW2]; exact hd1.alloc _)
      have HL2 := Lib.hid (show StB W2 lb 25 #[.int .i64 2147483648, .int .i64 2147483648, .int .i64 2147483648, .bool false] by rw [← hW2]; exact StB.made _ hlb.symm _ _)
      rw [hW2, hlb]
      clear hW2 hlb hb1 hd1 hk
      have k0 : W2.cell? ⟨w.heap.size, 0, none⟩ = some (.int .u8 d) := HD2.out.cell 0
      have k1 : W2.cell? ⟨w.heap.size, 1, none⟩ = some (.int .u8 q) := HD2.out.cell 1
      have k2 : W2.cell? ⟨w.heap.size, 2, none⟩ = some (.int .i64 e) := HD2.out.cell 2
      have k3 : W2.cell? ⟨lb, 0, none⟩ = some (.int .i64 2147483648) := HL2.out.cell 0
      have k4 : W2.cell? ⟨lb, 1, none⟩ = some (.int .i64 2147483648) := HL2.out.cell 1
      have k5 : W2.cell? ⟨lb, 2, none⟩ = some (.int .i64 2147483648) := HL2.out.cell 2
      have k6 : W2.cell? ⟨lb, 3, none⟩ = some (.bool false) := HL2.out.cell 3
      have k7 := HD2.out.lt
      have k8 := HL2.out.lt
      go_cut [9, 10] (fun s9 s10 wx => ∃ C cc V fb, s9 = .slice C n1 cc ∧ s10 = .pointer (some ⟨fb, 0, none⟩) ∧ Hid (SlIn wx C n1 V ∧ RowsIn wx V rs1) ∧ Hid (Below W2.heap.size W2 wx) ∧ Hid (StB wx fb 30 #[.int .i64 ka, .int .i64 aa]))
      case first =>
        go_region_with (first | (go_at_call 8; ((with_reducible refine (parse_iz d q e 2147483648 2147483648 2147483648 false (s.extract 0 k) hex d0 d1 q0 q1 rs1 ka aa n1 P1 N1 _).mono ?_); rintro x _ ⟨C, cc, V, rfl, HX, y5, rfl⟩)))
        all_goals go_wp2_with fail
        all_goals go_meet
        all_goals first
          | with_reducible exact ⟨C, cc, V, _, rfl, rfl, Lib.hid ⟨HX.out.1.alloc _, HX.out.2.below (up_alloc (Below.refl _ _) _)⟩, Lib.hid (up_alloc (below_drew_onto W2 y5) _), Lib.hid (StB.new _ _ _)⟩
          | with_reducible exact ⟨C, cc, V, _, rfl, rfl, fault_end ka aa (below_alloc_drew W2 _ y5) (Nat.le_refl _) (stb_alloc_drew W2 _ _ y5) HX.out⟩
      case rest =>
        obtain ⟨C, cc, V, fb, rfl, rfl, HX, HBC, HF⟩ := hcut
        obtain ⟨W3, hW3⟩ : ∃ W3, W3 = wc := ⟨_, rfl⟩
        subst hW3
        have HD3 := HD2.out.below HBC.out
        have HL3 := HL2.out.below HBC.out
        have HB3 := Lib.hid (HB2.out.trans (HBC.out.mono HB2.out.size))
        clear k0 k1 k2 k3 k4 k5 k6 k7 k8 HBC HB2 HD2 HL2
        have k0 : W3.cell? ⟨w.heap.size, 0, none⟩ = some (.int .u8 d) := HD3.cell 0
        have k1 : W3.cell? ⟨w.heap.size, 1, none⟩ = some (.int .u8 q) := HD3.cell 1
        have k2 : W3.cell? ⟨w.heap.size, 2, none⟩ = some (.int .i64 e) := HD3.cell 2
        have k3 : W3.cell? ⟨lb, 0, none⟩ = some (.int .i64 2147483648) := HL3.cell 0
        have k4 : W3.cell? ⟨lb, 1, none⟩ = some (.int .i64 2147483648) := HL3.cell 1
        have k5 : W3.cell? ⟨lb, 2, none⟩ = some (.int .i64 2147483648) := HL3.cell 2
        have k6 : W3.cell? ⟨lb, 3, none⟩ = some (.bool false) := HL3.cell 3
        have k7 := HD3.lt
        have k8 := HL3.lt
        clear HD3 HL3
        go_wp2_with fail
        refine (parse_is d q e 2147483648 2147483648 2147483648 false s (by omega) d0 d1 q0 q1 rs2 kb ab n2 P2 N2 _).mono ?_
        rintro x w4 ⟨D, dd, V2, rfl, HX2, HB4⟩
        go_upto_region 7 with fail
        obtain ⟨W5, hW5⟩ : ∃ W5, w4.alloc (.cells #[.int .i64 kb, .int .i64 ab] 30) = W5 := ⟨_, rfl⟩
        obtain ⟨gb, hgb⟩ : ∃ gb, w4.heap.size = gb := ⟨_, rfl⟩
        have hb5 : Below W3.heap.size W3 W5 := by rw [← hW5]; exact up_alloc HB4.out _
        have hb45 : Below w4.heap.size w4 W5 := by rw [← hW5]; exact up_alloc (Below.refl _ _) _
        have HX5 := Lib.hid (show SlIn W5 C n1 V ∧ RowsIn W5 V rs1 from ⟨HX.out.1.below hb5, HX.out.2.below hb5⟩)
        have HY5 := Lib.hid (show SlIn W5 D n2 V2 ∧ RowsIn W5 V2 rs2 from ⟨HX2.out.1.below hb45, HX2.out.2.below hb45⟩)
        have HF5 := HF.out.below hb5
        have HG5 : StB W5 gb 30 #[.int .i64 kb, .int .i64 ab] := by rw [← hW5]; exact StB.made _ hgb.symm _ _
        have HB5 := Lib.hid (HB3.out.trans (hb5.mono HB3.out.size))
        rw [hW5, hgb]
        clear hW5 hgb hb5 hb45 HX HX2 HF HB3 HB4 k0 k1 k2 k3 k4 k5 k6 k7 k8 P1 P2
        have k0 : W5.cell? ⟨fb, 0, none⟩ = some (.int .i64 ka) := HF5.cell 0
        have k1 : W5.cell? ⟨fb, 1, none⟩ = some (.int .i64 aa) := HF5.cell 1
        have k2 : W5.cell? ⟨gb, 0, none⟩ = some (.int .i64 kb) := HG5.cell 0
        have k3 : W5.cell? ⟨gb, 1, none⟩ = some (.int .i64 ab) := HG5.cell 1
        have k4 := HF5.lt
        have k5 := HG5.lt
        clear HF5 HG5
        obtain ⟨v1, hv1⟩ : ∃ v, (ka != 0) = v := ⟨_, rfl⟩
        obtain ⟨v1', hv1'⟩ : ∃ v, (ka == 0) = v := ⟨_, rfl⟩
        obtain ⟨v2, hv2⟩ : ∃ v, decide (aa < (k : Int)) = v := ⟨_, rfl⟩
        have hfe := fun w => fault_eq ka aa kb ab w
        have V1 := Lib.hid hv1
        have V1' := Lib.hid hv1'
        have V2' := Lib.hid hv2
        have hnot : v1' = !v1 := by rw [← hv1, ← hv1']; simp [bne]
        obtain ⟨n', hn'⟩ : ∃ n' : Nat, n' = if v1 = false ∧ 0 < n1 then n1 - 1 else n1 := ⟨_, rfl⟩
        have HN' := Lib.hid hn'
        have HK := Lib.hid (show n' ≤ n2 ∧ ∀ j, j < n' → ∃ r, rs1[j]? = some r ∧ rs2[j]? = some r by
          have hj : ∀ j, j < n' → ∃ r, rs1[j]? = some r ∧ rs2[j]? = some r := fun j hj => by
            have hjn : j < n1 := by rw [hn'] at hj; split at hj <;> omega
            refine ⟨rs1[j]'(by rw [N1.out]; exact hjn), List.getElem?_eq_getElem _, F2.out j _ ?_ (List.getElem?_eq_getElem _)⟩
            rw [hn'] at hj
            by_cases h0 : ka = 0
            · rw [if_pos h0]
              have : v1 = false := by rw [← hv1]; simp [h0]
              rw [if_pos ⟨this, by omega⟩] at hj
              omega
            · rw [if_neg h0]; omega
          refine ⟨?_, hj⟩
          rcases Nat.lt_or_ge n2 n' with h | h
          · obtain ⟨r, _, hr⟩ := hj n2 h
            have := (List.getElem?_eq_some_iff.1 hr).1
            rw [N2.out] at this
            omega
          · exact h)
        have hnl : n' ≤ n2 := HK.out.1
        have hn1' : n' ≤ n1 := by rw [hn']; split <;> omega
        subst hnot
        clear hn' hv1'
        go_cut [61] (fun s61 wx => s61 = .bool false ∧ wx = W5)
        case first =>
          cases v1
          · go_wp2_with fail
            go_meet
            exact ⟨rfl, rfl⟩
          · cases v2
            · go_wp2_with fail
              go_meet
              exact ⟨rfl, rfl⟩
            · obtain ⟨rfl, rfl⟩ := F1.out (by simpa using V1.out) (of_decide_eq_true V2'.out)
              go_wp2_with fail
              go_meet
              exact ⟨rfl, rfl⟩
        case rest =>
          obtain ⟨rfl, hwc⟩ := hcut
          have hwc' := hwc.symm
          subst hwc'
          go_upto_region 10 with fail
          obtain ⟨v3, hv3⟩ : ∃ v, decide (0 < (n1 : Int)) = v := ⟨_, rfl⟩
          obtain ⟨v3', hv3'⟩ : ∃ v, decide (0 < n1) = v := ⟨_, rfl⟩
          have e3 : v3' = v3 := by rw [← hv3, ← hv3']; rw [Bool.eq_iff_iff]; simp
          rw [e3] at hv3'
          have V3 := Lib.hid hv3'
          have hzz := V1'.out
          have hn2' : decide ((n2 : Int) < (n' : Int)) = false := decide_eq_false (by omega)
          clear e3 hfe k2 k3 k5 V2' hv2 F1 F2 hv1
          go_cut [70] (fun s70 wx => s70 = .bool (!v1 && v3) ∧ wx = W5)
          case first =>
            cases v1
            · cases v3
              · go_wp2_with fail
                go_meet
                exact ⟨rfl, rfl⟩
              · go_wp2_with fail
                go_meet
                exact ⟨rfl, rfl⟩
            · go_wp2_with fail
              go_meet
              exact ⟨rfl, rfl⟩
          case rest =>
            obtain ⟨rfl, hwc⟩ := hcut
            have hwc' := hwc.symm
            subst hwc'
            obtain ⟨v4, hv4⟩ : ∃ v, (!v1 && v3) = v := ⟨_, rfl⟩
            rw [hv4]
            have hn1n : n' = if v4 = true then n1 - 1 else n1 := by
              rw [HN'.out, ← hv4, ← V3.out]
              cases v1 <;> simp
            have hpos : v4 = true → 0 < n1 := by
              rw [← hv4, ← V3.out]; cases v1 <;> simp
            have HNN := Lib.hid hn1n
            have HPOS := Lib.hid hpos
            clear hn1n hpos hv4 hzz hv3 hv3'
            go_upto_if 70 with fail
            go_cut [13] (fun s13 wx => s13 = .int .i64 (n' : Int) ∧ wx = W5)
            case first =>
              cases v4
              · go_wp2_with fail
                go_meet
                have e : n' = n1 := by simpa using HNN.out
                exact ⟨by rw [e], rfl⟩
              · have h0 : 0 < n1 := HPOS.out rfl
                go_wp2_with fail
                go_meet
                have e : n' = n1 - 1 := by simpa using HNN.out
                exact ⟨congrArg (Value.int .i64) (by omega), rfl⟩
            case rest =>
              obtain ⟨rfl, hwc⟩ := hcut
              have hwc' := hwc.symm
              subst hwc'
              clear HNN HPOS V3 HN' V1 V1'
              go_wp2_with fail
              go_loopw [78] (fun i wr => ∃ j : Nat, j ≤ n' ∧ i = .int .i64 j ∧ Hid (Below W5.heap.size W5 wr)) (fun i _ => n' - (intOf i).toNat)
              case atStart => exact ⟨0, Nat.zero_le _, rfl, Lib.hid (Below.refl _ _)⟩
              case round =>
                obtain ⟨j, hj, rfl, HW⟩ := hrel
                obtain ⟨W6, hW6⟩ : ∃ W, W = wr := ⟨_, rfl⟩
                subst hW6
                by_cases hlt : j < n'
                · obtain ⟨r, hr1, hr2⟩ := HK.out.2 j hlt
                  obtain ⟨A, a, hva, hra⟩ := HX5.out.2.2 j r hr1
                  obtain ⟨B, b, hvb, hrb⟩ := HY5.out.2.2 j r hr2
                  obtain ⟨ca, rfl, hca⟩ := (HX5.out.1.below HW.out).at_ hva
                  obtain ⟨cb, rfl, hcb⟩ := (HY5.out.1.below HW.out).at_ hvb
                  have za : ∀ z, (onto W6 z).cell? (ca.add j) = some (.slice A r.length a) := fun z => mem_cell (onto_below W6 z) hca
                  have zb : ∀ z, (onto W6 z).cell? (cb.add j) = some (.slice B r.length b) := fun z => mem_cell (onto_below W6 z) hcb
                  have HRA := Lib.hid (hra.below HW.out)
                  have HRB := Lib.hid (hrb.below HW.out)
                  obtain ⟨m, hm⟩ : ∃ m, r.length = m := ⟨_, rfl⟩
                  have hm1 : m ≤ 1000 := by rw [← hm]; exact F3.out r (List.mem_of_getElem? hr1)
                  have hsame : ∀ z, Calls Try.prog 18 #[.slice A m a, .slice B m b] (onto W6 z) fun e w' => e = .returned (.bool true) ∧ Below (onto W6 z).heap.size (onto W6 z) w' := fun z => by
                    rw [← hm]; exact same_yes A B r.length a b r (onto W6 z) (HRA.out.below (onto_below W6 z)) (HRB.out.below (onto_below W6 z)) (by omega)
                  rw [hm] at za zb
                  have hj1 : (j : Int) < n1 := by omega
                  have hj2 : (j : Int) < n2 := by omega
                  clear hr1 hr2 hva hvb hra hrb hca hcb
                  go_wp2_with fail
                  refine wp_region_onto (by kernel_rfl) (by kernel_rfl) ?_
                  repeat (go_big_quiet_step ((go_at_call 18; with_reducible exact calls_onto (hsame _))))
                  refine wpQuiet_nil ?_
                  intro _ hw'
                  obtain ⟨x1, hw''⟩ := hw'
                  subst hw''
                  go_wp2_with fail
                  go_roundw
                  case rel => exact ⟨j + 1, by omega, by go_num, Lib.hid (up_onto HW.out x1)⟩
                  case measure => simp [intOf]; omega
                · obtain rfl : j = n' := by omega
                  clear hlt
                  have HBW := Lib.hid (HB5.out.trans (HW.out.mono HB5.out.size))
                  go_wp2_with (go_at_call 7; ((with_reducible refine (above (awake6_any _)).mono ?_); rintro x _ ⟨rfl, y, rfl⟩))
                  go_ret
                  exact ⟨rfl, up_onto HBW.out y⟩
    · have HR := Lib.hid (show rightR d q e = false by rw [right_eq d q e d0 q0]; simpa using hr)
      clear hr
      go_enter Try.func5, Try.ntmps5
      go_wp2_with (first | (go_at_call 10; ((with_reducible refine (ref_iz d q e d0 d1 q0 q1 _).mono ?_); rintro x _ ⟨rfl, y, rfl⟩)) | (go_at_call 9; ((with_reducible refine (right_iz d q e false HR _).mono ?_); rintro x _ ⟨rfl, y, rfl⟩)) | (go_at_call 7; ((with_reducible refine (above (awake6_any _)).mono ?_); rintro x _ ⟨rfl, y, rfl⟩)))
      go_ret
      exact ⟨rfl, (by (repeat (first | exact Below.refl _ _ | refine up_alloc ?_ _ | refine up_onto ?_ _)))⟩
  · go_enter Try.func5, Try.ntmps5
    go_wp2_with (go_at_call 7; ((with_reducible refine (above (awake6_any _)).mono ?_); rintro x _ ⟨rfl, y, rfl⟩))
    go_ret
    exact ⟨rfl, (by (repeat (first | exact Below.refl _ _ | refine up_alloc ?_ _ | refine up_onto ?_ _)))⟩
end Go.Proofs.Ytbglecaahopgdaa

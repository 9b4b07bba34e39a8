/- The document's Same at any two lists. The document's SameTable at any two tables. Layer 6: the contract of the document's own Parse. The document's Same at any two lists; its Parse within wide limits. -/
import Derived.Test.YtoeanbfemgmgnaaRows
import Derived.LoopTactic
import Derived.Test.YtoeanbfemgmgnaaZk
import Derived.Test.YtoeanbfemgmgnaaZp
import Derived.Test.YtoeanbfemgmgnaaZr
import Derived.Test.YtoeanbfemgmgnaaZn
import Derived.Deep.DeepCutAuto
import Derived.Deep.CutRange
import Derived.Deep.CutBlock
namespace Go.Proofs.Ytoeanbfemgmgnaa
open Go.ChangeShapes Go.WideShapes Go.ChangeAt Go.RowKit
set_option linter.unusedVariables false
set_option linter.unusedSimpArgs false

theorem list_eq_at {l r : List ByteArray} (hlen : l.length = r.length) (h : ∀ j, j < l.length → l[j]? = r[j]?) : l = r := by
  refine List.ext_getElem? fun j => ?_
  by_cases hj : j < l.length
  · exact h j hj
  · rw [List.getElem?_eq_none (by omega), List.getElem?_eq_none (by omega)]
set_option maxHeartbeats 1600000 in
theorem same_any (A B : Option Addr) (n m c d : Nat) (l r : List ByteArray) (w : World) (ha : Hid (SlIn w A n (strs l))) (hb : Hid (SlIn w B m (strs r))) (hm : m ≤ 1000000) (v : Bool) (hv : Hid (decide (l = r) = v)) :
    Calls Try.prog 30 #[.slice A n c, .slice B m d] w fun e w' => e = .returned (.bool v) ∧ Below w.heap.size w w' := by
  have HL := Lib.hid ha.out.lenS
  have HM := Lib.hid hb.out.lenS
  by_cases hnm : n = m
  · subst hnm
    go_enter Try.func30, Try.ntmps30
    go_wp2_with fail
    go_loopw [13] (fun i wr => ∃ k : Nat, k ≤ n ∧ i = .int .i64 k ∧ Hid (∀ j, j < k → l[j]? = r[j]?) ∧ Hid (∃ y, wr = onto w y)) (fun i _ => n - (intOf i).toNat)
    case atStart => exact ⟨0, Nat.zero_le _, rfl, Lib.hid (fun j hj => by omega), Lib.hid (onto_self w)⟩
    case round =>
      obtain ⟨k, hk, rfl, HE, HY⟩ := hrel
      obtain ⟨y, rfl⟩ := HY.out
      clear HY
      by_cases hlt : k < n
      · obtain ⟨s, hs⟩ : ∃ s, l[k]? = some s := ⟨_, List.getElem?_eq_getElem (by rw [HL.out]; exact hlt)⟩
        obtain ⟨t, ht⟩ : ∃ t, r[k]? = some t := ⟨_, List.getElem?_eq_getElem (by rw [HM.out]; exact hlt)⟩
        have HS := Lib.hid hs
        have HT := Lib.hid ht
        obtain ⟨a, rfl, hca⟩ := ha.out.at_ (strs_get hs)
        obtain ⟨b, rfl, hcb⟩ := hb.out.at_ (strs_get ht)
        have za : ∀ z, (onto w z).cell? (a.add k) = some (.string s) := fun z => (mem_cell (onto_below w z) hca)
        have zb : ∀ z, (onto w z).cell? (b.add k) = some (.string t) := fun z => (mem_cell (onto_below w z) hcb)
        clear hs ht hca hcb
        by_cases hst : s = t
        · subst hst
          have ne : (s.toList == s.toList) = true := by simp
          go_wp2_with fail
          refine wp_region_onto (by kernel_rfl) (by kernel_rfl) ?_
          repeat (go_big_quiet_step (fail))
          refine wpQuiet_nil ?_
          intro _ hw'
          obtain ⟨x1, hw''⟩ := hw'
          subst hw''
          go_wp2_with fail
          go_roundw
          case rel => exact ⟨k + 1, by omega, by go_num, Lib.hid (fun j hj => by
            by_cases h : j < k
            · exact HE.out j h
            · obtain rfl : j = k := by omega
              rw [HS.out, HT.out]), Lib.hid ⟨y.up x1, rfl⟩⟩
          case measure => simp [intOf]; omega
        · have ne : (s.toList == t.toList) = false := by rw [str_eq]; exact decide_eq_false fun h => hst (bl_inj h)
          have hfalse : v = false := by
            rw [← hv.out]; simp; rintro rfl
            have := HS.out.symm.trans HT.out
            exact hst (by injection this)
          go_wp2_with fail
          refine wp_region_onto (by kernel_rfl) (by kernel_rfl) ?_
          repeat (go_big_quiet_step (fail))
          refine wpQuiet_nil ?_
          intro _ hw'
          obtain ⟨x1, hw''⟩ := hw'
          subst hw''
          go_wp2_with fail
          go_ret
          exact ⟨ret_bool hfalse.symm, up_onto (onto_below w _) _⟩
      · obtain rfl : k = n := by omega
        have htrue : v = true := by
          rw [← hv.out]
          exact decide_eq_true (list_eq_at (by rw [HL.out, HM.out]) (fun j hj => HE.out j (by rw [HL.out] at hj; exact hj)))
        clear hlt
        go_wp2_with fail
        go_ret
        exact ⟨ret_bool htrue.symm, onto_below w y⟩
  · have hne : ((n : Int) == (m : Int)) = false := by rw [beq_eq_false_iff_ne]; omega
    have hfalse : v = false := by
      rw [← hv.out]; simp; rintro rfl
      exact hnm (HL.out.symm.trans HM.out)
    go_enter Try.func30, Try.ntmps30
    go_wp2_with fail
    go_ret
    exact ⟨ret_bool hfalse.symm, Below.refl _ _⟩

end Go.Proofs.Ytoeanbfemgmgnaa

namespace Go.Proofs.Ytoeanbfemgmgnaa
open Go.ChangeShapes Go.WideShapes Go.ChangeAt Go.RowKit
set_option linter.unusedVariables false
set_option linter.unusedSimpArgs false

theorem tab_eq_at {l r : List (List ByteArray)} (hlen : l.length = r.length) (h : ∀ j, j < l.length → l[j]? = r[j]?) : l = r := by
  refine List.ext_getElem? fun j => ?_
  by_cases hj : j < l.length
  · exact h j hj
  · rw [List.getElem?_eq_none (by omega), List.getElem?_eq_none (by omega)]
set_option maxHeartbeats 1600000 in
theorem sameTab_any (A B : Option Addr) (n m c d : Nat) (V U : List Value) (l r : List (List ByteArray)) (w : World) (hl : Hid (TabIn w A n V l)) (hr : Hid (TabIn w B m U r)) (hm : m ≤ 1000000) (hf : Hid (∀ x ∈ r, x.length ≤ 1000000)) (v : Bool) (hv : Hid (decide (l = r) = v)) :
    Calls Try.prog 13 #[.slice A n c, .slice B m d] w fun e w' => e = .returned (.bool v) ∧ Below w.heap.size w w' := by
  have HL := Lib.hid hl.out.len
  have HM := Lib.hid hr.out.len
  by_cases hnm : n = m
  · subst hnm
    go_enter Try.func13, Try.ntmps13
    go_wp2_with fail
    go_loopw [13] (fun i wr => ∃ k : Nat, k ≤ n ∧ i = .int .i64 k ∧ Hid (∀ j, j < k → l[j]? = r[j]?) ∧ Hid (∃ y, wr = onto w y)) (fun i _ => n - (intOf i).toNat)
    case atStart => exact ⟨0, Nat.zero_le _, rfl, Lib.hid (fun j hj => by omega), Lib.hid (onto_self w)⟩
    case round =>
      obtain ⟨k, hk, rfl, HE, HY⟩ := hrel
      by_cases hlt : k < n
      · have HYW := Lib.hid (show Below w.heap.size w wr by obtain ⟨y, rfl⟩ := HY.out; exact onto_below w y)
        obtain ⟨W, hW⟩ : ∃ W, W = wr := ⟨_, rfl⟩
        subst hW
        obtain ⟨x, hx⟩ : ∃ x, l[k]? = some x := ⟨_, List.getElem?_eq_getElem (by rw [HL.out]; exact hlt)⟩
        obtain ⟨z, hz⟩ : ∃ z, r[k]? = some z := ⟨_, List.getElem?_eq_getElem (by rw [HM.out]; exact hlt)⟩
        obtain ⟨ca, X, a, rfl, hca, hra⟩ := (hl.out.below HYW.out).row hx
        obtain ⟨cb, Z, b, rfl, hcb, hrb⟩ := (hr.out.below HYW.out).row hz
        have za : ∀ y, (onto W y).cell? (ca.add k) = some (.slice X x.length a) := fun y => mem_cell (onto_below W y) hca
        have zb : ∀ y, (onto W y).cell? (cb.add k) = some (.slice Z z.length b) := fun y => mem_cell (onto_below W y) hcb
        have HRA := Lib.hid hra
        have HRB := Lib.hid hrb
        obtain ⟨s, hs⟩ : ∃ s, decide (x = z) = s := ⟨_, rfl⟩
        have HS := Lib.hid hs
        have HX := Lib.hid hx
        have HZ := Lib.hid hz
        have hzl : z.length ≤ 1000000 := hf.out z (List.mem_of_getElem? hz)
        obtain ⟨xl, hxl⟩ : ∃ xl, x.length = xl := ⟨_, rfl⟩
        obtain ⟨zl, hzl'⟩ : ∃ zl, z.length = zl := ⟨_, rfl⟩
        have hsame : ∀ y, Calls Try.prog 30 #[.slice X xl a, .slice Z zl b] (onto W y) fun e w' => e = .returned (.bool s) ∧ Below (onto W y).heap.size (onto W y) w' := fun y => by
          rw [← hxl, ← hzl']; exact same_any X Z x.length z.length a b x z (onto W y) (Lib.hid (HRA.out.below (onto_below W y))) (Lib.hid (HRB.out.below (onto_below W y))) hzl s HS
        rw [hxl] at za
        rw [hzl'] at zb
        clear hx hz hra hrb hca hcb HY hxl hzl' hzl
        cases s
        · have hfalse : v = false := by
            rw [← hv.out]; simp; rintro rfl
            have h1 := HX.out.symm.trans HZ.out
            have h2 := HS.out
            simp only [decide_eq_false_iff_not] at h2
            exact h2 (by injection h1)
          have HFV := Lib.hid hfalse
          clear hs hfalse
          go_wp2_with fail
          refine wp_region_onto (by kernel_rfl) (by kernel_rfl) ?_
          repeat (go_big_quiet_step ((go_at_call 30; with_reducible exact calls_onto (hsame _))))
          refine wpQuiet_nil ?_
          intro _ hw'
          obtain ⟨x1, hw''⟩ := hw'
          subst hw''
          go_wp2_with fail
          go_ret
          exact ⟨ret_bool HFV.out.symm, up_onto HYW.out x1⟩
        · have HE' := Lib.hid (show ∀ j, j < k + 1 → l[j]? = r[j]? from fun j hj => by
            by_cases h : j < k
            · exact HE.out j h
            · obtain rfl : j = k := by omega
              rw [HX.out, HZ.out, of_decide_eq_true HS.out])
          clear hs
          go_wp2_with fail
          refine wp_region_onto (by kernel_rfl) (by kernel_rfl) ?_
          repeat (go_big_quiet_step ((go_at_call 30; with_reducible exact calls_onto (hsame _))))
          refine wpQuiet_nil ?_
          intro _ hw'
          obtain ⟨x1, hw''⟩ := hw'
          subst hw''
          go_wp2_with fail
          go_roundw
          case rel => exact ⟨k + 1, by omega, by go_num, HE', Lib.hid (onto_of (up_onto HYW.out x1))⟩
          case measure => simp [intOf]; omega
      · obtain rfl : k = n := by omega
        obtain ⟨y, rfl⟩ := HY.out
        have htrue : v = true := by
          rw [← hv.out]
          exact decide_eq_true (tab_eq_at (by rw [HL.out, HM.out]) (fun j hj => HE.out j (by rw [HL.out] at hj; exact hj)))
        clear hlt HY
        go_wp2_with fail
        go_ret
        exact ⟨ret_bool htrue.symm, onto_below w y⟩
  · have hne : ((n : Int) == (m : Int)) = false := by rw [beq_eq_false_iff_ne]; omega
    have hfalse : v = false := by
      rw [← hv.out]; simp; rintro rfl
      exact hnm (HL.out.symm.trans HM.out)
    go_enter Try.func13, Try.ntmps13
    go_wp2_with fail
    go_ret
    exact ⟨ret_bool hfalse.symm, Below.refl _ _⟩
end Go.Proofs.Ytoeanbfemgmgnaa

namespace Go.Proofs.Ytoeanbfemgmgnaa
open Go.ChangeShapes Go.WideShapes Go.ChangeAt Go.RowKit
set_option linter.unusedVariables false
set_option linter.unusedSimpArgs false

theorem RowsAt.toIn {w : World} {base : Nat} {V : List Value} {rs : List (List ByteArray)} {no : Option Nat} (h : RowsAt w base 9 V rs no) : RowsIn w V rs := ⟨h.1, fun j x hx => by
  obtain ⟨A, a, h1, h2, _⟩ := h.2 j x hx
  exact ⟨A, a, h1, h2.toIn⟩⟩

theorem RowsIn.snoc {W : World} {V : List Value} {rs : List (List ByteArray)} (h : RowsIn W V rs) {A : Option Addr} {a : Nat} {x : List ByteArray} (ho : SlIn W A x.length (strs x)) : RowsIn W (V ++ [.slice A x.length a]) (rs ++ [x]) := by
  refine ⟨by simp [h.1], fun j y hy => ?_⟩
  by_cases hj : j < rs.length
  · rw [List.getElem?_append_left hj] at hy
    obtain ⟨B, b, hv, h2⟩ := h.2 j y hy
    exact ⟨B, b, by rw [List.getElem?_append_left (by rw [h.1]; exact hj)]; exact hv, h2⟩
  · rw [List.getElem?_append_right (by omega)] at hy
    have : j = rs.length := by
      have := (List.getElem?_eq_some_iff.1 hy).1
      simp at this; omega
    subst this
    simp at hy; subst hy
    exact ⟨A, a, by rw [← h.1]; simp, ho⟩
def keepP (K : Int) (off AT : Nat) (p : List ByteArray × Nat) : Bool := decide (K = 0) || decide (p.2 + off < AT)
def keepL (K : Int) (off AT k : Nat) (l : List (List ByteArray × Nat)) : List (List ByteArray) := ((l.take k).filter (keepP K off AT)).map (·.1)
theorem keepL_yes {K : Int} {off AT k : Nat} {l : List (List ByteArray × Nat)} {p : List ByteArray × Nat} (h : l[k]? = some p) (hp : keepP K off AT p = true) : keepL K off AT (k + 1) l = keepL K off AT k l ++ [p.1] := by
  unfold keepL
  rw [List.take_add_one, h, List.filter_append, List.map_append]
  simp [hp]
theorem keepL_no {K : Int} {off AT k : Nat} {l : List (List ByteArray × Nat)} {p : List ByteArray × Nat} (h : l[k]? = some p) (hp : keepP K off AT p = false) : keepL K off AT (k + 1) l = keepL K off AT k l := by
  unfold keepL
  rw [List.take_add_one, h, List.filter_append, List.map_append]
  simp [hp]
/-- What the document's Parse answers. -/
def RpOut (rs : List (List ByteArray)) (K A : Int) (w : World) (x : Ending) (w' : World) : Prop :=
  ∃ C c V, x = .returned (.tuple #[.slice C rs.length c, .int .i64 K, .int .i64 A]) ∧ Hid (SlIn w' C rs.length V ∧ RowsIn w' V rs) ∧ Hid (Below w.heap.size w w')
theorem rows_at {U : World} {VV : List Value} {l : List (List ByteArray × Nat)} {k : Nat} {p : List ByteArray × Nat} (h : RowsIn U VV (l.map (·.1))) (hk : l[k]? = some p) : ∃ A a, VV[k]? = some (.slice A p.1.length a) ∧ SlIn U A p.1.length (strs p.1) :=
  h.2 k p.1 (by rw [List.getElem?_map, hk]; rfl)
theorem ends_at {l : List (List ByteArray × Nat)} {k : Nat} {p : List ByteArray × Nat} (hk : l[k]? = some p) : (ends l)[k]? = some (.int .i64 (p.2 : Int)) := by unfold ends; rw [List.getElem?_map, hk]; rfl

set_option maxRecDepth 100000 in
set_option maxHeartbeats 3200000 in
theorem refParse_any (d q e lf ls lr un : Int) (s : ByteArray) (hs : s.size ≤ 980) (hun : un = 0 ∨ un = 1) (n0 : Nat) (G : Got) (hG : Hid (rdGo d q e n0 ⟨lf, ls, lr, decide (un = 1), [], [], 0, 0, 0, 0⟩ 0 (bomStrip (bl s)) = G)) (hn0 : s.size < n0) (ok : Hid (GotOk G 980)) (rs0 : List (List ByteArray)) (K0 Az : Int) (hR0 : Hid (whRs G (bl s) = rs0)) (hK0 : Hid ((whKA G (bl s)).1 = K0)) (hA0 : Hid ((if K0 = 0 then 0 else ((whKA G (bl s)).2 : Int)) = Az)) (w : World) :
    Calls Try.prog 10 #[.agg #[.int .i64 d, .int .i64 q, .int .i64 e], .agg #[.int .i64 lf, .int .i64 ls, .int .i64 lr, .int .i64 un], .string s] w (RpOut rs0 K0 Az w) := by
  obtain ⟨i0, hi, hz0, hz1, hz2⟩ := info_parts infoRow
  have Hi := Lib.hid hi
  have Hz0 := Lib.hid hz0
  have Hz1 := Lib.hid hz1
  have Hz2 := Lib.hid hz2
  clear hi hz0 hz1 hz2
  have hs1 : s.size ≤ 9223372036854775807 := by omega
  obtain ⟨o, ho⟩ : ∃ o, bomO s = o := ⟨_, rfl⟩
  obtain ⟨b, hb⟩ : ∃ b, had01 (bl s) = b := ⟨_, rfl⟩
  obtain ⟨off, hoff⟩ : ∃ off, whOff (bl s) = off := ⟨_, rfl⟩
  have HO := Lib.hid ho
  have HB := Lib.hid hb
  have hol : off + o.size = s.size := by
    have := whOff_len (bl s)
    rw [hoff, ← bl_bomO, ho, bl_length, bl_length] at this; exact this
  have hsub : (s.size : Int) - o.size = (off : Int) := by omega
  have ho1 : o.size ≤ 9223372036854775807 := by omega
  have HG := Lib.hid (show rdGo d q e n0 ⟨lf, ls, lr, decide (un = 1), [], [], 0, 0, 0, 0⟩ 0 (bl o) = G by rw [← ho, bl_bomO]; exact hG.out)
  clear ho hb
  go_enter Try.func10, Try.ntmps10
  go_wp2_with (go_at_call 26; ((with_reducible refine (above (refStrip_is s o (by unfold maxLen; omega) b HO HB _)).mono ?_); rintro x _ ⟨rfl, yy, rfl⟩))
  obtain ⟨V0, hV0⟩ : ∃ V0, onto ((w.alloc (.cells #[.int .i64 d, .int .i64 q, .int .i64 e] 40)).alloc (.cells #[.int .i64 lf, .int .i64 ls, .int .i64 lr, .int .i64 un] 43)) yy = V0 := ⟨_, rfl⟩
  have HB0 := Lib.hid (show Below w.heap.size w V0 by rw [← hV0]; exact up_onto (up_alloc (up_alloc (Below.refl _ _) _) _) yy)
  rw [hV0]
  clear hV0
  refine (read_any6 d q e lf ls lr un o (by omega) hun n0 (by omega) G HG V0).mono ?_
  rintro x V ⟨C, c, E, ce, VV, rfl, HX, HBV⟩
  go_wp2_with fail
  obtain ⟨W, hW⟩ : ∃ W, V.alloc (.cells #[.slice C G.rs.length c, .slice E G.rs.length ce, .int .i64 G.k, .int .i64 (G.at_ : Int)] 71) = W := ⟨_, rfl⟩
  obtain ⟨gb, hgb⟩ : ∃ gb, V.heap.size = gb := ⟨_, rfl⟩
  rw [hW, hgb]
  have HGB := Lib.hid (show StB W gb 71 #[.slice C G.rs.length c, .slice E G.rs.length ce, .int .i64 G.k, .int .i64 (G.at_ : Int)] by rw [← hW]; exact StB.made _ hgb.symm _ _)
  have HBW := Lib.hid (show Below w.heap.size w W by rw [← hW]; exact up_alloc (HB0.out.trans (HBV.out.mono HB0.out.size)) _)
  have HCC := Lib.hid (show SlIn W C G.rs.length VV ∧ SlIn W E G.rs.length (ends G.rs) ∧ RowsIn W VV (G.rs.map (·.1)) by
    obtain ⟨h1, h2, h3, h4⟩ := HX.out
    rw [← hW]
    exact ⟨h1.toIn.alloc _, h3.toIn.alloc _, h4.toIn.below (up_alloc (Below.refl _ V) _)⟩)
  clear hW hgb HX HBV HB0 HG HO HB
  have gl := HGB.out.lt
  have c2 : ∀ z, (onto W z).cell? ⟨gb, 2, none⟩ = some (.int .i64 G.k) := fun z => mem_cell (onto_below W z) (HGB.out.cell 2)
  have c3 : ∀ z, (onto W z).cell? ⟨gb, 3, none⟩ = some (.int .i64 (G.at_ : Int)) := fun z => mem_cell (onto_below W z) (HGB.out.cell 3)
  have ha := ok.out.a
  have hoff3 : off ≤ s.size := by omega
  obtain ⟨at1, hat1⟩ : ∃ at1, (if G.k = 0 then s.size else G.at_ + off) = at1 := ⟨_, rfl⟩
  obtain ⟨vk, hvk⟩ : ∃ v, (G.k == 0) = v := ⟨_, rfl⟩
  have VK := Lib.hid hvk
  have A0 := Lib.hid (show vk = true → at1 = s.size by intro h; rw [← hat1]; rw [h] at hvk; exact if_pos (by simpa using hvk))
  have A1 := Lib.hid (show vk = false → at1 = G.at_ + off by intro h; rw [← hat1]; rw [h] at hvk; exact if_neg (by simpa using hvk))
  have AT1 := Lib.hid hat1
  have hat2 : at1 ≤ 2000 := by rw [← hat1]; split <;> omega
  clear hat1
  refine wp_region_onto (by kernel_rfl) (by kernel_rfl) ?_
  repeat (go_big_quiet_step (fail))
  refine wpQuiet_nil ?_
  intro _ hw'
  obtain ⟨y0, hw''⟩ := hw'
  subst hw''
  clear c2 c3
  go_upto_if 40 with fail
  go_cut [14] (fun s14 wx => s14 = .int .i64 (at1 : Int) ∧ ∃ y, wx = onto W y)
  case first =>
    cases vk
    · go_wp2_with fail
      go_meet
      exact ⟨congrArg (Value.int .i64) (by have := A1.out (by simp); omega), _, rfl⟩
    · go_wp2_with fail
      go_meet
      exact ⟨congrArg (Value.int .i64) (by have := A0.out (by simp); omega), _, rfl⟩
  case rest =>
    obtain ⟨rfl, y1, rfl⟩ := hcut
    obtain ⟨K, AT, hKA⟩ : ∃ K AT, whKA G (bl s) = (K, AT) := ⟨_, _, rfl⟩
    have HRS := Lib.hid (show whRs G (bl s) = keepL K off AT G.rs.length G.rs ∧ (whKA G (bl s)).1 = K ∧ (whKA G (bl s)).2 = AT by
      refine ⟨?_, by rw [hKA], by rw [hKA]⟩
      unfold whRs keepL keepP
      rw [hKA, hoff, List.take_length])
    obtain ⟨r, hr⟩ : ∃ r, utRn 0 (bl s) = r := ⟨_, rfl⟩
    obtain ⟨wl, hwl⟩ : ∃ wl, utWhole (bl s) = wl := ⟨_, rfl⟩
    have hl := bl_length s
    have WL := Lib.hid hwl
    have hk1 := ok.out.k
    have hAT := AT1.out
    rw [whKA, hoff, hl, hr, hwl] at hKA
    rw [hAT] at hKA
    replace hKA : (if r < s.size then (if G.k = 0 ∨ r ≤ at1 then ((3 : Int), r) else (G.k, at1)) else if wl < s.size ∧ at1 = s.size then (12, at1) else (G.k, at1)) = (K, AT) := hKA
    have hrs : r ≤ s.size := by have := utRn_le 0 (bl s); omega
    have hvk2 := VK.out
    obtain ⟨bd, hbd⟩ : ∃ bd, utRefBad (bl s) = bd := ⟨_, rfl⟩
    have BD := Lib.hid hbd
    obtain ⟨vb, hvb⟩ : ∃ v, decide (0 ≤ bd) = v := ⟨_, rfl⟩
    obtain ⟨v2, hv2⟩ : ∃ v, decide (bd ≤ (at1 : Int)) = v := ⟨_, rfl⟩
    obtain ⟨v3, hv3⟩ : ∃ v, decide ((wl : Int) < (s.size : Int)) = v := ⟨_, rfl⟩
    obtain ⟨v3', hv3'⟩ : ∃ v, decide (wl < s.size) = v := ⟨_, rfl⟩
    obtain ⟨v4, hv4⟩ : ∃ v, ((at1 : Int) == (s.size : Int)) = v := ⟨_, rfl⟩
    obtain ⟨v4', hv4'⟩ : ∃ v, (at1 == s.size) = v := ⟨_, rfl⟩
    have e3 : v3' = v3 := by rw [← hv3, ← hv3']; simp
    have e4 : v4' = v4 := by rw [← hv4, ← hv4']; rw [Bool.eq_iff_iff]; simp; omega
    rw [e3] at hv3'
    rw [e4] at hv4'
    -- what bad is
    have hb1 : vb = decide (r < s.size) ∧ (vb = true → bd = r ∧ v2 = decide (r ≤ at1)) := by
      unfold utRefBad at hbd
      rw [hr, hl] at hbd
      by_cases hrl : r < s.size
      · rw [if_pos hrl] at hbd
        subst hbd
        refine ⟨by rw [← hvb]; simp [hrl], fun _ => ⟨rfl, by rw [← hv2]; simp⟩⟩
      · rw [if_neg hrl] at hbd
        subst hbd
        have : vb = false := by rw [← hvb]; rfl
        exact ⟨by rw [this]; simp [hrl], fun h => by rw [this] at h; cases h⟩
    have HKA := Lib.hid hKA
    have HB1 := Lib.hid hb1
    have V3 := Lib.hid hv3'
    have V4 := Lib.hid hv4'
    clear hl hr hwl hKA hAT hb1 hbd e3 e4
    go_upto_if 46 with (go_at_call 28; ((with_reducible refine (above (refBad_is s (by omega) bd BD _)).mono ?_); rintro x _ ⟨rfl, y2, rfl⟩))
    go_cut [13, 14] (fun s13 s14 wx => ∃ K', s13 = .int .i64 K' ∧ s14 = .int .i64 (AT : Int) ∧ Hid ((K' = 1 ∧ K = 3) ∨ (K' ≠ 1 ∧ K = K')) ∧ ∃ y, wx = onto W y)
    case first =>
      cases vb
      · cases v3
        · go_wp2_with (go_at_call 29; ((with_reducible refine (above (refWhole_is s (by unfold maxLen; omega) wl WL _)).mono ?_); rintro x _ ⟨rfl, y3, rfl⟩))
          go_meet
          have hk := HKA.out
          rw [if_neg (of_decide_eq_false HB1.out.1.symm), if_neg (fun h => of_decide_eq_false V3.out h.1)] at hk
          obtain ⟨rfl, rfl⟩ := Prod.mk.inj hk
          exact ⟨_, rfl, rfl, Lib.hid (.inr ⟨ok.out.k, rfl⟩), _, rfl⟩
        · cases v4
          · go_wp2_with (go_at_call 29; ((with_reducible refine (above (refWhole_is s (by unfold maxLen; omega) wl WL _)).mono ?_); rintro x _ ⟨rfl, y3, rfl⟩))
            go_meet
            have hk := HKA.out
            rw [if_neg (of_decide_eq_false HB1.out.1.symm), if_neg (fun h => absurd h.2 (by simpa using V4.out))] at hk
            obtain ⟨rfl, rfl⟩ := Prod.mk.inj hk
            exact ⟨_, rfl, rfl, Lib.hid (.inr ⟨ok.out.k, rfl⟩), _, rfl⟩
          · go_wp2_with (go_at_call 29; ((with_reducible refine (above (refWhole_is s (by unfold maxLen; omega) wl WL _)).mono ?_); rintro x _ ⟨rfl, y3, rfl⟩))
            go_meet
            have hk := HKA.out
            rw [if_neg (of_decide_eq_false HB1.out.1.symm), if_pos ⟨of_decide_eq_true V3.out, by simpa using V4.out⟩] at hk
            obtain ⟨rfl, rfl⟩ := Prod.mk.inj hk
            exact ⟨_, rfl, rfl, Lib.hid (.inr ⟨by omega, rfl⟩), _, rfl⟩
      · cases vk
        · cases v2
          · go_wp2_with fail
            go_meet
            have hk := HKA.out
            have hb2 := HB1.out.2 (by simp)
            rw [if_pos (of_decide_eq_true HB1.out.1.symm), if_neg (fun h => by rcases h with h | h; exact absurd h (by simpa using VK.out); exact of_decide_eq_false hb2.2.symm h)] at hk
            obtain ⟨rfl, rfl⟩ := Prod.mk.inj hk
            exact ⟨_, rfl, rfl, Lib.hid (.inr ⟨ok.out.k, rfl⟩), _, rfl⟩
          · go_wp2_with fail
            go_meet
            have hk := HKA.out
            have hb2 := HB1.out.2 (by simp)
            rw [if_pos (of_decide_eq_true HB1.out.1.symm), if_pos (.inr (of_decide_eq_true hb2.2.symm))] at hk
            obtain ⟨rfl, rfl⟩ := Prod.mk.inj hk
            exact ⟨_, rfl, by rw [hb2.1], Lib.hid (.inl ⟨rfl, rfl⟩), _, rfl⟩
        · go_wp2_with fail
          go_meet
          have hk := HKA.out
          have hb2 := HB1.out.2 (by simp)
          rw [if_pos (of_decide_eq_true HB1.out.1.symm), if_pos (.inl (by simpa using VK.out))] at hk
          obtain ⟨rfl, rfl⟩ := Prod.mk.inj hk
          exact ⟨_, rfl, by rw [hb2.1], Lib.hid (.inl ⟨rfl, rfl⟩), _, rfl⟩
    case rest =>
      obtain ⟨K', rfl, rfl, HK, y3, rfl⟩ := hcut
      obtain ⟨v5, hv5⟩ : ∃ v, (K' == 1) = v := ⟨_, rfl⟩
      have V5 := Lib.hid hv5
      go_upto_if 67 with fail
      go_cut [13] (fun s13 wx => s13 = .int .i64 K ∧ ∃ y, wx = onto W y)
      case first =>
        cases v5
        · go_wp2_with fail
          go_meet
          rcases HK.out with ⟨h, _⟩ | ⟨_, h⟩
          · exact absurd h (by simpa using V5.out)
          · exact ⟨by rw [h], _, rfl⟩
        · go_wp2_with fail
          go_meet
          rcases HK.out with ⟨_, h⟩ | ⟨h, _⟩
          · exact ⟨by rw [h], _, rfl⟩
          · exact absurd (by simpa using V5.out) h
      case rest =>
        obtain ⟨rfl, y4, rfl⟩ := hcut
        clear V5 HK HB1 V3 V4 hv5 hvb hv2 hv3 hv4 hv3' hv4' hvk2 hvk VK BD WL AT1 hrs
        obtain ⟨U, hU⟩ : ∃ U, onto W y4 = U := ⟨_, rfl⟩
        have HGU := Lib.hid (show StB U gb 71 #[.slice C G.rs.length c, .slice E G.rs.length ce, .int .i64 G.k, .int .i64 (G.at_ : Int)] by rw [← hU]; exact HGB.out.onto y4)
        have HBU := Lib.hid (show Below w.heap.size w U by rw [← hU]; exact up_onto HBW.out y4)
        have HCU := Lib.hid (show SlIn U C G.rs.length VV ∧ SlIn U E G.rs.length (ends G.rs) ∧ RowsIn U VV (G.rs.map (·.1)) by rw [← hU]; exact ⟨HCC.out.1.below (onto_below W y4), HCC.out.2.1.below (onto_below W y4), HCC.out.2.2.below (onto_below W y4)⟩)
        rw [hU]
        clear hU HGB HBW HCC
        have hm : G.rs.length ≤ 981 := ok.out.len
        obtain ⟨m, hmm⟩ : ∃ m, G.rs.length = m := ⟨_, rfl⟩
        rw [hmm] at hm HGU HCU HRS
        have c0 := HGU.out.cell 0
        have gl2 := HGU.out.lt
        obtain ⟨vK, hvK⟩ : ∃ v, (K == 0) = v := ⟨_, rfl⟩
        have VKK := Lib.hid hvK
        go_wp2_with fail
        go_loopw [16, 71] (fun out i wr => ∃ (k n c' : Nat) (A : Option Addr) (Vs : List Value), k ≤ m ∧ n ≤ k ∧ i = .int .i64 k ∧ out = .slice A n c' ∧ Hid (∃ y, wr = onto U y) ∧ Hid (SlOwn wr U.heap.size 64 A n c' Vs ∧ RowsIn U Vs (keepL K off AT k G.rs))) (fun out i _ => m - (intOf i).toNat)
        case atStart => exact ⟨0, 0, 0, none, [], by omega, by omega, rfl, rfl, Lib.hid (onto_self U), Lib.hid ⟨SlOwn.nothing _ _ _, ⟨rfl, fun j x h => by simp [keepL] at h⟩⟩⟩
        case round =>
          obtain ⟨k, n, c', A, Vs, hk, hnk, rfl, rfl, HY, HS⟩ := hrel
          obtain ⟨y, rfl⟩ := HY.out
          clear HY
          by_cases hlt : k < m
          · obtain ⟨p, hp⟩ : ∃ p, G.rs[k]? = some p := ⟨_, List.getElem?_eq_getElem (by omega)⟩
            obtain ⟨B, bb, hvb, hrow⟩ := rows_at HCU.out.2.2 hp
            obtain ⟨ca, rfl, hca⟩ := HCU.out.1.at_ hvb
            obtain ⟨ea, rfl, hea⟩ := HCU.out.2.1.at_ (ends_at hp)
            have za : (onto U y).cell? (ca.add k) = some (.slice B p.1.length bb) := mem_cell (onto_below U y) hca
            have zb : (onto U y).cell? (ea.add k) = some (.int .i64 (p.2 : Int)) := mem_cell (onto_below U y) hea
            have zc : (onto U y).cell? ⟨gb, 1, none⟩ = some (.slice (some ea) m ce) := mem_cell (onto_below U y) (HGU.out.cell 1)
            have hpe : p.2 ≤ 980 := ok.out.e p (List.mem_of_getElem? hp)
            have HP := Lib.hid hp
            have HROW := Lib.hid hrow
            obtain ⟨v6, hv6⟩ : ∃ v, decide ((p.2 : Int) + (off : Int) < (AT : Int)) = v := ⟨_, rfl⟩
            have HKP := Lib.hid (show keepP K off AT p = (vK || v6) by
              unfold keepP
              rw [← hvK, ← hv6, Bool.eq_iff_iff]
              simp
              omega)
            obtain ⟨pl, hpl⟩ : ∃ pl, p.1.length = pl := ⟨_, rfl⟩
            rw [hpl] at za
            clear hp hrow hca hea hvb
            cases vK
            · cases v6
              · have HN := Lib.hid (keepL_no HP.out (HKP.out.trans rfl))
                go_wp2_with fail
                go_roundw
                case rel => exact ⟨k + 1, n, c', A, Vs, by omega, by omega, by go_num, rfl, Lib.hid ⟨y, rfl⟩, Lib.hid ⟨HS.out.1, by rw [HN.out]; exact HS.out.2⟩⟩
                case measure => simp [intOf]; omega
              · have HN := Lib.hid (keepL_yes HP.out (HKP.out.trans rfl))
                have HO := Lib.hid (show SlOwn ((onto U y).alloc (.cells #[.slice B pl bb] 64)) U.heap.size 64 A n c' Vs from HS.out.1.below (up_alloc (Below.refl _ (onto U y)) _))
                have HI := Lib.hid (slIn_new1 (onto U y) 64 (.slice B pl bb))
                have hyz := onto_size U y
                go_wp2_with (at_builtin; refine wpList_append_sl _ rfl (.tmp 89) (.tmp 91) 31 rfl 64 i0 _ 24 Try.underlying31 Hi.out Hz0.out Hz1.out Hz2.out rfl U.heap.size A n c' Vs rfl HO.out (some ⟨(onto U y).heap.size, 0, none⟩) 1 1 [.slice B pl bb] rfl HI.out (by intro v hv; simp at hv; subst hv; rfl) (by unfold maxLen; omega) (by omega) (by simp; omega) ?_; intro A' c2 w' hown hgrow hat)
                have HB3 := Lib.hid ((up_alloc (onto_below U y) (.cells #[.slice B pl bb] 64)).grown hgrow (by simp; omega) (fun j hj => (HO.out.blk j hj).1))
                have HSN := Lib.hid (show RowsIn U (Vs ++ [.slice B pl bb]) (keepL K off AT (k + 1) G.rs) by have := HS.out.2.snoc (a := bb) HROW.out; rw [hpl] at this; rw [HN.out]; exact this)
                have HOW := Lib.hid hown
                clear hown hgrow hat
                go_wp2_with fail
                go_roundw
                case rel => exact ⟨k + 1, n + 1, c2, A', _, by omega, by omega, by go_num, rfl, Lib.hid (onto_of HB3.out), Lib.hid ⟨HOW.out, HSN.out⟩⟩
                case measure => simp [intOf]; omega
            · have HN := Lib.hid (keepL_yes HP.out (HKP.out.trans rfl))
              have HO := Lib.hid (show SlOwn ((onto U y).alloc (.cells #[.slice B pl bb] 64)) U.heap.size 64 A n c' Vs from HS.out.1.below (up_alloc (Below.refl _ (onto U y)) _))
              have HI := Lib.hid (slIn_new1 (onto U y) 64 (.slice B pl bb))
              have hyz := onto_size U y
              go_wp2_with (at_builtin; refine wpList_append_sl _ rfl (.tmp 89) (.tmp 91) 31 rfl 64 i0 _ 24 Try.underlying31 Hi.out Hz0.out Hz1.out Hz2.out rfl U.heap.size A n c' Vs rfl HO.out (some ⟨(onto U y).heap.size, 0, none⟩) 1 1 [.slice B pl bb] rfl HI.out (by intro v hv; simp at hv; subst hv; rfl) (by unfold maxLen; omega) (by omega) (by simp; omega) ?_; intro A' c2 w' hown hgrow hat)
              have HB3 := Lib.hid ((up_alloc (onto_below U y) (.cells #[.slice B pl bb] 64)).grown hgrow (by simp; omega) (fun j hj => (HO.out.blk j hj).1))
              have HSN := Lib.hid (show RowsIn U (Vs ++ [.slice B pl bb]) (keepL K off AT (k + 1) G.rs) by have := HS.out.2.snoc (a := bb) HROW.out; rw [hpl] at this; rw [HN.out]; exact this)
              have HOW := Lib.hid hown
              clear hown hgrow hat
              go_wp2_with fail
              go_roundw
              case rel => exact ⟨k + 1, n + 1, c2, A', _, by omega, by omega, by go_num, rfl, Lib.hid (onto_of HB3.out), Lib.hid ⟨HOW.out, HSN.out⟩⟩
              case measure => simp [intOf]; omega
          · obtain rfl : k = m := by omega
            obtain ⟨q1, q2, q3⟩ := HRS.out
            have hlen : n = rs0.length := by
              have h1 := HS.out.1.1
              have h2 := HS.out.2.1
              rw [← q1, hR0.out] at h2
              omega
            have HR2 := Lib.hid (show SlIn (onto U y) A rs0.length Vs ∧ RowsIn (onto U y) Vs rs0 by
              refine ⟨by rw [← hlen]; exact HS.out.1.toIn, ?_⟩
              have := HS.out.2.below (onto_below U y)
              rw [← q1, hR0.out] at this
              exact this)
            have HBF := Lib.hid (show Below w.heap.size w (onto U y) from up_onto HBU.out y)
            have e1 : K0 = K := by rw [← hK0.out, q2]
            have e2 : Az = if K0 = 0 then 0 else (AT : Int) := by rw [← hA0.out, q3]
            have E1 := Lib.hid e1
            have E2 := Lib.hid e2
            clear e1 e2 q1 q2 q3
            subst hlen
            cases vK
            · go_wp2_with fail
              refine bodyPost_ret (v := .tuple #[.slice A rs0.length c', .int .i64 K, .int .i64 (AT : Int)]) (by simp [results, Try.results10, go_sem]) rfl ⟨A, c', Vs, ?_, HR2, HBF⟩
              have hk0 : ¬ K = 0 := by simpa using VKK.out
              rw [E2.out, E1.out, if_neg hk0]
            · go_wp2_with fail
              refine bodyPost_ret (v := .tuple #[.slice A rs0.length c', .int .i64 K, .int .i64 0]) (by simp [results, Try.results10, go_sem]) rfl ⟨A, c', Vs, ?_, HR2, HBF⟩
              have hk0 : K = 0 := by simpa using VKK.out
              rw [E2.out, E1.out, if_pos hk0]
end Go.Proofs.Ytoeanbfemgmgnaa

namespace Go.Proofs.Ytoeanbfemgmgnaa
open Go.ChangeShapes Go.WideShapes Go.ChangeAt Go.RowKit
set_option linter.unusedVariables false
set_option linter.unusedSimpArgs false

theorem GotOk.mono {G : Got} {n m : Nat} (h : GotOk G n) (hm : n ≤ m) : GotOk G m := ⟨h.k, fun p hp => Nat.le_trans (h.e p hp) hm, by have := h.len; omega, Nat.le_trans h.a hm, h.z⟩
theorem right_dia {d q e : Int} (h : rightB d q e = true) : Dia d q e := by
  simp [rightB, okB] at h
  exact ⟨by simpa using h.2.2.1, by omega, by omega, by omega, by omega⟩
end Go.Proofs.Ytoeanbfemgmgnaa

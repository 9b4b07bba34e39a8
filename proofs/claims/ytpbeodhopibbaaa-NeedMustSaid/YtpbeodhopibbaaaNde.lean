/- Layer 8: the statements' few; the walk of NeedFields over what Fields answers. -/
import Derived.Test.YtpbeodhopibbaaaNdd
namespace Go.Proofs.Ytpbeodhopibbaaa
open Go.ChangeShapes Go.WideShapes Go.ChangeAt Go.RowKit
set_option linter.unusedVariables false
set_option linter.unusedSimpArgs false

def sumL : List ByteArray → Nat
  | [] => 0
  | x :: r => x.size + sumL r
theorem sumL_append : ∀ a b, sumL (a ++ b) = sumL a + sumL b
  | [], b => by simp [sumL]
  | x :: r, b => by simp [sumL, sumL_append r b]; omega
theorem sumL_take_le (l : List ByteArray) (k : Nat) : sumL (l.take k) ≤ sumL l := by
  have h := sumL_append (l.take k) (l.drop k)
  rw [List.take_append_drop] at h; omega
theorem sumL_at {l : List ByteArray} {k : Nat} {x : ByteArray} (h : l[k]? = some x) : sumL (l.take (k + 1)) = sumL (l.take k) + x.size := by
  rw [List.take_add_one, h, sumL_append]; simp [sumL]
theorem sumL_mem {l : List ByteArray} {x : ByteArray} (h : x ∈ l) : x.size ≤ sumL l := by
  induction l with
  | nil => cases h
  | cons y r ih =>
    rcases List.mem_cons.1 h with rfl | h
    · simp [sumL]
    · have := ih h; simp [sumL]; omega
def fewB (l : List ByteArray) : Bool := decide (l.length ≤ 20) && decide (sumL l ≤ 400)
set_option maxHeartbeats 800000 in
theorem few_any (A : Option Addr) (n c : Nat) (l : List ByteArray) (w : World) (ha : Hid (SlIn w A n (strs l))) (hok : Hid (∀ x ∈ l, x.size ≤ 140737488351232)) (hn : n ≤ 9223372036854775807) :
    Calls Try.prog 14 #[.slice A n c] w fun x w' => x = .returned (.bool (fewB l)) ∧ Below w.heap.size w w' := by
  have HL := Lib.hid ha.out.lenS
  by_cases h20 : n ≤ 20
  · go_enter Try.func14, Try.ntmps14
    go_wp2_with fail
    go_loopw [3, 11] (fun t i wr => ∃ k N : Nat, k ≤ n ∧ N ≤ 400 ∧ i = .int .i64 k ∧ t = .int .i64 N ∧ Hid (N = sumL (l.take k)) ∧ Hid (∃ y, wr = onto w y)) (fun _ i _ => n - (intOf i).toNat)
    case atStart => exact ⟨0, 0, Nat.zero_le _, by omega, rfl, rfl, Lib.hid rfl, Lib.hid (onto_self w)⟩
    case round =>
      obtain ⟨k, N, hk, hN, rfl, rfl, HN, HY⟩ := hrel
      obtain ⟨y, rfl⟩ := HY.out
      clear HY
      by_cases hlt : k < n
      · obtain ⟨s, hs⟩ : ∃ s, l[k]? = some s := ⟨_, List.getElem?_eq_getElem (by rw [HL.out]; exact hlt)⟩
        obtain ⟨a, rfl, hca⟩ := ha.out.at_ (strs_get hs)
        have za : ∀ z, (onto w z).cell? (a.add k) = some (.string s) := fun z => mem_cell (onto_below w z) hca
        have hsz : s.size ≤ 140737488351232 := hok.out s (List.mem_of_getElem? hs)
        have HS := Lib.hid (sumL_at hs)
        have hle : sumL (l.take (k + 1)) ≤ sumL l := sumL_take_le _ _
        by_cases h4 : N + s.size ≤ 400
        · clear hs hca hle
          go_wp2_with fail
          go_roundw
          case rel => exact ⟨k + 1, N + s.size, by omega, h4, by go_num, by go_num, Lib.hid (by rw [HS.out, ← HN.out]), Lib.hid ⟨_, rfl⟩⟩
          case measure => simp [intOf]; omega
        · have HV := Lib.hid (show fewB l = false by
            have h5 := HS.out
            rw [← HN.out] at h5
            unfold fewB
            rw [Bool.and_eq_false_iff]
            exact .inr (by simp; omega))
          clear hs hca hle
          go_wp2_with fail
          go_ret
          exact ⟨by rw [HV.out]; rfl, onto_below w y⟩
      · obtain rfl : k = n := by omega
        have HV := Lib.hid (show fewB l = true by
          have h5 := HN.out
          rw [List.take_of_length_le (by rw [HL.out]; omega)] at h5
          unfold fewB
          rw [HL.out]
          simp; omega)
        clear hlt
        go_wp2_with fail
        go_ret
        exact ⟨by rw [HV.out]; rfl, onto_below w y⟩
  · have HV := Lib.hid (show fewB l = false by
      unfold fewB
      rw [HL.out, Bool.and_eq_false_iff]
      exact .inl (by simp; omega))
    go_enter Try.func14, Try.ntmps14
    go_wp2_with fail
    go_ret
    exact ⟨by rw [HV.out]; rfl, Below.refl _ _⟩
theorem few_is (A : Option Addr) (n c : Nat) (l : List ByteArray) (w : World) (ha : Hid (SlIn w A n (strs l))) (hok : Hid (∀ x ∈ l, x.size ≤ 140737488351232)) (hn : n ≤ 9223372036854775807) (v : Bool) (hv : Hid (fewB l = v)) :
    Calls Try.prog 14 #[.slice A n c] w fun x w' => x = .returned (.bool v) ∧ Below w.heap.size w w' := by
  rw [← hv.out]; exact few_any A n c l w ha hok hn
theorem one8_b (v : Bool) (w : World) : Calls Try.prog 11 #[.bool v] w fun x w' => x = .returned (.int .i64 (numB v)) ∧ Below w.heap.size w w' := (one8_any v w).mono fun x w' ⟨h1, h2⟩ => ⟨h1, h2 ▸ Below.refl _ _⟩
theorem bools_get {l : List Bool} {k : Nat} {x : Bool} (h : l[k]? = some x) : (bools l)[k]? = some (.bool x) := by unfold bools; simp [h]

set_option maxRecDepth 100000 in
set_option maxHeartbeats 3200000 in
theorem needFields_walk (hF : Hid FieldsSays) (hAw : Hid AwakeSays8) (d q e : Int) (A : Option Addr) (n c : Nat) (l : List ByteArray) (fi : Bool) (w : World) (hd : (Lit.int .u8 d).wf = true) (hq : (Lit.int .u8 q).wf = true) (_ : (Lit.int .i64 e).wf = true) (_ : n ≤ c) (hcm : c ≤ maxLen) (hin : SlIn w A n (strs l)) (hok : ∀ x ∈ l, x.size ≤ 140737488351232) :
    Calls Try.prog 4 #[.agg #[.int .u8 d, .int .u8 q, .int .i64 e], .slice A n c, .bool fi] w fun x w' => x = .returned (.bool true) ∧ Below w.heap.size w w' := by
  obtain ⟨d0, d1⟩ := bounds_u8 hd
  obtain ⟨q0, q1⟩ := bounds_u8 hq
  have HAW := Lib.hid (show ∀ w : World, Calls Try.prog 9 #[] w fun x w' => x = .returned (.bool true) ∧ Below w.heap.size w w' from fun w => hAw.out w)
  obtain ⟨v, hv⟩ : ∃ v, rightB d q e = v := ⟨_, rfl⟩
  have HR := Lib.hid (show rightR d q e = v by rw [right_eq d q e d0 q0]; exact hv)
  have HV := Lib.hid hv
  obtain ⟨u, hu⟩ : ∃ u, fewB l = u := ⟨_, rfl⟩
  have HU := Lib.hid hu
  have HI := Lib.hid hin
  have HK := Lib.hid hok
  have HLN := Lib.hid hin.lenS
  have hn9 : n ≤ 9223372036854775807 := by unfold maxLen at hcm; omega
  have B0 := Lib.hid (up_alloc (Below.refl _ w) (.cells #[.int .u8 d, .int .u8 q, .int .i64 e] 23))
  have hfew : ∀ w' : World, Below w.heap.size w w' → Calls Try.prog 14 #[.slice A n c] w' fun x w'' => x = .returned (.bool u) ∧ Below w'.heap.size w' w'' := fun w' hb => few_is A n c l w' (Lib.hid (HI.out.below hb)) HK hn9 u HU
  have HFW := Lib.hid (hfew _ B0.out)
  clear hd hq hv hu hin hok hAw hfew
  cases u
  · go_enter Try.func4, Try.ntmps4
    go_wp2_with (first
      | (go_at_call 14; with_reducible refine (above HFW.out).mono ?_; rintro x _ ⟨rfl, y, rfl⟩)
      | (go_at_call 9; with_reducible refine (above (HAW.out _)).mono ?_; rintro x _ ⟨rfl, y, rfl⟩))
    go_ret
    exact ⟨rfl, (by (repeat (first | exact Below.refl _ _ | refine up_onto ?_ _ | refine up_alloc ?_ _)))⟩
  · cases v
    · go_enter Try.func4, Try.ntmps4
      go_wp2_with (first
        | (go_at_call 14; with_reducible refine (above HFW.out).mono ?_; rintro x _ ⟨rfl, y, rfl⟩)
        | (go_at_call 8; with_reducible refine (above (ref_any d q e d0 d1 q0 q1 _)).mono ?_; rintro x _ ⟨rfl, y, rfl⟩)
        | (go_at_call 7; with_reducible refine (above (refRight_is d q e _ HR _)).mono ?_; rintro x _ ⟨rfl, y, rfl⟩)
        | (go_at_call 9; with_reducible refine (above (HAW.out _)).mono ?_; rintro x _ ⟨rfl, y, rfl⟩))
      go_ret
      exact ⟨rfl, (by (repeat (first | exact Below.refl _ _ | refine up_onto ?_ _ | refine up_alloc ?_ _)))⟩
    · have h20 : n ≤ 20 ∧ sumL l ≤ 400 := by
        have h := HU.out
        unfold fewB at h
        rw [HLN.out] at h
        simpa using h
      have hn20 := h20.1
      have HSM := Lib.hid h20.2
      clear h20
      go_enter Try.func4, Try.ntmps4
      go_wp2_with (first
        | (go_at_call 14; with_reducible refine (above HFW.out).mono ?_; rintro x _ ⟨rfl, y1, rfl⟩)
        | (go_at_call 8; with_reducible refine (above (ref_any d q e d0 d1 q0 q1 _)).mono ?_; rintro x _ ⟨rfl, y2, rfl⟩)
        | (go_at_call 7; with_reducible refine (above (refRight_is d q e _ HR _)).mono ?_; rintro x _ ⟨rfl, y3, rfl⟩))
      obtain ⟨W0, hW0⟩ : ∃ W0, W0 = w.alloc (.cells #[.int .u8 d, .int .u8 q, .int .i64 e] 23) := ⟨_, rfl⟩
      obtain ⟨h, hh⟩ : ∃ h, h = w.heap.size := ⟨_, rfl⟩
      have HX0 := Lib.hid (show StB W0 h 23 #[.int .u8 d, .int .u8 q, .int .i64 e] by rw [hW0, hh]; exact StB.new _ _ _)
      have HB0 := Lib.hid (show Below w.heap.size w W0 by rw [hW0]; exact B0.out)
      clear HFW B0
      revert y1 y2 y3
      rw [← hW0, ← hh]
      intro y1 y2 y3
      clear hh
      obtain ⟨W1, hW1⟩ : ∃ W1, W1 = onto W0 ((y1.up y2).up y3) := ⟨_, rfl⟩
      have hb1 : Below W0.heap.size W0 W1 := by rw [hW1]; exact onto_below _ _
      rw [← hW1]
      have HX1 := Lib.hid (HX0.out.below hb1)
      have HB1 := Lib.hid (HB0.out.trans (hb1.mono HB0.out.size))
      clear hW1 hb1 HX0 HB0 hW0
      refine (hF.out d q e l A n c fi W1 d0 d1 q0 q1 HV.out (Lib.hid (HI.out.below HB1.out)) (by omega) (Lib.hid (fun x hx => by have := sumL_mem hx; have := HSM.out; omega))).mono ?_
      rintro x W2 ⟨O, co, rfl, HO, HB⟩
      have HB2 := Lib.hid (HB1.out.trans (HB.out.mono HB1.out.size))
      have HX2 := Lib.hid (HX1.out.below HB.out)
      have HI2 := Lib.hid (HI.out.below HB2.out)
      have k0 : W2.cell? ⟨h, 0, none⟩ = some (.int .u8 d) := HX2.out.cell 0
      have k1 : W2.cell? ⟨h, 1, none⟩ = some (.int .u8 q) := HX2.out.cell 1
      have k2 : W2.cell? ⟨h, 2, none⟩ = some (.int .i64 e) := HX2.out.cell 2
      have k3 := HX2.out.lt
      clear HB HB1 HX1 HI
      obtain ⟨al, hal⟩ : ∃ al, ((n : Int) == 1) = al := ⟨_, rfl⟩
      have HAL := Lib.hid (show decide (n = 1) = al by rw [← hal, Bool.eq_iff_iff]; simp; omega)
      go_wp2_with fail
      go_loopw [31] (fun i wr => ∃ k : Nat, k ≤ n ∧ i = .int .i64 k ∧ Hid (∃ y, wr = onto W2 y)) (fun i _ => n - (intOf i).toNat)
      case atStart => exact ⟨0, Nat.zero_le _, rfl, Lib.hid (onto_self W2)⟩
      case round =>
        obtain ⟨k, hk, rfl, HY⟩ := hrel
        obtain ⟨y, rfl⟩ := HY.out
        clear HY
        by_cases hlt : k < n
        · obtain ⟨s, hs⟩ : ∃ s, l[k]? = some s := ⟨_, List.getElem?_eq_getElem (by rw [HLN.out]; exact hlt)⟩
          obtain ⟨a, rfl, hca⟩ := HI2.out.at_ (strs_get hs)
          have hcell := needL_at d q fi n l 0 k s hs
          rw [HAL.out, Nat.zero_add] at hcell
          obtain ⟨b, rfl, hcb⟩ := HO.out.at_ (bools_get hcell)
          obtain ⟨kz, hkz⟩ : ∃ kz, ((k : Int) == 0) = kz := ⟨_, rfl⟩
          have hkd : decide (k = 0) = kz := by rw [← hkz, Bool.eq_iff_iff]; simp
          rw [hkd] at hcb
          obtain ⟨W, hW⟩ : ∃ W, whyN d q (bl s) al (fi && kz) = W := ⟨_, rfl⟩
          obtain ⟨V, hV⟩ : ∃ V, (W != 0) = V := ⟨_, rfl⟩
          have hnv : needB d q s al (fi && kz) = V := by unfold needB; rw [hW, ← hV]; rw [Bool.eq_iff_iff]; simp
          rw [hnv] at hcb
          obtain ⟨W3, hW3⟩ : ∃ W3, W3 = onto W2 y := ⟨_, rfl⟩
          have hb3 : Below W2.heap.size W2 W3 := by rw [hW3]; exact onto_below _ _
          have HB3 := Lib.hid hb3
          rw [← hW3]
          have ya : W3.cell? (a.add k) = some (.string s) := mem_cell hb3 hca
          have yb : W3.cell? (b.add k) = some (.bool V) := mem_cell hb3 hcb
          have y0 : W3.cell? ⟨h, 0, none⟩ = some (.int .u8 d) := mem_cell hb3 k0
          have y1' : W3.cell? ⟨h, 1, none⟩ = some (.int .u8 q) := mem_cell hb3 k1
          have y2' : W3.cell? ⟨h, 2, none⟩ = some (.int .i64 e) := mem_cell hb3 k2
          have za : ∀ z, (onto W3 z).cell? (a.add k) = some (.string s) := fun z => mem_cell (onto_below W3 z) ya
          have zb : ∀ z, (onto W3 z).cell? (b.add k) = some (.bool V) := fun z => mem_cell (onto_below W3 z) yb
          have hsz : s.size ≤ maxLen := by have := HK.out s (List.mem_of_getElem? hs); unfold maxLen; omega
          have z0 : ∀ z, (onto W3 z).cell? ⟨h, 0, none⟩ = some (.int .u8 d) := fun z => mem_cell (onto_below W3 z) y0
          have z1 : ∀ z, (onto W3 z).cell? ⟨h, 1, none⟩ = some (.int .u8 q) := fun z => mem_cell (onto_below W3 z) y1'
          have z2 : ∀ z, (onto W3 z).cell? ⟨h, 2, none⟩ = some (.int .i64 e) := fun z => mem_cell (onto_below W3 z) y2'
          have hVV : (V != V) = false := by simp
          have HW := Lib.hid hW
          have hone := fun (v : Bool) (z : Above W3) => calls_onto (one8_b v (onto W3 z))
          have href := fun (z : Above W3) => calls_onto (ref_any d q e d0 d1 q0 q1 (onto W3 z))
          have hwhy := fun (z : Above W3) => calls_onto (ref8Why_any d q e s al (fi && kz) hsz W HW (onto W3 z))
          clear hs hca hcb hcell hkd hnv hW k0 k1 k2 hW3 hb3
          cases fi <;> cases kz
          all_goals
            simp only [Bool.false_and, Bool.true_and, Bool.and_false, Bool.and_true] at hwhy
            go_wp2_with fail
            refine wp_region_onto (by kernel_rfl) (by kernel_rfl) ?_
            repeat (go_big_quiet_step (first | (go_at_call 8; with_reducible exact href _) | (go_at_call 11; with_reducible exact hone _ _) | (go_at_call 10; with_reducible exact hwhy _)))
            refine wpQuiet_nil ?_
            intro _ hw'
            obtain ⟨x1, hw''⟩ := hw'
            subst hw''
            go_wp2_with fail
            go_roundw
            case rel => exact ⟨k + 1, by omega, by go_num, Lib.hid (onto_of (HB3.out.trans ((onto_below W3 x1).mono HB3.out.size)))⟩
            case measure => simp [intOf]; omega
        · obtain rfl : k = n := by omega
          clear hlt
          go_wp2_with (go_at_call 9; with_reducible refine (above (HAW.out _)).mono ?_; rintro x _ ⟨rfl, y2, rfl⟩)
          go_ret
          exact ⟨rfl, HB2.out.trans ((onto_below W2 (y.up y2)).mono HB2.out.size)⟩
end Go.Proofs.Ytpbeodhopibbaaa

/- Layer 8: the program's Fields. -/
import Derived.Test.YtaoncnlhilpgfaaDoorNwc
import Derived.Test.YtaoncnlhilpgfaaDoorNeb
import Derived.Test.YtaoncnlhilpgfaaDoorZk
namespace Go.Proofs.YtaoncnlhilpgfaaDoor
open Go.ChangeShapes Go.WideShapes Go.ChangeAt Go.RowKit
set_option linter.unusedVariables false
set_option linter.unusedSimpArgs false

theorem infoBool8 : (Tryd.prog.info? 4).map (fun i => (i.zero, i.size, i.bytes)) = some (some (.bool false), 1, 1) := by kernel_rfl
theorem bools_append (a b : List Bool) : bools (a ++ b) = bools a ++ bools b := by unfold bools; rw [List.map_append]
theorem bools_length (a : List Bool) : (bools a).length = a.length := by unfold bools; rw [List.length_map]
set_option maxRecDepth 100000 in
set_option maxHeartbeats 1600000 in
theorem fields_own (d q e : Int) (l : List ByteArray) (A : Option Addr) (n c : Nat) (fi : Bool) (w : World) (d0 : 0 ≤ d) (d1 : d ≤ 255) (q0 : 0 ≤ q) (q1 : q ≤ 255) (hr : rightB d q e = true) (hl : Hid (SlIn w A n (strs l))) (hn : n ≤ 1000) (hok : Hid (∀ x ∈ l, x.size ≤ 1000000)) :
    Calls Tryd.prog 44 #[.agg #[.int .u8 d, .int .u8 q, .int .i64 e], .slice A n c, .bool fi] w fun x w' => ∃ O co, x = .returned (.slice O n co) ∧ Hid (SlOwn w' w.heap.size 4 O n co (bools (needL d q fi n 0 l))) ∧ Hid (Below w.heap.size w w') := by
  obtain ⟨j0, hj, hy0, hy1, hy2⟩ := info_parts infoBool8
  have Hj := Lib.hid hj
  have Hy0 := Lib.hid hy0
  have Hy1 := Lib.hid hy1
  have Hy2 := Lib.hid hy2
  have HLN := Lib.hid hl.out.lenS
  obtain ⟨L, hL⟩ : ∃ L, L = needL d q fi n 0 l := ⟨_, rfl⟩
  have HLL := Lib.hid (show L.length = n by rw [hL, needL_length]; exact HLN.out)
  have HLA := Lib.hid (fun k s (h : l[k]? = some s) => by have := needL_at d q fi n l 0 k s h; rw [← hL, Nat.zero_add] at this; exact this)
  rw [← hL]
  have HR := Lib.hid hr
  obtain ⟨al, hal⟩ : ∃ al, ((n : Int) == 1) = al := ⟨_, rfl⟩
  have HAL := Lib.hid (show decide (n = 1) = al by rw [← hal, Bool.eq_iff_iff]; simp; omega)
  have HX0 := Lib.hid (StB.new w 23 #[.int .u8 d, .int .u8 q, .int .i64 e])
  have HB0 := Lib.hid (up_alloc (Below.refl _ w) (.cells #[.int .u8 d, .int .u8 q, .int .i64 e] 23))
  have HU : w.heap.size ≤ (w.alloc (.cells #[.int .u8 d, .int .u8 q, .int .i64 e] 23)).heap.size := HB0.out.size
  clear hj hy0 hy1 hy2 hL hr
  go_enter Tryd.func44, Tryd.ntmps44
  go_wp2_with (at_make; refine wpList_make_sl _ rfl (.tmp 11) (.tmp 11) 81 rfl w.heap.size 4 j0 (.bool false) 1 Tryd.underlying81 Hj.out Hy0.out Hy1.out Hy2.out rfl .i64 .i64 (n : Int) (n : Int) n n rfl rfl rfl rfl (Nat.le_refl _) (by omega) (by unfold maxLen; omega) HU ?_; intro w1 hown hb1; have HO1 := Lib.hid hown; have HB1 := Lib.hid hb1; clear hown hb1)
  obtain ⟨g, hg⟩ : ∃ g, g = w.heap.size + 1 := ⟨_, rfl⟩
  have hgw : w.heap.size < g := by omega
  have HX1 := Lib.hid (HX0.out.below HB1.out)
  have HB2 := Lib.hid (HB0.out.trans (HB1.out.mono HU))
  rw [show (w.alloc (.cells #[.int .u8 d, .int .u8 q, .int .i64 e] 23)).heap.size = g by rw [hg]; simp] at HO1
  rw [← hg]
  clear HX0 HB0 HU HB1 hg
  go_loopw [15] (fun i wr => ∃ k : Nat, k ≤ n ∧ i = .int .i64 k ∧ Hid (SlOwn wr w.heap.size 4 (some ⟨g, 0, none⟩) n n (bools (L.take k) ++ List.replicate (n - k) (.bool false))) ∧ Hid (StB wr w.heap.size 23 #[.int .u8 d, .int .u8 q, .int .i64 e]) ∧ Hid (Below w.heap.size w wr)) (fun i _ => n - (intOf i).toNat)
  case atStart => exact ⟨0, Nat.zero_le _, rfl, Lib.hid (by simpa [bools] using HO1.out), HX1, HB2⟩
  case round =>
    obtain ⟨k, hk, rfl, HO, HX, HB⟩ := hrel
    obtain ⟨W, hW⟩ : ∃ W, W = wr := ⟨_, rfl⟩
    subst hW
    clear HO1 HX1 HB2
    by_cases hlt : k < n
    · obtain ⟨s, hs⟩ : ∃ s, l[k]? = some s := ⟨_, List.getElem?_eq_getElem (by rw [HLN.out]; exact hlt)⟩
      obtain ⟨a, rfl, hca⟩ := hl.out.at_ (strs_get hs)
      have ya : W.cell? (a.add k) = some (.string s) := mem_cell HB.out hca
      have hsz : s.size ≤ 1000000 := hok.out s (List.mem_of_getElem? hs)
      obtain ⟨kz, hkz⟩ : ∃ kz, ((k : Int) == 0) = kz := ⟨_, rfl⟩
      have hkd : decide (k = 0) = kz := by rw [← hkz, Bool.eq_iff_iff]; simp
      have hat := HLA.out k s hs
      rw [HAL.out, hkd] at hat
      obtain ⟨V, hV⟩ : ∃ V, needB d q s al (fi && kz) = V := ⟨_, rfl⟩
      rw [hV] at hat
      have HAT := Lib.hid hat
      have HN := Lib.hid (fun w => by have := need_any d q e s al (fi && kz) w d0 d1 q0 q1 HR.out hsz; rw [hV] at this; exact this)
      obtain ⟨g', u, hg', hgb, hgs, hxu, hcu, hfu⟩ := HO.out.cellAt hlt
      obtain rfl : g = g' := by injection hg' with hg'; injection hg'
      have k0 : W.cell? ⟨w.heap.size, 0, none⟩ = some (.int .u8 d) := HX.out.cell 0
      have k1 : W.cell? ⟨w.heap.size, 1, none⟩ = some (.int .u8 q) := HX.out.cell 1
      have k2 : W.cell? ⟨w.heap.size, 2, none⟩ = some (.int .i64 e) := HX.out.cell 2
      have k3 := HX.out.lt
      clear hs hca hat hV hkd hg' hgb hxu
      cases fi <;> cases kz
      all_goals
        simp only [Bool.false_and, Bool.true_and, Bool.and_false, Bool.and_true] at HN
        go_wp2_with (go_at_call 54; with_reducible refine (above (HN.out _)).mono ?_; rintro x _ ⟨rfl, y, rfl⟩)
        go_roundw
        case measure => simp [intOf]; omega
        case rel =>
          have hby := onto_below W y
          refine ⟨k + 1, by omega, by go_num, Lib.hid ?_, Lib.hid ((HX.out.below hby).far (by show _ ≠ g; omega) _), Lib.hid ((HB.out.trans (hby.mono HB.out.size)).setCell (by show _ ≤ g; omega) _)⟩
          have h1 := (HO.out.below hby).store k (.bool V) hlt
          have hlen : (bools (L.take k)).length = k := by rw [bools_length, List.length_take, HLL.out]; omega
          have h2 : n - k = (n - (k + 1)) + 1 := by omega
          rw [List.set_append_right _ _ (Nat.le_of_eq hlen), hlen, Nat.sub_self, h2, List.replicate_succ, List.set_cons_zero] at h1
          rw [List.take_add_one, HAT.out, bools_append, List.append_assoc]
          exact h1
    · obtain rfl : k = n := by omega
      have HO2 := Lib.hid (show SlOwn W w.heap.size 4 (some ⟨g, 0, none⟩) k k (bools L) by have := HO.out; rw [List.take_of_length_le (by rw [HLL.out]; omega), Nat.sub_self, List.replicate_zero, List.append_nil] at this; exact this)
      clear HO hlt
      go_wp2_with fail
      go_ret
      exact ⟨_, _, rfl, HO2, HB⟩
end Go.Proofs.YtaoncnlhilpgfaaDoor

/- Layer 7: the walk of the statement CutsAt over the contracts of At, Join and of the document's example (given as premises till the program's own stand). -/
import Derived.Test.YtjpemelnnemmiaaWlj
import Derived.Test.YtjpemelnnemmiaaCtc
import Derived.Test.YtjpemelnnemmiaaCte
namespace Go.Proofs.Ytjpemelnnemmiaa
open Go.ChangeShapes Go.WideShapes Go.ChangeAt Go.RowKit
set_option linter.unusedVariables false
set_option linter.unusedSimpArgs false

/-- What At answers. -/
def AtSays : Prop := ∀ (s : ByteArray) (ps : List Int) (P : Option Addr) (n c : Nat) (w : World), s.size ≤ 1000 → n ≤ 1000 → Hid (SlIn w P n (ps.map (Value.int .i64))) → Hid (∀ x ∈ ps, (Lit.int .i64 x).wf = true) →
  Calls Try.prog 9 #[.string s, .slice P n c] w fun x w' => ∃ O co, x = .returned (.slice O (n + 1) co) ∧ n + 1 ≤ co ∧ Hid (SlIn w' O (n + 1) (strs (cutAt s ps))) ∧ Hid (Below w.heap.size w w')

set_option maxRecDepth 100000 in
set_option maxHeartbeats 1600000 in
theorem cutsAt_walk (hT : Hid AtSays) (hJ : Hid JoinSays) (hAw : Hid AwakeSays) (s : ByteArray) (A : Option Addr) (n c : Nat) (l : List Int) (w : World) (hs : s.size ≤ maxLen) (_ : n ≤ c) (_ : c ≤ maxLen) (hin : SlIn w A n (l.map (Value.int .i64))) (hok : ∀ x ∈ l, (Lit.int .i64 x).wf = true) :
    Calls Try.prog 3 #[.string s, .slice A n c] w fun x w' => x = .returned (.bool true) ∧ Below w.heap.size w w' := by
  obtain ⟨j0, hj, hy0, hy1, hy2⟩ := info_parts infoInt7
  have Hj := Lib.hid hj
  have Hy0 := Lib.hid hy0
  have Hy1 := Lib.hid hy1
  have Hy2 := Lib.hid hy2
  clear hj hy0 hy1 hy2
  have HI := Lib.hid hin
  have HK := Lib.hid hok
  have hs0 : s.size ≤ 9223372036854775807 := hs
  clear hin hok
  by_cases h200 : s.size ≤ 200
  · by_cases hn : n ≤ 40
    · have hse : (s.toList == s.toList) = true := by simp
      have HLN := Lib.hid (show l.length = n by have := HI.out.1; simpa using this)
      go_enter Try.func3, Try.ntmps3
      have HI0 := Lib.hid (HI.out.below (up_alloc (Below.refl _ w) (.cells #[] 3)))
      have HB0 := Lib.hid (up_alloc (Below.refl _ w) (.cells #[] 3))
      go_wp2_with (at_builtin; refine wpList_append_sl _ rfl (.tmp 17) (.tmp 18) 22 rfl 3 j0 (.int .i64 0) 8 Try.underlying22 Hj.out Hy0.out Hy1.out Hy2.out rfl w.heap.size (some ⟨w.heap.size, 0, none⟩) 0 0 [] rfl (SlOwn.made w w.heap.size (Nat.le_refl _) 3 [] (Nat.zero_le _)) A n c (l.map (Value.int .i64)) rfl HI0.out (by intro u hu; obtain ⟨x, _, rfl⟩ := List.mem_map.1 hu; rfl) (by unfold maxLen; omega) (by omega) HB0.out.size ?_; intro A' c' w1 hown hgrow _; have HO1 := Lib.hid hown; have HG1 := Lib.hid hgrow; clear hown hgrow)
      have HA1 := Lib.hid (show SlIn w1 A' n (l.map (Value.int .i64)) by have := HO1.out.toIn; simpa using this)
      have HB1 := Lib.hid (show Below w.heap.size w w1 from HB0.out.grown HG1.out HB0.out.size (by intro k hk; simp [blkOf] at hk; omega))
      have HI1 := Lib.hid (HI.out.below HB1.out)
      clear HO1 HG1 HB0 HI0 HI
      refine (hT.out s l A' n c' w1 (by omega) (by omega) HA1 HK).mono ?_
      rintro x w2 ⟨O, co, rfl, hco, HS, HB2⟩
      have HA2 := Lib.hid (HA1.out.below HB2.out)
      have HI2 := Lib.hid (HI1.out.below HB2.out)
      have HB02 := Lib.hid (HB1.out.trans (HB2.out.mono HB1.out.size))
      clear HA1 HI1 HB1 HB2
      go_wp2_with fail
      go_loopw [25] (fun i wr => ∃ k : Nat, k ≤ n ∧ i = .int .i64 k ∧ Hid (∃ y, wr = onto w2 y)) (fun i _ => n - (intOf i).toNat)
      case atStart => exact ⟨0, Nat.zero_le _, rfl, Lib.hid (onto_self w2)⟩
      case round =>
        obtain ⟨k, hk, rfl, HY⟩ := hrel
        obtain ⟨y, rfl⟩ := HY.out
        clear HY
        by_cases hlt : k < n
        · obtain ⟨x, hx⟩ : ∃ x, l[k]? = some x := ⟨_, List.getElem?_eq_getElem (by rw [HLN.out]; exact hlt)⟩
          have hx2 : (l.map (Value.int .i64))[k]? = some (.int .i64 x) := by simp [hx]
          obtain ⟨a, ea, hca⟩ := HA2.out.at_ hx2
          obtain ⟨b, eb, hcb⟩ := HI2.out.at_ hx2
          have za : ∀ z, (onto w2 z).cell? (a.add k) = some (.int .i64 x) := fun z => mem_cell (onto_below w2 z) hca
          have zb : ∀ z, (onto w2 z).cell? (b.add k) = some (.int .i64 x) := fun z => mem_cell (onto_below w2 z) hcb
          have hne : (x != x) = false := by simp
          subst ea eb
          clear hx hx2 hca hcb
          go_wp2_with fail
          refine wp_region_onto (by kernel_rfl) (by kernel_rfl) ?_
          repeat (go_big_quiet_step (fail))
          refine wpQuiet_nil ?_
          intro _ hw'
          obtain ⟨x1, hw''⟩ := hw'
          subst hw''
          go_wp2_with fail
          go_roundw
          case rel => exact ⟨k + 1, by omega, by go_num, Lib.hid ⟨y.up x1, rfl⟩⟩
          case measure => simp [intOf]; omega
        · obtain rfl : k = n := by omega
          clear hlt
          have HI3 := Lib.hid (HI2.out.below (onto_below w2 y))
          have HS3 := Lib.hid (HS.out.below (onto_below w2 y))
          have HB3 := Lib.hid (HB02.out.trans ((onto_below w2 y).mono HB02.out.size))
          obtain ⟨W3, hW3⟩ : ∃ W3, W3 = onto w2 y := ⟨_, rfl⟩
          rw [← hW3] at HI3 HS3 HB3
          rw [← hW3]
          clear hW3 HA2 HI2 HS HB02
          go_wp2_with fail
          refine (refAt_any s l A k c (by omega) (by omega) W3 HI3).mono ?_
          rintro x w4 ⟨O2, co2, rfl, HS4, HB4⟩
          have HS5 := Lib.hid (HS3.out.below HB4.out)
          have HB5 := Lib.hid (HB3.out.trans (HB4.out.mono HB3.out.size))
          have HJN := Lib.hid (jn_cutAt s l)
          obtain ⟨X, hX⟩ : ∃ X, cutAt s l = X := ⟨_, rfl⟩
          rw [hX] at HS4 HS5 HJN
          have HJZ := Lib.hid (show (jn X).size ≤ 9223372036854775807 by rw [HJN.out]; exact hs0)
          have HJZ4 := Lib.hid (show (jn X).size ≤ 140737488355328 by rw [HJN.out]; omega)
          have HSA := Lib.hid (show ∀ w', Below w4.heap.size w4 w' → SlIn w' O (k + 1) (strs X) from fun w' hb => HS5.out.below hb)
          clear hX HS3 HB3 HB4 HI3
          go_wp2_with fail
          refine (above (same_yes O O2 (k + 1) co co2 X w4 HS5.out HS4.out (by omega))).mono ?_
          rintro x _ ⟨rfl, y1, rfl⟩
          go_wp2_with fail
          refine (above (joined_any O (k + 1) co X _ (Lib.hid (HSA.out _ (onto_below w4 y1))) (by omega) HJZ)).mono ?_
          rintro x _ ⟨rfl, y2, rfl⟩
          rw [HJN.out]
          go_wp2_with fail
          refine (above (hJ.out O (k + 1) co X _ (Lib.hid (HSA.out _ (onto_below w4 _))) hco (by omega) HJZ4)).mono ?_
          rintro x _ ⟨rfl, y3, rfl⟩
          rw [HJN.out]
          go_wp2_with fail
          refine (hAw.out _).mono ?_
          rintro x w9 ⟨rfl, hb⟩
          have HB9 := Lib.hid (HB5.out.trans (((onto_below w4 _).trans (hb.mono (onto_below w4 _).size)).mono HB5.out.size))
          clear hb
          go_wp2_with fail
          go_ret
          exact ⟨rfl, HB9.out⟩
    · go_enter Try.func3, Try.ntmps3
      go_wp2_with fail
      refine (hAw.out _).mono ?_
      rintro x w1 ⟨rfl, hb⟩
      go_wp2_with fail
      go_ret
      exact ⟨rfl, hb⟩
  · go_enter Try.func3, Try.ntmps3
    go_wp2_with fail
    refine (hAw.out _).mono ?_
    rintro x w1 ⟨rfl, hb⟩
    go_wp2_with fail
    go_ret
    exact ⟨rfl, hb⟩
end Go.Proofs.Ytjpemelnnemmiaa

/- Layer 7: the walk of the statement CutsBy over the contracts of By and of the document's example (given as premises till the program's own stand). -/
import Derived.Test.YtjpemelnnemmiaaWlj
import Derived.Test.YtjpemelnnemmiaaCtd
import Derived.Test.YtjpemelnnemmiaaCte
namespace Go.Proofs.Ytjpemelnnemmiaa
open Go.ChangeShapes Go.WideShapes Go.ChangeAt Go.RowKit
set_option linter.unusedVariables false
set_option linter.unusedSimpArgs false

/-- What By answers. -/
def BySays : Prop := ∀ (s : ByteArray) (ps : List Int) (P : Option Addr) (n c : Nat) (w : World), s.size ≤ 1000 → n ≤ 100 → Hid (SlIn w P n (ps.map (Value.int .i64))) → Hid (∀ x ∈ ps, (Lit.int .i64 x).wf = true) →
  Calls Try.prog 14 #[.string s, .slice P n c] w fun x w' => ∃ X O co, x = .returned (.slice O (List.length X) co) ∧ Hid (ByOut s ps X) ∧ Hid (X.length ≤ 200000) ∧ Hid (SlIn w' O X.length (strs X)) ∧ Hid (Below w.heap.size w w')

set_option maxHeartbeats 1600000 in
theorem cutsBy_walk (hB : Hid BySays) (hAw : Hid AwakeSays) (s : ByteArray) (A : Option Addr) (n c : Nat) (l : List Int) (w : World) (hs : s.size ≤ maxLen) (_ : n ≤ c) (_ : c ≤ maxLen) (hin : SlIn w A n (l.map (Value.int .i64))) (hok : ∀ x ∈ l, (Lit.int .i64 x).wf = true) :
    Calls Try.prog 4 #[.string s, .slice A n c] w fun x w' => x = .returned (.bool true) ∧ Below w.heap.size w w' := by
  have HI := Lib.hid hin
  have HK := Lib.hid hok
  have hs0 : s.size ≤ 9223372036854775807 := hs
  clear hin hok
  by_cases h200 : s.size ≤ 200
  · by_cases hn : n ≤ 20
    · have hse : (s.toList == s.toList) = true := by simp
      go_enter Try.func4, Try.ntmps4
      go_wp2_with fail
      refine (hB.out s l A n c _ (by omega) (by omega) HI HK).mono ?_
      rintro x w1 ⟨X, O, co, rfl, HX, HN, HS, HB⟩
      obtain ⟨m, hm⟩ : ∃ m, X.length = m := ⟨_, rfl⟩
      rw [hm] at HN HS
      rw [hm]
      have HM := Lib.hid hm
      clear hm
      have HI1 := Lib.hid (HI.out.below HB.out)
      go_wp2_with fail
      refine (refBy_any s l A n c (by omega) (by omega) w1 HI1).mono ?_
      rintro x w2 ⟨Y, O2, co2, rfl, HY, HN2, HS2, HB2⟩
      obtain rfl : X = Y := HX.out.unique HY.out
      rw [HM.out] at HN2 HS2
      rw [HM.out]
      have HS1 := Lib.hid (HS.out.below HB2.out)
      have HB12 := Lib.hid (HB.out.trans (HB2.out.mono HB.out.size))
      have HJ := Lib.hid (show jn X = s from HX.out.joined)
      have HJZ := Lib.hid (show (jn X).size ≤ 9223372036854775807 by rw [HJ.out]; exact hs0)
      have HSA := Lib.hid (show ∀ w', Below w2.heap.size w2 w' → SlIn w' O m (strs X) from fun w' hb => HS1.out.below hb)
      have hm2 : m ≤ 200000 := HN.out
      clear HX HY HN HN2 HI HI1 HB HB2 HS HK
      go_wp2_with fail
      refine (above (same_yes O O2 m co co2 X w2 HS1.out HS2.out (by omega))).mono ?_
      rintro x _ ⟨rfl, y, rfl⟩
      go_wp2_with fail
      refine (above (joined_any O m co X _ (Lib.hid (HSA.out _ (onto_below w2 y))) (by omega) HJZ)).mono ?_
      rintro x _ ⟨rfl, y2, rfl⟩
      rw [HJ.out]
      go_wp2_with fail
      refine (hAw.out _).mono ?_
      rintro x w3 ⟨rfl, hb⟩
      have HB3 := Lib.hid ((HB12.out.trans ((onto_below w2 (y.up y2)).mono HB12.out.size)).trans (hb.mono (Nat.le_trans HB12.out.size (onto_below w2 (y.up y2)).size)))
      clear hb
      go_wp2_with fail
      go_ret
      exact ⟨rfl, HB3.out⟩
    · go_enter Try.func4, Try.ntmps4
      go_wp2_with fail
      refine (hAw.out _).mono ?_
      rintro x w1 ⟨rfl, hb⟩
      go_wp2_with fail
      go_ret
      exact ⟨rfl, hb⟩
  · go_enter Try.func4, Try.ntmps4
    go_wp2_with fail
    refine (hAw.out _).mono ?_
    rintro x w1 ⟨rfl, hb⟩
    go_wp2_with fail
    go_ret
    exact ⟨rfl, hb⟩
end Go.Proofs.Ytjpemelnnemmiaa

/- Layer 6: the walk of the statement WholeFront: the Go text returns true and leaves all that was there as it was. -/
import Derived.Test.YtbglecaahopgdaaWkk
import Derived.Test.YtbglecaahopgdaaPwc
namespace Go.Proofs.Ytbglecaahopgdaa
open Go.ChangeShapes Go.WideShapes Go.ChangeAt Go.RowKit
set_option linter.unusedVariables false
set_option linter.unusedSimpArgs false

theorem parW_go {d q e a b c : Int} {u : Bool} {s : ByteArray} (h1 : rightB d q e = true) (h2 : (withinB a && (withinB b && withinB c)) = true) :
    parW d q e a b c u s = ⟨(whP d q e (mk0 a b c u) (bl s)).rs.map (·.1), (whP d q e (mk0 a b c u) (bl s)).k, if (whP d q e (mk0 a b c u) (bl s)).k = 0 then 0 else ((whP d q e (mk0 a b c u) (bl s)).at_ : Int)⟩ := by
  unfold parW
  rw [if_neg (by rw [h1]; simp), if_neg (by rw [h2]; simp)]
theorem whP_few {d q e a b c : Int} {u : Bool} {s : ByteArray} (hs : s.size ≤ 300) (h2 : (withinB a && (withinB b && withinB c)) = true) :
    (∀ r ∈ (whP d q e (mk0 a b c u) (bl s)).rs.map (·.1), r.length ≤ 1000) ∧ ((whP d q e (mk0 a b c u) (bl s)).rs.map (·.1)).length ≤ 1000 := by
  have hlen : (bomStrip (bl s)).length ≤ s.size := by have := whOff_len (bl s); rw [bl_length] at this; omega
  refine ⟨fun r hr => ?_, ?_⟩
  · obtain ⟨p, hp, rfl⟩ := List.mem_map.1 hr
    have := mchU_wide (bomStrip (bl s)) 0 0 (mk0 a b c u) (whOff (bl s)) 0 (mk0_ok a b c u h2) p hp
    omega
  · rw [List.length_map]
    have := mchU_few (d := d) (q := q) (e := e) (bomStrip (bl s)) 0 0 (mk0 a b c u) (whOff (bl s))
    unfold whP
    omega
abbrev WW : Int := 2147483648
theorem front_facts (d q e : Int) (s : ByteArray) (hs : s.size ≤ 300) (k : Nat) (hk : k ≤ s.size) (h1 : rightB d q e = true) : ∃ rs1 k1 a1 rs2 k2 a2, parW d q e 2147483648 2147483648 2147483648 false (s.extract 0 k) = ⟨rs1, k1, a1⟩ ∧ parW d q e 2147483648 2147483648 2147483648 false s = ⟨rs2, k2, a2⟩ ∧
    (k1 ≠ 0 → a1 < k → k2 = k1 ∧ a2 = a1) ∧ (∀ j r, j + (if k1 = 0 then 1 else 0) < rs1.length → rs1[j]? = some r → rs2[j]? = some r) ∧ (∀ r ∈ rs1, r.length ≤ 1000) ∧ rs1.length ≤ 1000 ∧ rs2.length ≤ 1000 := by
  have hw : (withinB 2147483648 && (withinB 2147483648 && withinB 2147483648)) = true := by decide
  have hd := right_dia h1
  have hb : d ≤ 127 ∧ q ≤ 127 := by have := right_bytes h1; omega
  have hx : (s.extract 0 k).size ≤ 300 := by rw [ByteArray.size_extract]; omega
  obtain ⟨f1, f2⟩ := wh_front hd hb.1 hb.2 (mk0 2147483648 2147483648 2147483648 false) rfl rfl (by decide) (by decide) (bl s) k (by rw [bl_length]; exact hk)
  rw [← bl_take] at f1 f2
  obtain ⟨c1, c2⟩ := whP_few (d := d) (q := q) (e := e) (u := false) hx hw
  obtain ⟨c3, c4⟩ := whP_few (d := d) (q := q) (e := e) (u := false) hs hw
  refine ⟨_, _, _, _, _, _, parW_go h1 hw, parW_go h1 hw, ?_, ?_, c1, c2, c4⟩
  · intro hk1 ha
    rw [if_neg hk1] at ha
    obtain ⟨g1, g2⟩ := f1 hk1 (by omega)
    rw [if_neg hk1, if_neg (by rw [g1]; exact hk1), g2]
    exact ⟨g1, rfl⟩
  · intro j r hj hr
    rw [List.length_map] at hj
    rw [List.getElem?_map] at hr ⊢
    obtain ⟨p, hp, rfl⟩ := Option.map_eq_some_iff.1 hr
    rw [f2 j p hj hp]; rfl
end Go.Proofs.Ytbglecaahopgdaa

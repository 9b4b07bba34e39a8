/- Layer 12: a table's text, read, plain. -/
import Derived.Test.YtoeanbfemgmgnaaGreatDoorTrb
import Derived.Test.YtoeanbfemgmgnaaGreatDoorQrf
namespace Go.Proofs.YtoeanbfemgmgnaaGreatDoor
open Go.ChangeShapes Go.WideShapes Go.ChangeAt Go.RowKit
set_option linter.unusedVariables false
set_option linter.unusedSimpArgs false

/-- A table's text, read. -/
theorem text_back {d q e lf ls lr : Int} (d0 : 0 ≤ d) (d1 : d ≤ 255) (q0 : 0 ≤ q) (q1 : q ≤ 255) (h : rightB d q e = true) (hf : (withinB lf && (withinB ls && withinB lr)) = true) (t : List (List ByteArray)) (hm : AllMay t) (h1 : (t.length : Int) ≤ lr) (h2 : ∀ r ∈ t, (r.length : Int) ≤ ls) (h3 : ∀ r ∈ t, ∀ y ∈ r, (y.size : Int) ≤ lf) (s : ByteArray) (hs : bl s = textN d q e t (frontN t)) :
    (RdS.at_ d q e lf ls lr false s true 0).rs = t ∧ (RdS.at_ d q e lf ls lr false s true 0).K = (0, 0) := by
  have hok : (RdS.at_ d q e lf ls lr false s true 0).Ok := ⟨d0, d1, q0, q1, h, hf⟩
  obtain ⟨n, hn⟩ : ∃ n, n = s.size + t.length + 1 := ⟨_, rfl⟩
  obtain ⟨t1, t2, t3⟩ := hok.told n (show s.size < n by omega)
  obtain ⟨g1, g2⟩ := text_read3 h t hm lf ls lr n h1 (by omega) h2 h3 s hs
  have e1 : (RdS.at_ d q e lf ls lr false s true 0).rs = t := t1.trans g1
  have e2 : (RdS.at_ d q e lf ls lr false s true 0).K.1 = 0 := t2.trans g2
  rw [e2, if_pos rfl] at t3
  exact ⟨e1, Prod.ext e2 t3⟩
end Go.Proofs.YtoeanbfemgmgnaaGreatDoor

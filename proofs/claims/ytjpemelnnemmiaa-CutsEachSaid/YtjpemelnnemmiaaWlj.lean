/- Layer 7: the walk of the statement CutsJoins over the contracts of Join and of the document's example (given as premises till the program's own stand). -/
import Derived.Test.YtjpemelnnemmiaaCta
import Derived.Test.YtjpemelnnemmiaaKit10
namespace Go.Proofs.Ytjpemelnnemmiaa
open Go.ChangeShapes Go.WideShapes Go.ChangeAt Go.RowKit
set_option linter.unusedVariables false
set_option linter.unusedSimpArgs false

/-- What Join answers. -/
def JoinSays : Prop := ∀ (A : Option Addr) (n c : Nat) (l : List ByteArray) (w : World), Hid (SlIn w A n (strs l)) → n ≤ c → n ≤ 1000000 → Hid ((jn l).size ≤ 140737488355328) →
  Calls Try.prog 13 #[.slice A n c] w fun x w' => x = .returned (.string (jn l)) ∧ Below w.heap.size w w'
def AwakeSays : Prop := ∀ w : World, Calls Try.prog 8 #[] w fun x w' => x = .returned (.bool true) ∧ Below w.heap.size w w'

set_option maxHeartbeats 1600000 in
theorem cutsJoins_walk (hJ : Hid JoinSays) (hAw : Hid AwakeSays) (A : Option Addr) (n c : Nat) (l : List ByteArray) (w : World) (hnc : n ≤ c) (_ : c ≤ maxLen) (hin : SlIn w A n (strs l)) (hszz : (jn l).size ≤ 140737488355328) :
    Calls Try.prog 5 #[.slice A n c] w fun x w' => x = .returned (.bool true) ∧ Below w.heap.size w w' := by
  have HI := Lib.hid hin
  by_cases hn : n ≤ 60
  · have HS := Lib.hid hszz
    have HS9 : Hid ((jn l).size ≤ 9223372036854775807) := Lib.hid (by omega)
    have heq : ((jn l).toList == (jn l).toList) = true := by simp
    clear hin hszz
    go_enter Try.func5, Try.ntmps5
    go_wp2_with fail
    refine (above (hJ.out A n c l _ HI hnc (by omega) HS)).mono ?_
    rintro x _ ⟨rfl, y, rfl⟩
    have HI2 := Lib.hid (HI.out.below (onto_below w y))
    go_wp2_with fail
    refine (above (joined_any A n c l _ HI2 (by omega) HS9)).mono ?_
    rintro x _ ⟨rfl, y2, rfl⟩
    go_wp2_with fail
    refine (hAw.out _).mono ?_
    rintro x w1 ⟨rfl, hb⟩
    go_wp2_with fail
    go_ret
    exact ⟨rfl, (onto_below w (y.up y2)).trans (hb.mono (onto_below w (y.up y2)).size)⟩
  · clear hin hszz HI
    go_enter Try.func5, Try.ntmps5
    go_wp2_with fail
    refine (hAw.out _).mono ?_
    rintro x w1 ⟨rfl, hb⟩
    go_wp2_with fail
    go_ret
    exact ⟨rfl, hb⟩
end Go.Proofs.Ytjpemelnnemmiaa

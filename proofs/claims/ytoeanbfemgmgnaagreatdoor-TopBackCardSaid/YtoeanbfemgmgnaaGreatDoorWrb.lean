/- Layer 11: what the program's writer does (premises, over any way to say where it lies). -/
import Derived.Test.YtoeanbfemgmgnaaGreatDoorWrs
import Derived.Test.YtoeanbfemgmgnaaGreatDoorZk
import Derived.Test.YtoeanbfemgmgnaaGreatDoorZq
namespace Go.Proofs.YtoeanbfemgmgnaaGreatDoor
open Go.ChangeShapes Go.WideShapes Go.ChangeAt Go.RowKit
set_option linter.unusedVariables false
set_option linter.unusedSimpArgs false

/-- A new writer. -/
def Wr1.new (d q e : Int) : Wr1 := ⟨d, q, e, ⟨#[]⟩, 0, 0, false⟩
def Wr1.shut (x : Wr1) : Wr1 := { x with cl := true }
theorem new_ok {d q e : Int} (d0 : 0 ≤ d) (d1 : d ≤ 255) (q0 : 0 ≤ q) (q1 : q ≤ 255) : (Wr1.new d q e).Ok := ⟨d0, d1, q0, q1, Nat.le_refl _⟩
/-- What the program's writer does; WB w p x S: at p it lies, in state x, the blocks S its own. -/
structure PW (WB : World → Addr → Wr1 → (Nat → Prop) → Prop) : Prop where
  lies : ∀ {w p x S}, WB w p x S → Lies w S
  keep : ∀ {w w' p x S} {S' : Nat → Prop}, WB w p x S → Touch w w' S' → (∀ k, S k → ¬ S' k) → WB w' p x S
  new_yes : ∀ (d q e : Int) (w : World), 0 ≤ d → d ≤ 255 → 0 ≤ q → q ≤ 255 → rightB d q e = true → Calls Tryz.prog 8 #[.agg #[.int .u8 d, .int .u8 q, .int .i64 e]] w fun y w' =>
    ∃ p S, y = .returned (.tuple #[.pointer (some p), .int .i64 0]) ∧ Hid (WB w' p (Wr1.new d q e) S) ∧ Hid (∀ k, S k → w.heap.size ≤ k) ∧ Hid (Below w.heap.size w w')
  new_no : ∀ (d q e : Int) (w : World), 0 ≤ d → d ≤ 255 → 0 ≤ q → q ≤ 255 → rightB d q e = false → Calls Tryz.prog 8 #[.agg #[.int .u8 d, .int .u8 q, .int .i64 e]] w fun y w' => y = .returned (.tuple #[.pointer none, .int .i64 1]) ∧ Below w.heap.size w w'
  put : ∀ (x : Wr1) (p : Addr) (S : Nat → Prop) (A : Option Addr) (n c : Nat) (r : List ByteArray) (w : World), x.Ok → x.S.size ≤ 1000000 → x.ct ≤ 1000000 → n ≤ 1000 → lenL r ≤ 1000 → Hid (WB w p x S) → Hid (SlIn w A n (strs r)) →
    Calls Tryz.prog 10 #[.pointer (some p), .slice A n c] w fun y w' => y = .returned (.int .i64 (x.putE r)) ∧ ∃ S', Hid (WB w' p (x.put r) S') ∧ Hid (Touch w w' S) ∧ Hid (Sub w S' S)
  take : ∀ (x : Wr1) (p : Addr) (S : Nat → Prop) (n : Int) (w : World), x.Ok → x.S.size ≤ 1000000 → -9223372036854775808 ≤ n → n ≤ 9223372036854775807 → Hid (WB w p x S) →
    Calls Tryz.prog 13 #[.pointer (some p), .int .i64 n] w fun y w' => ∃ (O : Option Addr) (m c : Nat) (S' : Nat → Prop), y = .returned (.slice O m c) ∧ m = (x.got n).size ∧ Hid (SlOwn w' w.heap.size 5 O m c (u8s (bl (x.got n)))) ∧ Hid (∀ k, blkOf O = some k → ¬ S' k) ∧
      Hid (WB w' p (x.take n) S') ∧ Hid (Touch w w' S) ∧ Hid (Sub w S' S)
  close : ∀ (x : Wr1) (p : Addr) (S : Nat → Prop) (w : World), Hid (WB w p x S) → Calls Tryz.prog 11 #[.pointer (some p)] w fun y w' => y = .returned (.tuple #[]) ∧ ∃ S', Hid (WB w' p x.shut S') ∧ Hid (Touch w w' S) ∧ Hid (Sub w S' S)
  ready : ∀ (x : Wr1) (p : Addr) (S : Nat → Prop) (w : World), Hid (WB w p x S) → Calls Tryz.prog 12 #[.pointer (some p)] w fun y w' => y = .returned (.int .i64 ((x.S.size : Int) - (x.tk : Int))) ∧ Below w.heap.size w w'
theorem PW.below {WB : World → Addr → Wr1 → (Nat → Prop) → Prop} (H : PW WB) {w w' : World} {p : Addr} {x : Wr1} {S : Nat → Prop} (h : WB w p x S) (hb : Below w.heap.size w w') : WB w' p x S :=
  H.keep h (Touch.of_below hb (fun _ => False)) (fun _ _ hf => hf)
end Go.Proofs.YtoeanbfemgmgnaaGreatDoor

/- Layer 11: a writer in plain words. -/
import Derived.Test.YtoeanbfemgmgnaaGreatDoorZq
namespace Go.Proofs.YtoeanbfemgmgnaaGreatDoor
open Go.ChangeShapes Go.WideShapes Go.ChangeAt Go.RowKit
set_option linter.unusedVariables false
set_option linter.unusedSimpArgs false

/-- A writer: dialect, all that was put, how much was taken, how many records, is it closed? -/
structure Wr1 where
  d : Int
  q : Int
  e : Int
  S : ByteArray
  tk : Nat
  ct : Nat
  cl : Bool
def Wr1.cells (x : Wr1) : Array Value := #[.int .i64 x.d, .int .i64 x.q, .int .i64 x.e, .string x.S, .int .i64 x.tk, .int .i64 x.ct, .int .i64 (numB x.cl)]
/-- What Put answers. -/
def Wr1.putE (x : Wr1) (r : List ByteArray) : Int := if x.cl = true then 24 else mayN r
/-- The line that is put. -/
def Wr1.lnO (x : Wr1) (r : List ByteArray) : ByteArray := lineO x.d x.q x.e (decide (x.ct = 0)) r
def Wr1.put (x : Wr1) (r : List ByteArray) : Wr1 := if x.putE r = 0 then { x with S := x.S ++ x.lnO r, ct := x.ct + 1 } else x
/-- How many bytes are taken. -/
def Wr1.tkN (x : Wr1) (n : Int) : Nat := min n.toNat (x.S.size - x.tk)
def Wr1.take (x : Wr1) (n : Int) : Wr1 := { x with tk := x.tk + x.tkN n }
def Wr1.got (x : Wr1) (n : Int) : ByteArray := x.S.extract x.tk (x.tk + x.tkN n)
/-- Of bytes, and not more taken than there is. -/
structure Wr1.Ok (x : Wr1) : Prop where
  d0 : 0 ≤ x.d
  d1 : x.d ≤ 255
  q0 : 0 ≤ x.q
  q1 : x.q ≤ 255
  tk : x.tk ≤ x.S.size
theorem Wr1.Ok.put {x : Wr1} (h : x.Ok) (r : List ByteArray) : (x.put r).Ok := by
  unfold Wr1.put
  split
  · exact ⟨h.d0, h.d1, h.q0, h.q1, by have := h.tk; show x.tk ≤ (x.S ++ _).size; rw [ByteArray.size_append]; omega⟩
  · exact h
theorem Wr1.Ok.take {x : Wr1} (h : x.Ok) (n : Int) : (x.take n).Ok := ⟨h.d0, h.d1, h.q0, h.q1, by have := h.tk; show x.tk + min n.toNat (x.S.size - x.tk) ≤ x.S.size; omega⟩
theorem lnO_size {x : Wr1} (h : x.Ok) (r : List ByteArray) (h1 : r.length ≤ 1000) (h2 : lenL r ≤ 1000) : (x.lnO r).size ≤ 10000 := by
  have := lineN_len x.d x.q x.e (decide (x.ct = 0)) r
  rw [← bl_length, Wr1.lnO, bl_lineO h.d0 h.d1 h.q0 h.q1]; omega

end Go.Proofs.YtoeanbfemgmgnaaGreatDoor

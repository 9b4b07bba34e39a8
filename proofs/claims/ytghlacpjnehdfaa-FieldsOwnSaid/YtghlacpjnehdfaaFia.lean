/- Layer 5: the maker, as plain functions. -/
import Derived.Test.YtghlacpjnehdfaaKit8
namespace Go.Proofs.Ytghlacpjnehdfaa
open Go.RowKit
set_option linter.unusedVariables false
set_option linter.unusedSimpArgs false

structure Ev where
  bg : Bool
  ad : Bool
  fi : Bool
  li : Bool
  re : Bool
  b : Int
deriving DecidableEq
def evCells (x : Ev) : List Value := [.bool x.bg, .bool x.ad, .bool x.fi, .bool x.li, .bool x.re, .int .u8 x.b]
def evVal (x : Ev) : Value := .agg #[.bool x.bg, .bool x.ad, .bool x.fi, .bool x.li, .bool x.re, .int .u8 x.b]
def flat (l : List Ev) : List Value := l.flatMap evCells

/-- What a maker has. -/
structure Mk where
  lf : Int
  ls : Int
  lr : Int
  u : Bool
  fd : List Int
  rc : List ByteArray
  bg : Int
  ct : Int
  wd : Int
  er : Int

def mPut (s : Mk) : Mk := { s with fd := [], rc := s.rc ++ [toBA s.fd] }
def mBound (s : Mk) : Bool := s.u && decide (0 < s.ct)
def mB (b : Bool) (s : Mk) : Mk := if b = true then (if s.lr ≤ s.bg then { s with er := 9 } else { s with bg := s.bg + 1 }) else s
def mA (a : Bool) (v : Int) (s : Mk) : Mk := if a = true then (if s.lf ≤ (s.fd.length : Int) then { s with er := 7 } else { s with fd := s.fd ++ [v] }) else s
def mEndF (s : Mk) : Mk := if s.ls ≤ (s.rc.length : Int) + 1 then { mPut s with er := 8 } else if mBound s = true ∧ (s.rc.length : Int) + 1 = s.wd then { mPut s with er := 10 } else mPut s
def mEndL (s : Mk) : Mk := if mBound s = true ∧ (s.rc.length : Int) + 1 ≠ s.wd then { mPut s with er := 10 } else mPut s
def mF (f : Bool) (s : Mk) : Mk := if f = true then mEndF s else s
def mL (l : Bool) (s : Mk) : Mk := if l = true then mEndL s else s
def mThen (s : Mk) (f : Mk → Mk) : Mk := if s.er = 0 then f s else s
def mGather (e : Ev) (s : Mk) : Mk := mThen (mThen (mThen (mB e.bg s) (mA e.ad e.b)) (mF e.fi)) (mL e.li)
def mOut (s : Mk) : Mk := { s with rc := [], wd := if s.ct = 0 then (s.rc.length : Int) else s.wd, ct := s.ct + 1 }
def mTake (e : Ev) (s : Mk) : Mk := mThen s fun s => mThen (mGather e s) fun t => if e.re = true then mOut t else t
def mTold (e : Ev) (s : Mk) : Bool := decide (s.er = 0) && (decide ((mGather e s).er = 0) && e.re)
def mRec (e : Ev) (s : Mk) : List ByteArray := if mTold e s = true then (mGather e s).rc else []

theorem mThen_go {s : Mk} (h : s.er = 0) (f : Mk → Mk) : mThen s f = f s := if_pos h
theorem mThen_stop {s : Mk} (h : s.er ≠ 0) (f : Mk → Mk) : mThen s f = s := if_neg h
/-- Stopped, it does nothing. -/
theorem mTake_stop {s : Mk} (h : s.er ≠ 0) (e : Ev) : mTake e s = s ∧ mTold e s = false ∧ mRec e s = [] := by
  have h2 : mTold e s = false := by simp [mTold, h]
  exact ⟨mThen_stop h _, h2, by simp [mRec, h2]⟩
end Go.Proofs.Ytghlacpjnehdfaa

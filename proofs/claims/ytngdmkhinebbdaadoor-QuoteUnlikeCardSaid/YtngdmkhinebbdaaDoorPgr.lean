/- Layer 6: all bytes of a text, one by one, by the table and the maker (mch); and by the grammar, place by place (rdGo): plain functions. -/
import Derived.Test.YtngdmkhinebbdaaDoorPsc
import Derived.Test.YtngdmkhinebbdaaDoorPmk
namespace Go.Proofs.YtngdmkhinebbdaaDoor
open Go.RowKit
set_option linter.unusedVariables false
set_option linter.unusedSimpArgs false

/-- Records, each with the place of the byte that made it whole; the first fault (0: none), and its place. -/
structure Got where
  rs : List (List ByteArray × Nat)
  k : Int
  at_ : Nat
def Got.more (r : List ByteArray) (i : Nat) (o : Got) : Got := ⟨(r, i) :: o.rs, o.k, o.at_⟩

/-! ### By the table -/
def mch (d q e : Int) : Int → Mk → Nat → List Int → Got
  | t, m, i, [] =>
    if closeK t ≠ 0 then ⟨[], closeK t, i⟩
    else if (mTake (closeE t) m).er ≠ 0 then ⟨[], (mTake (closeE t) m).er, i⟩
    else if mTold (closeE t) m = true then ⟨[(mRec (closeE t) m, i)], 0, 0⟩ else ⟨[], 0, 0⟩
  | t, m, i, b :: r =>
    if (stepR d q e t b).k ≠ 0 then ⟨[], (stepR d q e t b).k, i⟩
    else if (mTake (stepR d q e t b).ev m).er ≠ 0 then ⟨[], (mTake (stepR d q e t b).ev m).er, i⟩
    else if mTold (stepR d q e t b).ev m = true then (mch d q e (stepR d q e t b).n (mTake (stepR d q e t b).ev m) (i + 1) r).more (mRec (stepR d q e t b).ev m) i
    else mch d q e (stepR d q e t b).n (mTake (stepR d q e t b).ev m) (i + 1) r

/-! ### By the grammar: of a text's rest, at a place -/
/-- What a field comes to: the fault (0: none), the field, the place behind it (of the fault), and the rest. -/
structure Fld where
  k : Int
  f : List Int
  i : Nat
  l : List Int
def stops (d b : Int) : Bool := b == d || (b == 10 || b == 13)
/-- A quoted field, from behind its quote on. -/
def qGo (q lf : Int) : List Int → Nat → List Int → Fld
  | f, i, [] => ⟨11, f, i, []⟩
  | f, i, [b] => if b = q then ⟨0, f, i + 1, []⟩ else if (f.length : Int) = lf then ⟨7, f, i, []⟩ else ⟨11, f ++ [b], i + 1, []⟩
  | f, i, b :: c :: r =>
    if b = q then (if c = q then (if (f.length : Int) = lf then ⟨7, f, i + 1, []⟩ else qGo q lf (f ++ [c]) (i + 2) r) else ⟨0, f, i + 1, c :: r⟩)
    else if (f.length : Int) = lf then ⟨7, f, i, []⟩ else qGo q lf (f ++ [b]) (i + 1) (c :: r)
/-- A field that isn't quoted. -/
def bGo (d q lf : Int) : List Int → Nat → List Int → Fld
  | f, i, [] => ⟨0, f, i, []⟩
  | f, i, b :: r => if stops d b = true then ⟨0, f, i, b :: r⟩ else if b = q then ⟨4, f, i, []⟩ else if (f.length : Int) = lf then ⟨7, f, i, []⟩ else bGo d q lf (f ++ [b]) (i + 1) r
/-- What may stand behind a quoted field. -/
def behind (d : Int) (x : Fld) : Fld :=
  if x.k ≠ 0 then x else match x.l with
    | [] => x
    | b :: _ => if stops d b = true then x else ⟨5, x.f, x.i, []⟩
def fGo (d q lf : Int) (i : Nat) : List Int → Fld
  | [] => bGo d q lf [] i []
  | b :: r => if b = q then behind d (qGo q lf [] (i + 1) r) else bGo d q lf [] i (b :: r)
/-- What a line comes to: the fault (0: none) and its place; the record, where it was whole, and the rest with its place. -/
structure Lin where
  k : Int
  at_ : Nat
  rc : List ByteArray
  e : Nat
  i : Nat
  l : List Int
/-- Behind a record and a carriage return at a place. -/
def lnCr (m : Mk) (i : Nat) : List Int → Lin
  | [] => ⟨6, i + 1, [], 0, 0, []⟩
  | c :: r => if c = 10 then ⟨0, 0, m.rc, i + 1, i + 2, r⟩ else ⟨6, i + 1, [], 0, 0, []⟩
/-- What stands behind a record's last field, at a place: nothing, or a carriage return or a line feed. -/
def lnEnd (e : Int) (m : Mk) (i : Nat) : List Int → Lin
  | [] => if mBound m = true ∧ (m.rc.length : Int) ≠ m.wd then ⟨10, i, [], 0, 0, []⟩ else ⟨0, 0, m.rc, i, i, []⟩
  | b :: r =>
    if b = 10 then (if e = 2 then ⟨6, i, [], 0, 0, []⟩ else if mBound m = true ∧ (m.rc.length : Int) ≠ m.wd then ⟨10, i, [], 0, 0, []⟩ else ⟨0, 0, m.rc, i, i + 1, r⟩)
    else if e = 1 then ⟨6, i, [], 0, 0, []⟩ else if mBound m = true ∧ (m.rc.length : Int) ≠ m.wd then ⟨10, i, [], 0, 0, []⟩
    else lnCr m i r
/-- A record's fields from a place on (n: no more than that many), and the end of its line. -/
def lnGo (d q e : Int) : Nat → Mk → Nat → List Int → Lin
  | 0, m, i, l => ⟨0, 0, [], 0, 0, []⟩
  | n + 1, m, i, l =>
    if (fGo d q m.lf i l).k ≠ 0 then ⟨(fGo d q m.lf i l).k, (fGo d q m.lf i l).i, [], 0, 0, []⟩
    else match (fGo d q m.lf i l).l with
      | [] => lnEnd e { m with rc := m.rc ++ [toBA (fGo d q m.lf i l).f] } (fGo d q m.lf i l).i []
      | b :: r =>
        if b = d then
          (if (m.rc.length : Int) + 1 = m.ls then ⟨8, (fGo d q m.lf i l).i, [], 0, 0, []⟩ else if mBound m = true ∧ (m.rc.length : Int) + 1 = m.wd then ⟨10, (fGo d q m.lf i l).i, [], 0, 0, []⟩
          else lnGo d q e n { m with rc := m.rc ++ [toBA (fGo d q m.lf i l).f] } ((fGo d q m.lf i l).i + 1) r)
        else lnEnd e { m with rc := m.rc ++ [toBA (fGo d q m.lf i l).f] } (fGo d q m.lf i l).i (b :: r)
/-- All lines from a place on (n: no more than that many). -/
def rdGo (d q e : Int) : Nat → Mk → Nat → List Int → Got
  | 0, m, i, l => ⟨[], 0, 0⟩
  | n + 1, m, i, [] => ⟨[], 0, 0⟩
  | n + 1, m, i, b :: r =>
    if b = 10 then (if e = 2 then ⟨[], 6, i⟩ else rdGo d q e n m (i + 1) r)
    else if b = 13 then (if e = 1 then ⟨[], 6, i⟩ else if r.head? = some 10 then rdGo d q e n m (i + 2) r.tail else ⟨[], 6, i + 1⟩)
    else if m.bg = m.lr then ⟨[], 9, i⟩
    else if (lnGo d q e (r.length + 2) { m with bg := m.bg + 1 } i (b :: r)).k ≠ 0 then ⟨[], (lnGo d q e (r.length + 2) { m with bg := m.bg + 1 } i (b :: r)).k, (lnGo d q e (r.length + 2) { m with bg := m.bg + 1 } i (b :: r)).at_⟩
    else (rdGo d q e n (mOut { m with bg := m.bg + 1, rc := (lnGo d q e (r.length + 2) { m with bg := m.bg + 1 } i (b :: r)).rc }) (lnGo d q e (r.length + 2) { m with bg := m.bg + 1 } i (b :: r)).i (lnGo d q e (r.length + 2) { m with bg := m.bg + 1 } i (b :: r)).l).more (lnGo d q e (r.length + 2) { m with bg := m.bg + 1 } i (b :: r)).rc (lnGo d q e (r.length + 2) { m with bg := m.bg + 1 } i (b :: r)).e
end Go.Proofs.YtngdmkhinebbdaaDoor

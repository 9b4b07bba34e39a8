/- Layer 4: what each byte comes to: plain functions, and contracts of the program's Step and Close and all that they call. -/
import Derived.Test.YtpnjpcknlmpaiaaRows
import Derived.Test.YtpnjpcknlmpaiaaKit3
namespace Go.Proofs.Ytpnjpcknlmpaiaa
open Go.ChangeShapes Go.WideShapes Go.ChangeAt Go.RowKit
set_option linter.unusedVariables false
set_option linter.unusedSimpArgs false

/-! ### The plain words -/
structure Ev where
  bg : Bool
  ad : Bool
  fi : Bool
  li : Bool
  re : Bool
  b : Int
deriving DecidableEq
structure Res where
  ev : Ev
  n : Int
  k : Int
def ev0 : Ev := ⟨false, false, false, false, false, 0⟩
def evAdd (b : Int) : Ev := ⟨false, true, false, false, false, b⟩
def evRec : Ev := ⟨false, false, false, true, true, 0⟩
def oopB (e b : Int) : Bool := (b == 13 && e == 1) || (b == 10 && e == 2)
/-- what ends a field: the event, the state, and whether it does. -/
def parE (d b : Int) : Ev := if b = d then ⟨false, false, true, false, false, 0⟩ else if b = 13 then ⟨false, false, false, true, false, 0⟩ else if b = 10 then evRec else ev0
def parN (d b : Int) : Int := if b = d then 1 else if b = 13 then 5 else 0
def parB (d b : Int) : Bool := b == d || (b == 13 || b == 10)
def firstR (d q b : Int) : Res := if b = q then ⟨ev0, 3, 0⟩ else if parB d b = true then ⟨parE d b, parN d b, 0⟩ else ⟨evAdd b, 2, 0⟩
def bareR (d q b : Int) : Res := if b = q then ⟨ev0, 0, 4⟩ else firstR d q b
def quotedR (q b : Int) : Res := if b = q then ⟨ev0, 4, 0⟩ else ⟨evAdd b, 3, 0⟩
def closingR (d q b : Int) : Res := if b = q then ⟨evAdd b, 3, 0⟩ else if parB d b = true then ⟨parE d b, parN d b, 0⟩ else ⟨ev0, 0, 5⟩
def aheadR (d q b : Int) : Res := if b = 13 then ⟨ev0, 6, 0⟩ else if b = 10 then ⟨ev0, 0, 0⟩ else ⟨{ (firstR d q b).ev with bg := true }, (firstR d q b).n, (firstR d q b).k⟩
def feedR (v : Ev) (b : Int) : Res := if b = 10 then ⟨v, 0, 0⟩ else ⟨ev0, 0, 6⟩
def stepR (d q e s b : Int) : Res :=
  if s = 0 then (if oopB e b = true then ⟨ev0, 0, 6⟩ else aheadR d q b)
  else if s = 1 then (if oopB e b = true then ⟨ev0, 0, 6⟩ else firstR d q b)
  else if s = 2 then (if oopB e b = true then ⟨ev0, 0, 6⟩ else bareR d q b)
  else if s = 3 then quotedR q b
  else if s = 4 then (if oopB e b = true then ⟨ev0, 0, 6⟩ else closingR d q b)
  else if s = 5 then feedR ⟨false, false, false, false, true, 0⟩ b
  else feedR ev0 b
def closeE (s : Int) : Ev := if s = 1 ∨ s = 2 ∨ s = 4 then evRec else ev0
def closeK (s : Int) : Int := if s = 3 then 11 else if s = 5 ∨ s = 6 then 6 else 0

def Ev.v (x : Ev) : Value := .agg #[.bool x.bg, .bool x.ad, .bool x.fi, .bool x.li, .bool x.re, .int .u8 x.b]
theorem ret_res {x y : Ev} {a b c e : Int} (h : x = y) (h1 : a = b) (h2 : c = e) :
    Ending.returned (.tuple #[.agg #[.bool x.bg, .bool x.ad, .bool x.fi, .bool x.li, .bool x.re, .int .u8 x.b], .int .i64 a, .int .i64 c]) =
    .returned (.tuple #[.agg #[.bool y.bg, .bool y.ad, .bool y.fi, .bool y.li, .bool y.re, .int .u8 y.b], .int .i64 b, .int .i64 e]) := by rw [h, h1, h2]

theorem beq_t {a b : Int} (h : (a == b) = true) : (a = b) = True := eq_true (by simpa using h)
theorem beq_f {a b : Int} (h : (a == b) = false) : (a = b) = False := eq_false (by simpa using h)

theorem oop_any (d q e b : Int) (w : World) : Calls Try.prog 16 #[.agg #[.int .u8 d, .int .u8 q, .int .i64 e], .int .u8 b] w fun x w' => x = .returned (.bool (oopB e b)) ∧ Below w.heap.size w w' := by
  cases h1 : (b == 13) <;> cases h2 : (e == 1) <;> cases h3 : (b == 10) <;> cases h4 : (e == 2)
  all_goals
    go_enter Try.func16, Try.ntmps16
    go_wp2_with fail
    go_ret
    exact ⟨ret_bool (by simp [oopB, h1, h2, h3, h4]), (Below.refl _ _).alloc (Nat.le_refl _) _⟩

theorem parting_any (d q e b : Int) (w : World) : Calls Try.prog 25 #[.agg #[.int .u8 d, .int .u8 q, .int .i64 e], .int .u8 b] w fun x w' =>
    x = .returned (.tuple #[.agg #[.bool (parE d b).bg, .bool (parE d b).ad, .bool (parE d b).fi, .bool (parE d b).li, .bool (parE d b).re, .int .u8 (parE d b).b], .int .i64 (parN d b), .bool (parB d b)]) ∧ Below w.heap.size w w' := by
  cases h1 : (b == d) <;> cases h2 : (b == 13) <;> cases h3 : (b == 10)
  all_goals
    go_enter Try.func25, Try.ntmps25
    go_wp2_with fail
    first | (have g1 := beq_t h1) | (have g1 := beq_f h1)
    first | (have g2 := beq_t h2) | (have g2 := beq_f h2)
    first | (have g3 := beq_t h3) | (have g3 := beq_f h3)
    refine bodyPost_ret ?_ rfl ⟨rfl, ?_⟩
    · simp [results, Try.results25, go_sem, parE, parN, parB, h1, h2, h3, g1, g2, g3, ev0, evRec]
    · (repeat (first | exact Below.refl _ _ | refine up_alloc ?_ _ | refine up_onto ?_ _))

theorem parting_is (d q e b : Int) (v : Ev) (n : Int) (k : Bool) (hv : Hid (parE d b = v)) (hn : Hid (parN d b = n)) (hk : Hid (parB d b = k)) (w : World) : Calls Try.prog 25 #[.agg #[.int .u8 d, .int .u8 q, .int .i64 e], .int .u8 b] w fun x w' =>
    x = .returned (.tuple #[.agg #[.bool v.bg, .bool v.ad, .bool v.fi, .bool v.li, .bool v.re, .int .u8 v.b], .int .i64 n, .bool k]) ∧ Below w.heap.size w w' := by
  have := parting_any d q e b w
  rw [hv.out, hn.out, hk.out] at this
  exact this

theorem first_any (d q e b : Int) (w : World) : Calls Try.prog 18 #[.agg #[.int .u8 d, .int .u8 q, .int .i64 e], .int .u8 b] w fun x w' =>
    x = .returned (.tuple #[.agg #[.bool (firstR d q b).ev.bg, .bool (firstR d q b).ev.ad, .bool (firstR d q b).ev.fi, .bool (firstR d q b).ev.li, .bool (firstR d q b).ev.re, .int .u8 (firstR d q b).ev.b], .int .i64 (firstR d q b).n, .int .i64 (firstR d q b).k]) ∧ Below w.heap.size w w' := by
  obtain ⟨v, hv⟩ : ∃ v, parE d b = v := ⟨_, rfl⟩
  obtain ⟨n, hn⟩ : ∃ n, parN d b = n := ⟨_, rfl⟩
  have V := Lib.hid hv
  have N := Lib.hid hn
  clear hv hn
  obtain ⟨bg, ad, fi, li, re, pb⟩ := v
  cases hk : parB d b <;> cases h1 : (b == q)
  all_goals
    have K := Lib.hid hk
    clear hk
    go_enter Try.func18, Try.ntmps18
    go_wp2_with (first | (go_at_call 25; ((with_reducible refine (above (parting_is d q e b _ _ _ V N K _)).mono ?_); rintro x _ ⟨rfl, y, rfl⟩)))
    first | (have g1 := beq_t h1) | (have g1 := beq_f h1)
    refine bodyPost_ret ?_ rfl ⟨rfl, ?_⟩
    · simp [results, Try.results18, go_sem, firstR, V.out, N.out, K.out, h1, g1, ev0, evAdd]
    · (repeat (first | (with_reducible exact Below.refl _ _) | with_reducible refine up_alloc ?_ _ | with_reducible refine up_onto ?_ _ | with_reducible refine up_drew ?_ | with_reducible refine up_set ?_ (by first | (simp; done) | (simp; omega)) _))
end Go.Proofs.Ytpnjpcknlmpaiaa

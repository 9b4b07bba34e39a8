/- Layer 4: what each byte comes to: plain functions, and contracts of the program's Step and Close and all that they call. -/
import Derived.Test.YtbglecaahopgdaaRows
import Derived.Test.YtbglecaahopgdaaPsc
namespace Go.Proofs.Ytbglecaahopgdaa
open Go.ChangeShapes Go.WideShapes Go.ChangeAt Go.RowKit
set_option linter.unusedVariables false
set_option linter.unusedSimpArgs false

def Ev.v (x : Ev) : Value := .agg #[.bool x.bg, .bool x.ad, .bool x.fi, .bool x.li, .bool x.re, .int .u8 x.b]
theorem ret_res {x y : Ev} {a b c e : Int} (h : x = y) (h1 : a = b) (h2 : c = e) :
    Ending.returned (.tuple #[.agg #[.bool x.bg, .bool x.ad, .bool x.fi, .bool x.li, .bool x.re, .int .u8 x.b], .int .i64 a, .int .i64 c]) =
    .returned (.tuple #[.agg #[.bool y.bg, .bool y.ad, .bool y.fi, .bool y.li, .bool y.re, .int .u8 y.b], .int .i64 b, .int .i64 e]) := by rw [h, h1, h2]

theorem oop_any (d q e b : Int) (w : World) : Calls Try.prog 65 #[.agg #[.int .u8 d, .int .u8 q, .int .i64 e], .int .u8 b] w fun x w' => x = .returned (.bool (oopB e b)) ∧ Below w.heap.size w w' := by
  cases h1 : (b == 13) <;> cases h2 : (e == 1) <;> cases h3 : (b == 10) <;> cases h4 : (e == 2)
  all_goals
    go_enter Try.func65, Try.ntmps65
    go_wp2_with fail
    go_ret
    exact ⟨ret_bool (by simp [oopB, h1, h2, h3, h4]), (Below.refl _ _).alloc (Nat.le_refl _) _⟩

theorem parting_any (d q e b : Int) (w : World) : Calls Try.prog 74 #[.agg #[.int .u8 d, .int .u8 q, .int .i64 e], .int .u8 b] w fun x w' =>
    x = .returned (.tuple #[.agg #[.bool (parE d b).bg, .bool (parE d b).ad, .bool (parE d b).fi, .bool (parE d b).li, .bool (parE d b).re, .int .u8 (parE d b).b], .int .i64 (parN d b), .bool (parB d b)]) ∧ Below w.heap.size w w' := by
  cases h1 : (b == d) <;> cases h2 : (b == 13) <;> cases h3 : (b == 10)
  all_goals
    go_enter Try.func74, Try.ntmps74
    go_wp2_with fail
    first | (have g1 := beq_t h1) | (have g1 := beq_f h1)
    first | (have g2 := beq_t h2) | (have g2 := beq_f h2)
    first | (have g3 := beq_t h3) | (have g3 := beq_f h3)
    refine bodyPost_ret ?_ rfl ⟨rfl, ?_⟩
    · simp [results, Try.results74, go_sem, parE, parN, parB, h1, h2, h3, g1, g2, g3, ev0, evRec]
    · (repeat (first | exact Below.refl _ _ | refine up_alloc ?_ _ | refine up_onto ?_ _))

theorem parting_is (d q e b : Int) (v : Ev) (n : Int) (k : Bool) (hv : Hid (parE d b = v)) (hn : Hid (parN d b = n)) (hk : Hid (parB d b = k)) (w : World) : Calls Try.prog 74 #[.agg #[.int .u8 d, .int .u8 q, .int .i64 e], .int .u8 b] w fun x w' =>
    x = .returned (.tuple #[.agg #[.bool v.bg, .bool v.ad, .bool v.fi, .bool v.li, .bool v.re, .int .u8 v.b], .int .i64 n, .bool k]) ∧ Below w.heap.size w w' := by
  have := parting_any d q e b w
  rw [hv.out, hn.out, hk.out] at this
  exact this

theorem first_any (d q e b : Int) (w : World) : Calls Try.prog 67 #[.agg #[.int .u8 d, .int .u8 q, .int .i64 e], .int .u8 b] w fun x w' =>
    x = .returned (.tuple #[.agg #[.bool (firstR d q b).ev.bg, .bool (firstR d q b).ev.ad, .bool (firstR d q b).ev.fi, .bool (firstR d q b).ev.li, .bool (firstR d q b).ev.re, .int .u8 (firstR d q b).ev.b], .int .i64 (firstR d q b).n, .int .i64 (firstR d q b).k]) ∧ Below w.heap.size w w' := by
  obtain ⟨v, hv⟩ : ∃ v, parE d b = v := ⟨_, rfl⟩
  obtain ⟨n, hn⟩ : ∃ n, parN d b = n := ⟨_, rfl⟩
  have V := Lib.hid hv
  have N := Lib.hid hn
  clear hv hn
  obtain ⟨bg, ad, fi, li, re, pb⟩ := v
  cases hk : parB d b <;> cases h1 : (b == q)
  all_goals
    have K := Lib.hid hk
    clear hk
    go_enter Try.func67, Try.ntmps67
    go_wp2_with (first | (go_at_call 74; ((with_reducible refine (above (parting_is d q e b _ _ _ V N K _)).mono ?_); rintro x _ ⟨rfl, y, rfl⟩)))
    first | (have g1 := beq_t h1) | (have g1 := beq_f h1)
    refine bodyPost_ret ?_ rfl ⟨rfl, ?_⟩
    · simp [results, Try.results67, go_sem, firstR, V.out, N.out, K.out, h1, g1, ev0, evAdd]
    · (repeat (first | (with_reducible exact Below.refl _ _) | with_reducible refine up_alloc ?_ _ | with_reducible refine up_onto ?_ _ | with_reducible refine up_drew ?_ | with_reducible refine up_set ?_ (by first | (simp; done) | (simp; omega)) _))
end Go.Proofs.Ytbglecaahopgdaa

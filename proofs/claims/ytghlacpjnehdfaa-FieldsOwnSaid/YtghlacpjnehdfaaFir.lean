/- Layer 5: contracts of the words that turn the program's into the document's; the two Takes with their values as letters. -/
import Derived.Test.YtghlacpjnehdfaaFiq
import Derived.Test.YtghlacpjnehdfaaFil
import Derived.StillTailTactics
namespace Go.Proofs.Ytghlacpjnehdfaa
open Go.ChangeShapes Go.WideShapes Go.ChangeAt Go.RowKit
set_option linter.unusedVariables false
set_option linter.unusedSimpArgs false

theorem one_any (u : Bool) (w : World) : Calls Try.prog 22 #[.bool u] w fun x w' => x = .returned (.int .i64 (bitI u)) ∧ w = w' := by
  cases u
  all_goals
    go_enter Try.func22, Try.ntmps22
    go_wp2
    go_ret
    exact ⟨rfl, rfl⟩
theorem wp_region_still_end {P : Program} {id : Nat} {Q : Exit → Act → World → Prop} {a : Act} {w : World} {l : List Oper} (n : Nat) (hm : P.follows .mixedOrders = true) (hB : Region.lexTailB .any l.toArray n = true)
    (h : wpStill P l.toArray w.drew (fun a' => wpList P l.toArray Q (l.drop n) a' w.drew) (l.take n) a) : (Code.region id l.toArray true).wp P Q a w := wp_region_still_tail n hm hB h
theorem one_same (u : Bool) (w : World) : Calls Try.prog 22 #[.bool u] w fun x w' => x = .returned (.int .i64 (bitI u)) ∧ w' = w := (one_any u w).mono fun _ _ ⟨h, h'⟩ => ⟨h, h'.symm⟩
theorem refEv_any (bg ad fi li re : Bool) (pb : Int) (p0 : 0 ≤ pb) (p1 : pb ≤ 255) (w : World) : Calls Try.prog 16 #[.agg #[.bool bg, .bool ad, .bool fi, .bool li, .bool re, .int .u8 pb]] w fun x w' =>
    x = .returned (.agg #[.int .i64 (bitI bg), .int .i64 (bitI ad), .int .i64 (bitI fi), .int .i64 (bitI li), .int .i64 (bitI re), .int .i64 pb]) ∧ Below w.heap.size w w' := by
  have hwr : IntKind.i64.wrap pb = pb := IntWalk.i64_in _ (by omega)
  go_enter Try.func16, Try.ntmps16
  go_wp2_with fail
  refine wp_region_still_end 19 (by kernel_rfl) (by kernel_rfl) ?_
  simp only [List.take_succ_cons, List.take_zero, List.drop_succ_cons, List.drop_zero]
  repeat (first | still_step | still_call (one_same _ _))
  refine wpStill_nil ?_
  go_wp2_with fail
  refine bodyPost_ret ?_ rfl ⟨rfl, ?_⟩
  · simp [results, Try.results16, go_sem]
  · (repeat (first | (with_reducible exact Below.refl _ _) | with_reducible refine up_alloc ?_ _ | with_reducible refine up_onto ?_ _ | with_reducible refine up_drew ?_ | with_reducible refine up_set ?_ (by first | (simp; done) | (simp; omega)) _))
set_option maxHeartbeats 400000 in
theorem refLimits_any (a b c : Int) (u : Bool) (w : World) :
    Calls Try.prog 14 #[.agg #[.int .i64 a, .int .i64 b, .int .i64 c, .bool u]] w fun x w' => x = .returned (.agg #[.int .i64 a, .int .i64 b, .int .i64 c, .int .i64 (bitI u)]) ∧ Below w.heap.size w w' := by
  cases u
  all_goals
    go_enter Try.func14, Try.ntmps14
    go_wp2
    refine bodyPost_ret (v := .agg #[.int .i64 a, .int .i64 b, .int .i64 c, .int .i64 (bitI _)]) (by simp [results, Try.results14, go_sem, bitI]) rfl ⟨rfl, ?_⟩
    (repeat (first | exact Below.refl _ _ | refine up_alloc ?_ _ | refine up_onto ?_ _ | refine up_drew ?_ | refine up_set ?_ (by first | (simp; done) | (simp; omega)) _))

theorem bit1 (u : Bool) : (bitI u == 1) = u := by cases u <;> rfl
theorem bit0 (u : Bool) : (bitI u == 0) = !u := by cases u <;> rfl
theorem wrec_le {s : Mk} {N : Nat} (hw : Wide s) (ok : s.Ok N) (hN : N ≤ 400) (e : Ev) : (wRec e s).length ≤ 1000 := by
  have h1 := (few_gather e s).rc
  rw [(wide_gather hw ok hN e).1] at h1
  have := ok.rcN
  unfold wRec
  split
  · omega
  · simp
/-- The two Takes of one event, their values as letters. -/
theorem take_let (g : Nat) (bg ad fi li re : Bool) (pb : Int) (s s' : Mk) (l : List ByteArray) (n : Nat) (hs : Hid (wTake ⟨bg, ad, fi, li, re, pb⟩ s = s')) (hl : Hid (wRec ⟨bg, ad, fi, li, re, pb⟩ s = l)) (hn : Hid (l.length = n)) (S : Nat → Prop) (N : Nat) (hN : N ≤ 400) (ok : Hid (s.Ok N)) (hw : Hid (Wide s)) (b0 : 0 ≤ pb) (b1 : pb ≤ 255) (w : World) (h : Hid (MkB w g s S)) :
    Calls Try.prog 8 #[.pointer (some ⟨g, 0, none⟩), .agg #[.bool bg, .bool ad, .bool fi, .bool li, .bool re, .int .u8 pb]] w fun x w' => ∃ A c, x = .returned (.tuple #[.slice A n c, .bool re, .int .i64 0]) ∧ Hid (Handed A c l g s' S w w') := by
  have := take_wide g bg ad fi li re pb s S N hN ok hw b0 b1 w h
  rw [hs.out, hl.out, hn.out] at this
  exact this
theorem rtake_let (g : Nat) (bg ad fi li re : Bool) (pb : Int) (s s' : Mk) (l : List ByteArray) (n : Nat) (hs : Hid (wTake ⟨bg, ad, fi, li, re, pb⟩ s = s')) (hl : Hid (wRec ⟨bg, ad, fi, li, re, pb⟩ s = l)) (hn : Hid (l.length = n)) (S : Nat → Prop) (N : Nat) (hN : N ≤ 400) (ok : Hid (s.Ok N)) (hw : Hid (Wide s)) (b0 : 0 ≤ pb) (b1 : pb ≤ 255) (w : World) (h : Hid (RkB w g s S)) :
    Calls Try.prog 15 #[.pointer (some ⟨g, 0, none⟩), .agg #[.int .i64 (bitI bg), .int .i64 (bitI ad), .int .i64 (bitI fi), .int .i64 (bitI li), .int .i64 (bitI re), .int .i64 pb]] w fun x w' => ∃ A c, x = .returned (.tuple #[.slice A n c, .int .i64 (bitI re)]) ∧ Hid (RHanded A c l g s' S w w') := by
  have := rtake_any g bg ad fi li re (bitI bg) (bitI ad) (bitI fi) (bitI li) (bitI re) pb (Lib.hid (bit1 bg)) (Lib.hid (bit1 ad)) (Lib.hid (bit1 fi)) (Lib.hid (bit1 li)) (Lib.hid (bit0 re)) s S N hN ok hw b0 b1 w h
  rw [hs.out, hl.out, hn.out] at this
  exact this
end Go.Proofs.Ytghlacpjnehdfaa

/- Layer 6: the contract of the walker's pass. -/
import Derived.Test.YtbglecaahopgdaaWka
import Derived.Test.YtbglecaahopgdaaPwa
namespace Go.Proofs.Ytbglecaahopgdaa
open Go.ChangeShapes Go.WideShapes Go.ChangeAt Go.RowKit
set_option linter.unusedVariables false
set_option linter.unusedSimpArgs false

/-- Block p is a walker; Z are the blocks that it, and its maker, alone have. -/
def WkB (w : World) (p : Nat) (d q e u t : Int) (m : Mk) (Z : Nat → Prop) : Prop :=
  ∃ g S, StB w p 86 (wkArr d q e u t g) ∧ MkB w g m S ∧ ¬ S p ∧ ∀ k, Z k ↔ (k = p ∨ S k)
theorem WkB.lt {w : World} {p : Nat} {d q e u t : Int} {m : Mk} {Z : Nat → Prop} (h : WkB w p d q e u t m Z) : ∀ k, Z k → k < w.heap.size := by
  obtain ⟨g, S, h1, h2, h3, h4⟩ := h
  intro k hk
  rcases (h4 k).1 hk with rfl | hk
  · exact h1.lt
  · exact h2.lt k hk
theorem WkB.touch {w w' : World} {p : Nat} {d q e u t : Int} {m : Mk} {Z T : Nat → Prop} (h : WkB w p d q e u t m Z) (k : Touch w w' T) (hd : ∀ j, Z j → ¬ T j) : WkB w' p d q e u t m Z := by
  obtain ⟨g, S, h1, h2, h3, h4⟩ := h
  exact ⟨g, S, h1.touch k (hd p ((h4 p).2 (.inl rfl))), h2.touch k fun j hj => hd j ((h4 j).2 (.inr hj)), h3, h4⟩
/-- What a pass answers: the record (l; told: there is one), the error, and what the walker turns to. -/
def PassOut (p : Nat) (d q e u t : Int) (m : Mk) (l : List ByteArray) (n : Nat) (told : Bool) (k : Int) (Z : Nat → Prop) (w : World) (x : Ending) (w' : World) : Prop :=
  ∃ A c, x = .returned (.tuple #[.slice A n c, .bool told, .int .i64 k]) ∧
    Hid (∃ Z', WkB w' p d q e u t m Z' ∧ Touch w w' Z ∧ Sub w Z' Z ∧ SlOwn w' 0 9 A l.length c (strs l) ∧ ∀ j, blkOf A = some j → ¬ Z' j ∧ (Z j ∨ w.heap.size ≤ j))

theorem take_at (g : Nat) (bg ad fi li re : Bool) (pb : Int) (s : Mk) (S : Nat → Prop) (N : Nat) (hN : N ≤ 1000) (ok : Hid (s.Ok N)) (b0 : 0 ≤ pb) (b1 : pb ≤ 255) (s' : Mk) (l : List ByteArray) (n : Nat) (t : Bool) (r : Int)
    (hs : Hid (mTake ⟨bg, ad, fi, li, re, pb⟩ s = s')) (hl : Hid (mRec ⟨bg, ad, fi, li, re, pb⟩ s = l)) (hn : Hid (l.length = n)) (ht : Hid (mTold ⟨bg, ad, fi, li, re, pb⟩ s = t)) (hr : Hid (s'.er = r)) (w : World) (h : Hid (MkB w g s S)) :
    Calls Try.prog 53 #[.pointer (some ⟨g, 0, none⟩), .agg #[.bool bg, .bool ad, .bool fi, .bool li, .bool re, .int .u8 pb]] w fun x w' => ∃ A c, x = .returned (.tuple #[.slice A n c, .bool t, .int .i64 r]) ∧ Hid (Handed A c l g s' S w w') :=
  take_is g ⟨bg, ad, fi, li, re, pb⟩ s S N hN ok b0 b1 s' l n t r hs hl hn ht hr w h

section
variable {p : Nat} {d q e u t u' t' : Int} {g : Nat} {bg ad fi li re : Bool} {pb kk : Int} {w : World}
/-- The event's box is written: the walker stays. -/
theorem box_set {w w1 : World} {r : Nat} {cs : Array Value} {S : Nat → Prop} {u0 u1 u2 u3 u4 u5 : Value} {ws : Array Value} (h : StB w1 p 86 ws) (ht : Touch w w1 S) (hr : StB w1 r 103 cs) (hw : w.heap.size ≤ r) (hpr : ¬ r = p) :
    StB ((((((w1.setCell ⟨r, 0, none⟩ u0).setCell ⟨r, 1, none⟩ u1).setCell ⟨r, 2, none⟩ u2).setCell ⟨r, 3, none⟩ u3).setCell ⟨r, 4, none⟩ u4).setCell ⟨r, 5, none⟩ u5) p 86 ws ∧
    Touch w ((((((w1.setCell ⟨r, 0, none⟩ u0).setCell ⟨r, 1, none⟩ u1).setCell ⟨r, 2, none⟩ u2).setCell ⟨r, 3, none⟩ u3).setCell ⟨r, 4, none⟩ u4).setCell ⟨r, 5, none⟩ u5) S := by
  have n1 : ¬ p = r := fun e => hpr e.symm
  have T1 := ht.then_set (p := ⟨r, 0, none⟩) (.inr hw) u0
  have T2 := T1.then_set (p := ⟨r, 1, none⟩) (.inr hw) u1
  have T3 := T2.then_set (p := ⟨r, 2, none⟩) (.inr hw) u2
  have T4 := T3.then_set (p := ⟨r, 3, none⟩) (.inr hw) u3
  have T5 := T4.then_set (p := ⟨r, 4, none⟩) (.inr hw) u4
  have T6 := T5.then_set (p := ⟨r, 5, none⟩) (.inr hw) u5
  exact ⟨(((((h.far (p := ⟨r, 0, none⟩) n1 u0).far (p := ⟨r, 1, none⟩) n1 u1).far (p := ⟨r, 2, none⟩) n1 u2).far (p := ⟨r, 3, none⟩) n1 u3).far (p := ⟨r, 4, none⟩) n1 u4).far (p := ⟨r, 5, none⟩) n1 u5, T6⟩
theorem box_touch (w1 : World) (r : Nat) (u0 u1 u2 u3 u4 u5 : Value) :
    Touch w1 ((((((w1.setCell ⟨r, 0, none⟩ u0).setCell ⟨r, 1, none⟩ u1).setCell ⟨r, 2, none⟩ u2).setCell ⟨r, 3, none⟩ u3).setCell ⟨r, 4, none⟩ u4).setCell ⟨r, 5, none⟩ u5) (fun k => k = r) := by
  have T1 := (Touch.refl w1 (fun k => k = r)).then_set (p := ⟨r, 0, none⟩) (.inl rfl) u0
  have T2 := T1.then_set (p := ⟨r, 1, none⟩) (.inl rfl) u1
  have T3 := T2.then_set (p := ⟨r, 2, none⟩) (.inl rfl) u2
  have T4 := T3.then_set (p := ⟨r, 3, none⟩) (.inl rfl) u3
  have T5 := T4.then_set (p := ⟨r, 4, none⟩) (.inl rfl) u4
  exact T5.then_set (p := ⟨r, 5, none⟩) (.inl rfl) u5
theorem box_stb {w1 : World} {r : Nat} {a0 a1 a2 a3 a4 a5 : Value} (h : StB w1 r 103 #[a0, a1, a2, a3, a4, a5]) (u0 u1 u2 u3 u4 u5 : Value) :
    StB ((((((w1.setCell ⟨r, 0, none⟩ u0).setCell ⟨r, 1, none⟩ u1).setCell ⟨r, 2, none⟩ u2).setCell ⟨r, 3, none⟩ u3).setCell ⟨r, 4, none⟩ u4).setCell ⟨r, 5, none⟩ u5) r 103 #[u0, u1, u2, u3, u4, u5] :=
  (((((h.set_ 0 u0).set_ 1 u1).set_ 2 u2).set_ 3 u3).set_ 4 u4).set_ 5 u5
theorem pass_end {w V w3 : World} {m m' : Mk} {S : Nat → Prop} {A : Option Addr} {c : Nat} {l : List ByteArray} (hp : StB V p 86 (wkArr d q e u' t' g)) (ht : Touch w V (fun k => k = p)) (hm : MkB w g m S) (hpS : ¬ S p) (hh : Handed A c l g m' S V.drew w3) :
    ∃ Z', WkB w3 p d q e u' t' m' Z' ∧ Touch w w3 (fun k => k = p ∨ S k) ∧ Sub w Z' (fun k => k = p ∨ S k) ∧ SlOwn w3 0 9 A l.length c (strs l) ∧ ∀ j, blkOf A = some j → ¬ Z' j ∧ ((j = p ∨ S j) ∨ w.heap.size ≤ j) := by
  obtain ⟨o, S', m3, t3, b3, d3⟩ := hh
  have ht' : Touch w V.drew (fun k => k = p ∨ S k) := (ht.mono fun k hk => .inl hk).then_drew
  have sub : Sub w S (fun k => k = p ∨ S k) := fun k hk => .inl (.inr hk)
  have hz := ht.size
  have hpl : p < V.drew.heap.size := hp.lt
  have n1 : ¬ S' p := fun hs' => by
    rcases b3 p hs' with h1 | h1
    · exact hpS h1
    · omega
  have np : ∀ j, blkOf A = some j → j ≠ p := fun j hj e => by
    subst e
    rcases (d3 j hj).2 with h1 | h1
    · exact hpS h1
    · omega
  refine ⟨fun k => k = p ∨ S' k, ⟨g, S', StB.touch (w := V.drew) hp t3 hpS, m3, n1, fun k => Iff.rfl⟩, ht'.trans sub t3, ?_, o, fun j hj => ⟨?_, ?_⟩⟩
  · rintro k (hk | hk)
    · exact .inl (.inl hk)
    · rcases b3 k hk with h1 | h1
      · exact .inl (.inr h1)
      · exact .inr (Nat.le_trans hz h1)
  · rintro (h1 | h1)
    · exact np j hj h1
    · exact (d3 j hj).1 h1
  · rcases (d3 j hj).2 with h1 | h1
    · exact .inl (.inr h1)
    · exact .inr (Nat.le_trans hz h1)
set_option maxHeartbeats 1600000 in
theorem pass_bad (at_ : Nat) (s : ByteArray) (b : Int) (hs : s.size ≤ 1000000) (hlt : at_ < s.size) (hb : Hid (((s[at_].toNat : Nat) : Int) = b))
    (hst : ∀ V, Hid (StB V p 86 (wkArr d q e u t g)) → Calls Try.prog 51 #[.pointer (some ⟨p, 0, none⟩), .int .u8 b] V (StepOut p d q e u' t' g bg ad fi li re pb kk V)) (hk : (kk != 0) = true)
    (h : Hid (StB w p 86 (wkArr d q e u t g))) :
    Calls Try.prog 39 #[.pointer (some ⟨p, 0, none⟩), .string s, .int .i64 at_] w fun x w' => x = .returned (.tuple #[.slice none 0 0, .bool false, .int .i64 kk]) ∧ Hid (StB w' p 86 (wkArr d q e u' t' g) ∧ Touch w w' (fun k => k = p)) := by
  have hs1 : s.size ≤ 9223372036854775807 := by omega
  have hlt' : (at_ : Int) < s.size := by omega
  have hp := h.out.lt
  obtain ⟨r, hr⟩ : ∃ r, w.heap.size = r := ⟨_, rfl⟩
  go_enter Try.func39, Try.ntmps39
  go_wp2_with fail
  rw [hb.out]
  refine (hst _ (Lib.hid (h.out.alloc _))).mono ?_
  rintro x w1 ⟨rfl, HS1, HT1⟩
  have hpr : ¬ r = p := by omega
  have HR := Lib.hid (show StB w1 r 103 #[.bool false, .bool false, .bool false, .bool false, .bool false, .int .u8 0] from (StB.made w hr.symm _ _).touch HT1.out hpr)
  have HT := Lib.hid (show Touch w w1 (fun k => k = p) from (Touch.of_below (up_alloc (Below.refl _ w) _) _).trans (Sub.refl _ _) HT1.out)
  have rl := HR.out.lt
  have r0 : w1.cell? ⟨r, 0, none⟩ = some (.bool false) := HR.out.cell 0
  have r1 : w1.cell? ⟨r, 1, none⟩ = some (.bool false) := HR.out.cell 1
  have r2 : w1.cell? ⟨r, 2, none⟩ = some (.bool false) := HR.out.cell 2
  have r3 : w1.cell? ⟨r, 3, none⟩ = some (.bool false) := HR.out.cell 3
  have r4 : w1.cell? ⟨r, 4, none⟩ = some (.bool false) := HR.out.cell 4
  have r5 : w1.cell? ⟨r, 5, none⟩ = some (.int .u8 0) := HR.out.cell 5
  have f0 := HR.out.free 0
  have f1 := HR.out.free 1
  have f2 := HR.out.free 2
  have f3 := HR.out.free 3
  have f4 := HR.out.free 4
  have f5 := HR.out.free 5
  clear HT1
  go_wp2_with fail
  refine bodyPost_ret (v := .tuple #[.slice none 0 0, .bool false, .int .i64 kk]) (by simp [results, Try.results39, go_sem]) rfl ⟨rfl, Lib.hid ?_⟩
  exact box_set HS1.out HT.out HR.out (by omega) hpr
set_option maxHeartbeats 1600000 in
theorem pass_bad_end (s : ByteArray) (hs : s.size ≤ 1000000)
    (hst : ∀ V, Hid (StB V p 86 (wkArr d q e u t g)) → Calls Try.prog 52 #[.pointer (some ⟨p, 0, none⟩)] V (StepOut p d q e u' t' g bg ad fi li re pb kk V)) (hk : (kk != 0) = true)
    (h : Hid (StB w p 86 (wkArr d q e u t g))) :
    Calls Try.prog 39 #[.pointer (some ⟨p, 0, none⟩), .string s, .int .i64 s.size] w fun x w' => x = .returned (.tuple #[.slice none 0 0, .bool false, .int .i64 kk]) ∧ Hid (StB w' p 86 (wkArr d q e u' t' g) ∧ Touch w w' (fun k => k = p)) := by
  have hs1 : s.size ≤ 9223372036854775807 := by omega
  have hp := h.out.lt
  obtain ⟨r, hr⟩ : ∃ r, w.heap.size = r := ⟨_, rfl⟩
  go_enter Try.func39, Try.ntmps39
  go_wp2_with fail
  refine (hst _ (Lib.hid (h.out.alloc _))).mono ?_
  rintro x w1 ⟨rfl, HS1, HT1⟩
  have hpr : ¬ r = p := by omega
  have HR := Lib.hid (show StB w1 r 103 #[.bool false, .bool false, .bool false, .bool false, .bool false, .int .u8 0] from (StB.made w hr.symm _ _).touch HT1.out hpr)
  have HT := Lib.hid (show Touch w w1 (fun k => k = p) from (Touch.of_below (up_alloc (Below.refl _ w) _) _).trans (Sub.refl _ _) HT1.out)
  have rl := HR.out.lt
  have r0 : w1.cell? ⟨r, 0, none⟩ = some (.bool false) := HR.out.cell 0
  have r1 : w1.cell? ⟨r, 1, none⟩ = some (.bool false) := HR.out.cell 1
  have r2 : w1.cell? ⟨r, 2, none⟩ = some (.bool false) := HR.out.cell 2
  have r3 : w1.cell? ⟨r, 3, none⟩ = some (.bool false) := HR.out.cell 3
  have r4 : w1.cell? ⟨r, 4, none⟩ = some (.bool false) := HR.out.cell 4
  have r5 : w1.cell? ⟨r, 5, none⟩ = some (.int .u8 0) := HR.out.cell 5
  have f0 := HR.out.free 0
  have f1 := HR.out.free 1
  have f2 := HR.out.free 2
  have f3 := HR.out.free 3
  have f4 := HR.out.free 4
  have f5 := HR.out.free 5
  clear HT1
  go_wp2_with fail
  refine bodyPost_ret (v := .tuple #[.slice none 0 0, .bool false, .int .i64 kk]) (by simp [results, Try.results39, go_sem]) rfl ⟨rfl, Lib.hid ?_⟩
  exact box_set HS1.out HT.out HR.out (by omega) hpr
set_option maxHeartbeats 1600000 in
theorem pass_take (at_ : Nat) (s : ByteArray) (b : Int) (hs : s.size ≤ 1000000) (hlt : at_ < s.size) (hb : Hid (((s[at_].toNat : Nat) : Int) = b))
    (hst : ∀ V, Hid (StB V p 86 (wkArr d q e u t g)) → Calls Try.prog 51 #[.pointer (some ⟨p, 0, none⟩), .int .u8 b] V (StepOut p d q e u' t' g bg ad fi li re pb 0 V)) (b0 : 0 ≤ pb) (b1 : pb ≤ 255)
    (h : Hid (StB w p 86 (wkArr d q e u t g))) (m : Mk) (S : Nat → Prop) (N : Nat) (hN : N ≤ 1000) (ok : Hid (m.Ok N)) (hm : Hid (MkB w g m S)) (hpS : Hid (¬ S p)) (m' : Mk) (l : List ByteArray) (n : Nat) (told : Bool) (r' : Int)
    (hs' : Hid (mTake ⟨bg, ad, fi, li, re, pb⟩ m = m')) (hl : Hid (mRec ⟨bg, ad, fi, li, re, pb⟩ m = l)) (hn : Hid (l.length = n)) (ht : Hid (mTold ⟨bg, ad, fi, li, re, pb⟩ m = told)) (hr' : Hid (m'.er = r')) :
    Calls Try.prog 39 #[.pointer (some ⟨p, 0, none⟩), .string s, .int .i64 at_] w (PassOut p d q e u' t' m' l n told r' (fun k => k = p ∨ S k) w) := by
  have hs1 : s.size ≤ 9223372036854775807 := by omega
  have hlt' : (at_ : Int) < s.size := by omega
  have hp := h.out.lt
  obtain ⟨r, hr⟩ : ∃ r, w.heap.size = r := ⟨_, rfl⟩
  go_enter Try.func39, Try.ntmps39
  go_wp2_with fail
  rw [hb.out]
  refine (hst _ (Lib.hid (h.out.alloc _))).mono ?_
  rintro x w1 ⟨rfl, HS1, HT1⟩
  have hpr : ¬ r = p := by omega
  have HR := Lib.hid (show StB w1 r 103 #[.bool false, .bool false, .bool false, .bool false, .bool false, .int .u8 0] from (StB.made w hr.symm _ _).touch HT1.out hpr)
  have HT := Lib.hid (show Touch w w1 (fun k => k = p) from (Touch.of_below (up_alloc (Below.refl _ w) _) _).trans (Sub.refl _ _) HT1.out)
  have rl := HR.out.lt
  have r0 : w1.cell? ⟨r, 0, none⟩ = some (.bool false) := HR.out.cell 0
  have r1 : w1.cell? ⟨r, 1, none⟩ = some (.bool false) := HR.out.cell 1
  have r2 : w1.cell? ⟨r, 2, none⟩ = some (.bool false) := HR.out.cell 2
  have r3 : w1.cell? ⟨r, 3, none⟩ = some (.bool false) := HR.out.cell 3
  have r4 : w1.cell? ⟨r, 4, none⟩ = some (.bool false) := HR.out.cell 4
  have r5 : w1.cell? ⟨r, 5, none⟩ = some (.int .u8 0) := HR.out.cell 5
  have f0 := HR.out.free 0
  have f1 := HR.out.free 1
  have f2 := HR.out.free 2
  have f3 := HR.out.free 3
  have f4 := HR.out.free 4
  have f5 := HR.out.free 5
  have HM1 := Lib.hid (show MkB w1 g m S from (hm.out.below (up_alloc (Below.refl _ w) _)).touch HT1.out (fun j hj e => hpS.out (e ▸ hj)))
  go_wp2_with fail
  obtain ⟨SP, TT⟩ := box_set (u0 := .bool bg) (u1 := .bool ad) (u2 := .bool fi) (u3 := .bool li) (u4 := .bool re) (u5 := .int .u8 pb) HS1.out HT.out HR.out (by omega) hpr
  have SR := box_stb HR.out (.bool bg) (.bool ad) (.bool fi) (.bool li) (.bool re) (.int .u8 pb)
  have TR := box_touch w1 r (.bool bg) (.bool ad) (.bool fi) (.bool li) (.bool re) (.int .u8 pb)
  have MV := HM1.out.touch TR (fun j hj e => by have := hm.out.lt j hj; omega)
  clear r0 r1 r2 r3 r4 r5 f0 f1 f2 f3 f4 f5 rl TR HM1 HS1 HR HT1 HT
  generalize ((((((w1.setCell ⟨r, 0, none⟩ (.bool bg)).setCell ⟨r, 1, none⟩ (.bool ad)).setCell ⟨r, 2, none⟩ (.bool fi)).setCell ⟨r, 3, none⟩ (.bool li)).setCell ⟨r, 4, none⟩ (.bool re)).setCell ⟨r, 5, none⟩ (.int .u8 pb)) = V at SP TT SR MV ⊢
  have r0 : V.cell? ⟨r, 0, none⟩ = some (.bool bg) := SR.cell 0
  have r1 : V.cell? ⟨r, 1, none⟩ = some (.bool ad) := SR.cell 1
  have r2 : V.cell? ⟨r, 2, none⟩ = some (.bool fi) := SR.cell 2
  have r3 : V.cell? ⟨r, 3, none⟩ = some (.bool li) := SR.cell 3
  have r4 : V.cell? ⟨r, 4, none⟩ = some (.bool re) := SR.cell 4
  have r5 : V.cell? ⟨r, 5, none⟩ = some (.int .u8 pb) := SR.cell 5
  have p5 : V.cell? ⟨p, 5, none⟩ = some (.pointer (some ⟨g, 0, none⟩)) := SP.cell 5
  have HSP := Lib.hid SP
  have HTT := Lib.hid TT
  have HMV := Lib.hid (show MkB V.drew g m S from MV)
  clear SP TT SR MV
  go_region_with (first | (go_at_call 53; ((with_reducible refine (take_at g bg ad fi li re pb m S N hN ok b0 b1 m' l n told r' hs' hl hn ht hr' _ HMV).mono ?_); rintro x w3 ⟨A, c, rfl, HH⟩)))
  all_goals
    go_wp2_with fail
    refine bodyPost_ret (v := .tuple #[.slice A n c, .bool told, .int .i64 r']) (by simp [results, Try.results39, go_sem]) (by rfl) ⟨A, c, rfl, Lib.hid ?_⟩
    exact pass_end HSP.out HTT.out hm.out hpS.out HH.out
set_option maxHeartbeats 1600000 in
theorem pass_take_end (s : ByteArray) (hs : s.size ≤ 1000000)
    (hst : ∀ V, Hid (StB V p 86 (wkArr d q e u t g)) → Calls Try.prog 52 #[.pointer (some ⟨p, 0, none⟩)] V (StepOut p d q e u' t' g bg ad fi li re pb 0 V)) (b0 : 0 ≤ pb) (b1 : pb ≤ 255)
    (h : Hid (StB w p 86 (wkArr d q e u t g))) (m : Mk) (S : Nat → Prop) (N : Nat) (hN : N ≤ 1000) (ok : Hid (m.Ok N)) (hm : Hid (MkB w g m S)) (hpS : Hid (¬ S p)) (m' : Mk) (l : List ByteArray) (n : Nat) (told : Bool) (r' : Int)
    (hs' : Hid (mTake ⟨bg, ad, fi, li, re, pb⟩ m = m')) (hl : Hid (mRec ⟨bg, ad, fi, li, re, pb⟩ m = l)) (hn : Hid (l.length = n)) (ht : Hid (mTold ⟨bg, ad, fi, li, re, pb⟩ m = told)) (hr' : Hid (m'.er = r')) :
    Calls Try.prog 39 #[.pointer (some ⟨p, 0, none⟩), .string s, .int .i64 s.size] w (PassOut p d q e u' t' m' l n told r' (fun k => k = p ∨ S k) w) := by
  have hs1 : s.size ≤ 9223372036854775807 := by omega
  have hp := h.out.lt
  obtain ⟨r, hr⟩ : ∃ r, w.heap.size = r := ⟨_, rfl⟩
  go_enter Try.func39, Try.ntmps39
  go_wp2_with fail
  refine (hst _ (Lib.hid (h.out.alloc _))).mono ?_
  rintro x w1 ⟨rfl, HS1, HT1⟩
  have hpr : ¬ r = p := by omega
  have HR := Lib.hid (show StB w1 r 103 #[.bool false, .bool false, .bool false, .bool false, .bool false, .int .u8 0] from (StB.made w hr.symm _ _).touch HT1.out hpr)
  have HT := Lib.hid (show Touch w w1 (fun k => k = p) from (Touch.of_below (up_alloc (Below.refl _ w) _) _).trans (Sub.refl _ _) HT1.out)
  have rl := HR.out.lt
  have r0 : w1.cell? ⟨r, 0, none⟩ = some (.bool false) := HR.out.cell 0
  have r1 : w1.cell? ⟨r, 1, none⟩ = some (.bool false) := HR.out.cell 1
  have r2 : w1.cell? ⟨r, 2, none⟩ = some (.bool false) := HR.out.cell 2
  have r3 : w1.cell? ⟨r, 3, none⟩ = some (.bool false) := HR.out.cell 3
  have r4 : w1.cell? ⟨r, 4, none⟩ = some (.bool false) := HR.out.cell 4
  have r5 : w1.cell? ⟨r, 5, none⟩ = some (.int .u8 0) := HR.out.cell 5
  have f0 := HR.out.free 0
  have f1 := HR.out.free 1
  have f2 := HR.out.free 2
  have f3 := HR.out.free 3
  have f4 := HR.out.free 4
  have f5 := HR.out.free 5
  have HM1 := Lib.hid (show MkB w1 g m S from (hm.out.below (up_alloc (Below.refl _ w) _)).touch HT1.out (fun j hj e => hpS.out (e ▸ hj)))
  go_wp2_with fail
  obtain ⟨SP, TT⟩ := box_set (u0 := .bool bg) (u1 := .bool ad) (u2 := .bool fi) (u3 := .bool li) (u4 := .bool re) (u5 := .int .u8 pb) HS1.out HT.out HR.out (by omega) hpr
  have SR := box_stb HR.out (.bool bg) (.bool ad) (.bool fi) (.bool li) (.bool re) (.int .u8 pb)
  have TR := box_touch w1 r (.bool bg) (.bool ad) (.bool fi) (.bool li) (.bool re) (.int .u8 pb)
  have MV := HM1.out.touch TR (fun j hj e => by have := hm.out.lt j hj; omega)
  clear r0 r1 r2 r3 r4 r5 f0 f1 f2 f3 f4 f5 rl TR HM1 HS1 HR HT1 HT
  generalize ((((((w1.setCell ⟨r, 0, none⟩ (.bool bg)).setCell ⟨r, 1, none⟩ (.bool ad)).setCell ⟨r, 2, none⟩ (.bool fi)).setCell ⟨r, 3, none⟩ (.bool li)).setCell ⟨r, 4, none⟩ (.bool re)).setCell ⟨r, 5, none⟩ (.int .u8 pb)) = V at SP TT SR MV ⊢
  have r0 : V.cell? ⟨r, 0, none⟩ = some (.bool bg) := SR.cell 0
  have r1 : V.cell? ⟨r, 1, none⟩ = some (.bool ad) := SR.cell 1
  have r2 : V.cell? ⟨r, 2, none⟩ = some (.bool fi) := SR.cell 2
  have r3 : V.cell? ⟨r, 3, none⟩ = some (.bool li) := SR.cell 3
  have r4 : V.cell? ⟨r, 4, none⟩ = some (.bool re) := SR.cell 4
  have r5 : V.cell? ⟨r, 5, none⟩ = some (.int .u8 pb) := SR.cell 5
  have p5 : V.cell? ⟨p, 5, none⟩ = some (.pointer (some ⟨g, 0, none⟩)) := SP.cell 5
  have HSP := Lib.hid SP
  have HTT := Lib.hid TT
  have HMV := Lib.hid (show MkB V.drew g m S from MV)
  clear SP TT SR MV
  go_region_with (first | (go_at_call 53; ((with_reducible refine (take_at g bg ad fi li re pb m S N hN ok b0 b1 m' l n told r' hs' hl hn ht hr' _ HMV).mono ?_); rintro x w3 ⟨A, c, rfl, HH⟩)))
  all_goals
    go_wp2_with fail
    refine bodyPost_ret (v := .tuple #[.slice A n c, .bool told, .int .i64 r']) (by simp [results, Try.results39, go_sem]) (by rfl) ⟨A, c, rfl, Lib.hid ?_⟩
    exact pass_end HSP.out HTT.out hm.out hpS.out HH.out
end
end Go.Proofs.Ytbglecaahopgdaa

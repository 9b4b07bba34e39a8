/- Layer 6: the document's own reader in memory; contracts of its short words. Layer 6: contracts of the document's reader: feed, second, add, width. Layer 6: contracts of the document's reader: add, width. -/
import Derived.Test.YtigoonokiihdgaaDoorRows
import Derived.Test.YtigoonokiihdgaaDoorZk
import Derived.Test.YtigoonokiihdgaaDoorZp
import Derived.Deep.QuietTactic
namespace Go.Proofs.YtigoonokiihdgaaDoor
open Go.ChangeShapes Go.WideShapes Go.ChangeAt Go.RowKit
set_option linter.unusedVariables false
set_option linter.unusedSimpArgs false

/-- What the reader has; its record, its records and their ends as they lie. -/
structure Rd where
  d : Int
  q : Int
  e : Int
  lf : Int
  ls : Int
  lr : Int
  un : Int
  s : ByteArray
  i : Nat
  bg : Int
  ro : Value
  rs : Value
  es : Value
  k : Int
  at_ : Nat
def rdCells (r : Rd) : Array Value :=
  #[.int .i64 r.d, .int .i64 r.q, .int .i64 r.e, .int .i64 r.lf, .int .i64 r.ls, .int .i64 r.lr, .int .i64 r.un, .string r.s, .int .i64 r.i, .int .i64 r.bg, r.ro, r.rs, r.es, .int .i64 r.k, .int .i64 r.at_]
def RB (w : World) (g : Nat) (r : Rd) : Prop := StB w g 94 (rdCells r)
/-- Only the reader has turned, to r. -/
def Only (g : Nat) (r : Rd) (w w' : World) : Prop := RB w' g r ∧ Touch w w' (fun k => k = g)
section
variable {g : Nat} {r r2 : Rd} {w w1 w2 : World}
theorem Only.refl (h : RB w g r) : Only g r w w := ⟨h, Touch.refl w _⟩
theorem Only.trans (h : Only g r w w1) (k : Only g r2 w1 w2) : Only g r2 w w2 := ⟨k.1, h.2.trans (Sub.refl w _) k.2⟩
theorem Only.below (h : Only g r w w1) (hb : Below w1.heap.size w1 w2) : Only g r w w2 := ⟨StB.below h.1 hb, h.2.then_below hb⟩
theorem then_self {w w' : World} {g : Nat} (h : Touch w w' (fun k => k = g)) (i : Nat) (u : Value) : Touch w (w'.setCell ⟨g, i, none⟩ u) (fun k => k = g) :=
  Touch.then_set (S := fun k => k = g) h (p := ⟨g, i, none⟩) (.inl (show g = g from rfl)) u
theorem RB.below (h : RB w g r) (hb : Below w.heap.size w w1) : RB w1 g r := StB.below h hb
theorem RB.cells (h : RB w g r) : g < w.heap.size ∧ w.cell? ⟨g, 0, none⟩ = some (.int .i64 r.d) ∧ w.cell? ⟨g, 1, none⟩ = some (.int .i64 r.q) ∧ w.cell? ⟨g, 2, none⟩ = some (.int .i64 r.e) ∧ w.cell? ⟨g, 3, none⟩ = some (.int .i64 r.lf) ∧ w.cell? ⟨g, 4, none⟩ = some (.int .i64 r.ls) ∧
    w.cell? ⟨g, 5, none⟩ = some (.int .i64 r.lr) ∧ w.cell? ⟨g, 6, none⟩ = some (.int .i64 r.un) ∧ w.cell? ⟨g, 7, none⟩ = some (.string r.s) ∧ w.cell? ⟨g, 8, none⟩ = some (.int .i64 r.i) ∧ w.cell? ⟨g, 9, none⟩ = some (.int .i64 r.bg) ∧ w.cell? ⟨g, 10, none⟩ = some r.ro ∧ w.cell? ⟨g, 11, none⟩ = some r.rs ∧
    w.cell? ⟨g, 12, none⟩ = some r.es ∧ w.cell? ⟨g, 13, none⟩ = some (.int .i64 r.k) ∧ w.cell? ⟨g, 14, none⟩ = some (.int .i64 r.at_) :=
  ⟨StB.lt h, StB.cell h 0, StB.cell h 1, StB.cell h 2, StB.cell h 3, StB.cell h 4, StB.cell h 5, StB.cell h 6, StB.cell h 7, StB.cell h 8, StB.cell h 9, StB.cell h 10, StB.cell h 11, StB.cell h 12, StB.cell h 13, StB.cell h 14⟩
theorem RB.free (h : RB w g r) (i : Nat) : w.frozen? ⟨g, i, none⟩ = false := StB.free h i
/-- The place moved. -/
theorem RB.set8 (h : RB w g r) (n : Nat) : Only g { r with i := n } w (w.setCell ⟨g, 8, none⟩ (.int .i64 n)) := by
  refine ⟨?_, then_self (Touch.refl w _) 8 _⟩
  have := StB.set_ h 8 (.int .i64 n)
  simpa [RB, rdCells] using this
end

/-- Does byte b stand at the place? -/
def isB (s : ByteArray) (i : Nat) (b : Int) : Bool := (bl s)[i]? == some b
theorem rbl_get (s : ByteArray) (i : Nat) (h : i < s.size) : (bl s)[i]? = some ((s[i].toNat : Nat) : Int) := by
  have h' : i < (bl s).length := by rw [bl_length]; exact h
  rw [List.getElem?_eq_getElem h']
  simp [bl]; rfl
/-- 's[j]'. -/
theorem run_index_at {P : Program} (t : TypeId) (s : ByteArray) (j : Nat) (n : Int) (hn : n = j) (hj : j < s.size) (h : P.underlying t = some .string) (V : World) : (Instr.index t (.string s) (.int .i64 n)).run P V = .ok (.int .u8 ((s[j].toNat : Nat) : Int)) V := by
  subst hn
  have := run_index_string (P := P) V t s .i64 (j : Int) h
  simpa [hj] using this
theorem is_any (g : Nat) (r : Rd) (b : Int) (v : Bool) (hv : Hid (isB r.s r.i b = v)) (hs : r.s.size ≤ 1000) (w : World) (h : Hid (RB w g r)) :
    Calls Tryd.prog 49 #[.pointer (some ⟨g, 0, none⟩), .int .i64 b] w fun x w' => x = .returned (.bool v) ∧ Below w.heap.size w w' := by
  obtain ⟨hg, _, _, _, _, _, _, _, k7, k8, _⟩ := h.out.cells
  obtain ⟨s, hs'⟩ : ∃ s, s = r.s := ⟨_, rfl⟩
  obtain ⟨i, hi'⟩ : ∃ i, i = r.i := ⟨_, rfl⟩
  rw [← hs', ← hi'] at hv
  rw [← hs'] at k7 hs
  rw [← hi'] at k8
  clear hs' hi' h
  by_cases hlt : i < s.size
  · have hd : decide (i < s.size) = true := by simpa using hlt
    have hb : (((s[i].toNat : Nat) : Int) == b) = v := by
      have := hv.out; unfold isB at this; rw [rbl_get s i hlt] at this; simpa using this
    have h0 := byte_lo s[i]
    have h1 := byte_hi s[i]
    have hwr : IntKind.i64.wrap ((s[i].toNat : Nat) : Int) = ((s[i].toNat : Nat) : Int) := IntWalk.i64_in _ (by omega)
    clear hv
    go_enter Tryd.func49, Tryd.ntmps49
    go_wp2_with fail
    refine wp_region_onto (by kernel_rfl) (by kernel_rfl) ?_
    repeat (go_big_quiet_step (fail))
    refine wpQuiet_nil ?_
    intro _ hw'
    obtain ⟨x1, hw''⟩ := hw'
    subst hw''
    go_wp2_with fail
    go_ret
    exact ⟨rfl, onto_below w x1⟩
  · have hd : decide (i < s.size) = false := by simpa using hlt
    have hb : v = false := by
      rw [← hv.out]; unfold isB
      rw [List.getElem?_eq_none (by rw [bl_length]; omega)]; rfl
    have HB := Lib.hid hb
    clear hv hb
    go_enter Tryd.func49, Tryd.ntmps49
    go_wp2_with fail
    refine wp_region_onto (by kernel_rfl) (by kernel_rfl) ?_
    repeat (go_big_quiet_step (fail))
    refine wpQuiet_nil ?_
    intro _ hw'
    obtain ⟨x1, hw''⟩ := hw'
    subst hw''
    go_wp2_with fail
    go_ret
    exact ⟨ret_bool HB.out.symm, onto_below w x1⟩

/-- The first fault. -/
theorem wrong_any (g : Nat) (r : Rd) (kind : Int) (a : Nat) (h0 : Hid (r.k = 0)) (w : World) (h : Hid (RB w g r)) :
    Calls Tryd.prog 61 #[.pointer (some ⟨g, 0, none⟩), .int .i64 kind, .int .i64 a] w fun x w' => x = .returned (.bool false) ∧ Only g { r with k := kind, at_ := a } w w' := by
  obtain ⟨hg, _, _, _, _, _, _, _, _, _, _, _, _, _, k13, k14⟩ := h.out.cells
  rw [h0.out] at k13
  have f13 := h.out.free 13
  have f14 := h.out.free 14
  go_enter Tryd.func61, Tryd.ntmps61
  go_wp2_with fail
  go_ret
  refine ⟨rfl, ?_, then_self (then_self (Touch.refl w _) 13 _) 14 _⟩
  have := (StB.set_ h.out 13 (.int .i64 kind)).set_ 14 (.int .i64 (a : Int))
  simpa [RB, rdCells] using this
end Go.Proofs.YtigoonokiihdgaaDoor

namespace Go.Proofs.YtigoonokiihdgaaDoor
open Go.ChangeShapes Go.WideShapes Go.ChangeAt Go.RowKit
set_option linter.unusedVariables false
set_option linter.unusedSimpArgs false

def fdN (e : Int) (b10 : Bool) : Int := if b10 = true then (if e = 2 then 0 else 1) else (if e = 1 then 0 else 2)
/-- What feed leaves. -/
def FeedOut6 (g : Nat) (r : Rd) (n : Int) (w : World) (x : Ending) (w' : World) : Prop := x = .returned (.int .i64 n) ∧ Only g (if n = 0 then { r with k := 6, at_ := r.i } else r) w w'
set_option maxHeartbeats 800000 in
theorem rfeed_any (g : Nat) (r : Rd) (b10 : Bool) (hv : Hid (isB r.s r.i 10 = b10)) (hs : r.s.size ≤ 1000) (h0 : Hid (r.k = 0)) (w : World) (h : Hid (RB w g r)) :
    Calls Tryd.prog 50 #[.pointer (some ⟨g, 0, none⟩)] w (FeedOut6 g r (fdN r.e b10) w) := by
  cases b10
  · by_cases he : r.e = 1
    · have hn := Lib.hid (show fdN r.e false = 0 by simp [fdN, he])
      have hd : (r.e == 1) = true := by simpa using he
      go_enter Tryd.func50, Tryd.ntmps50
      go_wp2_with fail
      refine (above (is_any g r 10 false hv hs w h)).mono ?_
      rintro x _ ⟨rfl, y, rfl⟩
      have h2 := Lib.hid (h.out.below (onto_below w y))
      obtain ⟨hg, _, _, k2, _, _, _, _, _, k8, _⟩ := h2.out.cells
      go_wp2_with fail
      refine (wrong_any g r 6 r.i h0 _ h2).mono ?_
      rintro x w2 ⟨rfl, ho⟩
      go_wp2_with fail
      go_ret
      unfold FeedOut6
      rw [hn.out, if_pos rfl]
      exact ⟨rfl, ho.1, (Touch.of_below (onto_below w y) _).trans (Sub.refl w _) ho.2⟩
    · have hn := Lib.hid (show fdN r.e false = 2 by simp [fdN, he])
      have hd : (r.e == 1) = false := by simpa using he
      go_enter Tryd.func50, Tryd.ntmps50
      go_wp2_with fail
      refine (above (is_any g r 10 false hv hs w h)).mono ?_
      rintro x _ ⟨rfl, y, rfl⟩
      have h2 := Lib.hid (h.out.below (onto_below w y))
      obtain ⟨hg, _, _, k2, _, _, _, _, _, k8, _⟩ := h2.out.cells
      go_wp2_with fail
      go_ret
      unfold FeedOut6
      rw [hn.out, if_neg (by decide)]
      exact ⟨rfl, (Only.refl h.out).below (onto_below w y)⟩
  · by_cases he : r.e = 2
    · have hn := Lib.hid (show fdN r.e true = 0 by simp [fdN, he])
      have hd : (r.e == 2) = true := by simpa using he
      go_enter Tryd.func50, Tryd.ntmps50
      go_wp2_with fail
      refine (above (is_any g r 10 true hv hs w h)).mono ?_
      rintro x _ ⟨rfl, y, rfl⟩
      have h2 := Lib.hid (h.out.below (onto_below w y))
      obtain ⟨hg, _, _, k2, _, _, _, _, _, k8, _⟩ := h2.out.cells
      go_wp2_with fail
      refine (wrong_any g r 6 r.i h0 _ h2).mono ?_
      rintro x w2 ⟨rfl, ho⟩
      go_wp2_with fail
      go_ret
      unfold FeedOut6
      rw [hn.out, if_pos rfl]
      exact ⟨rfl, ho.1, (Touch.of_below (onto_below w y) _).trans (Sub.refl w _) ho.2⟩
    · have hn := Lib.hid (show fdN r.e true = 1 by simp [fdN, he])
      have hd : (r.e == 2) = false := by simpa using he
      go_enter Tryd.func50, Tryd.ntmps50
      go_wp2_with fail
      refine (above (is_any g r 10 true hv hs w h)).mono ?_
      rintro x _ ⟨rfl, y, rfl⟩
      have h2 := Lib.hid (h.out.below (onto_below w y))
      obtain ⟨hg, _, _, k2, _, _, _, _, _, k8, _⟩ := h2.out.cells
      go_wp2_with fail
      go_ret
      unfold FeedOut6
      rw [hn.out, if_neg (by decide)]
      exact ⟨rfl, (Only.refl h.out).below (onto_below w y)⟩

/-- What second leaves. -/
def SecondOut (g : Nat) (r : Rd) (v : Bool) (w : World) (x : Ending) (w' : World) : Prop := x = .returned (.bool v) ∧ Only g (if v = true then r else { r with k := 6, at_ := r.i + 1 }) w w'
set_option maxHeartbeats 800000 in
theorem second_any (g : Nat) (r : Rd) (v : Bool) (hv : Hid (isB r.s (r.i + 1) 10 = v)) (hs : r.s.size ≤ 1000) (hi : r.i ≤ 1000) (h0 : Hid (r.k = 0)) (w : World) (h : Hid (RB w g r)) :
    Calls Tryd.prog 51 #[.pointer (some ⟨g, 0, none⟩)] w (SecondOut g r v w) := by
  obtain ⟨hg, _, _, _, _, _, _, _, k7, k8, _⟩ := h.out.cells
  obtain ⟨s, hs'⟩ : ∃ s, s = r.s := ⟨_, rfl⟩
  obtain ⟨i, hi'⟩ : ∃ i, i = r.i := ⟨_, rfl⟩
  rw [← hs', ← hi'] at hv
  rw [← hs'] at k7 hs
  rw [← hi'] at k8 hi
  have HI := Lib.hid hi'
  clear hs' hi'
  have e1 : IntKind.i64.wrap ((i : Int) + 1) = ((i + 1 : Nat) : Int) := by rw [IntWalk.i64_in _ (by omega)]; omega
  have e2 : ((i : Int) + 1).toNat = i + 1 := by omega
  have e3 : (0 : Int) ≤ (i : Int) + 1 := by omega
  by_cases hlt : i + 1 < s.size
  · have hd : decide (s.size ≤ i + 1) = false := by simpa using hlt
    have hd3 : decide ((s.size : Int) ≤ (i : Int) + 1) = false := by rw [decide_eq_false_iff_not]; omega
    have hix := run_index_at (P := Tryd.prog) 9 s (i + 1) ((i : Int) + 1) (by omega) hlt Tryd.underlying9
    have hb : (((s[i + 1].toNat : Nat) : Int) != 10) = !v := by
      have := hv.out; unfold isB at this; rw [rbl_get s (i + 1) hlt] at this
      rw [← this]; simp [bne]
    clear hv
    cases v
    · simp only [Bool.not_false] at hb
      go_enter Tryd.func51, Tryd.ntmps51
      go_wp2_with fail
      refine wp_region_onto (by kernel_rfl) (by kernel_rfl) ?_
      repeat (go_big_quiet_step (fail))
      refine wpQuiet_nil ?_
      intro _ hw'
      obtain ⟨x1, hw''⟩ := hw'
      subst hw''
      go_wp2_with fail
      refine (wrong_any g r 6 (i + 1) h0 _ (Lib.hid (h.out.below (onto_below w x1)))).mono ?_
      rintro x w2 ⟨rfl, ho⟩
      go_wp2_with fail
      go_ret
      unfold SecondOut
      rw [if_neg (by simp), show r.i + 1 = i + 1 by rw [← HI.out]]
      exact ⟨rfl, ho.1, (Touch.of_below (onto_below w x1) _).trans (Sub.refl w _) ho.2⟩
    · simp only [Bool.not_true] at hb
      go_enter Tryd.func51, Tryd.ntmps51
      go_wp2_with fail
      refine wp_region_onto (by kernel_rfl) (by kernel_rfl) ?_
      repeat (go_big_quiet_step (fail))
      refine wpQuiet_nil ?_
      intro _ hw'
      obtain ⟨x1, hw''⟩ := hw'
      subst hw''
      go_wp2_with fail
      go_ret
      unfold SecondOut
      rw [if_pos rfl]
      exact ⟨rfl, (Only.refl h.out).below (onto_below w x1)⟩
  · have hd : decide (s.size ≤ i + 1) = true := by simpa using hlt
    have hd3 : decide ((s.size : Int) ≤ (i : Int) + 1) = true := by rw [decide_eq_true_eq]; omega
    have hb : v = false := by
      rw [← hv.out]; unfold isB
      rw [List.getElem?_eq_none (by rw [bl_length]; omega)]; rfl
    subst hb
    clear hv
    go_enter Tryd.func51, Tryd.ntmps51
    go_wp2_with fail
    refine wp_region_onto (by kernel_rfl) (by kernel_rfl) ?_
    repeat (go_big_quiet_step (fail))
    refine wpQuiet_nil ?_
    intro _ hw'
    obtain ⟨x1, hw''⟩ := hw'
    subst hw''
    go_wp2_with fail
    refine (wrong_any g r 6 (i + 1) h0 _ (Lib.hid (h.out.below (onto_below w x1)))).mono ?_
    rintro x w2 ⟨rfl, ho⟩
    go_wp2_with fail
    go_ret
    unfold SecondOut
    rw [if_neg (by simp), show r.i + 1 = i + 1 by rw [← HI.out]]
    exact ⟨rfl, ho.1, (Touch.of_below (onto_below w x1) _).trans (Sub.refl w _) ho.2⟩
end Go.Proofs.YtigoonokiihdgaaDoor

namespace Go.Proofs.YtigoonokiihdgaaDoor
open Go.ChangeShapes Go.WideShapes Go.ChangeAt Go.RowKit
set_option linter.unusedVariables false
set_option linter.unusedSimpArgs false

theorem add_byte (l : List Int) (s : ByteArray) (a : Nat) (ha : a < s.size) : toBA l ++ s.extract a (a + 1) = toBA (l ++ [((s[a].toNat : Nat) : Int)]) := by
  apply ByteArray.ext
  rw [ByteArray.data_append, ByteArray.data_extract]
  have : s.data.extract a (a + 1) = #[s[a]] := by
    apply Array.ext'
    rw [Array.toList_extract]
    rw [List.extract_eq_take_drop]
    have h' : a < s.data.toList.length := ha
    rw [List.drop_eq_getElem_cons h']
    simp; rfl
  rw [this]
  simp [toBA]
set_option maxHeartbeats 800000 in
theorem add_no6 (g : Nat) (r : Rd) (l : List Int) (a : Nat) (hl : Hid ((l.length : Int) = r.lf)) (h0 : Hid (r.k = 0)) (hn : l.length ≤ 1000) (w : World) (h : Hid (RB w g r)) :
    Calls Tryd.prog 70 #[.pointer (some ⟨g, 0, none⟩), .string (toBA l), .int .i64 a] w fun x w' => x = .returned (.tuple #[.string (toBA l), .bool false]) ∧ Only g { r with k := 7, at_ := a } w w' := by
  obtain ⟨hg, _, _, _, k3, _⟩ := h.out.cells
  have hsz := toBA_size l
  obtain ⟨t, ht⟩ : ∃ t, t = toBA l := ⟨_, rfl⟩
  rw [← ht] at hsz
  rw [← ht]
  have hd : ((t.size : Int) == r.lf) = true := by rw [beq_iff_eq, hsz]; exact hl.out
  have hts : t.size ≤ 1000 := by omega
  clear hsz ht
  go_enter Tryd.func70, Tryd.ntmps70
  go_wp2_with fail
  refine (wrong_any g r 7 a h0 _ h).mono ?_
  rintro x w2 ⟨rfl, ho⟩
  go_wp2_with fail
  go_ret2
  exact ⟨rfl, ho⟩
set_option maxHeartbeats 800000 in
theorem add_yes6 (g : Nat) (r : Rd) (l : List Int) (a : Nat) (b : Int) (hb : Hid ((bl r.s)[a]? = some b)) (hl : Hid ((l.length : Int) ≠ r.lf)) (hn : l.length ≤ 1000) (hs : r.s.size ≤ 1000) (w : World) (h : Hid (RB w g r)) :
    Calls Tryd.prog 70 #[.pointer (some ⟨g, 0, none⟩), .string (toBA l), .int .i64 a] w fun x w' => x = .returned (.tuple #[.string (toBA (l ++ [b])), .bool true]) ∧ w = w' := by
  obtain ⟨hg, _, _, _, k3, _, _, _, k7, _⟩ := h.out.cells
  have ha : a < r.s.size := by
    have := (List.getElem?_eq_some_iff.1 hb.out).1
    rwa [bl_length] at this
  have hbb : ((r.s[a].toNat : Nat) : Int) = b := by
    have := hb.out; rw [rbl_get r.s a ha] at this; exact Option.some.inj this
  have hab := add_byte l r.s a ha
  rw [hbb] at hab
  have hsz := toBA_size l
  obtain ⟨t, ht⟩ : ∃ t, t = toBA l := ⟨_, rfl⟩
  rw [← ht] at hsz hab
  rw [← ht]
  have hd : ((t.size : Int) == r.lf) = false := by rw [beq_eq_false_iff_ne, hsz]; exact hl.out
  have hts : t.size ≤ 1000 := by omega
  have HAB := Lib.hid hab
  obtain ⟨s, hs'⟩ : ∃ s, s = r.s := ⟨_, rfl⟩
  rw [← hs'] at k7 ha hs HAB
  have ksub : ∀ V, (Instr.slice 9 (.string s) (some (.int .i64 (a : Int))) (some (.int .i64 ((a : Int) + 1))) none).run Tryd.prog V = .ok (.string (s.extract a (a + 1))) V := fun V => run_sub V 9 s a (a + 1) (a : Int) ((a : Int) + 1) rfl (by omega) (by omega) (by omega) Tryd.underlying9
  obtain ⟨z, hz⟩ : ∃ z, z = s.extract a (a + 1) := ⟨_, rfl⟩
  have hzs : z.size ≤ 1 := by rw [hz, ByteArray.size_extract]; omega
  rw [← hz] at ksub HAB
  clear hsz ht hbb hab hs' hz
  go_enter Tryd.func70, Tryd.ntmps70
  go_wp2_with fail
  go_ret2
  exact ⟨by rw [← HAB.out]; rfl, rfl⟩

/-- What width leaves. -/
def WidthOut (g : Nat) (r : Rd) (a : Nat) (v : Bool) (w : World) (x : Ending) (w' : World) : Prop := x = .returned (.bool v) ∧ Only g (if v = true then r else { r with k := 10, at_ := a }) w w'
set_option maxHeartbeats 1600000 in
theorem width_any (g : Nat) (r : Rd) (a : Nat) (B C : Option Addr) (d c m n : Nat) (hro : Hid (r.ro = .slice B m d)) (hrs : Hid (r.rs = .slice C n c)) (hun : r.un = 0 ∨ r.un = 1) (hm : m ≤ 1000000) (hn : n ≤ 1000000) (first : Nat) (hf1 : first ≤ 1000000)
    (v : Bool) (hv : Hid (v = !decide (r.un = 1 ∧ 0 < n ∧ m ≠ first))) (h0 : Hid (r.k = 0)) (w : World) (h : Hid (RB w g r)) (hfirst : 0 < n → ∃ A1 c1 a1, C = some a1 ∧ w.cell? a1 = some (.slice A1 first c1)) (hnc : n ≤ c) :
    Calls Tryd.prog 64 #[.pointer (some ⟨g, 0, none⟩), .int .i64 a] w (WidthOut g r a v w) := by
  obtain ⟨hg, _, _, _, _, _, _, k6, _, _, _, k10, k11, _⟩ := h.out.cells
  rw [hro.out] at k10
  rw [hrs.out] at k11
  have yes : v = true → WidthOut g r a v w (.returned (.bool true)) w → True := fun _ _ => trivial
  rcases hun with hu | hu
  · have hvt : v = true := by rw [hv.out, hu]; simp
    rw [hu] at k6
    subst hvt
    clear hv hfirst yes
    go_enter Tryd.func64, Tryd.ntmps64
    go_wp2_with fail
    refine wp_region_onto (by kernel_rfl) (by kernel_rfl) ?_
    repeat (go_big_quiet_step (fail))
    refine wpQuiet_nil ?_
    intro _ hw'
    obtain ⟨x1, hw''⟩ := hw'
    subst hw''
    go_wp2_with fail
    go_ret
    exact ⟨rfl, (Only.refl h.out).below (onto_below w x1)⟩
  · rw [hu] at k6
    by_cases hp : 0 < n
    · have hd1 : decide (0 < n) = true := by simpa using hp
      have hd1' : decide ((0 : Int) < (n : Int)) = true := by rw [decide_eq_true_eq]; omega
      obtain ⟨A1, c1, a1, rfl, hc1⟩ := hfirst hp
      have z1 : ∀ z, (onto w z).cell? a1 = some (.slice A1 first c1) := fun z => (onto_below w z).cell (lt_of_cell hc1) |>.trans hc1
      have z1' : ∀ z, (onto w z).cell? (a1.add 0) = some (.slice A1 first c1) := fun z => by rw [show a1.add 0 = a1 by simp [Addr.add]]; exact z1 z
      clear hc1 hfirst yes
      by_cases hmf : m = first
      · have hvt : v = true := by rw [hv.out]; simp [hmf]
        subst hvt
        have hd2 : ((m : Int) != (first : Int)) = false := by simp [hmf]
        have hd3 : (m != first) = false := by simp [hmf]
        clear hv hmf
        go_enter Tryd.func64, Tryd.ntmps64
        go_wp2_with fail
        refine wp_region_onto (by kernel_rfl) (by kernel_rfl) ?_
        repeat (go_big_quiet_step (fail))
        refine wpQuiet_nil ?_
        intro _ hw'
        obtain ⟨x1, hw''⟩ := hw'
        subst hw''
        go_wp2_with fail
        go_ret
        exact ⟨rfl, (Only.refl h.out).below (onto_below w x1)⟩
      · have hvf : v = false := by rw [hv.out, hu]; simp [hmf, hp]
        subst hvf
        have hd2 : ((m : Int) != (first : Int)) = true := by simp; omega
        have hd3 : (m != first) = true := by simpa using hmf
        clear hv hmf
        go_enter Tryd.func64, Tryd.ntmps64
        go_wp2_with fail
        refine wp_region_onto (by kernel_rfl) (by kernel_rfl) ?_
        repeat (go_big_quiet_step (fail))
        refine wpQuiet_nil ?_
        intro _ hw'
        obtain ⟨x1, hw''⟩ := hw'
        subst hw''
        go_wp2_with fail
        refine (wrong_any g r 10 a h0 _ (Lib.hid (h.out.below (onto_below w x1)))).mono ?_
        rintro x w2 ⟨rfl, ho⟩
        go_wp2_with fail
        go_ret
        unfold WidthOut
        rw [if_neg (by simp)]
        exact ⟨rfl, ho.1, (Touch.of_below (onto_below w x1) _).trans (Sub.refl w _) ho.2⟩
    · have hvt : v = true := by rw [hv.out]; simp; omega
      subst hvt
      have hd1 : decide (0 < n) = false := by simpa using hp
      have hd1' : decide ((0 : Int) < (n : Int)) = false := by rw [decide_eq_false_iff_not]; omega
      clear hv hfirst yes
      go_enter Tryd.func64, Tryd.ntmps64
      go_wp2_with fail
      refine wp_region_onto (by kernel_rfl) (by kernel_rfl) ?_
      repeat (go_big_quiet_step (fail))
      refine wpQuiet_nil ?_
      intro _ hw'
      obtain ⟨x1, hw''⟩ := hw'
      subst hw''
      go_wp2_with fail
      go_ret
      exact ⟨rfl, (Only.refl h.out).below (onto_below w x1)⟩
end Go.Proofs.YtigoonokiihdgaaDoor

/- Layer 6: the document's own reader in memory; contracts of its short words. Layer 6: contracts of the document's reader: feed, second, add, width. Layer 6: contracts of the document's reader: add, width. Layer 6: the contract of the document's reader of a field that isn't quoted. Layer 6: the contract of the document's reader of a quoted field. Layer 6: the document's reader with its record and its records in memory (RdB); the contract of its whole. Layer 6: the document's reader's words, said of the reader with its record and records (RdB). Layer 6: the document's line: its plain half. Layer 6: the document's line in memory. Layer 6: the document's lines, one after another: the plain half; a line that may not begin. Layer 6: the document's Read. -/
import Derived.Test.YtoeanbfemgmgnaaRows
import Derived.Test.YtoeanbfemgmgnaaZk
import Derived.Test.YtoeanbfemgmgnaaZp
import Derived.Deep.QuietTactic
import Derived.Deep.DeepCutAuto
import Derived.Deep.CutRange
import Derived.Deep.CutBlock
namespace Go.Proofs.Ytoeanbfemgmgnaa
open Go.ChangeShapes Go.WideShapes Go.ChangeAt Go.RowKit
set_option linter.unusedVariables false
set_option linter.unusedSimpArgs false

/-- What the reader has; its record, its records and their ends as they lie. -/
structure Rd where
  d : Int
  q : Int
  e : Int
  lf : Int
  ls : Int
  lr : Int
  un : Int
  s : ByteArray
  i : Nat
  bg : Int
  ro : Value
  rs : Value
  es : Value
  k : Int
  at_ : Nat
def rdCells (r : Rd) : Array Value :=
  #[.int .i64 r.d, .int .i64 r.q, .int .i64 r.e, .int .i64 r.lf, .int .i64 r.ls, .int .i64 r.lr, .int .i64 r.un, .string r.s, .int .i64 r.i, .int .i64 r.bg, r.ro, r.rs, r.es, .int .i64 r.k, .int .i64 r.at_]
def RB (w : World) (g : Nat) (r : Rd) : Prop := StB w g 99 (rdCells r)
/-- Only the reader has turned, to r. -/
def Only (g : Nat) (r : Rd) (w w' : World) : Prop := RB w' g r ∧ Touch w w' (fun k => k = g)
section
variable {g : Nat} {r r2 : Rd} {w w1 w2 : World}
theorem Only.refl (h : RB w g r) : Only g r w w := ⟨h, Touch.refl w _⟩
theorem Only.trans (h : Only g r w w1) (k : Only g r2 w1 w2) : Only g r2 w w2 := ⟨k.1, h.2.trans (Sub.refl w _) k.2⟩
theorem Only.below (h : Only g r w w1) (hb : Below w1.heap.size w1 w2) : Only g r w w2 := ⟨StB.below h.1 hb, h.2.then_below hb⟩
theorem then_self {w w' : World} {g : Nat} (h : Touch w w' (fun k => k = g)) (i : Nat) (u : Value) : Touch w (w'.setCell ⟨g, i, none⟩ u) (fun k => k = g) :=
  Touch.then_set (S := fun k => k = g) h (p := ⟨g, i, none⟩) (.inl (show g = g from rfl)) u
theorem RB.below (h : RB w g r) (hb : Below w.heap.size w w1) : RB w1 g r := StB.below h hb
theorem RB.cells (h : RB w g r) : g < w.heap.size ∧ w.cell? ⟨g, 0, none⟩ = some (.int .i64 r.d) ∧ w.cell? ⟨g, 1, none⟩ = some (.int .i64 r.q) ∧ w.cell? ⟨g, 2, none⟩ = some (.int .i64 r.e) ∧ w.cell? ⟨g, 3, none⟩ = some (.int .i64 r.lf) ∧ w.cell? ⟨g, 4, none⟩ = some (.int .i64 r.ls) ∧
    w.cell? ⟨g, 5, none⟩ = some (.int .i64 r.lr) ∧ w.cell? ⟨g, 6, none⟩ = some (.int .i64 r.un) ∧ w.cell? ⟨g, 7, none⟩ = some (.string r.s) ∧ w.cell? ⟨g, 8, none⟩ = some (.int .i64 r.i) ∧ w.cell? ⟨g, 9, none⟩ = some (.int .i64 r.bg) ∧ w.cell? ⟨g, 10, none⟩ = some r.ro ∧ w.cell? ⟨g, 11, none⟩ = some r.rs ∧
    w.cell? ⟨g, 12, none⟩ = some r.es ∧ w.cell? ⟨g, 13, none⟩ = some (.int .i64 r.k) ∧ w.cell? ⟨g, 14, none⟩ = some (.int .i64 r.at_) :=
  ⟨StB.lt h, StB.cell h 0, StB.cell h 1, StB.cell h 2, StB.cell h 3, StB.cell h 4, StB.cell h 5, StB.cell h 6, StB.cell h 7, StB.cell h 8, StB.cell h 9, StB.cell h 10, StB.cell h 11, StB.cell h 12, StB.cell h 13, StB.cell h 14⟩
theorem RB.free (h : RB w g r) (i : Nat) : w.frozen? ⟨g, i, none⟩ = false := StB.free h i
/-- The place moved. -/
theorem RB.set8 (h : RB w g r) (n : Nat) : Only g { r with i := n } w (w.setCell ⟨g, 8, none⟩ (.int .i64 n)) := by
  refine ⟨?_, then_self (Touch.refl w _) 8 _⟩
  have := StB.set_ h 8 (.int .i64 n)
  simpa [RB, rdCells] using this
end

/-- Does byte b stand at the place? -/
def isB (s : ByteArray) (i : Nat) (b : Int) : Bool := (bl s)[i]? == some b
theorem rbl_get (s : ByteArray) (i : Nat) (h : i < s.size) : (bl s)[i]? = some ((s[i].toNat : Nat) : Int) := by
  have h' : i < (bl s).length := by rw [bl_length]; exact h
  rw [List.getElem?_eq_getElem h']
  simp [bl]; rfl
/-- 's[j]'. -/
theorem run_index_at {P : Program} (t : TypeId) (s : ByteArray) (j : Nat) (n : Int) (hn : n = j) (hj : j < s.size) (h : P.underlying t = some .string) (V : World) : (Instr.index t (.string s) (.int .i64 n)).run P V = .ok (.int .u8 ((s[j].toNat : Nat) : Int)) V := by
  subst hn
  have := run_index_string (P := P) V t s .i64 (j : Int) h
  simpa [hj] using this
theorem is_any (g : Nat) (r : Rd) (b : Int) (v : Bool) (hv : Hid (isB r.s r.i b = v)) (hs : r.s.size ≤ 1000) (w : World) (h : Hid (RB w g r)) :
    Calls Try.prog 43 #[.pointer (some ⟨g, 0, none⟩), .int .i64 b] w fun x w' => x = .returned (.bool v) ∧ Below w.heap.size w w' := by
  obtain ⟨hg, _, _, _, _, _, _, _, k7, k8, _⟩ := h.out.cells
  obtain ⟨s, hs'⟩ : ∃ s, s = r.s := ⟨_, rfl⟩
  obtain ⟨i, hi'⟩ : ∃ i, i = r.i := ⟨_, rfl⟩
  rw [← hs', ← hi'] at hv
  rw [← hs'] at k7 hs
  rw [← hi'] at k8
  clear hs' hi' h
  by_cases hlt : i < s.size
  · have hd : decide (i < s.size) = true := by simpa using hlt
    have hb : (((s[i].toNat : Nat) : Int) == b) = v := by
      have := hv.out; unfold isB at this; rw [rbl_get s i hlt] at this; simpa using this
    have h0 := byte_lo s[i]
    have h1 := byte_hi s[i]
    have hwr : IntKind.i64.wrap ((s[i].toNat : Nat) : Int) = ((s[i].toNat : Nat) : Int) := IntWalk.i64_in _ (by omega)
    clear hv
    go_enter Try.func43, Try.ntmps43
    go_wp2_with fail
    refine wp_region_onto (by kernel_rfl) (by kernel_rfl) ?_
    repeat (go_big_quiet_step (fail))
    refine wpQuiet_nil ?_
    intro _ hw'
    obtain ⟨x1, hw''⟩ := hw'
    subst hw''
    go_wp2_with fail
    go_ret
    exact ⟨rfl, onto_below w x1⟩
  · have hd : decide (i < s.size) = false := by simpa using hlt
    have hb : v = false := by
      rw [← hv.out]; unfold isB
      rw [List.getElem?_eq_none (by rw [bl_length]; omega)]; rfl
    have HB := Lib.hid hb
    clear hv hb
    go_enter Try.func43, Try.ntmps43
    go_wp2_with fail
    refine wp_region_onto (by kernel_rfl) (by kernel_rfl) ?_
    repeat (go_big_quiet_step (fail))
    refine wpQuiet_nil ?_
    intro _ hw'
    obtain ⟨x1, hw''⟩ := hw'
    subst hw''
    go_wp2_with fail
    go_ret
    exact ⟨ret_bool HB.out.symm, onto_below w x1⟩

/-- The first fault. -/
theorem wrong_any (g : Nat) (r : Rd) (kind : Int) (a : Nat) (h0 : Hid (r.k = 0)) (w : World) (h : Hid (RB w g r)) :
    Calls Try.prog 64 #[.pointer (some ⟨g, 0, none⟩), .int .i64 kind, .int .i64 a] w fun x w' => x = .returned (.bool false) ∧ Only g { r with k := kind, at_ := a } w w' := by
  obtain ⟨hg, _, _, _, _, _, _, _, _, _, _, _, _, _, k13, k14⟩ := h.out.cells
  rw [h0.out] at k13
  have f13 := h.out.free 13
  have f14 := h.out.free 14
  go_enter Try.func64, Try.ntmps64
  go_wp2_with fail
  go_ret
  refine ⟨rfl, ?_, then_self (then_self (Touch.refl w _) 13 _) 14 _⟩
  have := (StB.set_ h.out 13 (.int .i64 kind)).set_ 14 (.int .i64 (a : Int))
  simpa [RB, rdCells] using this
end Go.Proofs.Ytoeanbfemgmgnaa

namespace Go.Proofs.Ytoeanbfemgmgnaa
open Go.ChangeShapes Go.WideShapes Go.ChangeAt Go.RowKit
set_option linter.unusedVariables false
set_option linter.unusedSimpArgs false

def fdN (e : Int) (b10 : Bool) : Int := if b10 = true then (if e = 2 then 0 else 1) else (if e = 1 then 0 else 2)
/-- What feed leaves. -/
def FeedOut6 (g : Nat) (r : Rd) (n : Int) (w : World) (x : Ending) (w' : World) : Prop := x = .returned (.int .i64 n) ∧ Only g (if n = 0 then { r with k := 6, at_ := r.i } else r) w w'
set_option maxHeartbeats 800000 in
theorem rfeed_any (g : Nat) (r : Rd) (b10 : Bool) (hv : Hid (isB r.s r.i 10 = b10)) (hs : r.s.size ≤ 1000) (h0 : Hid (r.k = 0)) (w : World) (h : Hid (RB w g r)) :
    Calls Try.prog 44 #[.pointer (some ⟨g, 0, none⟩)] w (FeedOut6 g r (fdN r.e b10) w) := by
  cases b10
  · by_cases he : r.e = 1
    · have hn := Lib.hid (show fdN r.e false = 0 by simp [fdN, he])
      have hd : (r.e == 1) = true := by simpa using he
      go_enter Try.func44, Try.ntmps44
      go_wp2_with fail
      refine (above (is_any g r 10 false hv hs w h)).mono ?_
      rintro x _ ⟨rfl, y, rfl⟩
      have h2 := Lib.hid (h.out.below (onto_below w y))
      obtain ⟨hg, _, _, k2, _, _, _, _, _, k8, _⟩ := h2.out.cells
      go_wp2_with fail
      refine (wrong_any g r 6 r.i h0 _ h2).mono ?_
      rintro x w2 ⟨rfl, ho⟩
      go_wp2_with fail
      go_ret
      unfold FeedOut6
      rw [hn.out, if_pos rfl]
      exact ⟨rfl, ho.1, (Touch.of_below (onto_below w y) _).trans (Sub.refl w _) ho.2⟩
    · have hn := Lib.hid (show fdN r.e false = 2 by simp [fdN, he])
      have hd : (r.e == 1) = false := by simpa using he
      go_enter Try.func44, Try.ntmps44
      go_wp2_with fail
      refine (above (is_any g r 10 false hv hs w h)).mono ?_
      rintro x _ ⟨rfl, y, rfl⟩
      have h2 := Lib.hid (h.out.below (onto_below w y))
      obtain ⟨hg, _, _, k2, _, _, _, _, _, k8, _⟩ := h2.out.cells
      go_wp2_with fail
      go_ret
      unfold FeedOut6
      rw [hn.out, if_neg (by decide)]
      exact ⟨rfl, (Only.refl h.out).below (onto_below w y)⟩
  · by_cases he : r.e = 2
    · have hn := Lib.hid (show fdN r.e true = 0 by simp [fdN, he])
      have hd : (r.e == 2) = true := by simpa using he
      go_enter Try.func44, Try.ntmps44
      go_wp2_with fail
      refine (above (is_any g r 10 true hv hs w h)).mono ?_
      rintro x _ ⟨rfl, y, rfl⟩
      have h2 := Lib.hid (h.out.below (onto_below w y))
      obtain ⟨hg, _, _, k2, _, _, _, _, _, k8, _⟩ := h2.out.cells
      go_wp2_with fail
      refine (wrong_any g r 6 r.i h0 _ h2).mono ?_
      rintro x w2 ⟨rfl, ho⟩
      go_wp2_with fail
      go_ret
      unfold FeedOut6
      rw [hn.out, if_pos rfl]
      exact ⟨rfl, ho.1, (Touch.of_below (onto_below w y) _).trans (Sub.refl w _) ho.2⟩
    · have hn := Lib.hid (show fdN r.e true = 1 by simp [fdN, he])
      have hd : (r.e == 2) = false := by simpa using he
      go_enter Try.func44, Try.ntmps44
      go_wp2_with fail
      refine (above (is_any g r 10 true hv hs w h)).mono ?_
      rintro x _ ⟨rfl, y, rfl⟩
      have h2 := Lib.hid (h.out.below (onto_below w y))
      obtain ⟨hg, _, _, k2, _, _, _, _, _, k8, _⟩ := h2.out.cells
      go_wp2_with fail
      go_ret
      unfold FeedOut6
      rw [hn.out, if_neg (by decide)]
      exact ⟨rfl, (Only.refl h.out).below (onto_below w y)⟩

/-- What second leaves. -/
def SecondOut (g : Nat) (r : Rd) (v : Bool) (w : World) (x : Ending) (w' : World) : Prop := x = .returned (.bool v) ∧ Only g (if v = true then r else { r with k := 6, at_ := r.i + 1 }) w w'
set_option maxHeartbeats 800000 in
theorem second_any (g : Nat) (r : Rd) (v : Bool) (hv : Hid (isB r.s (r.i + 1) 10 = v)) (hs : r.s.size ≤ 1000) (hi : r.i ≤ 1000) (h0 : Hid (r.k = 0)) (w : World) (h : Hid (RB w g r)) :
    Calls Try.prog 45 #[.pointer (some ⟨g, 0, none⟩)] w (SecondOut g r v w) := by
  obtain ⟨hg, _, _, _, _, _, _, _, k7, k8, _⟩ := h.out.cells
  obtain ⟨s, hs'⟩ : ∃ s, s = r.s := ⟨_, rfl⟩
  obtain ⟨i, hi'⟩ : ∃ i, i = r.i := ⟨_, rfl⟩
  rw [← hs', ← hi'] at hv
  rw [← hs'] at k7 hs
  rw [← hi'] at k8 hi
  have HI := Lib.hid hi'
  clear hs' hi'
  have e1 : IntKind.i64.wrap ((i : Int) + 1) = ((i + 1 : Nat) : Int) := by rw [IntWalk.i64_in _ (by omega)]; omega
  have e2 : ((i : Int) + 1).toNat = i + 1 := by omega
  have e3 : (0 : Int) ≤ (i : Int) + 1 := by omega
  by_cases hlt : i + 1 < s.size
  · have hd : decide (s.size ≤ i + 1) = false := by simpa using hlt
    have hd3 : decide ((s.size : Int) ≤ (i : Int) + 1) = false := by rw [decide_eq_false_iff_not]; omega
    have hix := run_index_at (P := Try.prog) 9 s (i + 1) ((i : Int) + 1) (by omega) hlt Try.underlying9
    have hb : (((s[i + 1].toNat : Nat) : Int) != 10) = !v := by
      have := hv.out; unfold isB at this; rw [rbl_get s (i + 1) hlt] at this
      rw [← this]; simp [bne]
    clear hv
    cases v
    · simp only [Bool.not_false] at hb
      go_enter Try.func45, Try.ntmps45
      go_wp2_with fail
      refine wp_region_onto (by kernel_rfl) (by kernel_rfl) ?_
      repeat (go_big_quiet_step (fail))
      refine wpQuiet_nil ?_
      intro _ hw'
      obtain ⟨x1, hw''⟩ := hw'
      subst hw''
      go_wp2_with fail
      refine (wrong_any g r 6 (i + 1) h0 _ (Lib.hid (h.out.below (onto_below w x1)))).mono ?_
      rintro x w2 ⟨rfl, ho⟩
      go_wp2_with fail
      go_ret
      unfold SecondOut
      rw [if_neg (by simp), show r.i + 1 = i + 1 by rw [← HI.out]]
      exact ⟨rfl, ho.1, (Touch.of_below (onto_below w x1) _).trans (Sub.refl w _) ho.2⟩
    · simp only [Bool.not_true] at hb
      go_enter Try.func45, Try.ntmps45
      go_wp2_with fail
      refine wp_region_onto (by kernel_rfl) (by kernel_rfl) ?_
      repeat (go_big_quiet_step (fail))
      refine wpQuiet_nil ?_
      intro _ hw'
      obtain ⟨x1, hw''⟩ := hw'
      subst hw''
      go_wp2_with fail
      go_ret
      unfold SecondOut
      rw [if_pos rfl]
      exact ⟨rfl, (Only.refl h.out).below (onto_below w x1)⟩
  · have hd : decide (s.size ≤ i + 1) = true := by simpa using hlt
    have hd3 : decide ((s.size : Int) ≤ (i : Int) + 1) = true := by rw [decide_eq_true_eq]; omega
    have hb : v = false := by
      rw [← hv.out]; unfold isB
      rw [List.getElem?_eq_none (by rw [bl_length]; omega)]; rfl
    subst hb
    clear hv
    go_enter Try.func45, Try.ntmps45
    go_wp2_with fail
    refine wp_region_onto (by kernel_rfl) (by kernel_rfl) ?_
    repeat (go_big_quiet_step (fail))
    refine wpQuiet_nil ?_
    intro _ hw'
    obtain ⟨x1, hw''⟩ := hw'
    subst hw''
    go_wp2_with fail
    refine (wrong_any g r 6 (i + 1) h0 _ (Lib.hid (h.out.below (onto_below w x1)))).mono ?_
    rintro x w2 ⟨rfl, ho⟩
    go_wp2_with fail
    go_ret
    unfold SecondOut
    rw [if_neg (by simp), show r.i + 1 = i + 1 by rw [← HI.out]]
    exact ⟨rfl, ho.1, (Touch.of_below (onto_below w x1) _).trans (Sub.refl w _) ho.2⟩
end Go.Proofs.Ytoeanbfemgmgnaa

namespace Go.Proofs.Ytoeanbfemgmgnaa
open Go.ChangeShapes Go.WideShapes Go.ChangeAt Go.RowKit
set_option linter.unusedVariables false
set_option linter.unusedSimpArgs false

theorem add_byte (l : List Int) (s : ByteArray) (a : Nat) (ha : a < s.size) : toBA l ++ s.extract a (a + 1) = toBA (l ++ [((s[a].toNat : Nat) : Int)]) := by
  apply ByteArray.ext
  rw [ByteArray.data_append, ByteArray.data_extract]
  have : s.data.extract a (a + 1) = #[s[a]] := by
    apply Array.ext'
    rw [Array.toList_extract]
    rw [List.extract_eq_take_drop]
    have h' : a < s.data.toList.length := ha
    rw [List.drop_eq_getElem_cons h']
    simp; rfl
  rw [this]
  simp [toBA]
set_option maxHeartbeats 800000 in
theorem add_no6 (g : Nat) (r : Rd) (l : List Int) (a : Nat) (hl : Hid ((l.length : Int) = r.lf)) (h0 : Hid (r.k = 0)) (hn : l.length ≤ 1000) (w : World) (h : Hid (RB w g r)) :
    Calls Try.prog 83 #[.pointer (some ⟨g, 0, none⟩), .string (toBA l), .int .i64 a] w fun x w' => x = .returned (.tuple #[.string (toBA l), .bool false]) ∧ Only g { r with k := 7, at_ := a } w w' := by
  obtain ⟨hg, _, _, _, k3, _⟩ := h.out.cells
  have hsz := toBA_size l
  obtain ⟨t, ht⟩ : ∃ t, t = toBA l := ⟨_, rfl⟩
  rw [← ht] at hsz
  rw [← ht]
  have hd : ((t.size : Int) == r.lf) = true := by rw [beq_iff_eq, hsz]; exact hl.out
  have hts : t.size ≤ 1000 := by omega
  clear hsz ht
  go_enter Try.func83, Try.ntmps83
  go_wp2_with fail
  refine (wrong_any g r 7 a h0 _ h).mono ?_
  rintro x w2 ⟨rfl, ho⟩
  go_wp2_with fail
  go_ret2
  exact ⟨rfl, ho⟩
set_option maxHeartbeats 800000 in
theorem add_yes6 (g : Nat) (r : Rd) (l : List Int) (a : Nat) (b : Int) (hb : Hid ((bl r.s)[a]? = some b)) (hl : Hid ((l.length : Int) ≠ r.lf)) (hn : l.length ≤ 1000) (hs : r.s.size ≤ 1000) (w : World) (h : Hid (RB w g r)) :
    Calls Try.prog 83 #[.pointer (some ⟨g, 0, none⟩), .string (toBA l), .int .i64 a] w fun x w' => x = .returned (.tuple #[.string (toBA (l ++ [b])), .bool true]) ∧ w = w' := by
  obtain ⟨hg, _, _, _, k3, _, _, _, k7, _⟩ := h.out.cells
  have ha : a < r.s.size := by
    have := (List.getElem?_eq_some_iff.1 hb.out).1
    rwa [bl_length] at this
  have hbb : ((r.s[a].toNat : Nat) : Int) = b := by
    have := hb.out; rw [rbl_get r.s a ha] at this; exact Option.some.inj this
  have hab := add_byte l r.s a ha
  rw [hbb] at hab
  have hsz := toBA_size l
  obtain ⟨t, ht⟩ : ∃ t, t = toBA l := ⟨_, rfl⟩
  rw [← ht] at hsz hab
  rw [← ht]
  have hd : ((t.size : Int) == r.lf) = false := by rw [beq_eq_false_iff_ne, hsz]; exact hl.out
  have hts : t.size ≤ 1000 := by omega
  have HAB := Lib.hid hab
  obtain ⟨s, hs'⟩ : ∃ s, s = r.s := ⟨_, rfl⟩
  rw [← hs'] at k7 ha hs HAB
  have ksub : ∀ V, (Instr.slice 9 (.string s) (some (.int .i64 (a : Int))) (some (.int .i64 ((a : Int) + 1))) none).run Try.prog V = .ok (.string (s.extract a (a + 1))) V := fun V => run_sub V 9 s a (a + 1) (a : Int) ((a : Int) + 1) rfl (by omega) (by omega) (by omega) Try.underlying9
  obtain ⟨z, hz⟩ : ∃ z, z = s.extract a (a + 1) := ⟨_, rfl⟩
  have hzs : z.size ≤ 1 := by rw [hz, ByteArray.size_extract]; omega
  rw [← hz] at ksub HAB
  clear hsz ht hbb hab hs' hz
  go_enter Try.func83, Try.ntmps83
  go_wp2_with fail
  go_ret2
  exact ⟨by rw [← HAB.out]; rfl, rfl⟩

/-- What width leaves. -/
def WidthOut (g : Nat) (r : Rd) (a : Nat) (v : Bool) (w : World) (x : Ending) (w' : World) : Prop := x = .returned (.bool v) ∧ Only g (if v = true then r else { r with k := 10, at_ := a }) w w'
set_option maxHeartbeats 1600000 in
theorem width_any (g : Nat) (r : Rd) (a : Nat) (B C : Option Addr) (d c m n : Nat) (hro : Hid (r.ro = .slice B m d)) (hrs : Hid (r.rs = .slice C n c)) (hun : r.un = 0 ∨ r.un = 1) (hm : m ≤ 1000000) (hn : n ≤ 1000000) (first : Nat) (hf1 : first ≤ 1000000)
    (v : Bool) (hv : Hid (v = !decide (r.un = 1 ∧ 0 < n ∧ m ≠ first))) (h0 : Hid (r.k = 0)) (w : World) (h : Hid (RB w g r)) (hfirst : 0 < n → ∃ A1 c1 a1, C = some a1 ∧ w.cell? a1 = some (.slice A1 first c1)) (hnc : n ≤ c) :
    Calls Try.prog 67 #[.pointer (some ⟨g, 0, none⟩), .int .i64 a] w (WidthOut g r a v w) := by
  obtain ⟨hg, _, _, _, _, _, _, k6, _, _, _, k10, k11, _⟩ := h.out.cells
  rw [hro.out] at k10
  rw [hrs.out] at k11
  have yes : v = true → WidthOut g r a v w (.returned (.bool true)) w → True := fun _ _ => trivial
  rcases hun with hu | hu
  · have hvt : v = true := by rw [hv.out, hu]; simp
    rw [hu] at k6
    subst hvt
    clear hv hfirst yes
    go_enter Try.func67, Try.ntmps67
    go_wp2_with fail
    refine wp_region_onto (by kernel_rfl) (by kernel_rfl) ?_
    repeat (go_big_quiet_step (fail))
    refine wpQuiet_nil ?_
    intro _ hw'
    obtain ⟨x1, hw''⟩ := hw'
    subst hw''
    go_wp2_with fail
    go_ret
    exact ⟨rfl, (Only.refl h.out).below (onto_below w x1)⟩
  · rw [hu] at k6
    by_cases hp : 0 < n
    · have hd1 : decide (0 < n) = true := by simpa using hp
      have hd1' : decide ((0 : Int) < (n : Int)) = true := by rw [decide_eq_true_eq]; omega
      obtain ⟨A1, c1, a1, rfl, hc1⟩ := hfirst hp
      have z1 : ∀ z, (onto w z).cell? a1 = some (.slice A1 first c1) := fun z => (onto_below w z).cell (lt_of_cell hc1) |>.trans hc1
      have z1' : ∀ z, (onto w z).cell? (a1.add 0) = some (.slice A1 first c1) := fun z => by rw [show a1.add 0 = a1 by simp [Addr.add]]; exact z1 z
      clear hc1 hfirst yes
      by_cases hmf : m = first
      · have hvt : v = true := by rw [hv.out]; simp [hmf]
        subst hvt
        have hd2 : ((m : Int) != (first : Int)) = false := by simp [hmf]
        have hd3 : (m != first) = false := by simp [hmf]
        clear hv hmf
        go_enter Try.func67, Try.ntmps67
        go_wp2_with fail
        refine wp_region_onto (by kernel_rfl) (by kernel_rfl) ?_
        repeat (go_big_quiet_step (fail))
        refine wpQuiet_nil ?_
        intro _ hw'
        obtain ⟨x1, hw''⟩ := hw'
        subst hw''
        go_wp2_with fail
        go_ret
        exact ⟨rfl, (Only.refl h.out).below (onto_below w x1)⟩
      · have hvf : v = false := by rw [hv.out, hu]; simp [hmf, hp]
        subst hvf
        have hd2 : ((m : Int) != (first : Int)) = true := by simp; omega
        have hd3 : (m != first) = true := by simpa using hmf
        clear hv hmf
        go_enter Try.func67, Try.ntmps67
        go_wp2_with fail
        refine wp_region_onto (by kernel_rfl) (by kernel_rfl) ?_
        repeat (go_big_quiet_step (fail))
        refine wpQuiet_nil ?_
        intro _ hw'
        obtain ⟨x1, hw''⟩ := hw'
        subst hw''
        go_wp2_with fail
        refine (wrong_any g r 10 a h0 _ (Lib.hid (h.out.below (onto_below w x1)))).mono ?_
        rintro x w2 ⟨rfl, ho⟩
        go_wp2_with fail
        go_ret
        unfold WidthOut
        rw [if_neg (by simp)]
        exact ⟨rfl, ho.1, (Touch.of_below (onto_below w x1) _).trans (Sub.refl w _) ho.2⟩
    · have hvt : v = true := by rw [hv.out]; simp; omega
      subst hvt
      have hd1 : decide (0 < n) = false := by simpa using hp
      have hd1' : decide ((0 : Int) < (n : Int)) = false := by rw [decide_eq_false_iff_not]; omega
      clear hv hfirst yes
      go_enter Try.func67, Try.ntmps67
      go_wp2_with fail
      refine wp_region_onto (by kernel_rfl) (by kernel_rfl) ?_
      repeat (go_big_quiet_step (fail))
      refine wpQuiet_nil ?_
      intro _ hw'
      obtain ⟨x1, hw''⟩ := hw'
      subst hw''
      go_wp2_with fail
      go_ret
      exact ⟨rfl, (Only.refl h.out).below (onto_below w x1)⟩
end Go.Proofs.Ytoeanbfemgmgnaa

namespace Go.Proofs.Ytoeanbfemgmgnaa
open Go.ChangeShapes Go.WideShapes Go.ChangeAt Go.RowKit
set_option linter.unusedVariables false
set_option linter.unusedSimpArgs false

/-- What a field leaves: F. -/
def FieldOut (g : Nat) (r : Rd) (F : Fld) (w : World) (x : Ending) (w' : World) : Prop :=
  ∃ (t : ByteArray) (ok : Bool) (i' : Nat), x = .returned (.tuple #[.string t, .bool ok]) ∧ (F.k = 0 → ok = true ∧ t = toBA F.f ∧ Only g { r with i := F.i } w w') ∧ (F.k ≠ 0 → ok = false ∧ Only g { r with i := i', k := F.k, at_ := F.i } w w')
def strLen : Value → Nat
  | .string t => t.size
  | _ => 0
theorem isB_drop {s : ByteArray} {k : Nat} {b : Int} {l : List Int} (h : (bl s).drop k = b :: l) (c : Int) : isB s k c = (b == c) := by
  unfold isB
  have : (bl s)[k]? = some b := by
    have := congrArg (fun z => z[0]?) h
    simpa [List.getElem?_drop] using this
  rw [this]; rfl
theorem isB_end {s : ByteArray} {k : Nat} (h : s.size ≤ k) (c : Int) : isB s k c = false := by
  unfold isB
  rw [List.getElem?_eq_none (by rw [bl_length]; exact h)]; rfl
theorem get_drop {s : ByteArray} {k : Nat} {b : Int} {l : List Int} (h : (bl s).drop k = b :: l) : (bl s)[k]? = some b ∧ (bl s).drop (k + 1) = l ∧ k < s.size := by
  have h1 : (bl s)[k]? = some b := by
    have := congrArg (fun z => z[0]?) h
    simpa [List.getElem?_drop] using this
  refine ⟨h1, ?_, ?_⟩
  · have := congrArg List.tail h
    rw [List.tail_drop] at this
    simpa using this
  · have := (List.getElem?_eq_some_iff.1 h1).1
    rwa [bl_length] at this

set_option maxHeartbeats 3200000 in
set_option maxRecDepth 100000 in
theorem bare_any6 (g : Nat) (r : Rd) (hi : r.i ≤ r.s.size) (hs : r.s.size ≤ 980) (h0 : Hid (r.k = 0)) (w : World) (h : Hid (RB w g r)) (F : Fld) (hF : Hid (bGo r.d r.q r.lf [] r.i ((bl r.s).drop r.i) = F)) :
    Calls Try.prog 66 #[.pointer (some ⟨g, 0, none⟩)] w (FieldOut g r F w) := by
  have hs1 : r.s.size ≤ 1000 := by omega
  go_enter Try.func66, Try.ntmps66
  go_wp2_with fail
  go_loopw [4] (fun f wr => ∃ (k : Nat) (l0 : List Int), k ≤ r.s.size ∧ l0.length ≤ k ∧ Hid (k = r.i + l0.length) ∧ f = .string (toBA l0) ∧ Hid (bGo r.d r.q r.lf l0 k ((bl r.s).drop k) = F) ∧ Hid (Only g { r with i := k } w wr)) (fun f _ => r.s.size - strLen f)
  case atStart => exact ⟨r.i, [], hi, Nat.zero_le _, Lib.hid rfl, rfl, hF, Lib.hid (Only.refl h.out)⟩
  case round =>
    obtain ⟨k, l0, hk, hl0, HKL, rfl, HE, HO⟩ := hrel
    have HR := Lib.hid (show RB wr g { r with i := k } from HO.out.1)
    obtain ⟨hg, kd, kq, _, _, _, _, _, k7, k8, _⟩ := HR.out.cells
    dsimp only at kd kq k7 k8
    by_cases hlt : k < r.s.size
    · obtain ⟨b, rest, hbr⟩ : ∃ b rest, (bl r.s).drop k = b :: rest := ⟨_, _, bl_drop r.s k hlt⟩
      obtain ⟨hget, hdr, _⟩ := get_drop hbr
      have HG := Lib.hid hget
      have HD := Lib.hid hdr
      have hd : decide (k < r.s.size) = true := by simpa using hlt
      have V1 := Lib.hid (isB_drop hbr r.d)
      have V2 := Lib.hid (isB_drop hbr 10)
      have V3 := Lib.hid (isB_drop hbr 13)
      have VQ := Lib.hid (isB_drop hbr r.q)
      have HB := Lib.hid hbr
      clear hbr hget hdr
      cases hst : stops r.d b
      · -- the byte belongs to the field, or is a quote
        have hs3 : (b == r.d) = false ∧ (b == 10) = false ∧ (b == 13) = false := by simpa [stops] using hst
        have U1 := Lib.hid (V1.out.trans hs3.1)
        have U2 := Lib.hid (V2.out.trans hs3.2.1)
        have U3 := Lib.hid (V3.out.trans hs3.2.2)
        have HST := Lib.hid hst
        clear V1 V2 V3 hs3 hst
        go_wp2_with fail
        refine wp_region_onto (by kernel_rfl) (by kernel_rfl) ?_
        repeat (go_big_quiet_step (first
          | (go_at_call 43; with_reducible exact calls_onto (is_any g { r with i := k } r.d false U1 hs1 _ (Lib.hid (HR.out.below (onto_below wr _)))))
          | (go_at_call 43; with_reducible exact calls_onto (is_any g { r with i := k } 10 false U2 hs1 _ (Lib.hid (HR.out.below (onto_below wr _)))))
          | (go_at_call 43; with_reducible exact calls_onto (is_any g { r with i := k } 13 false U3 hs1 _ (Lib.hid (HR.out.below (onto_below wr _)))))))
        refine wpQuiet_nil ?_
        intro _ hw'
        obtain ⟨y1, hw''⟩ := hw'
        subst hw''
        have HR1 := Lib.hid (HR.out.below (onto_below wr y1))
        have HO1 := Lib.hid (HO.out.below (onto_below wr y1))
        obtain ⟨hg1, _, kq1, _, _, _, _, _, _, k81, _⟩ := HR1.out.cells
        dsimp only at kq1 k81
        by_cases hbq : b = r.q
        · have UQ := Lib.hid (VQ.out.trans (show (b == r.q) = true by simpa using hbq))
          have hF4 := Lib.hid (show F = ⟨4, l0, k, []⟩ by rw [← HE.out, HB.out, bGo, HST.out, if_neg (by simp), if_pos hbq])
          clear hbq
          go_wp2_with fail
          refine (above (is_any g { r with i := k } r.q true UQ hs1 _ HR1)).mono ?_
          rintro x _ ⟨rfl, y2, rfl⟩
          have HR2 := Lib.hid (HR1.out.below (onto_below _ y2))
          have HO2 := Lib.hid (HO1.out.below (onto_below _ y2))
          obtain ⟨hg2, _, _, _, _, _, _, _, _, k82, _⟩ := HR2.out.cells
          dsimp only at k82
          go_wp2_with fail
          refine (wrong_any g { r with i := k } 4 k h0 _ HR2).mono ?_
          rintro x w3 ⟨rfl, ho⟩
          have HO3 := Lib.hid (HO2.out.trans ho)
          clear ho
          go_wp2_with fail
          go_ret2
          refine ⟨toBA l0, false, k, rfl, ?_, ?_⟩
          · rw [hF4.out]; intro h; cases h
          · rw [hF4.out]; intro _; exact ⟨rfl, HO3.out⟩
        · have UQ := Lib.hid (VQ.out.trans (show (b == r.q) = false by simpa using hbq))
          have HNQ := Lib.hid hbq
          clear hbq
          go_wp2_with fail
          refine (above (is_any g { r with i := k } r.q false UQ hs1 _ HR1)).mono ?_
          rintro x _ ⟨rfl, y2, rfl⟩
          have HR2 := Lib.hid (HR1.out.below (onto_below _ y2))
          have HO2 := Lib.hid (HO1.out.below (onto_below _ y2))
          obtain ⟨hg2, _, _, _, _, _, _, _, _, k82, _⟩ := HR2.out.cells
          dsimp only at k82
          by_cases hlf : (l0.length : Int) = r.lf
          · have HLF := Lib.hid hlf
            have hF7 := Lib.hid (show F = ⟨7, l0, k, []⟩ by rw [← HE.out, HB.out, bGo, HST.out, if_neg (by simp), if_neg HNQ.out, if_pos hlf])
            clear hlf
            go_wp2_with fail
            refine (add_no6 g { r with i := k } l0 k HLF h0 (by omega) _ HR2).mono ?_
            rintro x w3 ⟨rfl, ho⟩
            have HO3 := Lib.hid (HO2.out.trans ho)
            clear ho
            go_wp2_with fail
            go_ret2
            refine ⟨toBA l0, false, k, rfl, ?_, ?_⟩
            · rw [hF7.out]; intro h; cases h
            · rw [hF7.out]; intro _; exact ⟨rfl, HO3.out⟩
          · have HLF := Lib.hid hlf
            have hE2 := Lib.hid (show bGo r.d r.q r.lf (l0 ++ [b]) (k + 1) ((bl r.s).drop (k + 1)) = F by rw [← HE.out, HB.out, HD.out]; conv => rhs; rw [bGo, HST.out, if_neg (by simp), if_neg HNQ.out, if_neg hlf])
            clear hlf
            go_wp2_with fail
            refine (add_yes6 g { r with i := k } l0 k b HG HLF (by omega) hs1 _ HR2).mono ?_
            rintro x _ ⟨rfl, rfl⟩
            have hg2' := HR.out.free 8
            go_wp2_with fail
            have hcast : ((k + 1 : Nat) : Int) = (k : Int) + 1 := by omega
            have ho3 := HO2.out.trans (HR2.out.set8 (k + 1))
            rw [hcast] at ho3
            have HO3 := Lib.hid ho3
            clear ho3 hcast
            go_roundw
            case rel => exact ⟨k + 1, l0 ++ [b], by omega, by simp; omega, Lib.hid (by have := HKL.out; simp; omega), rfl, hE2, HO3⟩
            case measure => simp [strLen, toBA_size]; omega
      · have hF0 := Lib.hid (show F = ⟨0, l0, k, b :: rest⟩ by rw [← HE.out, HB.out, bGo, if_pos hst])
        have hc : (b == r.d) = true ∨ ((b == r.d) = false ∧ (b == 10) = true) ∨ ((b == r.d) = false ∧ (b == 10) = false ∧ (b == 13) = true) := by
          unfold stops at hst
          cases h1 : (b == r.d) <;> cases h2 : (b == 10) <;> simp_all
        rcases hc with c1 | ⟨c1, c2⟩ | ⟨c1, c2, c3⟩
        · have U1 := Lib.hid (V1.out.trans c1)
          clear V1 V2 V3 c1 hst
          go_wp2_with fail
          refine wp_region_onto (by kernel_rfl) (by kernel_rfl) ?_
          repeat (go_big_quiet_step ((go_at_call 43; with_reducible exact calls_onto (is_any g { r with i := k } r.d true U1 hs1 _ (Lib.hid (HR.out.below (onto_below wr _)))))))
          refine wpQuiet_nil ?_
          intro _ hw'
          obtain ⟨y1, hw''⟩ := hw'
          subst hw''
          have HO1 := Lib.hid (HO.out.below (onto_below wr y1))
          go_wp2_with fail
          go_ret2
          refine ⟨toBA l0, true, k, rfl, ?_, ?_⟩
          · rw [hF0.out]; intro _; exact ⟨rfl, rfl, HO1.out⟩
          · rw [hF0.out]; intro h; exact absurd rfl h
        · have U1 := Lib.hid (V1.out.trans c1)
          have U2 := Lib.hid (V2.out.trans c2)
          clear V1 V2 V3 c1 c2 hst
          go_wp2_with fail
          refine wp_region_onto (by kernel_rfl) (by kernel_rfl) ?_
          repeat (go_big_quiet_step (first | (go_at_call 43; with_reducible exact calls_onto (is_any g { r with i := k } r.d false U1 hs1 _ (Lib.hid (HR.out.below (onto_below wr _))))) | (go_at_call 43; with_reducible exact calls_onto (is_any g { r with i := k } 10 true U2 hs1 _ (Lib.hid (HR.out.below (onto_below wr _)))))))
          refine wpQuiet_nil ?_
          intro _ hw'
          obtain ⟨y1, hw''⟩ := hw'
          subst hw''
          have HO1 := Lib.hid (HO.out.below (onto_below wr y1))
          go_wp2_with fail
          go_ret2
          refine ⟨toBA l0, true, k, rfl, ?_, ?_⟩
          · rw [hF0.out]; intro _; exact ⟨rfl, rfl, HO1.out⟩
          · rw [hF0.out]; intro h; exact absurd rfl h
        · have U1 := Lib.hid (V1.out.trans c1)
          have U2 := Lib.hid (V2.out.trans c2)
          have U3 := Lib.hid (V3.out.trans c3)
          clear V1 V2 V3 c1 c2 c3 hst
          go_wp2_with fail
          refine wp_region_onto (by kernel_rfl) (by kernel_rfl) ?_
          repeat (go_big_quiet_step (first | (go_at_call 43; with_reducible exact calls_onto (is_any g { r with i := k } r.d false U1 hs1 _ (Lib.hid (HR.out.below (onto_below wr _))))) | (go_at_call 43; with_reducible exact calls_onto (is_any g { r with i := k } 10 false U2 hs1 _ (Lib.hid (HR.out.below (onto_below wr _))))) | (go_at_call 43; with_reducible exact calls_onto (is_any g { r with i := k } 13 true U3 hs1 _ (Lib.hid (HR.out.below (onto_below wr _)))))))
          refine wpQuiet_nil ?_
          intro _ hw'
          obtain ⟨y1, hw''⟩ := hw'
          subst hw''
          have HO1 := Lib.hid (HO.out.below (onto_below wr y1))
          go_wp2_with fail
          go_ret2
          refine ⟨toBA l0, true, k, rfl, ?_, ?_⟩
          · rw [hF0.out]; intro _; exact ⟨rfl, rfl, HO1.out⟩
          · rw [hF0.out]; intro h; exact absurd rfl h
    · have hd : decide (k < r.s.size) = false := by simpa using hlt
      have hF0 := Lib.hid (show F = ⟨0, l0, k, []⟩ by rw [← HE.out, bl_end r.s k (by omega), bGo])
      clear hlt
      go_wp2_with fail
      refine wp_region_onto (by kernel_rfl) (by kernel_rfl) ?_
      repeat (go_big_quiet_step (fail))
      refine wpQuiet_nil ?_
      intro _ hw'
      obtain ⟨y1, hw''⟩ := hw'
      subst hw''
      have HO1 := Lib.hid (HO.out.below (onto_below wr y1))
      go_wp2_with fail
      go_ret2
      refine ⟨toBA l0, true, k, rfl, ?_, ?_⟩
      · rw [hF0.out]; intro _; exact ⟨rfl, rfl, HO1.out⟩
      · rw [hF0.out]; intro h; exact absurd rfl h
end Go.Proofs.Ytoeanbfemgmgnaa

namespace Go.Proofs.Ytoeanbfemgmgnaa
open Go.ChangeShapes Go.WideShapes Go.ChangeAt Go.RowKit
set_option linter.unusedVariables false
set_option linter.unusedSimpArgs false

theorem qGo_no {q lf : Int} {f : List Int} {k : Nat} {b : Int} {l : List Int} (hb : b ≠ q) (hl : (f.length : Int) = lf) : qGo q lf f k (b :: l) = ⟨7, f, k, []⟩ := by
  cases l with
  | nil => rw [qGo, if_neg hb, if_pos hl]
  | cons c r => rw [qGo, if_neg hb, if_pos hl]
theorem qGo_go {q lf : Int} {f : List Int} {k : Nat} {b : Int} {l : List Int} (hb : b ≠ q) (hl : ¬ (f.length : Int) = lf) : qGo q lf f k (b :: l) = qGo q lf (f ++ [b]) (k + 1) l := by
  cases l with
  | nil => simp [qGo, hb, hl]
  | cons c r => rw [qGo, if_neg hb, if_neg hl]

set_option maxHeartbeats 12800000 in
set_option maxRecDepth 100000 in
theorem quoted_any6 (g : Nat) (r : Rd) (hi : r.i ≤ r.s.size) (hs : r.s.size ≤ 980) (h0 : Hid (r.k = 0)) (w : World) (h : Hid (RB w g r)) (F : Fld) (hF : Hid (behind r.d (qGo r.q r.lf [] r.i ((bl r.s).drop r.i)) = F)) :
    Calls Try.prog 65 #[.pointer (some ⟨g, 0, none⟩)] w (FieldOut g r F w) := by
  have hs1 : r.s.size ≤ 1000 := by omega
  go_enter Try.func65, Try.ntmps65
  go_wp2_with fail
  go_loopw [4] (fun f wr => ∃ (k : Nat) (l0 : List Int), k ≤ r.s.size ∧ l0.length ≤ k ∧ f = .string (toBA l0) ∧ Hid (behind r.d (qGo r.q r.lf l0 k ((bl r.s).drop k)) = F) ∧ Hid (Only g { r with i := k } w wr)) (fun f _ => r.s.size - strLen f)
  case atStart => exact ⟨r.i, [], hi, Nat.zero_le _, rfl, hF, Lib.hid (Only.refl h.out)⟩
  case round =>
    obtain ⟨k, l0, hk, hl0, rfl, HE, HO⟩ := hrel
    have HR := Lib.hid (show RB wr g { r with i := k } from HO.out.1)
    obtain ⟨hg, kd, kq, _, _, _, _, _, k7, k8, _⟩ := HR.out.cells
    dsimp only at kd kq k7 k8
    by_cases hlt : k < r.s.size
    · obtain ⟨b, rest, hbr⟩ : ∃ b rest, (bl r.s).drop k = b :: rest := ⟨_, _, bl_drop r.s k hlt⟩
      obtain ⟨hget, hdr, _⟩ := get_drop hbr
      have HG := Lib.hid hget
      have HD := Lib.hid hdr
      have hdk : (k == r.s.size) = false := by rw [beq_eq_false_iff_ne]; omega
      have hdk' : ((k : Int) == (r.s.size : Int)) = false := by rw [beq_eq_false_iff_ne]; omega
      have VQ := Lib.hid (isB_drop hbr r.q)
      have HB := Lib.hid hbr
      clear hbr hget hdr
      by_cases hbq : b = r.q
      · have UQ := Lib.hid (VQ.out.trans (show (b == r.q) = true by simpa using hbq))
        have HBQ := Lib.hid hbq
        clear hbq
        by_cases hlt2 : k + 1 < r.s.size
        · -- a byte behind the quote
          obtain ⟨c, rest2, hcr⟩ : ∃ c rest2, (bl r.s).drop (k + 1) = c :: rest2 := ⟨_, _, bl_drop r.s (k + 1) hlt2⟩
          obtain ⟨hget2, hdr2, _⟩ := get_drop hcr
          have HG2 := Lib.hid hget2
          have HD2 := Lib.hid hdr2
          have hc' : ((r.s[k + 1].toNat : Nat) : Int) = c := by
            have := hget2; rw [rbl_get r.s (k + 1) hlt2] at this; exact Option.some.inj this
          have hix : ∀ V, (Instr.index 9 (.string r.s) (.int .i64 ((k : Int) + 1))).run Try.prog V = .ok (.int .u8 c) V := fun V => by rw [← hc']; exact run_index_at (P := Try.prog) 9 r.s (k + 1) ((k : Int) + 1) (by omega) hlt2 Try.underlying9 V
          have hcw : IntKind.i64.wrap c = c := by rw [← hc']; have h9 := byte_lo r.s[k + 1]; have h8 := byte_hi r.s[k + 1]; exact IntWalk.i64_in _ (by omega)
          have e1 : IntKind.i64.wrap ((k : Int) + 1) = (k : Int) + 1 := IntWalk.i64_in _ (by omega)
          have hn1 : ((k : Int) + 1 == (r.s.size : Int)) = false := by rw [beq_eq_false_iff_ne]; omega
          have HREST := Lib.hid (show rest = c :: rest2 by rw [← HD.out, hcr])
          have V1 := Lib.hid (isB_drop hcr r.d)
          have V2 := Lib.hid (isB_drop hcr 10)
          have V3 := Lib.hid (isB_drop hcr 13)
          clear hcr hget2 hdr2 hc'
          by_cases hcq : c = r.q
          · have hcb : (c != r.q) = false := by simp [hcq]
            have HCQ := Lib.hid hcq
            clear hcq
            by_cases hlf : (l0.length : Int) = r.lf
            · have HLF := Lib.hid hlf
              have hF7 := Lib.hid (show F = ⟨7, l0, k + 1, []⟩ by rw [← HE.out, HB.out, HREST.out, qGo, if_pos HBQ.out, if_pos HCQ.out, if_pos hlf]; rfl)
              clear hlf
              go_wp2_with fail
              refine wp_region_onto (by kernel_rfl) (by kernel_rfl) ?_
              repeat (go_big_quiet_step (fail))
              refine wpQuiet_nil ?_
              intro _ hw'
              obtain ⟨y1, hw''⟩ := hw'
              subst hw''
              have HR1 := Lib.hid (HR.out.below (onto_below wr y1))
              have HO1 := Lib.hid (HO.out.below (onto_below wr y1))
              obtain ⟨hg1, _, kq1, _, _, _, _, _, k71, k81, _⟩ := HR1.out.cells
              dsimp only at kq1 k71 k81
              go_wp2_with fail
              refine (above (is_any g { r with i := k } r.q true UQ hs1 _ HR1)).mono ?_
              rintro x _ ⟨rfl, y2, rfl⟩
              have HR2 := Lib.hid (HR1.out.below (onto_below _ y2))
              have HO2 := Lib.hid (HO1.out.below (onto_below _ y2))
              go_wp2_with fail
              refine wp_region_onto (by kernel_rfl) (by kernel_rfl) ?_
              repeat (go_big_quiet_step (fail))
              refine wpQuiet_nil ?_
              intro _ hw'
              obtain ⟨y3, hw''⟩ := hw'
              subst hw''
              have HR3 := Lib.hid (HR2.out.below (onto_below _ y3))
              have HO3 := Lib.hid (HO2.out.below (onto_below _ y3))
              have HRN := HR3
              have HON := HO3
              go_wp2_with fail
              refine (add_no6 g { r with i := k } l0 (k + 1) HLF h0 (by omega) _ HRN).mono ?_
              rintro x w3 ⟨rfl, ho⟩
              have HO4 := Lib.hid (HON.out.trans ho)
              clear ho
              go_wp2_with fail
              go_ret2
              refine ⟨toBA l0, false, k, rfl, ?_, ?_⟩
              · rw [hF7.out]; intro h; cases h
              · rw [hF7.out]; intro _; exact ⟨rfl, HO4.out⟩
            · have HLF := Lib.hid hlf
              have hE2 := Lib.hid (show behind r.d (qGo r.q r.lf (l0 ++ [c]) (k + 2) ((bl r.s).drop (k + 2))) = F by rw [← HE.out, HB.out, HREST.out, HD2.out]; conv => rhs; rw [qGo, if_pos HBQ.out, if_pos HCQ.out, if_neg hlf])
              clear hlf
              go_wp2_with fail
              refine wp_region_onto (by kernel_rfl) (by kernel_rfl) ?_
              repeat (go_big_quiet_step (fail))
              refine wpQuiet_nil ?_
              intro _ hw'
              obtain ⟨y1, hw''⟩ := hw'
              subst hw''
              have HR1 := Lib.hid (HR.out.below (onto_below wr y1))
              have HO1 := Lib.hid (HO.out.below (onto_below wr y1))
              obtain ⟨hg1, _, kq1, _, _, _, _, _, k71, k81, _⟩ := HR1.out.cells
              dsimp only at kq1 k71 k81
              go_wp2_with fail
              refine (above (is_any g { r with i := k } r.q true UQ hs1 _ HR1)).mono ?_
              rintro x _ ⟨rfl, y2, rfl⟩
              have HR2 := Lib.hid (HR1.out.below (onto_below _ y2))
              have HO2 := Lib.hid (HO1.out.below (onto_below _ y2))
              go_wp2_with fail
              refine wp_region_onto (by kernel_rfl) (by kernel_rfl) ?_
              repeat (go_big_quiet_step (fail))
              refine wpQuiet_nil ?_
              intro _ hw'
              obtain ⟨y3, hw''⟩ := hw'
              subst hw''
              have HR3 := Lib.hid (HR2.out.below (onto_below _ y3))
              have HO3 := Lib.hid (HO2.out.below (onto_below _ y3))
              have HRN := HR3
              have HON := HO3
              have hfz := HR.out.free 8
              go_wp2_with fail
              refine (add_yes6 g { r with i := k } l0 (k + 1) c HG2 HLF (by omega) hs1 _ HRN).mono ?_
              rintro x _ ⟨rfl, rfl⟩
              go_wp2_with fail
              have ho4 := HON.out.trans (HRN.out.set8 (k + 2))
              have hcast : ((k + 2 : Nat) : Int) = (k : Int) + 1 + 1 := by omega
              rw [hcast] at ho4
              have HO4 := Lib.hid ho4
              clear ho4 hcast
              go_roundw
              case rel => exact ⟨k + 2, l0 ++ [c], by omega, by simp; omega, rfl, hE2, HO4⟩
              case measure => simp [strLen, toBA_size]; omega
          · have hcb : (c != r.q) = true := by simpa using hcq
            have HCQ := Lib.hid hcq
            have HQ0 := Lib.hid (show F = behind r.d ⟨0, l0, k + 1, c :: rest2⟩ by rw [← HE.out, HB.out, HREST.out, qGo, if_pos HBQ.out, if_neg hcq])
            clear hcq
            cases hst : stops r.d c
            · have hs3 : (c == r.d) = false ∧ (c == 10) = false ∧ (c == 13) = false := by simpa [stops] using hst
              have U1 := Lib.hid (V1.out.trans hs3.1)
              have U2 := Lib.hid (V2.out.trans hs3.2.1)
              have U3 := Lib.hid (V3.out.trans hs3.2.2)
              have hF0 := Lib.hid (show F = ⟨5, l0, k + 1, []⟩ by rw [HQ0.out]; simp [behind, hst])
              have hdx : decide (k + 1 < r.s.size) = true := by simpa using hlt2
              have hdx' : decide ((k : Int) + 1 < (r.s.size : Int)) = true := by rw [decide_eq_true_eq]; omega
              clear V1 V2 V3 hs3 hst
              go_wp2_with fail
              refine wp_region_onto (by kernel_rfl) (by kernel_rfl) ?_
              repeat (go_big_quiet_step (fail))
              refine wpQuiet_nil ?_
              intro _ hw'
              obtain ⟨y1, hw''⟩ := hw'
              subst hw''
              have HR1 := Lib.hid (HR.out.below (onto_below wr y1))
              have HO1 := Lib.hid (HO.out.below (onto_below wr y1))
              obtain ⟨hg1, _, kq1, _, _, _, _, _, k71, k81, _⟩ := HR1.out.cells
              dsimp only at kq1 k71 k81
              go_wp2_with fail
              refine (above (is_any g { r with i := k } r.q true UQ hs1 _ HR1)).mono ?_
              rintro x _ ⟨rfl, y2, rfl⟩
              have HR2 := Lib.hid (HR1.out.below (onto_below _ y2))
              have HO2 := Lib.hid (HO1.out.below (onto_below _ y2))
              go_wp2_with fail
              refine wp_region_onto (by kernel_rfl) (by kernel_rfl) ?_
              repeat (go_big_quiet_step (fail))
              refine wpQuiet_nil ?_
              intro _ hw'
              obtain ⟨y3, hw''⟩ := hw'
              subst hw''
              have HR3 := Lib.hid (HR2.out.below (onto_below _ y3))
              have HO3 := Lib.hid (HO2.out.below (onto_below _ y3))
              have hfz := HR.out.free 8
              have hcast : ((k + 1 : Nat) : Int) = (k : Int) + 1 := by omega
              have ho4 := HO3.out.trans (HR3.out.set8 (k + 1))
              rw [hcast] at ho4
              clear hcast
              go_upto_region 14 with fail
              obtain ⟨X, hX⟩ : ∃ X, X = (onto wr ((y1.up y2).up y3)).setCell ⟨g, 8, none⟩ (.int .i64 ((k : Int) + 1)) := ⟨_, rfl⟩
              have ho5 : Only g { r with i := k + 1 } w X := by rw [hX]; exact ho4
              rw [← hX]
              clear hX ho4
              have HOX := Lib.hid ho5
              have HX := Lib.hid (show RB X g { r with i := k + 1 } from ho5.1)
              clear ho5
              obtain ⟨hgx, kdx, _, _, _, _, _, _, k7x, k8x, _⟩ := HX.out.cells
              dsimp only at kdx k7x k8x
              go_wp2_with fail
              refine wp_region_onto (by kernel_rfl) (by kernel_rfl) ?_
              repeat (go_big_quiet_step (first | (go_at_call 43; with_reducible exact calls_onto (is_any g { r with i := k + 1 } r.d false U1 hs1 _ (Lib.hid (HX.out.below (onto_below X _))))) | (go_at_call 43; with_reducible exact calls_onto (is_any g { r with i := k + 1 } 10 false U2 hs1 _ (Lib.hid (HX.out.below (onto_below X _))))) | (go_at_call 43; with_reducible exact calls_onto (is_any g { r with i := k + 1 } 13 false U3 hs1 _ (Lib.hid (HX.out.below (onto_below X _)))))))
              refine wpQuiet_nil ?_
              intro _ hw'
              obtain ⟨y9, hw''⟩ := hw'
              subst hw''
              have HR9 := Lib.hid (HX.out.below (onto_below X y9))
              have HO9 := Lib.hid (HOX.out.below (onto_below X y9))
              obtain ⟨hg9, _, _, _, _, _, _, _, _, k89, _⟩ := HR9.out.cells
              dsimp only at k89
              go_wp2_with fail
              refine (wrong_any g { r with i := k + 1 } 5 (k + 1) h0 _ HR9).mono ?_
              rintro x w9 ⟨rfl, ho⟩
              have HO10 := Lib.hid (HO9.out.trans ho)
              clear ho
              go_wp2_with fail
              go_ret2
              refine ⟨toBA l0, false, k + 1, rfl, ?_, ?_⟩
              · rw [hF0.out]; intro h; cases h
              · rw [hF0.out]; intro _; exact ⟨rfl, HO10.out⟩
            · have hF0 := Lib.hid (show F = ⟨0, l0, k + 1, c :: rest2⟩ by rw [HQ0.out]; simp [behind, hst])
              have hdx : decide (k + 1 < r.s.size) = true := by simpa using hlt2
              have hdx' : decide ((k : Int) + 1 < (r.s.size : Int)) = true := by rw [decide_eq_true_eq]; omega
              have hc : (c == r.d) = true ∨ ((c == r.d) = false ∧ (c == 10) = true) ∨ ((c == r.d) = false ∧ (c == 10) = false ∧ (c == 13) = true) := by
                unfold stops at hst
                cases h1 : (c == r.d) <;> cases h2 : (c == 10) <;> simp_all
              rcases hc with c1 | ⟨c1, c2⟩ | ⟨c1, c2, c3⟩
              · have U1 := Lib.hid (V1.out.trans c1)
                clear V1 V2 V3 c1 hst
                go_wp2_with fail
                refine wp_region_onto (by kernel_rfl) (by kernel_rfl) ?_
                repeat (go_big_quiet_step (fail))
                refine wpQuiet_nil ?_
                intro _ hw'
                obtain ⟨y1, hw''⟩ := hw'
                subst hw''
                have HR1 := Lib.hid (HR.out.below (onto_below wr y1))
                have HO1 := Lib.hid (HO.out.below (onto_below wr y1))
                obtain ⟨hg1, _, kq1, _, _, _, _, _, k71, k81, _⟩ := HR1.out.cells
                dsimp only at kq1 k71 k81
                go_wp2_with fail
                refine (above (is_any g { r with i := k } r.q true UQ hs1 _ HR1)).mono ?_
                rintro x _ ⟨rfl, y2, rfl⟩
                have HR2 := Lib.hid (HR1.out.below (onto_below _ y2))
                have HO2 := Lib.hid (HO1.out.below (onto_below _ y2))
                go_wp2_with fail
                refine wp_region_onto (by kernel_rfl) (by kernel_rfl) ?_
                repeat (go_big_quiet_step (fail))
                refine wpQuiet_nil ?_
                intro _ hw'
                obtain ⟨y3, hw''⟩ := hw'
                subst hw''
                have HR3 := Lib.hid (HR2.out.below (onto_below _ y3))
                have HO3 := Lib.hid (HO2.out.below (onto_below _ y3))
                have hfz := HR.out.free 8
                have hcast : ((k + 1 : Nat) : Int) = (k : Int) + 1 := by omega
                have ho4 := HO3.out.trans (HR3.out.set8 (k + 1))
                rw [hcast] at ho4
                clear hcast
                go_upto_region 14 with fail
                obtain ⟨X, hX⟩ : ∃ X, X = (onto wr ((y1.up y2).up y3)).setCell ⟨g, 8, none⟩ (.int .i64 ((k : Int) + 1)) := ⟨_, rfl⟩
                have ho5 : Only g { r with i := k + 1 } w X := by rw [hX]; exact ho4
                rw [← hX]
                clear hX ho4
                have HOX := Lib.hid ho5
                have HX := Lib.hid (show RB X g { r with i := k + 1 } from ho5.1)
                clear ho5
                obtain ⟨hgx, kdx, _, _, _, _, _, _, k7x, k8x, _⟩ := HX.out.cells
                dsimp only at kdx k7x k8x
                go_wp2_with fail
                refine wp_region_onto (by kernel_rfl) (by kernel_rfl) ?_
                repeat (go_big_quiet_step ((go_at_call 43; with_reducible exact calls_onto (is_any g { r with i := k + 1 } r.d true U1 hs1 _ (Lib.hid (HX.out.below (onto_below X _)))))))
                refine wpQuiet_nil ?_
                intro _ hw'
                obtain ⟨y9, hw''⟩ := hw'
                subst hw''
                have HO9 := Lib.hid (HOX.out.below (onto_below X y9))
                go_wp2_with fail
                go_ret2
                refine ⟨toBA l0, true, k + 1, rfl, ?_, ?_⟩
                · rw [hF0.out]; intro _; exact ⟨rfl, rfl, HO9.out⟩
                · rw [hF0.out]; intro h; exact absurd rfl h
              · have U1 := Lib.hid (V1.out.trans c1)
                have U2 := Lib.hid (V2.out.trans c2)
                clear V1 V2 V3 c1 c2 hst
                go_wp2_with fail
                refine wp_region_onto (by kernel_rfl) (by kernel_rfl) ?_
                repeat (go_big_quiet_step (fail))
                refine wpQuiet_nil ?_
                intro _ hw'
                obtain ⟨y1, hw''⟩ := hw'
                subst hw''
                have HR1 := Lib.hid (HR.out.below (onto_below wr y1))
                have HO1 := Lib.hid (HO.out.below (onto_below wr y1))
                obtain ⟨hg1, _, kq1, _, _, _, _, _, k71, k81, _⟩ := HR1.out.cells
                dsimp only at kq1 k71 k81
                go_wp2_with fail
                refine (above (is_any g { r with i := k } r.q true UQ hs1 _ HR1)).mono ?_
                rintro x _ ⟨rfl, y2, rfl⟩
                have HR2 := Lib.hid (HR1.out.below (onto_below _ y2))
                have HO2 := Lib.hid (HO1.out.below (onto_below _ y2))
                go_wp2_with fail
                refine wp_region_onto (by kernel_rfl) (by kernel_rfl) ?_
                repeat (go_big_quiet_step (fail))
                refine wpQuiet_nil ?_
                intro _ hw'
                obtain ⟨y3, hw''⟩ := hw'
                subst hw''
                have HR3 := Lib.hid (HR2.out.below (onto_below _ y3))
                have HO3 := Lib.hid (HO2.out.below (onto_below _ y3))
                have hfz := HR.out.free 8
                have hcast : ((k + 1 : Nat) : Int) = (k : Int) + 1 := by omega
                have ho4 := HO3.out.trans (HR3.out.set8 (k + 1))
                rw [hcast] at ho4
                clear hcast
                go_upto_region 14 with fail
                obtain ⟨X, hX⟩ : ∃ X, X = (onto wr ((y1.up y2).up y3)).setCell ⟨g, 8, none⟩ (.int .i64 ((k : Int) + 1)) := ⟨_, rfl⟩
                have ho5 : Only g { r with i := k + 1 } w X := by rw [hX]; exact ho4
                rw [← hX]
                clear hX ho4
                have HOX := Lib.hid ho5
                have HX := Lib.hid (show RB X g { r with i := k + 1 } from ho5.1)
                clear ho5
                obtain ⟨hgx, kdx, _, _, _, _, _, _, k7x, k8x, _⟩ := HX.out.cells
                dsimp only at kdx k7x k8x
                go_wp2_with fail
                refine wp_region_onto (by kernel_rfl) (by kernel_rfl) ?_
                repeat (go_big_quiet_step (first | (go_at_call 43; with_reducible exact calls_onto (is_any g { r with i := k + 1 } r.d false U1 hs1 _ (Lib.hid (HX.out.below (onto_below X _))))) | (go_at_call 43; with_reducible exact calls_onto (is_any g { r with i := k + 1 } 10 true U2 hs1 _ (Lib.hid (HX.out.below (onto_below X _)))))))
                refine wpQuiet_nil ?_
                intro _ hw'
                obtain ⟨y9, hw''⟩ := hw'
                subst hw''
                have HO9 := Lib.hid (HOX.out.below (onto_below X y9))
                go_wp2_with fail
                go_ret2
                refine ⟨toBA l0, true, k + 1, rfl, ?_, ?_⟩
                · rw [hF0.out]; intro _; exact ⟨rfl, rfl, HO9.out⟩
                · rw [hF0.out]; intro h; exact absurd rfl h
              · have U1 := Lib.hid (V1.out.trans c1)
                have U2 := Lib.hid (V2.out.trans c2)
                have U3 := Lib.hid (V3.out.trans c3)
                clear V1 V2 V3 c1 c2 c3 hst
                go_wp2_with fail
                refine wp_region_onto (by kernel_rfl) (by kernel_rfl) ?_
                repeat (go_big_quiet_step (fail))
                refine wpQuiet_nil ?_
                intro _ hw'
                obtain ⟨y1, hw''⟩ := hw'
                subst hw''
                have HR1 := Lib.hid (HR.out.below (onto_below wr y1))
                have HO1 := Lib.hid (HO.out.below (onto_below wr y1))
                obtain ⟨hg1, _, kq1, _, _, _, _, _, k71, k81, _⟩ := HR1.out.cells
                dsimp only at kq1 k71 k81
                go_wp2_with fail
                refine (above (is_any g { r with i := k } r.q true UQ hs1 _ HR1)).mono ?_
                rintro x _ ⟨rfl, y2, rfl⟩
                have HR2 := Lib.hid (HR1.out.below (onto_below _ y2))
                have HO2 := Lib.hid (HO1.out.below (onto_below _ y2))
                go_wp2_with fail
                refine wp_region_onto (by kernel_rfl) (by kernel_rfl) ?_
                repeat (go_big_quiet_step (fail))
                refine wpQuiet_nil ?_
                intro _ hw'
                obtain ⟨y3, hw''⟩ := hw'
                subst hw''
                have HR3 := Lib.hid (HR2.out.below (onto_below _ y3))
                have HO3 := Lib.hid (HO2.out.below (onto_below _ y3))
                have hfz := HR.out.free 8
                have hcast : ((k + 1 : Nat) : Int) = (k : Int) + 1 := by omega
                have ho4 := HO3.out.trans (HR3.out.set8 (k + 1))
                rw [hcast] at ho4
                clear hcast
                go_upto_region 14 with fail
                obtain ⟨X, hX⟩ : ∃ X, X = (onto wr ((y1.up y2).up y3)).setCell ⟨g, 8, none⟩ (.int .i64 ((k : Int) + 1)) := ⟨_, rfl⟩
                have ho5 : Only g { r with i := k + 1 } w X := by rw [hX]; exact ho4
                rw [← hX]
                clear hX ho4
                have HOX := Lib.hid ho5
                have HX := Lib.hid (show RB X g { r with i := k + 1 } from ho5.1)
                clear ho5
                obtain ⟨hgx, kdx, _, _, _, _, _, _, k7x, k8x, _⟩ := HX.out.cells
                dsimp only at kdx k7x k8x
                go_wp2_with fail
                refine wp_region_onto (by kernel_rfl) (by kernel_rfl) ?_
                repeat (go_big_quiet_step (first | (go_at_call 43; with_reducible exact calls_onto (is_any g { r with i := k + 1 } r.d false U1 hs1 _ (Lib.hid (HX.out.below (onto_below X _))))) | (go_at_call 43; with_reducible exact calls_onto (is_any g { r with i := k + 1 } 10 false U2 hs1 _ (Lib.hid (HX.out.below (onto_below X _))))) | (go_at_call 43; with_reducible exact calls_onto (is_any g { r with i := k + 1 } 13 true U3 hs1 _ (Lib.hid (HX.out.below (onto_below X _)))))))
                refine wpQuiet_nil ?_
                intro _ hw'
                obtain ⟨y9, hw''⟩ := hw'
                subst hw''
                have HO9 := Lib.hid (HOX.out.below (onto_below X y9))
                go_wp2_with fail
                go_ret2
                refine ⟨toBA l0, true, k + 1, rfl, ?_, ?_⟩
                · rw [hF0.out]; intro _; exact ⟨rfl, rfl, HO9.out⟩
                · rw [hF0.out]; intro h; exact absurd rfl h
        · -- the quote is the last byte
          have hrest : rest = [] := by rw [← HD.out]; exact bl_end r.s (k + 1) (by omega)
          have hF0 := Lib.hid (show F = ⟨0, l0, k + 1, []⟩ by rw [← HE.out, HB.out, hrest, qGo, if_pos HBQ.out]; rfl)
          have e1 : IntKind.i64.wrap ((k : Int) + 1) = (k : Int) + 1 := IntWalk.i64_in _ (by omega)
          have hn1 : ((k : Int) + 1 == (r.s.size : Int)) = true := by rw [beq_iff_eq]; omega
          have hdx : decide (k + 1 < r.s.size) = false := by simpa using hlt2
          have hdx' : decide ((k : Int) + 1 < (r.s.size : Int)) = false := by rw [decide_eq_false_iff_not]; omega
          clear hrest
          go_wp2_with fail
          refine wp_region_onto (by kernel_rfl) (by kernel_rfl) ?_
          repeat (go_big_quiet_step (fail))
          refine wpQuiet_nil ?_
          intro _ hw'
          obtain ⟨y1, hw''⟩ := hw'
          subst hw''
          have HR1 := Lib.hid (HR.out.below (onto_below wr y1))
          have HO1 := Lib.hid (HO.out.below (onto_below wr y1))
          obtain ⟨hg1, _, kq1, _, _, _, _, _, k71, k81, _⟩ := HR1.out.cells
          dsimp only at kq1 k71 k81
          go_wp2_with fail
          refine (above (is_any g { r with i := k } r.q true UQ hs1 _ HR1)).mono ?_
          rintro x _ ⟨rfl, y2, rfl⟩
          have HR2 := Lib.hid (HR1.out.below (onto_below _ y2))
          have HO2 := Lib.hid (HO1.out.below (onto_below _ y2))
          go_wp2_with fail
          refine wp_region_onto (by kernel_rfl) (by kernel_rfl) ?_
          repeat (go_big_quiet_step (fail))
          refine wpQuiet_nil ?_
          intro _ hw'
          obtain ⟨y3, hw''⟩ := hw'
          subst hw''
          have HR3 := Lib.hid (HR2.out.below (onto_below _ y3))
          have HO3 := Lib.hid (HO2.out.below (onto_below _ y3))
          have hfz := HR.out.free 8
          have hcast : ((k + 1 : Nat) : Int) = (k : Int) + 1 := by omega
          have ho4 := HO3.out.trans (HR3.out.set8 (k + 1))
          rw [hcast] at ho4
          clear hcast
          go_upto_region 14 with fail
          obtain ⟨X, hX⟩ : ∃ X, X = (onto wr ((y1.up y2).up y3)).setCell ⟨g, 8, none⟩ (.int .i64 ((k : Int) + 1)) := ⟨_, rfl⟩
          have ho5 : Only g { r with i := k + 1 } w X := by rw [hX]; exact ho4
          rw [← hX]
          clear hX ho4
          have HOX := Lib.hid ho5
          have HX := Lib.hid (show RB X g { r with i := k + 1 } from ho5.1)
          clear ho5
          obtain ⟨hgx, kdx, _, _, _, _, _, _, k7x, k8x, _⟩ := HX.out.cells
          dsimp only at kdx k7x k8x
          go_wp2_with fail
          refine wp_region_onto (by kernel_rfl) (by kernel_rfl) ?_
          repeat (go_big_quiet_step (fail))
          refine wpQuiet_nil ?_
          intro _ hw'
          obtain ⟨y9, hw''⟩ := hw'
          subst hw''
          have HO9 := Lib.hid (HOX.out.below (onto_below X y9))
          go_wp2_with fail
          go_ret2
          refine ⟨toBA l0, true, k + 1, rfl, ?_, ?_⟩
          · rw [hF0.out]; intro _; exact ⟨rfl, rfl, HO9.out⟩
          · rw [hF0.out]; intro h; exact absurd rfl h
      · have UQ := Lib.hid (VQ.out.trans (show (b == r.q) = false by simpa using hbq))
        have HNQ := Lib.hid hbq
        clear hbq
        by_cases hlf : (l0.length : Int) = r.lf
        · have HLF := Lib.hid hlf
          have hF7 := Lib.hid (show F = ⟨7, l0, k, []⟩ by rw [← HE.out, HB.out, qGo_no HNQ.out hlf]; rfl)
          clear hlf
          go_wp2_with fail
          refine wp_region_onto (by kernel_rfl) (by kernel_rfl) ?_
          repeat (go_big_quiet_step (fail))
          refine wpQuiet_nil ?_
          intro _ hw'
          obtain ⟨y1, hw''⟩ := hw'
          subst hw''
          have HR1 := Lib.hid (HR.out.below (onto_below wr y1))
          have HO1 := Lib.hid (HO.out.below (onto_below wr y1))
          obtain ⟨hg1, _, kq1, _, _, _, _, _, k71, k81, _⟩ := HR1.out.cells
          dsimp only at kq1 k71 k81
          go_wp2_with fail
          refine (above (is_any g { r with i := k } r.q false UQ hs1 _ HR1)).mono ?_
          rintro x _ ⟨rfl, y2, rfl⟩
          have HR2 := Lib.hid (HR1.out.below (onto_below _ y2))
          have HO2 := Lib.hid (HO1.out.below (onto_below _ y2))
          have HRN := HR2
          have HON := HO2
          go_wp2_with fail
          refine (add_no6 g { r with i := k } l0 (k) HLF h0 (by omega) _ HRN).mono ?_
          rintro x w3 ⟨rfl, ho⟩
          have HO4 := Lib.hid (HON.out.trans ho)
          clear ho
          go_wp2_with fail
          go_ret2
          refine ⟨toBA l0, false, k, rfl, ?_, ?_⟩
          · rw [hF7.out]; intro h; cases h
          · rw [hF7.out]; intro _; exact ⟨rfl, HO4.out⟩
        · have HLF := Lib.hid hlf
          have hE2 := Lib.hid (show behind r.d (qGo r.q r.lf (l0 ++ [b]) (k + 1) ((bl r.s).drop (k + 1))) = F by rw [← HE.out, HB.out, HD.out, qGo_go HNQ.out hlf])
          clear hlf
          go_wp2_with fail
          refine wp_region_onto (by kernel_rfl) (by kernel_rfl) ?_
          repeat (go_big_quiet_step (fail))
          refine wpQuiet_nil ?_
          intro _ hw'
          obtain ⟨y1, hw''⟩ := hw'
          subst hw''
          have HR1 := Lib.hid (HR.out.below (onto_below wr y1))
          have HO1 := Lib.hid (HO.out.below (onto_below wr y1))
          obtain ⟨hg1, _, kq1, _, _, _, _, _, k71, k81, _⟩ := HR1.out.cells
          dsimp only at kq1 k71 k81
          go_wp2_with fail
          refine (above (is_any g { r with i := k } r.q false UQ hs1 _ HR1)).mono ?_
          rintro x _ ⟨rfl, y2, rfl⟩
          have HR2 := Lib.hid (HR1.out.below (onto_below _ y2))
          have HO2 := Lib.hid (HO1.out.below (onto_below _ y2))
          have HRN := HR2
          have HON := HO2
          have hfz := HR.out.free 8
          go_wp2_with fail
          refine (add_yes6 g { r with i := k } l0 (k) b HG HLF (by omega) hs1 _ HRN).mono ?_
          rintro x _ ⟨rfl, rfl⟩
          go_wp2_with fail
          have ho4 := HON.out.trans (HRN.out.set8 (k + 1))
          have hcast : ((k + 1 : Nat) : Int) = (k : Int) + 1 := by omega
          rw [hcast] at ho4
          have HO4 := Lib.hid ho4
          clear ho4 hcast
          go_roundw
          case rel => exact ⟨k + 1, l0 ++ [b], by omega, by simp; omega, rfl, hE2, HO4⟩
          case measure => simp [strLen, toBA_size]; omega
    · obtain rfl : k = r.s.size := by omega
      have hdk : (r.s.size == r.s.size) = true := by simp
      have hF0 := Lib.hid (show F = ⟨11, l0, r.s.size, []⟩ by rw [← HE.out, bl_end r.s _ (Nat.le_refl _), qGo]; rfl)
      clear hlt
      go_wp2_with fail
      refine wp_region_onto (by kernel_rfl) (by kernel_rfl) ?_
      repeat (go_big_quiet_step (fail))
      refine wpQuiet_nil ?_
      intro _ hw'
      obtain ⟨y1, hw''⟩ := hw'
      subst hw''
      have HR1 := Lib.hid (HR.out.below (onto_below wr y1))
      have HO1 := Lib.hid (HO.out.below (onto_below wr y1))
      go_wp2_with fail
      refine (wrong_any g { r with i := r.s.size } 11 r.s.size h0 _ HR1).mono ?_
      rintro x w3 ⟨rfl, ho⟩
      have HO4 := Lib.hid (HO1.out.trans ho)
      clear ho
      go_wp2_with fail
      go_ret2
      refine ⟨toBA l0, false, r.s.size, rfl, ?_, ?_⟩
      · rw [hF0.out]; intro h; cases h
      · rw [hF0.out]; intro _; exact ⟨rfl, HO4.out⟩
end Go.Proofs.Ytoeanbfemgmgnaa

namespace Go.Proofs.Ytoeanbfemgmgnaa
open Go.ChangeShapes Go.WideShapes Go.ChangeAt Go.RowKit
set_option linter.unusedVariables false
set_option linter.unusedSimpArgs false

theorem infoStr : (Try.prog.info? 9).map (fun i => (i.zero, i.size, i.bytes)) = some (some (.string ⟨#[]⟩), 1, 16) := by kernel_rfl
theorem infoRow : (Try.prog.info? 64).map (fun i => (i.zero, i.size, i.bytes)) = some (some (.slice none 0 0), 1, 24) := by kernel_rfl
theorem infoInt : (Try.prog.info? 3).map (fun i => (i.zero, i.size, i.bytes)) = some (some (.int .i64 0), 1, 8) := by kernel_rfl

/-- Slices (V) that read as the records rs, each in a block of the call's own other than 'not'. -/
def RowsAt (w : World) (base : Nat) (e : TypeId) (V : List Value) (rs : List (List ByteArray)) (not : Option Nat) : Prop :=
  V.length = rs.length ∧ ∀ (j : Nat) (x : List ByteArray), rs[j]? = some x → ∃ A a, V[j]? = some (.slice A x.length a) ∧ SlOwn w base e A x.length a (strs x) ∧ ∀ k, blkOf A = some k → not ≠ some k
section
variable {w w' : World} {base : Nat} {e : TypeId} {V : List Value} {rs : List (List ByteArray)} {no : Option Nat}
theorem RowsAt.nothing (w : World) (base : Nat) (e : TypeId) (no : Option Nat) : RowsAt w base e [] [] no := ⟨rfl, fun j x h => by simp at h⟩
theorem RowsAt.keep (h : RowsAt w base e V rs no) (hk : ∀ k, k < w.heap.size → no ≠ some k → (∃ cur fz, w.heap[k]? = some (.cells cur e fz)) → w'.heap[k]? = w.heap[k]?) : RowsAt w' base e V rs no :=
  ⟨h.1, fun j x hx => by
    obtain ⟨A, a, hv, ho, hn⟩ := h.2 j x hx
    refine ⟨A, a, hv, ho.keep fun k hkA => hk k (ho.blk k hkA).2 (hn k hkA) ?_, hn⟩
    rcases ho.2.2.2 with ⟨rfl, _⟩ | ⟨q, cur, fz, rfl, _, hg, _⟩
    · cases hkA
    · have : q = k := by simpa [blkOf] using hkA
      subst this
      exact ⟨cur, fz, hg⟩⟩
theorem RowsAt.below (h : RowsAt w base e V rs no) (hb : Below w.heap.size w w') : RowsAt w' base e V rs no := h.keep fun k hk _ _ => hb.block k hk
theorem RowsAt.free (h : RowsAt w base e V rs no) : RowsAt w base e V rs none := ⟨h.1, fun j x hx => by
  obtain ⟨A, a, hv, ho, hn⟩ := h.2 j x hx
  exact ⟨A, a, hv, ho, fun k _ => by simp⟩⟩
theorem RowsAt.one (h : ∀ u ∈ V, u.oneCell' = true) : ∀ u ∈ V, u.oneCell' = true := h
theorem RowsAt.snoc (h : RowsAt w base e V rs none) {A : Option Addr} {a : Nat} {x : List ByteArray} (ho : SlOwn w base e A x.length a (strs x)) : RowsAt w base e (V ++ [.slice A x.length a]) (rs ++ [x]) none := by
  refine ⟨by simp [h.1], fun j y hy => ?_⟩
  by_cases hj : j < rs.length
  · rw [List.getElem?_append_left hj] at hy
    obtain ⟨B, b, hv, h2⟩ := h.2 j y hy
    exact ⟨B, b, by rw [List.getElem?_append_left (by rw [h.1]; exact hj)]; exact hv, h2⟩
  · rw [List.getElem?_append_right (by omega)] at hy
    have : j = rs.length := by
      have := (List.getElem?_eq_some_iff.1 hy).1
      simp at this; omega
    subst this
    simp at hy; subst hy
    exact ⟨A, a, by rw [← h.1]; simp, ho, fun k _ => by simp⟩
end

def ends (T : List (List ByteArray × Nat)) : List Value := T.map fun p => Value.int .i64 (p.2 : Int)
/-- The reader r, its record rc, its records T; all of it in blocks from base on. -/
def RdB (w : World) (base g : Nat) (r : Rd) (rc : List ByteArray) (T : List (List ByteArray × Nat)) : Prop :=
  ∃ (B : Option Addr) (d : Nat) (C : Option Addr) (c : Nat) (E : Option Addr) (ce : Nat) (V : List Value), base ≤ g ∧ base ≤ w.heap.size ∧
    RB w g { r with ro := .slice B rc.length d, rs := .slice C T.length c, es := .slice E T.length ce } ∧ SlOwn w base 9 B rc.length d (strs rc) ∧ SlOwn w base 64 C T.length c V ∧ (∀ u ∈ V, u.oneCell' = true) ∧
    SlOwn w base 3 E T.length ce (ends T) ∧ RowsAt w base 9 V (T.map (·.1)) (blkOf B)
theorem RdB.below {w w' : World} {base g : Nat} {r : Rd} {rc : List ByteArray} {T : List (List ByteArray × Nat)} (h : RdB w base g r rc T) (hb : Below w.heap.size w w') : RdB w' base g r rc T := by
  obtain ⟨B, d, C, c, E, ce, V, h1, h2, h3, h4, h5, h6, h7, h8⟩ := h
  exact ⟨B, d, C, c, E, ce, V, h1, Nat.le_trans h2 hb.size, h3.below hb, h4.below hb, h5.below hb, h6, h7.below hb, h8.below hb⟩

/-- The record is whole: what that leaves in memory. -/
theorem whole_end {w w1 w2 : World} {base g : Nat} {r : Rd} {rc : List ByteArray} {T : List (List ByteArray × Nat)} {a : Nat} {B C E C' E' : Option Addr} {d c ce c' ce' : Nat} {V : List Value} (hg : base ≤ g) (hb : base ≤ w.heap.size)
    (h3 : RB w g { r with ro := .slice B rc.length d, rs := .slice C T.length c, es := .slice E T.length ce }) (h4 : SlOwn w base 9 B rc.length d (strs rc)) (h5 : SlOwn w base 64 C T.length c V) (h6 : ∀ u ∈ V, u.oneCell' = true) (h7 : SlOwn w base 3 E T.length ce (ends T))
    (h8 : RowsAt w base 9 V (T.map (·.1)) (blkOf B)) (t1 : Touch w w1 (fun k => k = g ∨ blkOf C = some k)) {cs1 : Array Value} (hg1 : StB w1 g 99 cs1) (o1 : SlOwn w1 base 64 C' (T.length + 1) c' (V ++ [.slice B rc.length d]))
    (hE1 : SlOwn w1 base 3 E T.length ce (ends T)) (t2 : Touch w1 w2 (fun k => k = g ∨ blkOf E = some k)) (o2 : SlOwn w2 base 3 E' (T.length + 1) ce' (ends T ++ [.int .i64 (a : Int)]))
    (h9 : RB w2 g { r with ro := .slice none 0 0, rs := .slice C' (T.length + 1) c', es := .slice E' (T.length + 1) ce' }) : RdB w2 base g r [] (T ++ [(rc, a)]) ∧ Below base w w2 := by
  have gB := h4.unlike_st h3 (by decide)
  have rowB1 : SlOwn w1 base 9 B rc.length d (strs rc) := h4.touch t1 fun k hk h => by
    rcases h with h | h
    · exact gB k hk h
    · exact h4.unlike h5 (by decide) k hk h
  have rb1 : RB w2 g _ := h9
  have rowB2 : SlOwn w2 base 9 B rc.length d (strs rc) := rowB1.touch t2 fun k hk h => by
    rcases h with h | h
    · exact gB k hk h
    · exact rowB1.unlike hE1 (by decide) k hk h
  have rows1 : RowsAt w1 base 9 V (T.map (·.1)) none := h8.free.keep fun k hk _ ⟨cur, fz, hc⟩ => t1.block k hk fun h => by
    rcases h with rfl | h
    · unfold RB StB at h3; rw [h3] at hc; injection hc with hc; injection hc with _ h2 _; exact absurd h2 (by decide)
    · rcases h5.2.2.2 with ⟨rfl, _⟩ | ⟨q, cur', fz', rfl, _, hq, _⟩
      · cases h
      · have : q = k := by simpa [blkOf] using h
        subst this
        rw [hq] at hc; injection hc with hc; injection hc with _ h2 _; exact absurd h2 (by decide)
  have rows2 : RowsAt w2 base 9 V (T.map (·.1)) none := rows1.keep fun k hk _ ⟨cur, fz, hc⟩ => t2.block k hk fun h => by
    rcases h with rfl | h
    · unfold StB at hg1; rw [hg1] at hc; injection hc with hc; injection hc with _ h2 _; exact absurd h2 (by decide)
    · rcases hE1.2.2.2 with ⟨rfl, _⟩ | ⟨q, cur', fz', rfl, _, hq, _⟩
      · cases h
      · have : q = k := by simpa [blkOf] using h
        subst this
        rw [hq] at hc; injection hc with hc; injection hc with _ h2 _; exact absurd h2 (by decide)
  have o1' : SlOwn w2 base 64 C' (T.length + 1) c' (V ++ [.slice B rc.length d]) := o1.touch t2 fun k hk h => by
    rcases h with h | h
    · exact o1.unlike_st hg1 (by decide) k hk h
    · exact o1.unlike hE1 (by decide) k hk h
  refine ⟨⟨none, 0, C', c', E', ce', V ++ [.slice B rc.length d], hg, Nat.le_trans hb (Nat.le_trans t1.size t2.size), ?_, SlOwn.nothing _ _ _, ?_, ?_, ?_, ?_⟩, ?_⟩
  · simpa using h9
  · simpa using o1'
  · intro u hu
    rcases List.mem_append.1 hu with hu | hu
    · exact h6 u hu
    · rw [List.mem_singleton.1 hu]; rfl
  · simpa [ends] using o2
  · have := rows2.snoc rowB2
    show RowsAt w2 base 9 (V ++ [.slice B rc.length d]) ((T ++ [(rc, a)]).map (·.1)) none
    simpa using this
  · have b1 : Below base w w1 := t1.below hb fun k hk => by
      rcases hk with rfl | hk
      · exact hg
      · exact (h5.blk k hk).1
    exact b1.trans (t2.below (Nat.le_trans hb t1.size) fun k hk => by
      rcases hk with rfl | hk
      · exact hg
      · exact (hE1.blk k hk).1)

set_option maxRecDepth 100000 in
set_option maxHeartbeats 3200000 in
theorem whole_any6 (base g : Nat) (r : Rd) (rc : List ByteArray) (T : List (List ByteArray × Nat)) (a : Nat) (hT : T.length ≤ 1000) (w : World) (h : RdB w base g r rc T) :
    Calls Try.prog 68 #[.pointer (some ⟨g, 0, none⟩), .int .i64 a] w fun x w' => x = .returned (.tuple #[]) ∧ RdB w' base g r [] (T ++ [(rc, a)]) ∧ Below base w w' := by
  obtain ⟨B, d, C, c, E, ce, V, h1, h2, h3, h4, h5, h6, h7, h8⟩ := h
  obtain ⟨i0, hi, hz0, hz1, hz2⟩ := info_parts infoRow
  obtain ⟨j0, hj, hy0, hy1, hy2⟩ := info_parts infoInt
  have Hi := Lib.hid hi
  have Hz0 := Lib.hid hz0
  have Hz1 := Lib.hid hz1
  have Hz2 := Lib.hid hz2
  have Hj := Lib.hid hj
  have Hy0 := Lib.hid hy0
  have Hy1 := Lib.hid hy1
  have Hy2 := Lib.hid hy2
  have c10 : w.cell? ⟨g, 10, none⟩ = some (.slice B rc.length d) := StB.cell h3 10
  have c11 : w.cell? ⟨g, 11, none⟩ = some (.slice C T.length c) := StB.cell h3 11
  have c12 : w.cell? ⟨g, 12, none⟩ = some (.slice E T.length ce) := StB.cell h3 12
  have hg : g < w.heap.size := StB.lt h3
  have H1 := Lib.hid h1
  have H2 := Lib.hid h2
  have H3 := Lib.hid h3
  have H4 := Lib.hid h4
  have H5 := Lib.hid h5
  have H6 := Lib.hid h6
  have H7 := Lib.hid h7
  have H8 := Lib.hid h8
  have B0 := Lib.hid (up_alloc ((Below.refl _ w).drew) (.cells #[.slice B rc.length d] 64))
  have hgC := Lib.hid (h5.unlike_st h3 (by decide))
  clear h1 h2 h3 h4 h5 h6 h7 h8 hi hz0 hz1 hz2 hj hy0 hy1 hy2
  go_enter Try.func68, Try.ntmps68
  go_wp2_with fail
  go_region_law ((refine step_append_sl rfl (.tmp 9) (.tmp 14) 31 rfl 64 i0 (.slice none 0 0) 24 Try.underlying31 Hi.out Hz0.out Hz1.out Hz2.out rfl base C T.length c V (by simp [Act.eval, Act.put]) (H5.out.below B0.out) (some ⟨w.heap.size, 0, none⟩) 1 1 [.slice B rc.length d] (by simp [Act.eval, Act.put]) (slIn_new1 w.drew 64 _) (by intro u hu; simp at hu; subst hu; rfl) (by unfold maxLen; omega) (by omega) (Nat.le_trans H2.out B0.out.size) ?_); intro C' c' w1 hown hgrow hat; have st := (StB.below H3.out B0.out).grown hgrow (fun e => hgC.out g e.symm rfl); have e11 : w1.cell? ⟨g, 11, none⟩ = some (.slice C T.length c) := st.cell 11; have e12 : w1.cell? ⟨g, 12, none⟩ = some (.slice E T.length ce) := st.cell 12; have e10 : w1.cell? ⟨g, 10, none⟩ = some (.slice B rc.length d) := st.cell 10; have f10 := st.free 10; have f11 := st.free 11; have f12 := st.free 12; have hg1 := st.lt; have HO := Lib.hid hown; have HG := Lib.hid hgrow; have HST := Lib.hid st; clear st hown hgrow hat)
  all_goals
    have t1 : Touch w (w1.setCell ⟨g, 11, none⟩ (.slice C' (T.length + 1) c')) (fun k => k = g ∨ blkOf C = some k) :=
      Touch.then_set (S := fun k => k = g ∨ blkOf C = some k) ((Touch.of_below B0.out (fun k => k = g ∨ blkOf C = some k)).then_grown HG.out (fun j hj => .inl (.inr hj))) (p := ⟨g, 11, none⟩) (.inl (.inl rfl)) _
    have st2 := HST.out.set_ 11 (.slice C' (T.length + 1) c')
    have o1 : SlOwn (w1.setCell ⟨g, 11, none⟩ (.slice C' (T.length + 1) c')) base 64 C' (T.length + 1) c' (V ++ [.slice B rc.length d]) := HO.out.keep fun k hk => Below.heap_setCell _ _ _ k (HO.out.unlike_st HST.out (by decide) k hk)
    have hE1 : SlOwn (w1.setCell ⟨g, 11, none⟩ (.slice C' (T.length + 1) c')) base 3 E T.length ce (ends T) := H7.out.touch t1 fun k hk h => by
      rcases h with h | h
      · exact H7.out.unlike_st H3.out (by decide) k hk h
      · exact H7.out.unlike H5.out (by decide) k hk h
    obtain ⟨W2, hW2⟩ : ∃ W2, W2 = w1.setCell ⟨g, 11, none⟩ (.slice C' (T.length + 1) c') := ⟨_, rfl⟩
    rw [← hW2]
    rw [← hW2] at t1 st2 o1 hE1
    have k10 : W2.cell? ⟨g, 10, none⟩ = some (.slice B rc.length d) := st2.cell 10
    have k12 : W2.cell? ⟨g, 12, none⟩ = some (.slice E T.length ce) := st2.cell 12
    have hg2 := st2.lt
    have T1 := Lib.hid t1
    have ST2 := Lib.hid st2
    have O1 := Lib.hid o1
    have HE1 := Lib.hid hE1
    have HEA := Lib.hid (hE1.below (up_alloc (Below.refl _ W2) (.cells #[.int .i64 (a : Int)] 3)))
    have hbW := Lib.hid (Nat.le_trans H2.out (Nat.le_trans t1.size (up_alloc (Below.refl _ W2) (.cells #[.int .i64 (a : Int)] 3)).size))
    clear hW2 t1 st2 o1 hE1 e10 e11 e12 f10 f11 f12 hg1 c10 c11 c12 HST HO HG
    go_wp2_with (at_builtin; refine wpList_append_sl _ rfl (.tmp 24) (.tmp 26) 28 rfl 3 j0 (.int .i64 0) 8 Try.underlying28 Hj.out Hy0.out Hy1.out Hy2.out rfl base E T.length ce (ends T) rfl HEA.out (some ⟨W2.heap.size, 0, none⟩) 1 1 [.int .i64 (a : Int)] rfl (slIn_new1 W2 3 _) (by intro u hu; simp at hu; subst hu; rfl) (by unfold maxLen; omega) (by omega) hbW.out ?_; intro E' ce' w3 hown2 hgrow2 _; have st3 := (ST2.out.alloc (.cells #[.int .i64 (a : Int)] 3)).grown hgrow2 (fun e => HE1.out.unlike_st ST2.out (by decide) g e.symm rfl); have m12 : w3.cell? ⟨g, 12, none⟩ = some (.slice E T.length ce) := st3.cell 12; have m10 : w3.cell? ⟨g, 10, none⟩ = some (.slice B rc.length d) := st3.cell 10; have n12 := st3.free 12; have n10 := st3.free 10; have hg3 := st3.lt; have ST3 := Lib.hid st3; have HO2 := Lib.hid hown2; have HG2 := Lib.hid hgrow2; clear st3 hown2 hgrow2)
    go_wp2_with fail
    go_end0
    refine ⟨rfl, whole_end H1.out H2.out H3.out H4.out H5.out H6.out H7.out H8.out T1.out ST2.out O1.out HE1.out ?_ (E' := E') (ce' := ce') ?_ ?_⟩
    · refine Touch.then_set (S := fun k => k = g ∨ blkOf E = some k) (Touch.then_set (S := fun k => k = g ∨ blkOf E = some k) ?_ (p := ⟨g, 12, none⟩) (.inl (.inl rfl)) _) (p := ⟨g, 10, none⟩) (.inl (.inl rfl)) _
      exact (Touch.of_below (up_alloc (Below.refl _ W2) _) _).then_grown HG2.out (fun j hj => .inl (.inr hj))
    · have := HO2.out.keep (w' := (w3.setCell ⟨g, 12, none⟩ (.slice E' (T.length + 1) ce')).setCell ⟨g, 10, none⟩ (.slice none 0 0)) fun k hk => by
        have hne := HO2.out.unlike_st ST3.out (by decide) k hk
        rw [Below.heap_setCell _ _ _ k hne, Below.heap_setCell _ _ _ k hne]
      exact this
    · have := (ST3.out.set_ 12 (.slice E' (T.length + 1) ce')).set_ 10 (.slice none 0 0)
      simpa [RB, rdCells] using this
end Go.Proofs.Ytoeanbfemgmgnaa

namespace Go.Proofs.Ytoeanbfemgmgnaa
open Go.ChangeShapes Go.WideShapes Go.ChangeAt Go.RowKit
set_option linter.unusedVariables false
set_option linter.unusedSimpArgs false

/-- The first record's number of fields. -/
def wdOf (T : List (List ByteArray × Nat)) : Nat := match T with | [] => 0 | p :: _ => p.1.length
section
variable {w w' : World} {base g : Nat} {r : Rd} {rc : List ByteArray} {T : List (List ByteArray × Nat)}
/-- The reader opened: its own cells, and how it is put together again where it alone has turned. -/
theorem RdB.open_ (h : RdB w base g r rc T) : ∃ (B : Option Addr) (d : Nat) (C : Option Addr) (c : Nat) (E : Option Addr) (ce : Nat),
    RB w g { r with ro := .slice B rc.length d, rs := .slice C T.length c, es := .slice E T.length ce } ∧ T.length ≤ c ∧ base ≤ g ∧ base ≤ w.heap.size ∧
    (0 < T.length → ∃ A1 c1 a1, C = some a1 ∧ w.cell? a1 = some (.slice A1 (wdOf T) c1)) ∧
    ∀ (w' : World) (r' : Rd), Touch w w' (fun k => k = g) → RB w' g { r' with ro := .slice B rc.length d, rs := .slice C T.length c, es := .slice E T.length ce } → RdB w' base g r' rc T ∧ Below base w w' := by
  obtain ⟨B, d, C, c, E, ce, V, h1, h2, h3, h4, h5, h6, h7, h8⟩ := h
  refine ⟨B, d, C, c, E, ce, h3, h5.2.1, h1, h2, fun hT => ?_, fun w' r' t h' => ⟨⟨B, d, C, c, E, ce, V, h1, Nat.le_trans h2 t.size, h', h4.touch t (h4.unlike_st h3 (by decide)), h5.touch t (h5.unlike_st h3 (by decide)), h6, h7.touch t (h7.unlike_st h3 (by decide)), h8.keep fun k hk _ ⟨cur, fz, hc⟩ => t.block k hk fun e => ?_⟩, t.below h2 fun k hk => by rw [hk]; exact h1⟩⟩
  · match T, hT, h5, h8 with
    | p :: T', _, h5, h8 =>
      obtain ⟨A1, c1, hv, _, _⟩ := h8.2 0 p.1 (by simp)
      obtain ⟨a1, ha, hc⟩ := h5.toIn.at_ hv
      exact ⟨A1, c1, a1, ha, by simpa [Addr.add, wdOf] using hc⟩
  · subst e
    unfold RB StB at h3
    rw [h3] at hc; injection hc with hc; injection hc with _ h2 _; exact absurd h2 (by decide)
theorem RdB.base_le (h : RdB w base g r rc T) : base ≤ w.heap.size := by
  obtain ⟨_, _, _, _, _, _, _, _, _, h2, _⟩ := h.open_
  exact h2
theorem RdB.cells (h : RdB w base g r rc T) : g < w.heap.size ∧ w.cell? ⟨g, 0, none⟩ = some (.int .i64 r.d) ∧ w.cell? ⟨g, 1, none⟩ = some (.int .i64 r.q) ∧ w.cell? ⟨g, 4, none⟩ = some (.int .i64 r.ls) ∧ w.cell? ⟨g, 5, none⟩ = some (.int .i64 r.lr) ∧ w.cell? ⟨g, 6, none⟩ = some (.int .i64 r.un) ∧
    w.cell? ⟨g, 7, none⟩ = some (.string r.s) ∧ w.cell? ⟨g, 8, none⟩ = some (.int .i64 r.i) ∧ w.cell? ⟨g, 9, none⟩ = some (.int .i64 r.bg) ∧ w.cell? ⟨g, 13, none⟩ = some (.int .i64 r.k) ∧
    (∃ B d, w.cell? ⟨g, 10, none⟩ = some (.slice B rc.length d)) ∧ ∃ C c, T.length ≤ c ∧ w.cell? ⟨g, 11, none⟩ = some (.slice C T.length c) ∧ (0 < T.length → ∃ A1 c1 a1, C = some a1 ∧ w.cell? a1 = some (.slice A1 (wdOf T) c1)) := by
  obtain ⟨B, d, C, c, E, ce, h3, hc, _, _, hf, _⟩ := h.open_
  obtain ⟨a, k0, k1, k2, k3, k4, k5, k6, k7, k8, k9, k10, k11, k12, k13, k14⟩ := RB.cells h3
  exact ⟨a, k0, k1, k4, k5, k6, k7, k8, k9, k13, ⟨B, d, k10⟩, C, c, hc, k11, hf⟩
theorem RdB.free (h : RdB w base g r rc T) (i : Nat) : w.frozen? ⟨g, i, none⟩ = false := by
  obtain ⟨B, d, C, c, E, ce, h3, _⟩ := h.open_
  exact RB.free h3 i
theorem RdB.set8 (h : RdB w base g r rc T) (n : Nat) : RdB (w.setCell ⟨g, 8, none⟩ (.int .i64 n)) base g { r with i := n } rc T ∧ Below base w (w.setCell ⟨g, 8, none⟩ (.int .i64 n)) := by
  obtain ⟨B, d, C, c, E, ce, h3, _, _, _, _, put⟩ := h.open_
  have o := RB.set8 h3 n
  exact put _ { r with i := n } o.2 o.1
theorem RdB.set9 (h : RdB w base g r rc T) (n : Int) : RdB (w.setCell ⟨g, 9, none⟩ (.int .i64 n)) base g { r with bg := n } rc T ∧ Below base w (w.setCell ⟨g, 9, none⟩ (.int .i64 n)) := by
  obtain ⟨B, d, C, c, E, ce, h3, _, _, _, _, put⟩ := h.open_
  refine put _ { r with bg := n } (then_self (Touch.refl w _) 9 _) ?_
  have := StB.set_ h3 9 (.int .i64 n)
  simpa [RB, rdCells] using this
end
/-- The reader has turned to r', its record and records as they were. -/
def RdOut (base g : Nat) (v : Value) (r' : Rd) (rc : List ByteArray) (T : List (List ByteArray × Nat)) (w : World) (x : Ending) (w' : World) : Prop :=
  x = .returned v ∧ Hid (RdB w' base g r' rc T) ∧ Hid (Below base w w')

section
variable (base g : Nat) (r : Rd) (rc : List ByteArray) (T : List (List ByteArray × Nat)) (w : World) (h : Hid (RdB w base g r rc T))
include h
theorem is_rd (b : Int) (v : Bool) (hv : Hid (isB r.s r.i b = v)) (hs : r.s.size ≤ 1000) : Calls Try.prog 43 #[.pointer (some ⟨g, 0, none⟩), .int .i64 b] w fun x w' => x = .returned (.bool v) ∧ Below w.heap.size w w' := by
  obtain ⟨B, d, C, c, E, ce, h3, _⟩ := h.out.open_
  exact is_any g { r with ro := .slice B rc.length d, rs := .slice C T.length c, es := .slice E T.length ce } b v hv hs w (Lib.hid h3)
theorem wrong_rd (kind : Int) (a : Nat) (h0 : Hid (r.k = 0)) : Calls Try.prog 64 #[.pointer (some ⟨g, 0, none⟩), .int .i64 kind, .int .i64 a] w (RdOut base g (.bool false) { r with k := kind, at_ := a } rc T w) := by
  obtain ⟨B, d, C, c, E, ce, h3, _, _, _, _, put⟩ := h.out.open_
  refine (wrong_any g { r with ro := .slice B rc.length d, rs := .slice C T.length c, es := .slice E T.length ce } kind a h0 w (Lib.hid h3)).mono ?_
  rintro x w' ⟨rfl, o⟩
  have := put w' { r with k := kind, at_ := a } o.2 o.1
  exact ⟨rfl, Lib.hid this.1, Lib.hid this.2⟩
theorem feed_rd (b10 : Bool) (hv : Hid (isB r.s r.i 10 = b10)) (hs : r.s.size ≤ 1000) (h0 : Hid (r.k = 0)) (n : Int) (hn : Hid (fdN r.e b10 = n)) : Calls Try.prog 44 #[.pointer (some ⟨g, 0, none⟩)] w (RdOut base g (.int .i64 n) (if n = 0 then { r with k := 6, at_ := r.i } else r) rc T w) := by
  obtain ⟨B, d, C, c, E, ce, h3, _, _, _, _, put⟩ := h.out.open_
  refine (rfeed_any g { r with ro := .slice B rc.length d, rs := .slice C T.length c, es := .slice E T.length ce } b10 hv hs h0 w (Lib.hid h3)).mono ?_
  rintro x w' ⟨rfl, o⟩
  rw [hn.out] at o
  rw [hn.out]
  have : RdB w' base g (if n = 0 then { r with k := 6, at_ := r.i } else r) rc T ∧ Below base w w' := by
    refine put w' _ o.2 ?_
    have := o.1
    split at this
    · rename_i hz; rw [if_pos hz]; exact this
    · rename_i hz; rw [if_neg hz]; exact this
  exact ⟨rfl, Lib.hid this.1, Lib.hid this.2⟩
theorem second_rd (v : Bool) (hv : Hid (isB r.s (r.i + 1) 10 = v)) (hs : r.s.size ≤ 1000) (hi : r.i ≤ 1000) (h0 : Hid (r.k = 0)) : Calls Try.prog 45 #[.pointer (some ⟨g, 0, none⟩)] w (RdOut base g (.bool v) (if v = true then r else { r with k := 6, at_ := r.i + 1 }) rc T w) := by
  obtain ⟨B, d, C, c, E, ce, h3, _, _, _, _, put⟩ := h.out.open_
  refine (second_any g { r with ro := .slice B rc.length d, rs := .slice C T.length c, es := .slice E T.length ce } v hv hs hi h0 w (Lib.hid h3)).mono ?_
  rintro x w' ⟨rfl, o⟩
  have : RdB w' base g (if v = true then r else { r with k := 6, at_ := r.i + 1 }) rc T ∧ Below base w w' := by
    refine put w' _ o.2 ?_
    have := o.1
    split at this
    · rename_i hz; rw [if_pos hz]; exact this
    · rename_i hz; rw [if_neg hz]; exact this
  exact ⟨rfl, Lib.hid this.1, Lib.hid this.2⟩
theorem width_rd (a : Nat) (hun : r.un = 0 ∨ r.un = 1) (hm : rc.length ≤ 1000000) (hn : T.length ≤ 1000000) (hf : wdOf T ≤ 1000000) (v : Bool) (hv : Hid (v = !decide (r.un = 1 ∧ 0 < T.length ∧ rc.length ≠ wdOf T))) (h0 : Hid (r.k = 0)) :
    Calls Try.prog 67 #[.pointer (some ⟨g, 0, none⟩), .int .i64 a] w (RdOut base g (.bool v) (if v = true then r else { r with k := 10, at_ := a }) rc T w) := by
  obtain ⟨B, d, C, c, E, ce, h3, hc, _, _, hfirst, put⟩ := h.out.open_
  refine (width_any g { r with ro := .slice B rc.length d, rs := .slice C T.length c, es := .slice E T.length ce } a B C d c rc.length T.length (Lib.hid rfl) (Lib.hid rfl) hun hm hn (wdOf T) hf v hv h0 w (Lib.hid h3) hfirst hc).mono ?_
  rintro x w' ⟨rfl, o⟩
  have : RdB w' base g (if v = true then r else { r with k := 10, at_ := a }) rc T ∧ Below base w w' := by
    refine put w' _ o.2 ?_
    have := o.1
    split at this
    · rename_i hz; rw [if_pos hz]; exact this
    · rename_i hz; rw [if_neg hz]; exact this
  exact ⟨rfl, Lib.hid this.1, Lib.hid this.2⟩
end
/-- What a field leaves, of the whole reader. -/
def FldRd (base g : Nat) (r : Rd) (rc : List ByteArray) (T : List (List ByteArray × Nat)) (F : Fld) (w : World) (t : ByteArray) (ok : Bool) (i' : Nat) (w' : World) : Prop :=
  Below base w w' ∧ (F.k = 0 → ok = true ∧ t = toBA F.f ∧ RdB w' base g { r with i := F.i } rc T) ∧ (F.k ≠ 0 → ok = false ∧ RdB w' base g { r with i := i', k := F.k, at_ := F.i } rc T)
section
variable (base g : Nat) (r : Rd) (rc : List ByteArray) (T : List (List ByteArray × Nat)) (w : World) (h : Hid (RdB w base g r rc T))
include h
omit h in
theorem fld_rd {B C E : Option Addr} {d c ce : Nat} {F : Fld} {x : Ending} {w' : World} (put : ∀ (w' : World) (r' : Rd), Touch w w' (fun k => k = g) → RB w' g { r' with ro := .slice B rc.length d, rs := .slice C T.length c, es := .slice E T.length ce } → RdB w' base g r' rc T ∧ Below base w w')
    (o : FieldOut g { r with ro := .slice B rc.length d, rs := .slice C T.length c, es := .slice E T.length ce } F w x w') : ∃ t ok i', x = .returned (.tuple #[.string t, .bool ok]) ∧ Hid (FldRd base g r rc T F w t ok i' w') := by
  obtain ⟨t, ok, i', rfl, o1, o2⟩ := o
  refine ⟨t, ok, i', rfl, Lib.hid ?_⟩
  by_cases hk : F.k = 0
  · obtain ⟨a1, a2, a3⟩ := o1 hk
    have := put w' { r with i := F.i } a3.2 a3.1
    exact ⟨this.2, fun _ => ⟨a1, a2, this.1⟩, fun h => absurd hk h⟩
  · obtain ⟨a1, a3⟩ := o2 hk
    have := put w' { r with i := i', k := F.k, at_ := F.i } a3.2 a3.1
    exact ⟨this.2, fun h => absurd h hk, fun _ => ⟨a1, this.1⟩⟩
theorem bare_rd (hi : r.i ≤ r.s.size) (hs : r.s.size ≤ 980) (h0 : Hid (r.k = 0)) (F : Fld) (hF : Hid (bGo r.d r.q r.lf [] r.i ((bl r.s).drop r.i) = F)) :
    Calls Try.prog 66 #[.pointer (some ⟨g, 0, none⟩)] w fun x w' => ∃ t ok i', x = .returned (.tuple #[.string t, .bool ok]) ∧ Hid (FldRd base g r rc T F w t ok i' w') := by
  obtain ⟨B, d, C, c, E, ce, h3, _, _, _, _, put⟩ := h.out.open_
  exact (bare_any6 g { r with ro := .slice B rc.length d, rs := .slice C T.length c, es := .slice E T.length ce } hi hs h0 w (Lib.hid h3) F hF).mono fun x w' o => fld_rd base g r rc T w put o
theorem quoted_rd (hi : r.i ≤ r.s.size) (hs : r.s.size ≤ 980) (h0 : Hid (r.k = 0)) (F : Fld) (hF : Hid (behind r.d (qGo r.q r.lf [] r.i ((bl r.s).drop r.i)) = F)) :
    Calls Try.prog 65 #[.pointer (some ⟨g, 0, none⟩)] w fun x w' => ∃ t ok i', x = .returned (.tuple #[.string t, .bool ok]) ∧ Hid (FldRd base g r rc T F w t ok i' w') := by
  obtain ⟨B, d, C, c, E, ce, h3, _, _, _, _, put⟩ := h.out.open_
  exact (quoted_any6 g { r with ro := .slice B rc.length d, rs := .slice C T.length c, es := .slice E T.length ce } hi hs h0 w (Lib.hid h3) F hF).mono fun x w' o => fld_rd base g r rc T w put o
end

/-- A field put behind the record's: what that leaves in memory. -/
theorem app_end {w w' : World} {base g : Nat} {r : Rd} {rc : List ByteArray} {T : List (List ByteArray × Nat)} {t : ByteArray} {B C E B' : Option Addr} {d c ce d' : Nat} {V : List Value} (h1 : base ≤ g) (h2 : base ≤ w.heap.size)
    (h3 : RB w g { r with ro := .slice B rc.length d, rs := .slice C T.length c, es := .slice E T.length ce }) (h4 : SlOwn w base 9 B rc.length d (strs rc)) (h5 : SlOwn w base 64 C T.length c V) (h6 : ∀ u ∈ V, u.oneCell' = true) (h7 : SlOwn w base 3 E T.length ce (ends T))
    (h8 : RowsAt w base 9 V (T.map (·.1)) (blkOf B)) (u : Value) (hown : SlOwn w' base 9 B' (rc.length + 1) d' (strs rc ++ [.string t])) (hg : (w.alloc (.cells #[u] 9)).grownBy w' (blkOf B)) (hat : B' = B ∨ B' = some ⟨w.heap.size + 1, 0, none⟩) :
    RdB (w'.setCell ⟨g, 10, none⟩ (.slice B' (rc.length + 1) d')) base g r (rc ++ [t]) T ∧ Below base w (w'.setCell ⟨g, 10, none⟩ (.slice B' (rc.length + 1) d')) := by
  have b0 : Below w.heap.size w (w.alloc (.cells #[u] 9)) := up_alloc (Below.refl _ w) _
  have gB := h4.unlike_st h3 (by decide)
  have st := (StB.below h3 b0).grown hg (fun e => gB g e.symm rfl)
  have gB' := hown.unlike_st st (by decide)
  have t1 : Touch w w' (fun k => blkOf B = some k) := (Touch.of_below b0 _).then_grown hg fun j hj => .inl hj
  have o5 := (h5.touch t1 fun k hk h => h5.unlike h4 (by decide) k hk h)
  have o7 := (h7.touch t1 fun k hk h => h7.unlike h4 (by decide) k hk h)
  have keep : ∀ k, k ≠ g → (w'.setCell ⟨g, 10, none⟩ (.slice B' (rc.length + 1) d')).heap[k]? = w'.heap[k]? := fun k hk => Below.heap_setCell _ _ _ k hk
  refine ⟨⟨B', d', C, c, E, ce, V, h1, ?_, ?_, ?_, o5.keep fun k hk => keep k (o5.unlike_st st (by decide) k hk), h6, o7.keep fun k hk => keep k (o7.unlike_st st (by decide) k hk), ?_⟩, ?_⟩
  · have := t1.size; simp [World.setCell]; omega
  · have := st.set_ 10 (.slice B' (rc.length + 1) d')
    simpa [RB, rdCells] using this
  · have := hown.keep (w' := w'.setCell ⟨g, 10, none⟩ (.slice B' (rc.length + 1) d')) fun k hk => keep k (gB' k hk)
    simpa [strs] using this
  · refine ⟨h8.1, fun j x hx => ?_⟩
    obtain ⟨A, a, hv, ho, hn⟩ := h8.2 j x hx
    have ho1 := ho.touch t1 fun k hk h => hn k hk h
    refine ⟨A, a, hv, ho1.keep fun k hk => keep k (ho1.unlike_st st (by decide) k hk), fun k hk h => ?_⟩
    rcases hat with rfl | rfl
    · exact hn k hk h
    · simp [blkOf] at h
      have := (ho.blk k hk).2
      omega
  · have b1 : Below base w w' := t1.below h2 fun k hk => (h4.blk k hk).1
    exact b1.trans ⟨rfl, rfl, rfl, by simp [World.setCell], fun k hk => keep k (by omega)⟩
end Go.Proofs.Ytoeanbfemgmgnaa

namespace Go.Proofs.Ytoeanbfemgmgnaa
open Go.ChangeShapes Go.WideShapes Go.ChangeAt Go.RowKit
set_option linter.unusedVariables false
set_option linter.unusedSimpArgs false

/-- The maker of the reader r, its record rc, its records T. -/
def mkOf (r : Rd) (rc : List ByteArray) (T : List (List ByteArray × Nat)) : Mk := ⟨r.lf, r.ls, r.lr, decide (r.un = 1), [], rc, r.bg, (T.length : Int), (wdOf T : Int), 0⟩
/-- What the rest of a text is behind a field that is whole. -/
def Rest (d : Int) (l : List Int) (i : Nat) (F : Fld) : Prop := ∃ n, n ≤ l.length ∧ F.i = i + n ∧ F.l = l.drop n ∧ ∀ b r, F.l = b :: r → stops d b = true
theorem bGo_rest (d q lf : Int) : ∀ (l f : List Int) (i : Nat), (bGo d q lf f i l).k = 0 → Rest d l i (bGo d q lf f i l) := by
  intro l
  induction l with
  | nil => intro f i _; exact ⟨0, Nat.le_refl _, rfl, rfl, fun b r h => by simp [bGo] at h⟩
  | cons b r ih =>
    intro f i h
    cases hs : stops d b with
    | true =>
      have e : bGo d q lf f i (b :: r) = ⟨0, f, i, b :: r⟩ := by rw [bGo, if_pos hs]
      rw [e]
      exact ⟨0, Nat.zero_le _, rfl, rfl, fun c t hc => by simp at hc; rw [← hc.1]; exact hs⟩
    | false =>
      by_cases hq : b = q
      · have e : bGo d q lf f i (b :: r) = ⟨4, f, i, []⟩ := by rw [bGo, hs, if_neg (by simp), if_pos hq]
        rw [e] at h; exact absurd h (by simp)
      · by_cases hl : (f.length : Int) = lf
        · have e : bGo d q lf f i (b :: r) = ⟨7, f, i, []⟩ := by rw [bGo, hs, if_neg (by simp), if_neg hq, if_pos hl]
          rw [e] at h; exact absurd h (by simp)
        · have e : bGo d q lf f i (b :: r) = bGo d q lf (f ++ [b]) (i + 1) r := by conv => lhs; rw [bGo, hs, if_neg (by simp), if_neg hq, if_neg hl]
          rw [e] at h ⊢
          obtain ⟨n, h1, h2, h3, h4⟩ := ih (f ++ [b]) (i + 1) h
          exact ⟨n + 1, by simp; omega, by omega, by simpa using h3, h4⟩
theorem qGo_rest (q lf : Int) : ∀ (m : Nat) (l f : List Int) (i : Nat), l.length ≤ m → (qGo q lf f i l).k = 0 → ∃ n, n ≤ l.length ∧ (qGo q lf f i l).i = i + n ∧ (qGo q lf f i l).l = l.drop n := by
  intro m
  induction m with
  | zero =>
    intro l f i hl h
    match l, hl, h with
    | [], _, h => simp [qGo] at h
  | succ m ih =>
    intro l f i hl h
    match l, hl, h with
    | [], _, h => simp [qGo] at h
    | [b], _, h =>
      by_cases hq : b = q
      · have e : qGo q lf f i [b] = ⟨0, f, i + 1, []⟩ := by rw [qGo, if_pos hq]
        rw [e]; exact ⟨1, by simp, rfl, rfl⟩
      · have : (qGo q lf f i [b]).k ≠ 0 := by
          rw [qGo, if_neg hq]; split <;> simp
        exact absurd h this
    | b :: c :: r, hl, h =>
      by_cases hq : b = q
      · by_cases hc : c = q
        · by_cases hf : (f.length : Int) = lf
          · have e : qGo q lf f i (b :: c :: r) = ⟨7, f, i + 1, []⟩ := by rw [qGo, if_pos hq, if_pos hc, if_pos hf]
            rw [e] at h; exact absurd h (by simp)
          · have e : qGo q lf f i (b :: c :: r) = qGo q lf (f ++ [c]) (i + 2) r := by conv => lhs; rw [qGo, if_pos hq, if_pos hc, if_neg hf]
            rw [e] at h ⊢
            obtain ⟨n, h1, h2, h3⟩ := ih r (f ++ [c]) (i + 2) (by simp at hl; omega) h
            exact ⟨n + 2, by simp; omega, by omega, by simpa using h3⟩
        · have e : qGo q lf f i (b :: c :: r) = ⟨0, f, i + 1, c :: r⟩ := by rw [qGo, if_pos hq, if_neg hc]
          rw [e]; exact ⟨1, by simp, rfl, rfl⟩
      · by_cases hf : (f.length : Int) = lf
        · rw [qGo_no hq hf] at h; exact absurd h (by simp)
        · rw [qGo_go hq hf] at h ⊢
          obtain ⟨n, h1, h2, h3⟩ := ih (c :: r) (f ++ [b]) (i + 1) (by simp at hl ⊢; omega) h
          exact ⟨n + 1, by simp at h1 ⊢; omega, by omega, by simpa using h3⟩
theorem behind_rest {d : Int} {l : List Int} {i : Nat} {x : Fld} (hx : x.k = 0 → ∃ n, n ≤ l.length ∧ x.i = i + n ∧ x.l = l.drop n) (h : (behind d x).k = 0) : Rest d l i (behind d x) := by
  by_cases h0 : x.k = 0
  · obtain ⟨n, h1, h2, h3⟩ := hx h0
    unfold behind at h ⊢
    rw [if_neg (by simp [h0])] at h ⊢
    match hl : x.l, h with
    | [], _ => exact ⟨n, h1, h2, by rw [← h3], fun b r e => by rw [hl] at e; cases e⟩
    | b :: r, h =>
      dsimp only at h ⊢
      by_cases hs : stops d b = true
      · rw [if_pos hs]
        exact ⟨n, h1, h2, by rw [← h3], fun c t e => by rw [hl] at e; injection e with e _; rw [← e]; exact hs⟩
      · rw [if_neg hs] at h; exact absurd h (by simp)
  · unfold behind at h; rw [if_pos h0] at h; exact absurd h h0
theorem fGo_rest (d q lf : Int) (i : Nat) (l : List Int) (h : (fGo d q lf i l).k = 0) : Rest d l i (fGo d q lf i l) := by
  match l, h with
  | [], h => exact bGo_rest d q lf [] [] i h
  | b :: r, h =>
    unfold fGo at h ⊢
    dsimp only at h ⊢
    by_cases hq : b = q
    · rw [if_pos hq] at h ⊢
      obtain ⟨n, h1, h2, h3, h4⟩ := behind_rest (d := d) (l := r) (i := i + 1) (qGo_rest q lf r.length r [] (i + 1) (Nat.le_refl _)) h
      exact ⟨n + 1, by simp; omega, by omega, by simpa using h3, h4⟩
    · rw [if_neg hq] at h ⊢
      exact bGo_rest d q lf (b :: r) [] i h
/-- The same of a text, at a place. -/
theorem fGo_at (d q lf : Int) (i : Nat) (s : ByteArray) (hi : i ≤ s.size) {F : Fld} (hF : fGo d q lf i ((bl s).drop i) = F) (h : F.k = 0) : i ≤ F.i ∧ F.i ≤ s.size ∧ F.l = (bl s).drop F.i ∧ ∀ b r, F.l = b :: r → stops d b = true := by
  subst hF
  obtain ⟨n, h1, h2, h3, h4⟩ := fGo_rest d q lf i _ h
  rw [List.length_drop, bl_length] at h1
  refine ⟨by omega, by omega, ?_, h4⟩
  rw [h3, h2, List.drop_drop]

section
variable {d q e : Int} {n : Nat} {m : Mk} {i : Nat} {l : List Int} {F : Fld}
theorem lnGo_bad (hF : fGo d q m.lf i l = F) (h : F.k ≠ 0) : lnGo d q e (n + 1) m i l = ⟨F.k, F.i, [], 0, 0, []⟩ := by
  rw [lnGo, hF, if_pos h]
theorem lnGo_stop (hF : fGo d q m.lf i l = F) (h : F.k = 0) (hl : ∀ b r, F.l = b :: r → b ≠ d) : lnGo d q e (n + 1) m i l = lnEnd e { m with rc := m.rc ++ [toBA F.f] } F.i F.l := by
  rw [lnGo, hF, if_neg (by simp [h])]
  match hh : F.l with
  | [] => rfl
  | b :: r => dsimp only; rw [if_neg (hl b r hh)]
theorem lnGo_8 (hF : fGo d q m.lf i l = F) (h : F.k = 0) {r : List Int} (hl : F.l = d :: r) (h8 : (m.rc.length : Int) + 1 = m.ls) : lnGo d q e (n + 1) m i l = ⟨8, F.i, [], 0, 0, []⟩ := by
  rw [lnGo, hF, if_neg (by simp [h]), hl]; dsimp only; rw [if_pos rfl, if_pos h8]
theorem lnGo_10 (hF : fGo d q m.lf i l = F) (h : F.k = 0) {r : List Int} (hl : F.l = d :: r) (h8 : ¬ (m.rc.length : Int) + 1 = m.ls) (h10 : mBound m = true ∧ (m.rc.length : Int) + 1 = m.wd) : lnGo d q e (n + 1) m i l = ⟨10, F.i, [], 0, 0, []⟩ := by
  rw [lnGo, hF, if_neg (by simp [h]), hl]; dsimp only; rw [if_pos rfl, if_neg h8, if_pos h10]
theorem lnGo_go (hF : fGo d q m.lf i l = F) (h : F.k = 0) {r : List Int} (hl : F.l = d :: r) (h8 : ¬ (m.rc.length : Int) + 1 = m.ls) (h10 : ¬ (mBound m = true ∧ (m.rc.length : Int) + 1 = m.wd)) : lnGo d q e (n + 1) m i l = lnGo d q e n { m with rc := m.rc ++ [toBA F.f] } (F.i + 1) r := by
  conv => lhs; rw [lnGo, hF, if_neg (by simp [h]), hl]
  dsimp only; rw [if_pos rfl, if_neg h8, if_neg h10]
/-- Is the record as wide as it must be? -/
def wOk (m : Mk) : Bool := !decide (mBound m = true ∧ (m.rc.length : Int) ≠ m.wd)
theorem wOk_no (h : wOk m = false) : mBound m = true ∧ (m.rc.length : Int) ≠ m.wd := by simpa [wOk] using h
theorem wOk_yes (h : wOk m = true) : ¬ (mBound m = true ∧ (m.rc.length : Int) ≠ m.wd) := by
  unfold wOk at h
  rw [Bool.not_eq_true', decide_eq_false_iff_not] at h
  exact h
theorem lnEnd_nil_no (h : wOk m = false) : lnEnd e m i [] = ⟨10, i, [], 0, 0, []⟩ := by rw [lnEnd, if_pos (wOk_no h)]
theorem lnEnd_nil (h : wOk m = true) : lnEnd e m i [] = ⟨0, 0, m.rc, i, i, []⟩ := by rw [lnEnd, if_neg (wOk_yes h)]
theorem lnEnd_0 {b : Int} {r : List Int} (h : fdN e (b == 10) = 0) : lnEnd e m i (b :: r) = ⟨6, i, [], 0, 0, []⟩ := by
  rw [lnEnd]
  by_cases hb : b = 10
  · by_cases he : e = 2
    · rw [if_pos hb, if_pos he]
    · simp [fdN, hb, he] at h
  · by_cases he : e = 1
    · rw [if_neg hb, if_pos he]
    · simp [fdN, hb, he] at h
theorem lnEnd_w {b : Int} {r : List Int} (h : fdN e (b == 10) ≠ 0) (hw : wOk m = false) : lnEnd e m i (b :: r) = ⟨10, i, [], 0, 0, []⟩ := by
  rw [lnEnd]
  by_cases hb : b = 10
  · have he : e ≠ 2 := fun he => h (by simp [fdN, hb, he])
    rw [if_pos hb, if_neg he, if_pos (wOk_no hw)]
  · have he : e ≠ 1 := fun he => h (by simp [fdN, hb, he])
    rw [if_neg hb, if_neg he, if_pos (wOk_no hw)]
theorem lnEnd_1 {b : Int} {r : List Int} (h : fdN e (b == 10) = 1) (hw : wOk m = true) : lnEnd e m i (b :: r) = ⟨0, 0, m.rc, i, i + 1, r⟩ := by
  rw [lnEnd]
  by_cases hb : b = 10
  · have he : e ≠ 2 := fun he => by simp [fdN, hb, he] at h
    rw [if_pos hb, if_neg he, if_neg (wOk_yes hw)]
  · exfalso
    by_cases he : e = 1 <;> simp [fdN, hb, he] at h
theorem lnEnd_2 {b : Int} {r : List Int} (h : fdN e (b == 10) = 2) (hw : wOk m = true) : lnEnd e m i (b :: r) = lnCr m i r := by
  rw [lnEnd]
  by_cases hb : b = 10
  · exfalso
    by_cases he : e = 2 <;> simp [fdN, hb, he] at h
  · have he : e ≠ 1 := fun he => by simp [fdN, hb, he] at h
    rw [if_neg hb, if_neg he, if_neg (wOk_yes hw)]
theorem lnCr_no {s : ByteArray} (hl : (bl s).drop (i + 1) = l) (h : isB s (i + 1) 10 = false) : lnCr m i l = ⟨6, i + 1, [], 0, 0, []⟩ := by
  match l, hl with
  | [], _ => rfl
  | c :: r, hl =>
    rw [isB_drop hl] at h
    rw [lnCr, if_neg (by simpa using h)]
theorem lnCr_yes {s : ByteArray} (hl : (bl s).drop (i + 1) = l) (h : isB s (i + 1) 10 = true) : lnCr m i l = ⟨0, 0, m.rc, i + 1, i + 2, (bl s).drop (i + 2)⟩ := by
  match l, hl with
  | [], hl =>
    have : s.size ≤ i + 1 := by
      have := congrArg List.length hl
      simp [bl_length] at this; omega
    rw [isB_end this] at h; cases h
  | c :: r, hl =>
    rw [isB_drop hl] at h
    rw [lnCr, if_pos (by simpa using h), (get_drop hl).2.1]
theorem fdN_cases (e : Int) (b : Bool) : fdN e b = 0 ∨ fdN e b = 1 ∨ fdN e b = 2 := by
  unfold fdN; split <;> split <;> simp
/-- The width, said of the maker that is the reader's. -/
theorem wOk_of (r : Rd) (rc : List ByteArray) (T : List (List ByteArray × Nat)) : wOk (mkOf r rc T) = !decide (r.un = 1 ∧ 0 < T.length ∧ rc.length ≠ wdOf T) := by
  unfold wOk mkOf mBound
  congr 1
  rw [decide_eq_decide]
  simp [and_assoc]
  intro _ _
  omega
end
end Go.Proofs.Ytoeanbfemgmgnaa

namespace Go.Proofs.Ytoeanbfemgmgnaa
open Go.ChangeShapes Go.WideShapes Go.ChangeAt Go.RowKit
set_option linter.unusedVariables false
set_option linter.unusedSimpArgs false

/-- What a line leaves. -/
def LineOut (base g : Nat) (r : Rd) (T : List (List ByteArray × Nat)) (X : Lin) (w : World) (x : Ending) (w' : World) : Prop :=
  ∃ ok, x = .returned (.bool ok) ∧ Hid (Below base w w') ∧ Hid (X.k = 0 → RdB w' base g { r with i := X.i } [] (T ++ [(X.rc, X.e)])) ∧ Hid (X.k ≠ 0 → ∃ i' rc', RdB w' base g { r with i := i', k := X.k, at_ := X.at_ } rc' T)
def cellN (w : World) (g : Nat) : Nat := match w.cell? ⟨g, 8, none⟩ with
  | some (.int _ n) => n.toNat
  | _ => 0
theorem fGo_bare {d q lf : Int} {s : ByteArray} {i : Nat} (h : isB s i q = false) : bGo d q lf [] i ((bl s).drop i) = fGo d q lf i ((bl s).drop i) := by
  match hl : (bl s).drop i with
  | [] => rfl
  | b :: r =>
    rw [isB_drop hl] at h
    unfold fGo; dsimp only
    rw [if_neg (by simpa using h)]
theorem fGo_quoted {d q lf : Int} {s : ByteArray} {i : Nat} (h : isB s i q = true) : i < s.size ∧ behind d (qGo q lf [] (i + 1) ((bl s).drop (i + 1))) = fGo d q lf i ((bl s).drop i) := by
  match hl : (bl s).drop i with
  | [] =>
    have : s.size ≤ i := by
      have := congrArg List.length hl
      simp [bl_length] at this; omega
    rw [isB_end this] at h; cases h
  | b :: r =>
    rw [isB_drop hl] at h
    obtain ⟨_, h2, h3⟩ := get_drop hl
    refine ⟨h3, ?_⟩
    unfold fGo; dsimp only
    rw [if_pos (by simpa using h), h2]
theorem cell_i {w : World} {base g : Nat} {r : Rd} {rc : List ByteArray} {T : List (List ByteArray × Nat)} (h : RdB w base g r rc T) : cellN w g = r.i := by
  have := h.cells.2.2.2.2.2.2.2.1
  unfold cellN; rw [this]; simp

set_option maxRecDepth 100000 in
set_option maxHeartbeats 3200000 in
theorem line_any6 (base g : Nat) (r : Rd) (T : List (List ByteArray × Nat)) (hi : r.i ≤ r.s.size) (hs : r.s.size ≤ 980) (h0 : Hid (r.k = 0)) (hun : r.un = 0 ∨ r.un = 1) (hT : T.length ≤ 980) (hwd : wdOf T ≤ 1000) (hbg : 0 ≤ r.bg ∧ r.bg ≤ 980) (hlr : Hid (r.bg ≠ r.lr)) (w : World) (h : Hid (RdB w base g r [] T))
    (n0 : Nat) (hn0 : r.s.size - r.i < n0) (X : Lin) (hX : Hid (lnGo r.d r.q r.e n0 (mkOf { r with bg := r.bg + 1 } [] T) r.i ((bl r.s).drop r.i) = X)) :
    Calls Try.prog 46 #[.pointer (some ⟨g, 0, none⟩)] w (LineOut base g { r with bg := r.bg + 1 } T X w) := by
  obtain ⟨i0, hinfo, hz0, hz1, hz2⟩ := info_parts infoStr
  have Hi := Lib.hid hinfo
  have Hz0 := Lib.hid hz0
  have Hz1 := Lib.hid hz1
  have Hz2 := Lib.hid hz2
  have hd9 : (r.bg == r.lr) = false := by rw [beq_eq_false_iff_ne]; exact hlr.out
  obtain ⟨hg, k0, k1, k4, k5, k6, k7, k8, k9, k13, ⟨B0, d0, k10⟩, C0, c0, hC0, k11, hfst⟩ := h.out.cells
  have f9 := h.out.free 9
  have f8 := h.out.free 8
  clear hinfo hz0 hz1 hz2 hfst
  go_enter Try.func46, Try.ntmps46
  go_wp2_with fail
  refine wp_region_onto (by kernel_rfl) (by kernel_rfl) ?_
  repeat (go_big_quiet_step (fail))
  refine wpQuiet_nil ?_
  intro _ hw'
  obtain ⟨y0, hw''⟩ := hw'
  subst hw''
  have H1 := Lib.hid (h.out.below (onto_below w y0))
  have BW1 := Lib.hid (onto_below w y0)
  have hg1 := H1.out.cells.1
  have n9 := H1.out.cells.2.2.2.2.2.2.2.2.1
  have f9' := H1.out.free 9
  clear k0 k1 k4 k5 k6 k7 k8 k9 k13 k10 k11 f9 f8 hg
  go_wp2_with fail
  obtain ⟨r1, hr1⟩ : ∃ r1 : Rd, r1 = { r with bg := r.bg + 1 } := ⟨_, rfl⟩
  rw [← hr1]
  have HEQ := Lib.hid hr1
  have HX1 := Lib.hid (show lnGo r1.d r1.q r1.e n0 (mkOf r1 [] T) r1.i ((bl r1.s).drop r1.i) = X by rw [hr1]; exact hX.out)
  have hi1 : r1.i ≤ r1.s.size := by rw [hr1]; exact hi
  have hn1 : r1.s.size - r1.i < n0 := by rw [hr1]; exact hn0
  have hs1 : r1.s.size ≤ 980 := by rw [hr1]; exact hs
  have hun1 : r1.un = 0 ∨ r1.un = 1 := by rw [hr1]; exact hun
  have h01 : Hid (r1.k = 0) := by rw [hr1]; exact h0
  have hset := H1.out.set9 (r.bg + 1)
  rw [← hr1] at hset
  obtain ⟨W1, hW1⟩ : ∃ W1, W1 = (onto w y0).setCell ⟨g, 9, none⟩ (.int .i64 (r.bg + 1)) := ⟨_, rfl⟩
  rw [← hW1] at hset
  rw [← hW1]
  have HR1 := Lib.hid hset.1
  have hbase := HR1.out.base_le
  have HB1 := Lib.hid (show Below base w W1 from ((onto_below w y0).mono h.out.base_le).trans hset.2)
  clear hset hW1 H1 BW1 hg1 n9 f9' hr1 hX hi hn0 hs hun h0 hlr hbg hd9
  go_loopw [3] (fun f wr => ∃ (i n : Nat) (rc : List ByteArray), i ≤ r1.s.size ∧ r1.s.size - i < n ∧ rc.length ≤ i ∧ Hid (lnGo r1.d r1.q r1.e n (mkOf r1 rc T) i ((bl r1.s).drop i) = X) ∧ Hid (RdB wr base g { r1 with i := i } rc T) ∧ Hid (Below base w wr)) (fun f wr => r1.s.size - cellN wr g)
  case atStart => exact ⟨r1.i, n0, [], hi1, hn1, Nat.zero_le _, HX1, HR1, HB1⟩
  case round =>
    obtain ⟨i, n, rc, hi, hn, hrc, HX, HR, HB⟩ := hrel
    obtain ⟨n', rfl⟩ : ∃ n', n = n' + 1 := ⟨n - 1, by omega⟩
    obtain ⟨F, hF⟩ : ∃ F, fGo r1.d r1.q r1.lf i ((bl r1.s).drop i) = F := ⟨_, rfl⟩
    obtain ⟨vq, hvq⟩ : ∃ v, isB r1.s i r1.q = v := ⟨_, rfl⟩
    have HF := Lib.hid hF
    have HVQ := Lib.hid hvq
    clear hF hvq
    have hg := HR.out.cells.1
    have kq := HR.out.cells.2.2.1
    dsimp only at kq
    go_wp2_with fail
    refine (above (is_rd base g { r1 with i := i } rc T wr HR r1.q vq HVQ (by show r1.s.size ≤ 1000; omega))).mono ?_
    rintro x _ ⟨rfl, y1, rfl⟩
    have HCW := Lib.hid (show cellN wr g = i from cell_i HR.out)
    have HR1 := Lib.hid (HR.out.below (onto_below wr y1))
    have HB1 := Lib.hid (HB.out.trans ((onto_below wr y1).mono HR.out.base_le))
    obtain ⟨wq, hwq⟩ : ∃ wq, wq = onto wr y1 := ⟨_, rfl⟩
    rw [← hwq] at HR1 HB1
    rw [← hwq]
    clear hwq hg kq HR HB
    have hg := HR1.out.cells.1
    have k8 := HR1.out.cells.2.2.2.2.2.2.2.1
    have f8 := HR1.out.free 8
    dsimp only at k8
    go_upto_if 35 with fail
    go_cut [3, 4] from 29 to 133 (fun s3 s4 wx => ∃ t ok i', s3 = .string t ∧ s4 = .bool ok ∧ Hid (FldRd base g { r1 with i := i } rc T F wq t ok i' wx))
    case first =>
      cases vq
      · go_wp2_with fail
        refine (bare_rd base g { r1 with i := i } rc T wq HR1 hi hs1 h01 F (Lib.hid ((fGo_bare HVQ.out).trans HF.out))).mono ?_
        rintro x w2 ⟨t, ok, i', rfl, ho⟩
        go_wp2_with fail
        go_meet
        exact ⟨t, ok, i', rfl, rfl, ho⟩
      · have hq := fGo_quoted (d := r1.d) (lf := r1.lf) HVQ.out
        have hi2 : i + 1 ≤ r1.s.size := hq.1
        have HF2 := Lib.hid (hq.2.trans HF.out)
        have hset := HR1.out.set8 (i + 1)
        have hcast : ((i + 1 : Nat) : Int) = (i : Int) + 1 := by omega
        rw [hcast] at hset
        have HS := Lib.hid hset
        clear hset hcast hq
        go_wp2_with fail
        refine (quoted_rd base g { r1 with i := i + 1 } rc T _ (Lib.hid HS.out.1) hi2 hs1 h01 F HF2).mono ?_
        rintro x w2 ⟨t, ok, i', rfl, ho⟩
        have HO := Lib.hid (show FldRd base g { r1 with i := i } rc T F wq t ok i' w2 from ⟨HS.out.2.trans ho.out.1, ho.out.2⟩)
        clear ho
        go_wp2_with fail
        go_meet
        exact ⟨t, ok, i', rfl, rfl, HO⟩
    case rest =>
      obtain ⟨t, ok, i', rfl, rfl, HFR⟩ := hcut
      obtain ⟨V, hV⟩ : ∃ V, V = wc := ⟨_, rfl⟩
      subst hV
      clear hg k8 f8
      have HBV := Lib.hid (HB1.out.trans HFR.out.1)
      by_cases hk : F.k = 0
      · obtain ⟨hok, ht, hr⟩ := HFR.out.2.1 hk
        have HT := Lib.hid ht
        have HRV := Lib.hid hr
        have HK := Lib.hid hk
        subst hok
        clear hk hr ht HFR
        obtain ⟨h1, h2, h3, h4⟩ := fGo_at _ _ _ _ _ hi HF.out HK.out
        have HLE := Lib.hid h1
        have HLS := Lib.hid h2
        have HFL := Lib.hid h3
        have HST := Lib.hid h4
        clear h1 h2 h3 h4
        obtain ⟨vd, hvd⟩ : ∃ v, isB r1.s F.i r1.d = v := ⟨_, rfl⟩
        have HVD := Lib.hid hvd
        clear hvd
        obtain ⟨B, d, C, c, E, ce, VV, g1, g2, g3, g4, g5, g6, g7, g8⟩ := HRV.out
        have G1 := Lib.hid g1
        have G2 := Lib.hid g2
        have G3 := Lib.hid g3
        have G4 := Lib.hid g4
        have G5 := Lib.hid g5
        have G6 := Lib.hid g6
        have G7 := Lib.hid g7
        have G8 := Lib.hid g8
        have hg := HRV.out.cells.1
        have k10 : V.cell? ⟨g, 10, none⟩ = some (.slice B rc.length d) := StB.cell g3 10
        have B0 := Lib.hid (up_alloc (Below.refl _ V) (.cells #[.string t] 9))
        have GB := Lib.hid (g4.unlike_st g3 (by decide))
        clear g1 g2 g3 g4 g5 g6 g7 g8
        go_wp2_with (at_builtin; refine wpList_append_sl _ rfl (.tmp 59) (.tmp 61) 64 rfl 9 i0 (.string ⟨#[]⟩) 16 Try.underlying64 Hi.out Hz0.out Hz1.out Hz2.out rfl base B rc.length d (strs rc) rfl (G4.out.below B0.out) (some ⟨V.heap.size, 0, none⟩) 1 1 [.string t] rfl (slIn_new1 V 9 _) (by intro u hu; simp at hu; subst hu; rfl) (by unfold maxLen; omega) (by omega) (Nat.le_trans G2.out B0.out.size) ?_; intro B' d' w3 hown hgrow hat; have st := (StB.below G3.out B0.out).grown hgrow (fun e => GB.out g e.symm rfl); have m0 : w3.cell? ⟨g, 0, none⟩ = some (.int .i64 r1.d) := st.cell 0; have m10 : w3.cell? ⟨g, 10, none⟩ = some (.slice B rc.length d) := st.cell 10; have n10 := st.free 10; have hg3 := st.lt; have HO := Lib.hid hown; have HG := Lib.hid hgrow; have HA := Lib.hid hat; clear st hown hgrow hat)
        have am2 := app_end (r := { r1 with i := F.i }) (t := t) G1.out G2.out G3.out G4.out G5.out G6.out G7.out G8.out (.string t) HO.out HG.out (by
          have := HA.out
          simp at this
          rcases this with h | h <;> simp [h])
        obtain ⟨U, hU⟩ : ∃ U, U = w3.setCell ⟨g, 10, none⟩ (.slice B' (rc.length + 1) d') := ⟨_, rfl⟩
        rw [← hU] at am2
        rw [← hU]
        have HRU := Lib.hid am2.1
        have HBU := Lib.hid (HBV.out.trans am2.2)
        clear am2 hU HO HG HA m0 m10 n10 hg3 B0 GB G1 G2 G3 G4 G5 G6 G7 G8 k10 HRV HBV hg
        obtain ⟨rc2, hrc2⟩ : ∃ rc2, rc2 = rc ++ [t] := ⟨_, rfl⟩
        rw [← hrc2] at HRU
        have hlen : rc2.length = rc.length + 1 := by rw [hrc2]; simp
        have HL := Lib.hid hlen
        have HC2 := Lib.hid hrc2
        have hr2 : rc2.length ≤ 981 := by omega
        clear hlen hrc2
        refine (above (is_rd base g { r1 with i := F.i } rc2 T U HRU r1.d vd HVD (by show r1.s.size ≤ 1000; omega))).mono ?_
        rintro x _ ⟨rfl, y2, rfl⟩
        have HR3 := Lib.hid (HRU.out.below (onto_below U y2))
        have HB3 := Lib.hid (HBU.out.trans ((onto_below U y2).mono HRU.out.base_le))
        obtain ⟨w4, hw4⟩ : ∃ w4, w4 = onto U y2 := ⟨_, rfl⟩
        rw [← hw4] at HR3 HB3
        rw [← hw4]
        clear hw4 HRU HBU
        have hg := HR3.out.cells.1
        have k4 := HR3.out.cells.2.2.2.1
        have k6 := HR3.out.cells.2.2.2.2.2.1
        have k7 := HR3.out.cells.2.2.2.2.2.2.1
        have k8 := HR3.out.cells.2.2.2.2.2.2.2.1
        obtain ⟨B2, d2, k10⟩ := HR3.out.cells.2.2.2.2.2.2.2.2.2.2.1
        obtain ⟨C2, c2, hc2, k11, hfst⟩ := HR3.out.cells.2.2.2.2.2.2.2.2.2.2.2
        dsimp only at k4 k6 k7 k8
        have f8 := HR3.out.free 8
        cases vd
        · -- the record's last field
          clear k4 k6 k10 hc2 k11 hfst
          have hx := (lnGo_stop (e := r1.e) (n := n') (m := mkOf r1 rc T) HF.out HK.out (fun b rr hl e => by
            have h := HVD.out
            rw [isB_drop (HFL.out.symm.trans hl), e] at h
            simp at h)).symm.trans HX.out
          have hm : ({ mkOf r1 rc T with rc := (mkOf r1 rc T).rc ++ [toBA F.f] } : Mk) = mkOf r1 rc2 T := by
            rw [HC2.out, HT.out]; rfl
          rw [hm] at hx
          have HX2 := Lib.hid hx
          obtain ⟨vw, hvw⟩ : ∃ v, wOk (mkOf r1 rc2 T) = v := ⟨_, rfl⟩
          have HW := Lib.hid hvw
          have HWV := Lib.hid (show vw = !decide (r1.un = 1 ∧ 0 < T.length ∧ rc2.length ≠ wdOf T) by rw [← hvw]; exact wOk_of r1 rc2 T)
          have hls := HLS.out
          clear hx hm hvw
          by_cases he : F.i = r1.s.size
          · have hd1 : ((F.i : Int) == (r1.s.size : Int)) = true := by rw [beq_iff_eq]; omega
            have hd2 : (F.i == r1.s.size) = true := by rw [beq_iff_eq]; exact he
            have hl : F.l = [] := by rw [HFL.out]; exact bl_end r1.s F.i (by omega)
            have hx := HX2.out
            rw [hl] at hx
            have HX3 := Lib.hid hx
            clear hx hl he
            go_wp2_with fail
            refine wp_region_onto (by kernel_rfl) (by kernel_rfl) ?_
            repeat (go_big_quiet_step (fail))
            refine wpQuiet_nil ?_
            intro _ hw'
            obtain ⟨y3, hw''⟩ := hw'
            subst hw''
            have HR5 := Lib.hid (HR3.out.below (onto_below w4 y3))
            have HB5 := Lib.hid (HB3.out.trans ((onto_below w4 y3).mono HR3.out.base_le))
            obtain ⟨w5, hw5⟩ : ∃ w5, w5 = onto w4 y3 := ⟨_, rfl⟩
            rw [← hw5] at HR5 HB5
            rw [← hw5]
            clear hw5 HR3 HB3 hg k7 k8 f8
            have hg := HR5.out.cells.1
            have k8 := HR5.out.cells.2.2.2.2.2.2.2.1
            dsimp only at k8
            go_wp2_with fail
            refine (width_rd base g { r1 with i := F.i } rc2 T w5 HR5 F.i hun1 (by omega) (by omega) (by omega) vw HWV h01).mono ?_
            rintro x w6 ⟨rfl, o1, o2⟩
            have HB6 := Lib.hid (HB5.out.trans o2.out)
            have HR6 := Lib.hid o1.out
            clear o1 o2 hg k8
            cases vw
            · have HXF := Lib.hid ((lnEnd_nil_no HW.out).symm.trans HX3.out)
              have HR7 := Lib.hid (show RdB w6 base g { r1 with i := F.i, k := 10, at_ := F.i } rc2 T from HR6.out)
              go_wp2_with fail
              go_ret
              first | rw [← HEQ.out] | skip
              refine ⟨true, rfl, HB6, ?_, ?_⟩
              · rw [← HXF.out]; exact Lib.hid (fun e => absurd e (by simp))
              · rw [← HXF.out]; exact Lib.hid (fun _ => ⟨F.i, rc2, HR7.out⟩)
            · have HXF := Lib.hid ((lnEnd_nil HW.out).symm.trans HX3.out)
              have HR7 := Lib.hid (show RdB w6 base g { r1 with i := F.i } rc2 T from HR6.out)
              have hg := HR7.out.cells.1
              have k8 := HR7.out.cells.2.2.2.2.2.2.2.1
              dsimp only at k8
              go_wp2_with fail
              refine (whole_any6 base g { r1 with i := F.i } rc2 T F.i (by omega) w6 HR7.out).mono ?_
              rintro x w7 ⟨rfl, o1, o2⟩
              have HB7 := Lib.hid (HB6.out.trans o2)
              have HR8 := Lib.hid o1
              clear o1 o2
              go_wp2_with fail
              go_ret
              first | rw [← HEQ.out] | skip
              refine ⟨true, rfl, HB7, ?_, ?_⟩
              · rw [← HXF.out]; exact Lib.hid (fun _ => HR8.out)
              · rw [← HXF.out]; exact Lib.hid (fun e => absurd rfl e)
          · have hd1 : ((F.i : Int) == (r1.s.size : Int)) = false := by rw [beq_eq_false_iff_ne]; omega
            have hd2 : (F.i == r1.s.size) = false := by rw [beq_eq_false_iff_ne]; exact he
            obtain ⟨b, rr, hbr⟩ : ∃ b rr, (bl r1.s).drop F.i = b :: rr := ⟨_, _, bl_drop r1.s F.i (by omega)⟩
            have hx := HX2.out
            rw [HFL.out, hbr] at hx
            have HX3 := Lib.hid hx
            have hgd := get_drop hbr
            have HGD := Lib.hid hgd.2.1
            have hlt := hgd.2.2
            have HV10 := Lib.hid (isB_drop hbr 10)
            clear hx hgd hbr he
            go_wp2_with fail
            refine wp_region_onto (by kernel_rfl) (by kernel_rfl) ?_
            repeat (go_big_quiet_step (fail))
            refine wpQuiet_nil ?_
            intro _ hw'
            obtain ⟨y3, hw''⟩ := hw'
            subst hw''
            have HR5 := Lib.hid (HR3.out.below (onto_below w4 y3))
            have HB5 := Lib.hid (HB3.out.trans ((onto_below w4 y3).mono HR3.out.base_le))
            obtain ⟨w5, hw5⟩ : ∃ w5, w5 = onto w4 y3 := ⟨_, rfl⟩
            rw [← hw5] at HR5 HB5
            rw [← hw5]
            clear hw5 HR3 HB3 hg k7 k8 f8
            have hg := HR5.out.cells.1
            have k8 := HR5.out.cells.2.2.2.2.2.2.2.1
            dsimp only at k8
            obtain ⟨nf, hnf⟩ : ∃ nf, fdN r1.e (b == 10) = nf := ⟨_, rfl⟩
            have HNF := Lib.hid hnf
            have hnc := fdN_cases r1.e (b == 10)
            rw [hnf] at hnc
            clear hnf
            go_wp2_with fail
            refine (feed_rd base g { r1 with i := F.i } rc2 T w5 HR5 (b == 10) HV10 (by show r1.s.size ≤ 1000; omega) h01 nf HNF).mono ?_
            rintro x w6 ⟨rfl, o1, o2⟩
            have HB6 := Lib.hid (HB5.out.trans o2.out)
            have HR6 := Lib.hid o1.out
            clear o1 o2 hg k8
            rcases hnc with rfl | rfl | rfl
            · have HXF := Lib.hid ((lnEnd_0 HNF.out).symm.trans HX3.out)
              have HR7 := Lib.hid (show RdB w6 base g { r1 with i := F.i, k := 6, at_ := F.i } rc2 T from HR6.out)
              go_wp2_with fail
              go_ret
              first | rw [← HEQ.out] | skip
              refine ⟨false, rfl, HB6, ?_, ?_⟩
              · rw [← HXF.out]; exact Lib.hid (fun e => absurd e (by simp))
              · rw [← HXF.out]; exact Lib.hid (fun _ => ⟨F.i, rc2, HR7.out⟩)
            · have HR7 := Lib.hid (show RdB w6 base g { r1 with i := F.i } rc2 T from HR6.out)
              have hg := HR7.out.cells.1
              have k8 := HR7.out.cells.2.2.2.2.2.2.2.1
              dsimp only at k8
              go_wp2_with fail
              refine (width_rd base g { r1 with i := F.i } rc2 T w6 HR7 F.i hun1 (by omega) (by omega) (by omega) vw HWV h01).mono ?_
              rintro x w7 ⟨rfl, o1, o2⟩
              have HB7 := Lib.hid (HB6.out.trans o2.out)
              have HR8 := Lib.hid o1.out
              clear o1 o2 hg k8
              cases vw
              · have HXF := Lib.hid ((lnEnd_w (by rw [HNF.out]; decide) HW.out).symm.trans HX3.out)
                have HR9 := Lib.hid (show RdB w7 base g { r1 with i := F.i, k := 10, at_ := F.i } rc2 T from HR8.out)
                go_wp2_with fail
                go_ret
                first | rw [← HEQ.out] | skip
                refine ⟨false, rfl, HB7, ?_, ?_⟩
                · rw [← HXF.out]; exact Lib.hid (fun e => absurd e (by simp))
                · rw [← HXF.out]; exact Lib.hid (fun _ => ⟨F.i, rc2, HR9.out⟩)
              · have HXF := Lib.hid ((lnEnd_1 HNF.out HW.out).symm.trans HX3.out)
                have HR9 := Lib.hid (show RdB w7 base g { r1 with i := F.i } rc2 T from HR8.out)
                have hg := HR9.out.cells.1
                have k8 := HR9.out.cells.2.2.2.2.2.2.2.1
                dsimp only at k8
                go_wp2_with fail
                refine (whole_any6 base g { r1 with i := F.i } rc2 T F.i (by omega) w7 HR9.out).mono ?_
                rintro x w8 ⟨rfl, o1, o2⟩
                clear hg k8
                have HB9 := Lib.hid (HB7.out.trans o2)
                have hg := o1.cells.1
                have k8 := o1.cells.2.2.2.2.2.2.2.1
                have f8 := o1.free 8
                dsimp only at k8
                have hset := o1.set8 (F.i + 1)
                have hcast2 : ((F.i + 1 : Nat) : Int) = (F.i : Int) + 1 := by omega
                rw [hcast2] at hset
                have HS := Lib.hid hset
                clear hset hcast2 o1 o2
                go_wp2_with fail
                go_ret
                first | rw [← HEQ.out] | skip
                refine ⟨true, rfl, Lib.hid (HB9.out.trans HS.out.2), ?_, ?_⟩
                · rw [← HXF.out]; exact Lib.hid (fun _ => HS.out.1)
                · rw [← HXF.out]; exact Lib.hid (fun e => absurd rfl e)
            · have HR7 := Lib.hid (show RdB w6 base g { r1 with i := F.i } rc2 T from HR6.out)
              have hg := HR7.out.cells.1
              have k8 := HR7.out.cells.2.2.2.2.2.2.2.1
              dsimp only at k8
              go_wp2_with fail
              refine (width_rd base g { r1 with i := F.i } rc2 T w6 HR7 F.i hun1 (by omega) (by omega) (by omega) vw HWV h01).mono ?_
              rintro x w7 ⟨rfl, o1, o2⟩
              have HB7 := Lib.hid (HB6.out.trans o2.out)
              have HR8 := Lib.hid o1.out
              clear o1 o2 hg k8
              cases vw
              · have HXF := Lib.hid ((lnEnd_w (by rw [HNF.out]; decide) HW.out).symm.trans HX3.out)
                have HR9 := Lib.hid (show RdB w7 base g { r1 with i := F.i, k := 10, at_ := F.i } rc2 T from HR8.out)
                go_wp2_with fail
                go_ret
                first | rw [← HEQ.out] | skip
                refine ⟨false, rfl, HB7, ?_, ?_⟩
                · rw [← HXF.out]; exact Lib.hid (fun e => absurd e (by simp))
                · rw [← HXF.out]; exact Lib.hid (fun _ => ⟨F.i, rc2, HR9.out⟩)
              · have hx := (lnEnd_2 HNF.out HW.out).symm.trans HX3.out
                have HX4 := Lib.hid hx
                have HR9 := Lib.hid (show RdB w7 base g { r1 with i := F.i } rc2 T from HR8.out)
                have hg := HR9.out.cells.1
                have k8 := HR9.out.cells.2.2.2.2.2.2.2.1
                dsimp only at k8
                clear hx
                obtain ⟨vs, hvs⟩ : ∃ v, isB r1.s (F.i + 1) 10 = v := ⟨_, rfl⟩
                have HVS := Lib.hid hvs
                clear hvs
                go_wp2_with fail
                refine (second_rd base g { r1 with i := F.i } rc2 T w7 HR9 vs HVS (by show r1.s.size ≤ 1000; omega) (by show F.i ≤ 1000; omega) h01).mono ?_
                rintro x w8 ⟨rfl, o1, o2⟩
                have HB8 := Lib.hid (HB7.out.trans o2.out)
                have HR10 := Lib.hid o1.out
                clear o1 o2 hg k8
                cases vs
                · have HXF := Lib.hid ((lnCr_no HGD.out HVS.out).symm.trans HX4.out)
                  have HR11 := Lib.hid (show RdB w8 base g { r1 with i := F.i, k := 6, at_ := F.i + 1 } rc2 T from HR10.out)
                  go_wp2_with fail
                  go_ret
                  first | rw [← HEQ.out] | skip
                  refine ⟨false, rfl, HB8, ?_, ?_⟩
                  · rw [← HXF.out]; exact Lib.hid (fun e => absurd e (by simp))
                  · rw [← HXF.out]; exact Lib.hid (fun _ => ⟨F.i, rc2, HR11.out⟩)
                · have HXF := Lib.hid ((lnCr_yes HGD.out HVS.out).symm.trans HX4.out)
                  have HR11 := Lib.hid (show RdB w8 base g { r1 with i := F.i } rc2 T from HR10.out)
                  have hg := HR11.out.cells.1
                  have k8 := HR11.out.cells.2.2.2.2.2.2.2.1
                  dsimp only at k8
                  go_wp2_with fail
                  have hw := whole_any6 base g { r1 with i := F.i } rc2 T (F.i + 1) (by omega) w8 HR11.out
                  rw [show ((F.i + 1 : Nat) : Int) = (F.i : Int) + 1 by omega] at hw
                  try rw [show (F.i : Int) + 2 - 1 = (F.i : Int) + 1 by omega]
                  refine hw.mono ?_
                  clear hw
                  rintro x w9 ⟨rfl, o1, o2⟩
                  clear hg k8
                  have HB9 := Lib.hid (HB8.out.trans o2)
                  have hg := o1.cells.1
                  have k8 := o1.cells.2.2.2.2.2.2.2.1
                  have f8 := o1.free 8
                  dsimp only at k8
                  have hset := o1.set8 (F.i + 2)
                  have hcast2 : ((F.i + 2 : Nat) : Int) = (F.i : Int) + 2 := by omega
                  rw [hcast2] at hset
                  have HS := Lib.hid hset
                  clear hset hcast2 o1 o2
                  go_wp2_with fail
                  go_ret
                  first | rw [← HEQ.out] | skip
                  refine ⟨true, rfl, Lib.hid (HB9.out.trans HS.out.2), ?_, ?_⟩
                  · rw [← HXF.out]; exact Lib.hid (fun _ => HS.out.1)
                  · rw [← HXF.out]; exact Lib.hid (fun e => absurd rfl e)
        · -- more fields follow
          obtain ⟨rr, hrr⟩ : ∃ rr, F.l = r1.d :: rr := by
            match hl : F.l with
            | [] =>
              have : r1.s.size ≤ F.i := by
                have := congrArg List.length (HFL.out.symm.trans hl)
                simp [bl_length] at this; omega
              have h := HVD.out; rw [isB_end this] at h; cases h
            | b :: rr =>
              have h := HVD.out
              rw [isB_drop (HFL.out.symm.trans hl)] at h
              have : b = r1.d := by simpa using h
              exact ⟨rr, by rw [this]⟩
          have HRR := Lib.hid hrr
          clear hrr
          obtain ⟨v8, hv8⟩ : ∃ v, ((rc2.length : Int) == r1.ls) = v := ⟨_, rfl⟩
          have HV8 := Lib.hid hv8
          go_wp2_with fail
          refine wp_region_onto (by kernel_rfl) (by kernel_rfl) ?_
          repeat (go_big_quiet_step (fail))
          refine wpQuiet_nil ?_
          intro _ hw'
          obtain ⟨y3, hw''⟩ := hw'
          subst hw''
          have HR5 := Lib.hid (HR3.out.below (onto_below w4 y3))
          have HB5 := Lib.hid (HB3.out.trans ((onto_below w4 y3).mono HR3.out.base_le))
          obtain ⟨w5, hw5⟩ : ∃ w5, w5 = onto w4 y3 := ⟨_, rfl⟩
          rw [← hw5] at HR5 HB5
          rw [← hw5]
          clear hw5 HR3 HB3 hg k4 k6 k7 k8 k10 hc2 k11 hfst f8 hv8
          have hg := HR5.out.cells.1
          have k6 := HR5.out.cells.2.2.2.2.2.1
          have k8 := HR5.out.cells.2.2.2.2.2.2.2.1
          obtain ⟨B3, d3, k10⟩ := HR5.out.cells.2.2.2.2.2.2.2.2.2.2.1
          obtain ⟨C3, c3, hc3, k11, hfst⟩ := HR5.out.cells.2.2.2.2.2.2.2.2.2.2.2
          dsimp only at k6 k8
          cases v8
          · have h8 : ¬ (((mkOf r1 rc T).rc.length : Int) + 1 = (mkOf r1 rc T).ls) := by
              have h1 := HV8.out
              rw [beq_eq_false_iff_ne, HL.out] at h1
              show ¬ ((rc.length : Int) + 1 = r1.ls)
              omega
            have H8 := Lib.hid h8
            clear h8
            obtain ⟨v10, hv10⟩ : ∃ v, v = decide (r1.un = 1 ∧ 0 < T.length ∧ rc2.length = wdOf T) := ⟨_, rfl⟩
            have HV10 := Lib.hid hv10
            clear hv10
            go_upto_region 15 with fail
            go_cut [120] from 29 to 133 (fun c wx => c = .bool v10 ∧ ∃ y, wx = onto w5 y)
            case first =>
              rcases hun1 with hu | hu
              · have hvt : v10 = false := by rw [HV10.out, hu]; simp
                rw [hu] at k6
                subst hvt
                clear hfst hu
                refine wp_region_onto (by kernel_rfl) (by kernel_rfl) ?_
                repeat (go_big_quiet_step (fail))
                refine wpQuiet_nil ?_
                intro _ hw'
                obtain ⟨y4, hw''⟩ := hw'
                subst hw''
                go_wp2_with fail
                go_meet
                exact ⟨rfl, y4, rfl⟩
              · rw [hu] at k6
                by_cases hp : 0 < T.length
                · have hd1 : decide (0 < T.length) = true := by simpa using hp
                  have hd1' : decide ((0 : Int) < (T.length : Int)) = true := by rw [decide_eq_true_eq]; omega
                  obtain ⟨A1, c1, a1, rfl, hc1⟩ := hfst hp
                  have z1 : ∀ z, (onto w5 z).cell? a1 = some (.slice A1 (wdOf T) c1) := fun z => (onto_below w5 z).cell (lt_of_cell hc1) |>.trans hc1
                  have z1' : ∀ z, (onto w5 z).cell? (a1.add 0) = some (.slice A1 (wdOf T) c1) := fun z => by rw [show a1.add 0 = a1 by simp [Addr.add]]; exact z1 z
                  clear hc1 hfst
                  by_cases hmf : rc2.length = wdOf T
                  · have hvt : v10 = true := by rw [HV10.out, hu]; simp [hmf, hp]
                    subst hvt
                    have hd2 : ((rc2.length : Int) == (wdOf T : Int)) = true := by simp [hmf]
                    have hd3 : (rc2.length == wdOf T) = true := by simp [hmf]
                    clear hmf hu
                    refine wp_region_onto (by kernel_rfl) (by kernel_rfl) ?_
                    repeat (go_big_quiet_step (fail))
                    refine wpQuiet_nil ?_
                    intro _ hw'
                    obtain ⟨y4, hw''⟩ := hw'
                    subst hw''
                    go_wp2_with fail
                    go_meet
                    exact ⟨rfl, y4, rfl⟩
                  · have hvt : v10 = false := by rw [HV10.out]; simp [hmf]
                    subst hvt
                    have hd2 : ((rc2.length : Int) == (wdOf T : Int)) = false := by rw [beq_eq_false_iff_ne]; omega
                    have hd3 : (rc2.length == wdOf T) = false := by rw [beq_eq_false_iff_ne]; exact hmf
                    clear hmf hu
                    refine wp_region_onto (by kernel_rfl) (by kernel_rfl) ?_
                    repeat (go_big_quiet_step (fail))
                    refine wpQuiet_nil ?_
                    intro _ hw'
                    obtain ⟨y4, hw''⟩ := hw'
                    subst hw''
                    go_wp2_with fail
                    go_meet
                    exact ⟨rfl, y4, rfl⟩
                · have hvt : v10 = false := by rw [HV10.out]; simp [hp]
                  subst hvt
                  have hd1 : decide (0 < T.length) = false := by simpa using hp
                  have hd1' : decide ((0 : Int) < (T.length : Int)) = false := by rw [decide_eq_false_iff_not]; omega
                  clear hfst hu hp
                  refine wp_region_onto (by kernel_rfl) (by kernel_rfl) ?_
                  repeat (go_big_quiet_step (fail))
                  refine wpQuiet_nil ?_
                  intro _ hw'
                  obtain ⟨y4, hw''⟩ := hw'
                  subst hw''
                  go_wp2_with fail
                  go_meet
                  exact ⟨rfl, y4, rfl⟩
            case rest =>
              obtain ⟨rfl, y4, rfl⟩ := hcut
              have HR6 := Lib.hid (HR5.out.below (onto_below w5 y4))
              have HB6 := Lib.hid (HB5.out.trans ((onto_below w5 y4).mono HR5.out.base_le))
              obtain ⟨w6, hw6⟩ : ∃ w6, w6 = onto w5 y4 := ⟨_, rfl⟩
              rw [← hw6] at HR6 HB6
              rw [← hw6]
              clear hw6 HR5 HB5 hg k6 k8 k10 hc3 k11 hfst
              have hg := HR6.out.cells.1
              have k8 := HR6.out.cells.2.2.2.2.2.2.2.1
              have f8 := HR6.out.free 8
              dsimp only at k8
              cases v10
              · have h10 : ¬ (mBound (mkOf r1 rc T) = true ∧ ((mkOf r1 rc T).rc.length : Int) + 1 = (mkOf r1 rc T).wd) := by
                  have h1 := HV10.out.symm
                  rw [decide_eq_false_iff_not] at h1
                  intro h2
                  apply h1
                  have h3 := h2.1
                  have h4 : (rc.length : Int) + 1 = (wdOf T : Int) := h2.2
                  have h5 := HL.out
                  simp [mBound, mkOf] at h3
                  exact ⟨h3.1, h3.2, by omega⟩
                have hx := (lnGo_go (e := r1.e) (n := n') (m := mkOf r1 rc T) HF.out HK.out HRR.out H8.out h10).symm.trans HX.out
                have hm : ({ mkOf r1 rc T with rc := (mkOf r1 rc T).rc ++ [toBA F.f] } : Mk) = mkOf r1 rc2 T := by
                  rw [HC2.out, HT.out]; rfl
                rw [hm] at hx
                have hgd := get_drop (HFL.out.symm.trans HRR.out)
                rw [← hgd.2.1] at hx
                have HX2 := Lib.hid hx
                have hlt := hgd.2.2
                have hle := HLE.out
                have hset := HR6.out.set8 (F.i + 1)
                have hcast : ((F.i + 1 : Nat) : Int) = (F.i : Int) + 1 := by omega
                rw [hcast] at hset
                have HS := Lib.hid hset
                have HCI := Lib.hid (cell_i hset.1)
                clear hset hcast hgd hm hx h10
                go_wp2_with fail
                go_roundw
                case rel => exact ⟨F.i + 1, n', rc2, by omega, by omega, by have := HL.out; omega, HX2, Lib.hid HS.out.1, Lib.hid (HB6.out.trans HS.out.2)⟩
                case measure =>
                  rw [HCI.out, HCW.out]
                  show r1.s.size - (F.i + 1) < r1.s.size - i
                  omega
              · have hx := (lnGo_10 (e := r1.e) (n := n') (m := mkOf r1 rc T) HF.out HK.out HRR.out H8.out (by
                  have h1 := HV10.out.symm
                  rw [decide_eq_true_eq] at h1
                  have h5 := HL.out
                  refine ⟨?_, ?_⟩
                  · simp [mBound, mkOf]; exact ⟨h1.1, h1.2.1⟩
                  · show (rc.length : Int) + 1 = (wdOf T : Int)
                    omega)).symm.trans HX.out
                have HXF := Lib.hid hx
                clear hx
                go_wp2_with fail
                refine (wrong_rd base g { r1 with i := F.i } rc2 T w6 HR6 10 F.i h01).mono ?_
                rintro x w7 ⟨rfl, o1, o2⟩
                have HB7 := Lib.hid (HB6.out.trans o2.out)
                clear o2
                go_wp2_with fail
                go_ret
                first | rw [← HEQ.out] | skip
                refine ⟨false, rfl, HB7, ?_, ?_⟩
                · rw [← HXF.out]; exact Lib.hid (fun e => absurd e (by simp))
                · rw [← HXF.out]; exact Lib.hid (fun _ => ⟨F.i, rc2, o1.out⟩)
          · have hx := (lnGo_8 (e := r1.e) (n := n') (m := mkOf r1 rc T) HF.out HK.out HRR.out (by
              have h1 := HV8.out
              rw [beq_iff_eq, HL.out] at h1
              show (rc.length : Int) + 1 = r1.ls
              omega)).symm.trans HX.out
            have HXF := Lib.hid hx
            clear hx hfst
            go_wp2_with fail
            refine (wrong_rd base g { r1 with i := F.i } rc2 T w5 HR5 8 F.i h01).mono ?_
            rintro x w7 ⟨rfl, o1, o2⟩
            have HB7 := Lib.hid (HB5.out.trans o2.out)
            clear o2
            go_wp2_with fail
            go_ret
            first | rw [← HEQ.out] | skip
            refine ⟨false, rfl, HB7, ?_, ?_⟩
            · rw [← HXF.out]; exact Lib.hid (fun e => absurd e (by simp))
            · rw [← HXF.out]; exact Lib.hid (fun _ => ⟨F.i, rc2, o1.out⟩)
      · obtain ⟨hok, hr⟩ := HFR.out.2.2 hk
        have HRV := Lib.hid hr
        have HXF := Lib.hid ((lnGo_bad (e := r1.e) (n := n') (m := mkOf r1 rc T) HF.out hk).symm.trans HX.out)
        have HK := Lib.hid hk
        subst hok
        clear hk hr HFR
        go_wp2_with fail
        go_ret
        first | rw [← HEQ.out] | skip
        refine ⟨false, rfl, HBV, ?_, ?_⟩
        · rw [← HXF.out]; exact Lib.hid (fun e => absurd e HK.out)
        · rw [← HXF.out]; exact Lib.hid (fun _ => ⟨i', rc, HRV.out⟩)
end Go.Proofs.Ytoeanbfemgmgnaa

namespace Go.Proofs.Ytoeanbfemgmgnaa
open Go.ChangeShapes Go.WideShapes Go.ChangeAt Go.RowKit
set_option linter.unusedVariables false
set_option linter.unusedSimpArgs false

section
variable {d q e : Int} {m : Mk} {i : Nat} {s : ByteArray}
theorem isB_lt {b : Int} (h : isB s i b = true) : i < s.size := by
  by_cases hi : i < s.size
  · exact hi
  · rw [isB_end (by omega)] at h; cases h
theorem lnEnd_rest {l : List Int} (hi : i ≤ s.size) (hl : (bl s).drop i = l) (h : (lnEnd e m i l).k = 0) : (lnEnd e m i l).l = (bl s).drop (lnEnd e m i l).i ∧ i ≤ (lnEnd e m i l).i ∧ (lnEnd e m i l).i ≤ s.size := by
  match l, hl, h with
  | [], hl, h =>
    cases hw : wOk m with
    | false => rw [lnEnd_nil_no hw] at h; exact absurd h (by simp)
    | true => rw [lnEnd_nil hw]; exact ⟨hl.symm, Nat.le_refl _, hi⟩
  | b :: r, hl, h =>
    obtain ⟨_, h2, h3⟩ := get_drop hl
    rcases fdN_cases e (b == 10) with hn | hn | hn
    · rw [lnEnd_0 hn] at h; exact absurd h (by simp)
    · cases hw : wOk m with
      | false => rw [lnEnd_w (by rw [hn]; decide) hw] at h; exact absurd h (by simp)
      | true => rw [lnEnd_1 hn hw]; exact ⟨h2.symm, by simp, h3⟩
    · cases hw : wOk m with
      | false => rw [lnEnd_w (by rw [hn]; decide) hw] at h; exact absurd h (by simp)
      | true =>
        rw [lnEnd_2 hn hw] at h ⊢
        cases hv : isB s (i + 1) 10 with
        | false => rw [lnCr_no h2 hv] at h; exact absurd h (by simp)
        | true => rw [lnCr_yes h2 hv]; have := isB_lt hv; exact ⟨rfl, by simp, by show i + 2 ≤ s.size; omega⟩
theorem lnGo_rest : ∀ (n : Nat) (m : Mk) (i : Nat), i ≤ s.size → s.size - i < n → (lnGo d q e n m i ((bl s).drop i)).k = 0 →
    (lnGo d q e n m i ((bl s).drop i)).l = (bl s).drop (lnGo d q e n m i ((bl s).drop i)).i ∧ i ≤ (lnGo d q e n m i ((bl s).drop i)).i ∧ (lnGo d q e n m i ((bl s).drop i)).i ≤ s.size ∧
    ∀ b r, (bl s).drop i = b :: r → b ≠ 10 → b ≠ 13 → i < (lnGo d q e n m i ((bl s).drop i)).i := by
  intro n
  induction n with
  | zero => intro m i _ hn; omega
  | succ n ih =>
    intro m i hi hn h
    obtain ⟨F, hF⟩ : ∃ F, fGo d q m.lf i ((bl s).drop i) = F := ⟨_, rfl⟩
    by_cases hk : F.k = 0
    · obtain ⟨h1, h2, h3, h4⟩ := fGo_at d q m.lf i s hi hF hk
      by_cases hd : ∃ rr, F.l = d :: rr
      · obtain ⟨rr, hl⟩ := hd
        obtain ⟨_, g2, g3⟩ := get_drop (h3.symm.trans hl)
        by_cases h8 : (m.rc.length : Int) + 1 = m.ls
        · rw [lnGo_8 hF hk hl h8] at h; exact absurd h (by simp)
        · by_cases h10 : mBound m = true ∧ (m.rc.length : Int) + 1 = m.wd
          · rw [lnGo_10 hF hk hl h8 h10] at h; exact absurd h (by simp)
          · rw [lnGo_go hF hk hl h8 h10, ← g2] at h ⊢
            obtain ⟨k1, k2, k3, _⟩ := ih _ (F.i + 1) (by omega) (by omega) h
            exact ⟨k1, by omega, k3, fun _ _ _ _ _ => by omega⟩
      · have hne : ∀ b r, F.l = b :: r → b ≠ d := fun b r hl e => hd ⟨r, by rw [hl, e]⟩
        rw [lnGo_stop hF hk hne] at h ⊢
        obtain ⟨k1, k2, k3⟩ := lnEnd_rest h2 h3.symm h
        refine ⟨k1, by omega, k3, fun b r hb n10 n13 => ?_⟩
        by_cases hfi : F.i = i
        · exfalso
          have hl : F.l = b :: r := by rw [h3, hfi, hb]
          have hs := h4 b r hl
          have hbd := hne b r hl
          simp [stops, n10, n13, hbd] at hs
        · omega
    · rw [lnGo_bad hF hk] at h; exact absurd h hk
end

/-! ### All lines: what is told already, and what is told of the rest -/
def Got.join (T : List (List ByteArray × Nat)) (o : Got) : Got := ⟨T ++ o.rs, o.k, o.at_⟩
theorem join_nil (o : Got) : Got.join [] o = o := rfl
theorem join_more (T : List (List ByteArray × Nat)) (r : List ByteArray) (i : Nat) (o : Got) : Got.join T (o.more r i) = Got.join (T ++ [(r, i)]) o := by simp [Got.join, Got.more]
theorem wdOf_snoc (T : List (List ByteArray × Nat)) (p : List ByteArray × Nat) : (wdOf (T ++ [p]) : Int) = if (T.length : Int) = 0 then (p.1.length : Int) else (wdOf T : Int) := by
  match T with
  | [] => simp [wdOf]
  | a :: T => 
    rw [if_neg (by simp; omega)]
    rfl
/-- Behind a line that is whole the maker is the reader's again. -/
theorem mkOf_out (r : Rd) (X : List ByteArray) (e : Nat) (T : List (List ByteArray × Nat)) : mOut { ({ mkOf r [] T with bg := r.bg + 1 } : Mk) with rc := X } = mkOf { r with bg := r.bg + 1 } [] (T ++ [(X, e)]) := by
  unfold mOut mkOf
  simp only [wdOf_snoc]
  simp
section
variable {d q e : Int} {n : Nat} {m : Mk} {i : Nat} {l : List Int} {b : Int}
theorem rd_nil : rdGo d q e (n + 1) m i [] = ⟨[], 0, 0⟩ := by rw [rdGo]
theorem rd_0 (hb : b = 10 ∨ b = 13) (h : fdN e (b == 10) = 0) : rdGo d q e (n + 1) m i (b :: l) = ⟨[], 6, i⟩ := by
  rw [rdGo]
  rcases hb with rfl | rfl
  · by_cases he : e = 2
    · rw [if_pos rfl, if_pos he]
    · simp [fdN, he] at h
  · by_cases he : e = 1
    · rw [if_neg (by decide), if_pos rfl, if_pos he]
    · simp [fdN, he] at h
theorem rd_1 (hb : b = 10 ∨ b = 13) (h : fdN e (b == 10) = 1) : rdGo d q e (n + 1) m i (b :: l) = rdGo d q e n m (i + 1) l := by
  conv => lhs; rw [rdGo]
  rcases hb with rfl | rfl
  · by_cases he : e = 2
    · simp [fdN, he] at h
    · rw [if_pos rfl, if_neg he]
  · exfalso
    by_cases he : e = 1 <;> simp [fdN, he] at h
theorem rd_2no {s : ByteArray} (hb : b = 10 ∨ b = 13) (h : fdN e (b == 10) = 2) (hl : (bl s).drop (i + 1) = l) (hv : isB s (i + 1) 10 = false) : rdGo d q e (n + 1) m i (b :: l) = ⟨[], 6, i + 1⟩ := by
  rw [rdGo]
  rcases hb with rfl | rfl
  · exfalso
    by_cases he : e = 2 <;> simp [fdN, he] at h
  · by_cases he : e = 1
    · simp [fdN, he] at h
    · rw [if_neg (by decide), if_pos rfl, if_neg he, if_neg]
      match l, hl with
      | [], _ => simp
      | c :: r, hl => rw [isB_drop hl] at hv; simpa using hv
theorem rd_2yes {s : ByteArray} (hb : b = 10 ∨ b = 13) (h : fdN e (b == 10) = 2) (hl : (bl s).drop (i + 1) = l) (hv : isB s (i + 1) 10 = true) : rdGo d q e (n + 1) m i (b :: l) = rdGo d q e n m (i + 2) ((bl s).drop (i + 2)) := by
  conv => lhs; rw [rdGo]
  rcases hb with rfl | rfl
  · exfalso
    by_cases he : e = 2 <;> simp [fdN, he] at h
  · by_cases he : e = 1
    · simp [fdN, he] at h
    · match l, hl with
      | [], hl =>
        have := isB_lt hv
        have h2 := congrArg List.length hl
        simp [bl_length] at h2; omega
      | c :: r, hl =>
        have hc := hv
        rw [isB_drop hl] at hc
        rw [if_neg (by decide), if_pos rfl, if_neg he, if_pos (by simpa using hc), (get_drop hl).2.1]; rfl
theorem rd_9 (h1 : b ≠ 10) (h2 : b ≠ 13) (h9 : m.bg = m.lr) : rdGo d q e (n + 1) m i (b :: l) = ⟨[], 9, i⟩ := by
  rw [rdGo, if_neg h1, if_neg h2, if_pos h9]
theorem rd_bad {X : Lin} (h1 : b ≠ 10) (h2 : b ≠ 13) (h9 : ¬ m.bg = m.lr) (hX : lnGo d q e (l.length + 2) { m with bg := m.bg + 1 } i (b :: l) = X) (hk : X.k ≠ 0) : rdGo d q e (n + 1) m i (b :: l) = ⟨[], X.k, X.at_⟩ := by
  rw [rdGo, if_neg h1, if_neg h2, if_neg h9, hX, if_pos hk]
theorem rd_go {X : Lin} (h1 : b ≠ 10) (h2 : b ≠ 13) (h9 : ¬ m.bg = m.lr) (hX : lnGo d q e (l.length + 2) { m with bg := m.bg + 1 } i (b :: l) = X) (hk : X.k = 0) : rdGo d q e (n + 1) m i (b :: l) = (rdGo d q e n (mOut { m with bg := m.bg + 1, rc := X.rc }) X.i X.l).more X.rc X.e := by
  conv => lhs; rw [rdGo, if_neg h1, if_neg h2, if_neg h9, hX, if_neg (by simp [hk])]
end

set_option maxRecDepth 100000 in
set_option maxHeartbeats 800000 in
/-- A line where no more may begin. -/
theorem line_9 (base g : Nat) (r : Rd) (rc : List ByteArray) (T : List (List ByteArray × Nat)) (h0 : Hid (r.k = 0)) (hlr : Hid (r.bg = r.lr)) (w : World) (h : Hid (RdB w base g r rc T)) :
    Calls Try.prog 46 #[.pointer (some ⟨g, 0, none⟩)] w (RdOut base g (.bool false) { r with k := 9, at_ := r.i } rc T w) := by
  have hd9 : (r.bg == r.lr) = true := by rw [beq_iff_eq]; exact hlr.out
  have hg := h.out.cells.1
  have k5 := h.out.cells.2.2.2.2.1
  have k9 := h.out.cells.2.2.2.2.2.2.2.2.1
  go_enter Try.func46, Try.ntmps46
  go_wp2_with fail
  refine wp_region_onto (by kernel_rfl) (by kernel_rfl) ?_
  repeat (go_big_quiet_step (fail))
  refine wpQuiet_nil ?_
  intro _ hw'
  obtain ⟨y0, hw''⟩ := hw'
  subst hw''
  have H1 := Lib.hid (h.out.below (onto_below w y0))
  have HB := Lib.hid ((onto_below w y0).mono h.out.base_le)
  have hg1 := H1.out.cells.1
  have k8 := H1.out.cells.2.2.2.2.2.2.2.1
  clear hg k5 k9
  go_wp2_with fail
  refine (wrong_rd base g r rc T _ H1 9 r.i h0).mono ?_
  rintro x w2 ⟨rfl, o1, o2⟩
  have HB2 := Lib.hid (HB.out.trans o2.out)
  clear o2
  go_wp2_with fail
  go_ret
  exact ⟨rfl, o1, HB2⟩
end Go.Proofs.Ytoeanbfemgmgnaa

namespace Go.Proofs.Ytoeanbfemgmgnaa
open Go.ChangeShapes Go.WideShapes Go.ChangeAt Go.RowKit
set_option linter.unusedVariables false
set_option linter.unusedSimpArgs false

/-- The reader at a place. -/
abbrev rdS (d q e lf ls lr un : Int) (s : ByteArray) (i : Nat) (bg k : Int) (a : Nat) : Rd := ⟨d, q, e, lf, ls, lr, un, s, i, bg, .slice none 0 0, .slice none 0 0, .slice none 0 0, k, a⟩
theorem rd0_at (w : World) (d q e lf ls lr un : Int) (s : ByteArray) {g base : Nat} (hg : g = w.heap.size) (hb : base ≤ g) : RdB (w.alloc (.cells (rdCells (rdS d q e lf ls lr un s 0 0 0 0)) 99)) base g (rdS d q e lf ls lr un s 0 0 0 0) [] [] :=
  ⟨none, 0, none, 0, none, 0, [], hb, by have := (up_alloc (Below.refl _ w) (.cells (rdCells (rdS d q e lf ls lr un s 0 0 0 0)) 99)).size; omega, StB.made w hg _ _, SlOwn.nothing _ _ _, SlOwn.nothing _ _ _, by simp, SlOwn.nothing _ _ _, RowsAt.nothing _ _ _ _⟩
/-- What the reader has told, and what it tells yet, is G. -/
def RdSt (G : Got) (r : Rd) (rc : List ByteArray) (T : List (List ByteArray × Nat)) : Prop :=
  (r.k = 0 → r.at_ = 0 ∧ rc = [] ∧ r.i ≤ r.s.size ∧ 0 ≤ r.bg ∧ r.bg ≤ r.i ∧ T.length ≤ r.i ∧ wdOf T ≤ 1000 ∧ ∃ n, r.s.size - r.i < n ∧ Got.join T (rdGo r.d r.q r.e n (mkOf r [] T) r.i ((bl r.s).drop r.i)) = G) ∧ (r.k ≠ 0 → G = ⟨T, r.k, r.at_⟩)
theorem RdSt.end_ {G : Got} {r : Rd} {rc : List ByteArray} {T : List (List ByteArray × Nat)} (h : RdSt G r rc T) (he : r.k ≠ 0 ∨ r.s.size ≤ r.i) : G = ⟨T, r.k, r.at_⟩ := by
  by_cases hk : r.k = 0
  · obtain ⟨h1, _, _, _, _, _, _, n, hn, h2⟩ := h.1 hk
    have hi : r.s.size ≤ r.i := he.resolve_left (fun h => h hk)
    obtain ⟨n', rfl⟩ : ∃ n', n = n' + 1 := ⟨n - 1, by omega⟩
    rw [bl_end r.s r.i hi, rd_nil] at h2
    rw [← h2, hk, h1]; simp [Got.join]
  · exact h.2 hk
theorem lnGo_few (d q e : Int) : ∀ (n : Nat) (m : Mk) (i : Nat) (l : List Int), (lnGo d q e n m i l).rc.length ≤ m.rc.length + n := by
  intro n
  induction n with
  | zero => intro m i l; rw [lnGo]; simp
  | succ n ih =>
    intro m i l
    have hend : ∀ (m' : Mk) (i' : Nat) (l' : List Int), (lnEnd e m' i' l').rc.length ≤ m'.rc.length := by
      intro m' i' l'
      match l' with
      | [] => rw [lnEnd]; split <;> simp
      | b :: r =>
        rw [lnEnd]
        split
        · split
          · simp
          · split <;> simp
        · split
          · simp
          · split
            · simp
            · match r with
              | [] => simp [lnCr]
              | c :: r' => rw [lnCr]; split <;> simp
    obtain ⟨F, hF⟩ : ∃ F, fGo d q m.lf i l = F := ⟨_, rfl⟩
    by_cases hk : F.k = 0
    · by_cases hd : ∃ rr, F.l = d :: rr
      · obtain ⟨rr, hl⟩ := hd
        by_cases h8 : (m.rc.length : Int) + 1 = m.ls
        · rw [lnGo_8 hF hk hl h8]; simp
        · by_cases h10 : mBound m = true ∧ (m.rc.length : Int) + 1 = m.wd
          · rw [lnGo_10 hF hk hl h8 h10]; simp
          · rw [lnGo_go hF hk hl h8 h10]
            have := ih { m with rc := m.rc ++ [toBA F.f] } (F.i + 1) rr
            simp at this ⊢; omega
      · rw [lnGo_stop hF hk (fun b r hl e => hd ⟨r, by rw [hl, e]⟩)]
        have := hend { m with rc := m.rc ++ [toBA F.f] } F.i F.l
        simp at this ⊢; omega
    · rw [lnGo_bad hF hk]; simp
def cellK (w : World) (g : Nat) : Int := match w.cell? ⟨g, 13, none⟩ with
  | some (.int _ n) => n
  | _ => 0
theorem cell_k {w : World} {base g : Nat} {r : Rd} {rc : List ByteArray} {T : List (List ByteArray × Nat)} (h : RdB w base g r rc T) : cellK w g = r.k := by
  have := h.cells.2.2.2.2.2.2.2.2.2.1
  unfold cellK; rw [this]
theorem StB.keep' {w w' : World} {p base : Nat} {t : TypeId} {cs : Array Value} (h : StB w p t cs) (hb : Below base w w') (hp : p < base) : StB w' p t cs := (hb.block p hp).trans h
/-- What Read answers. -/
def GotOut (G : Got) (w : World) (x : Ending) (w' : World) : Prop :=
  ∃ C c E ce V, x = .returned (.agg #[.slice C G.rs.length c, .slice E G.rs.length ce, .int .i64 G.k, .int .i64 (G.at_ : Int)]) ∧
    Hid (SlOwn w' w.heap.size 64 C G.rs.length c V ∧ (∀ u ∈ V, u.oneCell' = true) ∧ SlOwn w' w.heap.size 3 E G.rs.length ce (ends G.rs) ∧ RowsAt w' w.heap.size 9 V (G.rs.map (·.1)) none) ∧ Hid (Below w.heap.size w w')

theorem RowsAt.mono {w : World} {base base' : Nat} {e : TypeId} {V : List Value} {rs : List (List ByteArray)} {no : Option Nat} (h : RowsAt w base e V rs no) (hb : base' ≤ base) : RowsAt w base' e V rs no := ⟨h.1, fun j x hx => by
  obtain ⟨A, a, hv, ho, hn⟩ := h.2 j x hx
  exact ⟨A, a, hv, ho.mono hb, hn⟩⟩
theorem got_end {w W0 wr : World} {g p : Nat} {T : List (List ByteArray × Nat)} {C E : Option Addr} {c ce : Nat} {VV : List Value} {no : Option Nat} {cs : Array Value} (hwp : w.heap.size ≤ p) (hpg : p < g) (HBW : Below w.heap.size w W0) (HB : Below g W0 wr) (HP : StB wr p 71 cs)
    (q5 : SlOwn wr g 64 C T.length c VV) (q7 : SlOwn wr g 3 E T.length ce (ends T)) (q8 : RowsAt wr g 9 VV (T.map (·.1)) no) (u0 u1 u2 u3 : Value) (W5 : World) (hW : W5 = (((wr.setCell ⟨p, 0, none⟩ u0).setCell ⟨p, 1, none⟩ u1).setCell ⟨p, 2, none⟩ u2).setCell ⟨p, 3, none⟩ u3) :
    SlOwn W5 w.heap.size 64 C T.length c VV ∧ SlOwn W5 w.heap.size 3 E T.length ce (ends T) ∧ RowsAt W5 w.heap.size 9 VV (T.map (·.1)) none ∧ Below w.heap.size w W5 := by
  have keep : ∀ k, k ≠ p → W5.heap[k]? = wr.heap[k]? := fun k hk => by
    rw [hW, Below.heap_setCell _ _ _ k hk, Below.heap_setCell _ _ _ k hk, Below.heap_setCell _ _ _ k hk, Below.heap_setCell _ _ _ k hk]
  refine ⟨(q5.keep fun k hk => keep k (by have := (q5.blk k hk).1; omega)).mono (by omega), (q7.keep fun k hk => keep k (by have := (q7.blk k hk).1; omega)).mono (by omega), (q8.free.keep fun k hk _ ⟨cur, fz, hc⟩ => keep k fun e => ?_).mono (by omega), (HBW.trans (HB.mono (by omega))).trans ⟨by rw [hW]; rfl, by rw [hW]; rfl, by rw [hW]; rfl, by rw [hW]; simp [World.setCell], fun k hk => keep k (by omega)⟩⟩
  subst e
  unfold StB at HP
  rw [HP] at hc; injection hc with hc; injection hc with _ h2 _; exact absurd h2 (by decide)

set_option maxRecDepth 100000 in
set_option maxHeartbeats 3200000 in
theorem read_any6 (d q e lf ls lr un : Int) (s : ByteArray) (hs : s.size ≤ 980) (hun : un = 0 ∨ un = 1) (n0 : Nat) (hn0 : s.size < n0) (G : Got) (hG : Hid (rdGo d q e n0 ⟨lf, ls, lr, decide (un = 1), [], [], 0, 0, 0, 0⟩ 0 (bl s) = G)) (w : World) :
    Calls Try.prog 27 #[.agg #[.int .i64 d, .int .i64 q, .int .i64 e], .agg #[.int .i64 lf, .int .i64 ls, .int .i64 lr, .int .i64 un], .string s] w (GotOut G w) := by
  go_enter Try.func27, Try.ntmps27
  go_wp2_with fail
  obtain ⟨V3, hV3⟩ : ∃ V3, V3 = (((w.alloc (Obj.cells #[Value.int IntKind.i64 d, Value.int IntKind.i64 q, Value.int IntKind.i64 e] 40)).alloc (Obj.cells #[Value.int IntKind.i64 lf, Value.int IntKind.i64 ls, Value.int IntKind.i64 lr, Value.int IntKind.i64 un] 43)).alloc (Obj.cells #[Value.slice none 0 0, Value.slice none 0 0, Value.int IntKind.i64 0, Value.int IntKind.i64 0] 71)) := ⟨_, rfl⟩
  have a1 : ∀ (W : World) (o : Obj), (W.alloc o).heap.size = W.heap.size + 1 := fun W o => by simp only [World.alloc, Array.size_push]
  have hz3 : V3.heap.size = w.heap.size + 1 + 1 + 1 := by rw [hV3, a1, a1, a1]
  have hb3 : Below w.heap.size w V3 := by rw [hV3]; exact up_alloc (up_alloc (up_alloc (Below.refl _ w) _) _) _
  have hres : StB V3 (w.heap.size + 1 + 1) 71 #[Value.slice none 0 0, Value.slice none 0 0, Value.int IntKind.i64 0, Value.int IntKind.i64 0] := by
    rw [hV3]; exact StB.made _ (by rw [a1, a1]) _ _
  have hrd := rd0_at V3 d q e lf ls lr un s (g := w.heap.size + 1 + 1 + 1) (base := w.heap.size + 1 + 1 + 1) hz3.symm (Nat.le_refl _)
  have hb4 := up_alloc (Below.refl _ V3) (.cells (rdCells (rdS d q e lf ls lr un s 0 0 0 0)) 99)
  rw [← hV3]
  show Code.wp _ _ _ _ (V3.alloc (.cells (rdCells (rdS d q e lf ls lr un s 0 0 0 0)) 99))
  obtain ⟨W0, hW0⟩ : ∃ W0, W0 = V3.alloc (.cells (rdCells (rdS d q e lf ls lr un s 0 0 0 0)) 99) := ⟨_, rfl⟩
  rw [← hW0] at hrd hb4
  rw [← hW0]
  have hres2 := hres.below hb4
  have hbw := hb3.trans (hb4.mono hb3.size)
  obtain ⟨g, hg⟩ : ∃ g, g = w.heap.size + 1 + 1 + 1 := ⟨_, rfl⟩
  rw [← hg] at hrd
  rw [← hg]
  obtain ⟨p, hp⟩ : ∃ p, p = w.heap.size + 1 + 1 := ⟨_, rfl⟩
  rw [← hp] at hres2
  rw [← hp]
  have hpg : p < g := by omega
  have hwp : w.heap.size ≤ p := by omega
  have HRES := Lib.hid hres2
  have HBW := Lib.hid hbw
  have HRD := Lib.hid hrd
  have HS0 := Lib.hid (show RdSt G (rdS d q e lf ls lr un s 0 0 0 0) [] [] from ⟨fun _ => ⟨rfl, rfl, Nat.zero_le _, Int.le_refl _, Int.le_refl _, Nat.le_refl _, by simp [wdOf], n0, by show s.size - 0 < n0; omega, by rw [join_nil]; exact hG.out⟩, fun h => absurd rfl h⟩)
  clear hres hb3 hb4 hrd hW0 hV3 hz3 hres2 hbw hg hp a1
  go_loopw [8] (fun nn wr => ∃ (i : Nat) (bg k : Int) (a : Nat) (rc : List ByteArray) (T : List (List ByteArray × Nat)), Hid (RdB wr g g (rdS d q e lf ls lr un s i bg k a) rc T) ∧ Hid (Below g W0 wr) ∧ Hid (RdSt G (rdS d q e lf ls lr un s i bg k a) rc T)) (fun nn wr => if cellK wr g = 0 then s.size + 1 - cellN wr g else 0)
  case atStart => exact ⟨0, 0, 0, 0, [], [], HRD, Lib.hid (Below.refl _ _), HS0⟩
  case round =>
    obtain ⟨i, bg, k, a, rc, T, HR, HB, HS⟩ := hrel
    have HCI := Lib.hid (show cellN wr g = i from cell_i HR.out)
    have HCK := Lib.hid (show cellK wr g = k from cell_k HR.out)
    have hg := HR.out.cells.1
    have k8 := HR.out.cells.2.2.2.2.2.2.2.1
    have k13 := HR.out.cells.2.2.2.2.2.2.2.2.2.1
    dsimp only at k8 k13
    obtain ⟨vi, hvi⟩ : ∃ v, decide (i < s.size) = v := ⟨_, rfl⟩
    obtain ⟨vk, hvk⟩ : ∃ v, (k == 0) = v := ⟨_, rfl⟩
    have HVI := Lib.hid hvi
    have HVK := Lib.hid hvk
    clear hvi hvk
    cases vi
    · have hvi := HVI.out
      have hvk := HVK.out
      have HE := Lib.hid (HS.out.end_ (.inr (by have := HVI.out; rw [decide_eq_false_iff_not] at this; show s.size ≤ i; omega)))
      obtain ⟨B', d', C, c, E, ce, VV, q1, q2, q3, q4, q5, q6, q7, q8⟩ := HR.out
      have k11 : wr.cell? ⟨g, 11, none⟩ = some (.slice C T.length c) := StB.cell q3 11
      have k12 : wr.cell? ⟨g, 12, none⟩ = some (.slice E T.length ce) := StB.cell q3 12
      have k14 : wr.cell? ⟨g, 14, none⟩ = some (.int .i64 (a : Int)) := StB.cell q3 14
      have HP := Lib.hid (HRES.out.keep' HB.out hpg)
      have Q6 := Lib.hid q6
      have QE := Lib.hid (fun u0 u1 u2 u3 W5 hW => got_end hwp hpg HBW.out HB.out HP.out q5 q7 q8 u0 u1 u2 u3 W5 hW)
      clear q1 q2 q3 q4 q5 q6 q7 q8
      have p0 : wr.cell? ⟨p, 0, none⟩ = some (.slice none 0 0) := HP.out.cell 0
      have p1 : wr.cell? ⟨p, 1, none⟩ = some (.slice none 0 0) := HP.out.cell 1
      have p2 : wr.cell? ⟨p, 2, none⟩ = some (.int .i64 0) := HP.out.cell 2
      have p3 : wr.cell? ⟨p, 3, none⟩ = some (.int .i64 0) := HP.out.cell 3
      have e0 := HP.out.free 0
      have e1 := HP.out.free 1
      have e2 := HP.out.free 2
      have e3 := HP.out.free 3
      have hps := HP.out.lt
      go_wp2_with fail
      obtain ⟨W5, hW5⟩ : ∃ W5, W5 = (((wr.setCell ⟨p, 0, none⟩ (.slice C T.length c)).setCell ⟨p, 1, none⟩ (.slice E T.length ce)).setCell ⟨p, 2, none⟩ (.int .i64 k)).setCell ⟨p, 3, none⟩ (.int .i64 (a : Int)) := ⟨_, rfl⟩
      have st := (((HP.out.set_ 0 (.slice C T.length c)).set_ 1 (.slice E T.length ce)).set_ 2 (.int .i64 k)).set_ 3 (.int .i64 (a : Int))
      rw [← hW5] at st
      rw [← hW5]
      have w0 : W5.cell? ⟨p, 0, none⟩ = some (.slice C T.length c) := st.cell 0
      have w1 : W5.cell? ⟨p, 1, none⟩ = some (.slice E T.length ce) := st.cell 1
      have w2 : W5.cell? ⟨p, 2, none⟩ = some (.int .i64 k) := st.cell 2
      have w3 : W5.cell? ⟨p, 3, none⟩ = some (.int .i64 (a : Int)) := st.cell 3
      have qe := QE.out _ _ _ _ _ hW5
      clear hW5 st
      refine bodyPost_ret (v := .agg #[.slice C T.length c, .slice E T.length ce, .int .i64 k, .int .i64 (a : Int)]) (by simp [results, Try.results27, go_sem, w0, w1, w2, w3]) rfl ?_
      rw [HE.out]
      exact ⟨C, c, E, ce, VV, rfl, Lib.hid ⟨qe.1, Q6.out, qe.2.1, qe.2.2.1⟩, Lib.hid qe.2.2.2⟩
    · have hvi := HVI.out
      have hvk := HVK.out
      cases vk
      · skip
        have HE := Lib.hid (HS.out.end_ (.inl (by have := HVK.out; rw [beq_eq_false_iff_ne] at this; exact this)))
        obtain ⟨B', d', C, c, E, ce, VV, q1, q2, q3, q4, q5, q6, q7, q8⟩ := HR.out
        have k11 : wr.cell? ⟨g, 11, none⟩ = some (.slice C T.length c) := StB.cell q3 11
        have k12 : wr.cell? ⟨g, 12, none⟩ = some (.slice E T.length ce) := StB.cell q3 12
        have k14 : wr.cell? ⟨g, 14, none⟩ = some (.int .i64 (a : Int)) := StB.cell q3 14
        have HP := Lib.hid (HRES.out.keep' HB.out hpg)
        have Q6 := Lib.hid q6
        have QE := Lib.hid (fun u0 u1 u2 u3 W5 hW => got_end hwp hpg HBW.out HB.out HP.out q5 q7 q8 u0 u1 u2 u3 W5 hW)
        clear q1 q2 q3 q4 q5 q6 q7 q8
        have p0 : wr.cell? ⟨p, 0, none⟩ = some (.slice none 0 0) := HP.out.cell 0
        have p1 : wr.cell? ⟨p, 1, none⟩ = some (.slice none 0 0) := HP.out.cell 1
        have p2 : wr.cell? ⟨p, 2, none⟩ = some (.int .i64 0) := HP.out.cell 2
        have p3 : wr.cell? ⟨p, 3, none⟩ = some (.int .i64 0) := HP.out.cell 3
        have e0 := HP.out.free 0
        have e1 := HP.out.free 1
        have e2 := HP.out.free 2
        have e3 := HP.out.free 3
        have hps := HP.out.lt
        go_wp2_with fail
        obtain ⟨W5, hW5⟩ : ∃ W5, W5 = (((wr.setCell ⟨p, 0, none⟩ (.slice C T.length c)).setCell ⟨p, 1, none⟩ (.slice E T.length ce)).setCell ⟨p, 2, none⟩ (.int .i64 k)).setCell ⟨p, 3, none⟩ (.int .i64 (a : Int)) := ⟨_, rfl⟩
        have st := (((HP.out.set_ 0 (.slice C T.length c)).set_ 1 (.slice E T.length ce)).set_ 2 (.int .i64 k)).set_ 3 (.int .i64 (a : Int))
        rw [← hW5] at st
        rw [← hW5]
        have w0 : W5.cell? ⟨p, 0, none⟩ = some (.slice C T.length c) := st.cell 0
        have w1 : W5.cell? ⟨p, 1, none⟩ = some (.slice E T.length ce) := st.cell 1
        have w2 : W5.cell? ⟨p, 2, none⟩ = some (.int .i64 k) := st.cell 2
        have w3 : W5.cell? ⟨p, 3, none⟩ = some (.int .i64 (a : Int)) := st.cell 3
        have qe := QE.out _ _ _ _ _ hW5
        clear hW5 st
        refine bodyPost_ret (v := .agg #[.slice C T.length c, .slice E T.length ce, .int .i64 k, .int .i64 (a : Int)]) (by simp [results, Try.results27, go_sem, w0, w1, w2, w3]) rfl ?_
        rw [HE.out]
        exact ⟨C, c, E, ce, VV, rfl, Lib.hid ⟨qe.1, Q6.out, qe.2.1, qe.2.2.1⟩, Lib.hid qe.2.2.2⟩
      · skip
        have hk0 : k = 0 := by have := HVK.out; simpa using this
        subst hk0
        obtain ⟨ha, hrc, hi, hb0, hbi, hTi, hwd, n, hn, hG1⟩ := HS.out.1 rfl
        dsimp only at ha hi hb0 hbi hTi hn hG1
        subst hrc
        subst ha
        have hlt : i < s.size := by have := HVI.out; simpa using this
        obtain ⟨n', rfl⟩ : ∃ n', n = n' + 1 := ⟨n - 1, by omega⟩
        obtain ⟨b, l, hbl⟩ : ∃ b l, (bl s).drop i = b :: l := ⟨_, _, bl_drop s i hlt⟩
        rw [hbl] at hG1
        have HG1 := Lib.hid hG1
        obtain ⟨_, hgd, _⟩ := get_drop hbl
        have HGD := Lib.hid hgd
        have HBL := Lib.hid hbl
        have V10 := Lib.hid (isB_drop hbl 10)
        have V13 := Lib.hid (isB_drop hbl 13)
        have hs1 : (rdS d q e lf ls lr un s i bg 0 0).s.size ≤ 1000 := by show s.size ≤ 1000; omega
        clear hG1 hgd hbl
        by_cases h10 : b = 10
        · have U10 := Lib.hid (V10.out.trans (show (b == 10) = true by simpa using h10))
          obtain ⟨nf, hnf⟩ : ∃ nf, fdN e true = nf := ⟨_, rfl⟩
          have HNF := Lib.hid hnf
          have HNB := Lib.hid (show fdN e (b == 10) = nf by rw [← hnf, h10]; rfl)
          have hnc : nf = 0 ∨ nf = 1 := by rw [← hnf]; unfold fdN; rw [if_pos rfl]; split <;> simp
          have HB10 := Lib.hid h10
          clear hnf h10 V10 V13
          go_wp2_with fail
          refine (above (is_rd g g (rdS d q e lf ls lr un s i bg 0 0) [] T wr HR 10 true U10 hs1)).mono ?_
          rintro x _ ⟨rfl, y1, rfl⟩
          have HRA := Lib.hid (HR.out.below (onto_below wr y1))
          have HBA := Lib.hid (HB.out.trans ((onto_below wr y1).mono HR.out.base_le))
          obtain ⟨wa, hwa⟩ : ∃ W, W = onto wr y1 := ⟨_, rfl⟩
          rw [← hwa] at HRA HBA
          rw [← hwa]
          clear hwa
          clear hg k8 k13
          go_wp2_with fail
          refine (feed_rd g g (rdS d q e lf ls lr un s i bg 0 0) [] T wa HRA true U10 hs1 (Lib.hid rfl) nf HNF).mono ?_
          rintro x wb ⟨rfl, o1, o2⟩
          have HBB := Lib.hid (HBA.out.trans o2.out)
          rcases hnc with rfl | rfl
          · have HRB := Lib.hid (show RdB wb g g (rdS d q e lf ls lr un s i bg 6 i) [] T from o1.out)
            have hg := HRB.out.cells.1
            have k8 := HRB.out.cells.2.2.2.2.2.2.2.1
            have f8 := HRB.out.free 8
            dsimp only at k8
            have hset := HRB.out.set8 i
            have HRN := Lib.hid hset.1
            have HBN := Lib.hid (HBB.out.trans hset.2)
            have HGX := Lib.hid ((congrArg (Got.join T) (rd_0 (.inl HB10.out) HNB.out)).symm.trans HG1.out)
            clear hset o1 o2
            go_wp2_with fail
            have HM1 := Lib.hid (cell_k HRN.out)
            have HM2 := Lib.hid (cell_i HRN.out)
            go_roundw
            case rel => exact ⟨i, bg, 6, i, [], T, HRN, HBN, Lib.hid (⟨fun h => absurd h (by simp), fun _ => by rw [← HGX.out]; simp [Got.join]⟩)⟩
            case measure => rw [HM1.out, HM2.out, HCK.out, HCI.out]; simp; omega
          · have HRB := Lib.hid (show RdB wb g g (rdS d q e lf ls lr un s i bg 0 0) [] T from o1.out)
            have hg := HRB.out.cells.1
            have k8 := HRB.out.cells.2.2.2.2.2.2.2.1
            have f8 := HRB.out.free 8
            dsimp only at k8
            have hset := HRB.out.set8 (i + 1)
            have hcast : ((i + 1 : Nat) : Int) = (i : Int) + 1 := by omega
            rw [hcast] at hset
            have HRN := Lib.hid hset.1
            have HBN := Lib.hid (HBB.out.trans hset.2)
            have HGX := Lib.hid ((congrArg (Got.join T) (rd_1 (.inl HB10.out) HNB.out)).symm.trans HG1.out)
            clear hset hcast o1 o2
            go_wp2_with fail
            have HM1 := Lib.hid (cell_k HRN.out)
            have HM2 := Lib.hid (cell_i HRN.out)
            go_roundw
            case rel => exact ⟨i + 1, bg, 0, 0, [], T, HRN, HBN, Lib.hid (⟨fun _ => ⟨rfl, rfl, by show i + 1 ≤ s.size; omega, hb0, by show bg ≤ ((i + 1 : Nat) : Int); omega, by show T.length ≤ i + 1; omega, hwd, n', by show s.size - (i + 1) < n'; omega, by show Got.join T (rdGo d q e n' _ (i + 1) ((bl s).drop (i + 1))) = G; rw [HGD.out]; exact HGX.out⟩, fun h => absurd rfl h⟩)⟩
            case measure => rw [HM1.out, HM2.out, HCK.out, HCI.out]; simp; omega
        · by_cases h13 : b = 13
          · have U10 := Lib.hid (V10.out.trans (show (b == 10) = false by simpa using h10))
            have U13 := Lib.hid (V13.out.trans (show (b == 13) = true by simpa using h13))
            obtain ⟨nf, hnf⟩ : ∃ nf, fdN e false = nf := ⟨_, rfl⟩
            have HNF := Lib.hid hnf
            have HNB := Lib.hid (show fdN e (b == 10) = nf by rw [← hnf, h13]; rfl)
            have hnc : nf = 0 ∨ nf = 2 := by rw [← hnf]; unfold fdN; rw [if_neg (by decide)]; split <;> simp
            have HB13 := Lib.hid h13
            clear hnf h10 h13 V10 V13
            go_wp2_with fail
            refine (above (is_rd g g (rdS d q e lf ls lr un s i bg 0 0) [] T wr HR 10 false U10 hs1)).mono ?_
            rintro x _ ⟨rfl, y1, rfl⟩
            have HRA := Lib.hid (HR.out.below (onto_below wr y1))
            have HBA := Lib.hid (HB.out.trans ((onto_below wr y1).mono HR.out.base_le))
            obtain ⟨wa, hwa⟩ : ∃ W, W = onto wr y1 := ⟨_, rfl⟩
            rw [← hwa] at HRA HBA
            rw [← hwa]
            clear hwa
            clear hg k8 k13
            go_wp2_with fail
            refine (above (is_rd g g (rdS d q e lf ls lr un s i bg 0 0) [] T wa HRA 13 true U13 hs1)).mono ?_
            rintro x _ ⟨rfl, y2, rfl⟩
            have HRB := Lib.hid (HRA.out.below (onto_below wa y2))
            have HBB := Lib.hid (HBA.out.trans ((onto_below wa y2).mono HRA.out.base_le))
            obtain ⟨wb, hwb⟩ : ∃ W, W = onto wa y2 := ⟨_, rfl⟩
            rw [← hwb] at HRB HBB
            rw [← hwb]
            clear hwb
            go_wp2_with fail
            refine (feed_rd g g (rdS d q e lf ls lr un s i bg 0 0) [] T wb HRB false U10 hs1 (Lib.hid rfl) nf HNF).mono ?_
            rintro x wc2 ⟨rfl, o1, o2⟩
            have HBC := Lib.hid (HBB.out.trans o2.out)
            rcases hnc with rfl | rfl
            · have HRC := Lib.hid (show RdB wc2 g g (rdS d q e lf ls lr un s i bg 6 i) [] T from o1.out)
              have hg := HRC.out.cells.1
              have k8 := HRC.out.cells.2.2.2.2.2.2.2.1
              have f8 := HRC.out.free 8
              dsimp only at k8
              have hset := HRC.out.set8 i
              have HRN := Lib.hid hset.1
              have HBN := Lib.hid (HBC.out.trans hset.2)
              have HGX := Lib.hid ((congrArg (Got.join T) (rd_0 (.inr HB13.out) HNB.out)).symm.trans HG1.out)
              clear hset o1 o2
              go_wp2_with fail
              have HM1 := Lib.hid (cell_k HRN.out)
              have HM2 := Lib.hid (cell_i HRN.out)
              go_roundw
              case rel => exact ⟨i, bg, 6, i, [], T, HRN, HBN, Lib.hid (⟨fun h => absurd h (by simp), fun _ => by rw [← HGX.out]; simp [Got.join]⟩)⟩
              case measure => rw [HM1.out, HM2.out, HCK.out, HCI.out]; simp; omega
            · have HRC := Lib.hid (show RdB wc2 g g (rdS d q e lf ls lr un s i bg 0 0) [] T from o1.out)
              obtain ⟨vs, hvs⟩ : ∃ v, isB s (i + 1) 10 = v := ⟨_, rfl⟩
              have HVS := Lib.hid hvs
              clear hvs o1 o2
              go_wp2_with fail
              refine (second_rd g g (rdS d q e lf ls lr un s i bg 0 0) [] T wc2 HRC vs HVS hs1 (by show i ≤ 1000; omega) (Lib.hid rfl)).mono ?_
              rintro x wd ⟨rfl, o1, o2⟩
              have HBD := Lib.hid (HBC.out.trans o2.out)
              have hcast : ((i + 2 : Nat) : Int) = (i : Int) + 2 := by omega
              cases vs
              · have HRD2 := Lib.hid (show RdB wd g g (rdS d q e lf ls lr un s i bg 6 (i + 1)) [] T from o1.out)
                have hg := HRD2.out.cells.1
                have k8 := HRD2.out.cells.2.2.2.2.2.2.2.1
                have f8 := HRD2.out.free 8
                dsimp only at k8
                have hset := HRD2.out.set8 (i + 2)
                rw [hcast] at hset
                have HRN := Lib.hid hset.1
                have HBN := Lib.hid (HBD.out.trans hset.2)
                have HGX := Lib.hid ((congrArg (Got.join T) (rd_2no (.inr HB13.out) HNB.out HGD.out HVS.out)).symm.trans HG1.out)
                clear hset hcast o1 o2
                go_wp2_with fail
                have HM1 := Lib.hid (cell_k HRN.out)
                have HM2 := Lib.hid (cell_i HRN.out)
                go_roundw
                case rel => exact ⟨i + 2, bg, 6, i + 1, [], T, HRN, HBN, Lib.hid (⟨fun h => absurd h (by simp), fun _ => by rw [← HGX.out]; simp [Got.join]⟩)⟩
                case measure => rw [HM1.out, HM2.out, HCK.out, HCI.out]; simp; omega
              · have HRD2 := Lib.hid (show RdB wd g g (rdS d q e lf ls lr un s i bg 0 0) [] T from o1.out)
                have hg := HRD2.out.cells.1
                have k8 := HRD2.out.cells.2.2.2.2.2.2.2.1
                have f8 := HRD2.out.free 8
                dsimp only at k8
                have hset := HRD2.out.set8 (i + 2)
                rw [hcast] at hset
                have HRN := Lib.hid hset.1
                have HBN := Lib.hid (HBD.out.trans hset.2)
                have HGX := Lib.hid ((congrArg (Got.join T) (rd_2yes (.inr HB13.out) HNB.out HGD.out HVS.out)).symm.trans HG1.out)
                have hl2 := isB_lt HVS.out
                clear hset hcast o1 o2
                go_wp2_with fail
                have HM1 := Lib.hid (cell_k HRN.out)
                have HM2 := Lib.hid (cell_i HRN.out)
                go_roundw
                case rel => exact ⟨i + 2, bg, 0, 0, [], T, HRN, HBN, Lib.hid (⟨fun _ => ⟨rfl, rfl, by show i + 2 ≤ s.size; omega, hb0, by show bg ≤ ((i + 2 : Nat) : Int); omega, by show T.length ≤ i + 2; omega, hwd, n', by show s.size - (i + 2) < n'; omega, HGX.out⟩, fun h => absurd rfl h⟩)⟩
                case measure => rw [HM1.out, HM2.out, HCK.out, HCI.out]; simp; omega
          · have U10 := Lib.hid (V10.out.trans (show (b == 10) = false by simpa using h10))
            have U13 := Lib.hid (V13.out.trans (show (b == 13) = false by simpa using h13))
            have N10 := Lib.hid h10
            have N13 := Lib.hid h13
            clear h10 h13 V10 V13
            go_wp2_with fail
            refine (above (is_rd g g (rdS d q e lf ls lr un s i bg 0 0) [] T wr HR 10 false U10 hs1)).mono ?_
            rintro x _ ⟨rfl, y1, rfl⟩
            have HRA := Lib.hid (HR.out.below (onto_below wr y1))
            have HBA := Lib.hid (HB.out.trans ((onto_below wr y1).mono HR.out.base_le))
            obtain ⟨wa, hwa⟩ : ∃ W, W = onto wr y1 := ⟨_, rfl⟩
            rw [← hwa] at HRA HBA
            rw [← hwa]
            clear hwa
            clear hg k8 k13
            go_wp2_with fail
            refine (above (is_rd g g (rdS d q e lf ls lr un s i bg 0 0) [] T wa HRA 13 false U13 hs1)).mono ?_
            rintro x _ ⟨rfl, y2, rfl⟩
            have HRB := Lib.hid (HRA.out.below (onto_below wa y2))
            have HBB := Lib.hid (HBA.out.trans ((onto_below wa y2).mono HRA.out.base_le))
            obtain ⟨wb, hwb⟩ : ∃ W, W = onto wa y2 := ⟨_, rfl⟩
            rw [← hwb] at HRB HBB
            rw [← hwb]
            clear hwb
            go_wp2_with fail
            by_cases h9 : bg = lr
            · refine (line_9 g g (rdS d q e lf ls lr un s i bg 0 0) [] T (Lib.hid rfl) (Lib.hid h9) wb HRB).mono ?_
              rintro x wc2 ⟨rfl, o1, o2⟩
              have HRN := Lib.hid (show RdB wc2 g g (rdS d q e lf ls lr un s i bg 9 i) [] T from o1.out)
              have HBN := Lib.hid (HBB.out.trans o2.out)
              have HGX := Lib.hid ((congrArg (Got.join T) (rd_9 (m := mkOf (rdS d q e lf ls lr un s i bg 0 0) [] T) N10.out N13.out h9)).symm.trans HG1.out)
              clear o1 o2 h9
              go_wp2_with fail
              have HM1 := Lib.hid (cell_k HRN.out)
              have HM2 := Lib.hid (cell_i HRN.out)
              go_roundw
              case rel => exact ⟨i, bg, 9, i, [], T, HRN, HBN, Lib.hid (⟨fun h => absurd h (by simp), fun _ => by rw [← HGX.out]; simp [Got.join]⟩)⟩
              case measure => rw [HM1.out, HM2.out, HCK.out, HCI.out]; simp; omega
            · have hll : l.length + 1 = s.size - i := by
                have := congrArg List.length HBL.out
                simp [bl_length] at this; omega
              obtain ⟨X, hX⟩ : ∃ X, lnGo d q e (l.length + 2) { mkOf (rdS d q e lf ls lr un s i bg 0 0) [] T with bg := bg + 1 } i (b :: l) = X := ⟨_, rfl⟩
              have HX := Lib.hid hX
              refine (line_any6 g g (rdS d q e lf ls lr un s i bg 0 0) T hi hs (Lib.hid rfl) hun (by omega) hwd ⟨hb0, by show bg ≤ 980; omega⟩ (Lib.hid h9) wb HRB (l.length + 2) (by show s.size - i < _; omega) X (Lib.hid (by rw [HBL.out]; exact hX))).mono ?_
              rintro x wc2 ⟨ok, rfl, o1, o2, o3⟩
              have HBN := Lib.hid (HBB.out.trans o1.out)
              by_cases hk : X.k = 0
              · have hrn := o2.out hk
                have HRN := Lib.hid (show RdB wc2 g g (rdS d q e lf ls lr un s X.i (bg + 1) 0 0) [] (T ++ [(X.rc, X.e)]) from hrn)
                have hgx := (congrArg (Got.join T) (rd_go (n := n') (m := mkOf (rdS d q e lf ls lr un s i bg 0 0) [] T) N10.out N13.out h9 hX hk)).symm.trans HG1.out
                rw [join_more] at hgx
                have hrest := lnGo_rest (s := s) (l.length + 2) { mkOf (rdS d q e lf ls lr un s i bg 0 0) [] T with bg := bg + 1 } i hi (by omega) (by rw [HBL.out, hX]; exact hk)
                rw [HBL.out, hX] at hrest
                obtain ⟨r1, r2, r3, r4⟩ := hrest
                have r5 := r4 b l rfl N10.out N13.out
                rw [r1] at hgx
                have HGX := Lib.hid ((congrArg (fun M => Got.join (T ++ [(X.rc, X.e)]) (rdGo d q e n' M X.i ((bl s).drop X.i))) (mkOf_out (rdS d q e lf ls lr un s i bg 0 0) X.rc X.e T)).symm.trans hgx)
                have hfw := lnGo_few d q e (l.length + 2) { mkOf (rdS d q e lf ls lr un s i bg 0 0) [] T with bg := bg + 1 } i (b :: l)
                rw [hX] at hfw
                have hfw2 : X.rc.length ≤ l.length + 2 := by simpa [mkOf] using hfw
                have hwd2 : wdOf (T ++ [(X.rc, X.e)]) ≤ 1000 := by
                  have := wdOf_snoc T (X.rc, X.e)
                  split at this
                  · dsimp only at this; omega
                  · omega
                have HX0 := Lib.hid hk
                clear hX hgx r1 r4 hrn hfw o1 o2 o3 hk h9
                go_wp2_with fail
                have HM1 := Lib.hid (cell_k HRN.out)
                have HM2 := Lib.hid (cell_i HRN.out)
                go_roundw
                case rel => exact ⟨X.i, bg + 1, 0, 0, [], T ++ [(X.rc, X.e)], HRN, HBN, Lib.hid (⟨fun _ => ⟨rfl, rfl, r3, by show 0 ≤ bg + 1; omega, by show bg + 1 ≤ (X.i : Int); omega, by show (T ++ [(X.rc, X.e)]).length ≤ X.i; simp; omega, hwd2, n', by show s.size - X.i < n'; omega, HGX.out⟩, fun h => absurd rfl h⟩)⟩
                case measure => rw [HM1.out, HM2.out, HCK.out, HCI.out]; simp; omega
              · obtain ⟨i', rc', hrn⟩ := o3.out hk
                have HRN := Lib.hid (show RdB wc2 g g (rdS d q e lf ls lr un s i' (bg + 1) X.k X.at_) rc' T from hrn)
                have HGX := Lib.hid ((congrArg (Got.join T) (rd_bad (n := n') (m := mkOf (rdS d q e lf ls lr un s i bg 0 0) [] T) N10.out N13.out h9 hX hk)).symm.trans HG1.out)
                have HM1 := Lib.hid (cell_k HRN.out)
                have HXK := Lib.hid hk
                clear hX hrn o1 o2 o3 hk h9
                go_wp2_with fail
                go_roundw
                case rel => exact ⟨i', bg + 1, X.k, X.at_, rc', T, HRN, HBN, Lib.hid ⟨fun h => absurd h HXK.out, fun _ => by rw [← HGX.out]; simp [Got.join]⟩⟩
                case measure => rw [HM1.out, HCK.out, HCI.out, if_neg (show ¬ X.k = 0 from HXK.out)]; simp; omega
end Go.Proofs.Ytoeanbfemgmgnaa

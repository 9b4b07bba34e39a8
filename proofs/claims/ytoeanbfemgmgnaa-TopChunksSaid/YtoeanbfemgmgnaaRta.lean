/- Layer 12: where the program's reader lies: its box, the rows that wait, its walker; the small calls. -/
import Derived.Test.YtoeanbfemgmgnaaPrr
import Derived.Test.YtoeanbfemgmgnaaCfa
import Derived.Test.YtoeanbfemgmgnaaCua
import Derived.Test.YtoeanbfemgmgnaaZs
import Derived.Test.YtoeanbfemgmgnaaZk
import Derived.Deep.DeepCutAuto
import Derived.Deep.CutBlock
import Derived.Deep.RegionWith
namespace Go.Proofs.Ytoeanbfemgmgnaa
open Go.ChangeShapes Go.WideShapes Go.ChangeAt Go.RowKit
set_option linter.unusedVariables false
set_option linter.unusedSimpArgs false

theorem infoRowR : (Try.prog.info? 64).map (fun i => (i.zero, i.size, i.bytes)) = some (some (.slice none 0 0), 1, 24) := by kernel_rfl
/-- Rows one by one, each in a block of its own; S: these blocks. -/
def RowsB (w : World) : List Value → List (List ByteArray) → (Nat → Prop) → Prop
  | [], [], S => ∀ k, ¬ S k
  | v :: V, r :: rs, S => ∃ A c S1, v = .slice A r.length c ∧ SlOwn w 0 9 A r.length c (strs r) ∧ (∀ k, S k ↔ (blkOf A = some k ∨ S1 k)) ∧ (∀ k, blkOf A = some k → ¬ S1 k) ∧ RowsB w V rs S1
  | _, _, _ => False
theorem RowsB.len {w : World} : ∀ {V : List Value} {rs : List (List ByteArray)} {S : Nat → Prop}, RowsB w V rs S → V.length = rs.length
  | [], [], _, _ => rfl
  | v :: V, r :: rs, S, h => by
    obtain ⟨A, c, S1, _, _, _, _, h5⟩ := h
    rw [List.length_cons, List.length_cons, h5.len]
  | [], _ :: _, _, h => h.elim
  | _ :: _, [], _, h => h.elim
theorem RowsB.lies {w : World} : ∀ {V : List Value} {rs : List (List ByteArray)} {S : Nat → Prop}, RowsB w V rs S → Lies w S
  | [], [], _, h => fun k hk => (h k hk).elim
  | v :: V, r :: rs, S, h => fun k hk => by
    obtain ⟨A, c, S1, _, h2, h3, _, h5⟩ := h
    rcases (h3 k).1 hk with hk | hk
    · exact (h2.blk k hk).2
    · exact h5.lies k hk
  | [], _ :: _, _, h => h.elim
  | _ :: _, [], _, h => h.elim
theorem RowsB.touch {w w' : World} {T : Nat → Prop} (ht : Touch w w' T) : ∀ {V : List Value} {rs : List (List ByteArray)} {S : Nat → Prop}, RowsB w V rs S → (∀ k, S k → ¬ T k) → RowsB w' V rs S
  | [], [], _, h, _ => h
  | v :: V, r :: rs, S, h, hn => by
    obtain ⟨A, c, S1, h1, h2, h3, h4, h5⟩ := h
    exact ⟨A, c, S1, h1, h2.touch ht (fun k hk => hn k ((h3 k).2 (.inl hk))), h3, h4, h5.touch ht (fun k hk => hn k ((h3 k).2 (.inr hk)))⟩
  | [], _ :: _, _, h, _ => h.elim
  | _ :: _, [], _, h, _ => h.elim
theorem RowsB.snoc {w : World} {A : Option Addr} {c : Nat} {x : List ByteArray} (ho : SlOwn w 0 9 A x.length c (strs x)) : ∀ {V : List Value} {rs : List (List ByteArray)} {S : Nat → Prop}, RowsB w V rs S → (∀ k, blkOf A = some k → ¬ S k) → RowsB w (V ++ [.slice A x.length c]) (rs ++ [x]) (fun k => S k ∨ blkOf A = some k)
  | [], [], S, h, _ => ⟨A, c, S, rfl, ho, fun k => ⟨fun hk => hk.elim (fun hs => (h k hs).elim) .inl, fun hk => hk.elim .inr .inl⟩, fun k _ => h k, h⟩
  | v :: V, r :: rs, S, h, hn => by
    obtain ⟨A2, c2, S1, h1, h2, h3, h4, h5⟩ := h
    refine ⟨A2, c2, fun k => S1 k ∨ blkOf A = some k, h1, h2, fun k => ?_, fun k hk hk2 => ?_, h5.snoc ho (fun k hk hs => hn k hk ((h3 k).2 (.inr hs)))⟩
    · show (S k ∨ blkOf A = some k) ↔ (blkOf A2 = some k ∨ S1 k ∨ blkOf A = some k)
      rw [h3 k]
      constructor
      · rintro ((h | h) | h)
        · exact .inl h
        · exact .inr (.inl h)
        · exact .inr (.inr h)
      · rintro (h | h | h)
        · exact .inl (.inl h)
        · exact .inl (.inr h)
        · exact .inr h
    · rcases hk2 with hk2 | hk2
      · exact h4 k hk hk2
      · exact hn k hk2 ((h3 k).2 (.inl hk))
  | [], _ :: _, _, h, _ => h.elim
  | _ :: _, [], _, h, _ => h.elim

/-- A reader's cells. -/
def rdArr (pv : Value) (fed k a : Int) (cl : Bool) (A : Option Addr) (n c : Nat) (gone h : Int) : Array Value := #[pv, .int .i64 fed, .int .i64 k, .int .i64 a, .bool cl, .slice A n c, .int .i64 gone, .int .i64 h]
/-- A reader's box, and the rows that wait: of one that was not asked for any yet. -/
structure RdO (w : World) (P : Nat) (pv : Value) (fed k a : Int) (cl : Bool) (rs : List (List ByteArray)) (A : Option Addr) (n c : Nat) (V : List Value) (SR S : Nat → Prop) : Prop where
  box : StB w P 79 (rdArr pv fed k a cl A n c 0 0)
  own : SlOwn w 0 64 A n c V
  rows : RowsB w V rs SR
  apart : ∀ j, blkOf A = some j → ¬ SR j
  far : ¬ SR P
  all : ∀ j, S j ↔ (j = P ∨ blkOf A = some j ∨ SR j)
section
variable {w w' : World} {P : Nat} {pv : Value} {fed k a : Int} {cl : Bool} {rs : List (List ByteArray)} {A : Option Addr} {n c : Nat} {V : List Value} {SR S T : Nat → Prop}
theorem RdO.lies (h : RdO w P pv fed k a cl rs A n c V SR S) : Lies w S := fun j hj => by
  rcases (h.all j).1 hj with rfl | hj | hj
  · exact h.box.lt
  · exact (h.own.blk j hj).2
  · exact h.rows.lies j hj
theorem RdO.touch (h : RdO w P pv fed k a cl rs A n c V SR S) (ht : Touch w w' T) (hn : ∀ j, S j → ¬ T j) : RdO w' P pv fed k a cl rs A n c V SR S :=
  ⟨h.box.touch ht (hn P ((h.all P).2 (.inl rfl))), h.own.touch ht (fun j hj => hn j ((h.all j).2 (.inr (.inl hj)))), h.rows.touch ht (fun j hj => hn j ((h.all j).2 (.inr (.inr hj)))), h.apart, h.far, h.all⟩
theorem RdO.boxOf (h : RdO w P pv fed k a cl rs A n c V SR S) : S P := (h.all P).2 (.inl rfl)
theorem RdO.nbox (h : RdO w P pv fed k a cl rs A n c V SR S) : ∀ j, blkOf A = some j → j ≠ P := h.own.unlike_st h.box (by decide)
theorem RdO.rowsLen (h : RdO w P pv fed k a cl rs A n c V SR S) : rs.length = n := by rw [← h.rows.len, h.own.1]
/-- Its box is written. -/
theorem RdO.write (h : RdO w P pv fed k a cl rs A n c V SR S) {pv' : Value} {fed' k' a' : Int} {cl' : Bool} (ht : Touch w w' (fun j => j = P)) (hb : StB w' P 79 (rdArr pv' fed' k' a' cl' A n c 0 0)) : RdO w' P pv' fed' k' a' cl' rs A n c V SR S :=
  ⟨hb, h.own.touch ht (fun j hj e => h.nbox j hj e), h.rows.touch ht (fun j hj e => by have e' : j = P := e; exact h.far (e' ▸ hj)), h.apart, h.far, h.all⟩
end

/-- A walker's cells: its dialect, its stripper, its two states, its maker. -/
def wrArr (d q e : Int) (sb : Nat) (u t : Int) (g : Nat) : Array Value := #[.int .u8 d, .int .u8 q, .int .i64 e, .pointer (some ⟨sb, 0, none⟩), .int .i64 u, .int .i64 t, .pointer (some ⟨g, 0, none⟩)]
/-- Block p is a walker whose stripper was handed xs; Z are the blocks that it, its stripper and its maker alone have. -/
structure WkR (w : World) (p : Nat) (d q e : Int) (xs : Array Value) (sb : Nat) (u t : Int) (g : Nat) (m : Mk) (S Z : Nat → Prop) : Prop where
  box : StB w p 84 (wrArr d q e sb u t g)
  strip : StB w sb 110 xs
  make : MkB w g m S
  nbox : ¬ S p
  nstrip : ¬ S sb
  all : ∀ j, Z j ↔ (j = p ∨ j = sb ∨ S j)
section
variable {w w' : World} {p : Nat} {d q e : Int} {xs : Array Value} {sb : Nat} {u t : Int} {g : Nat} {m : Mk} {S Z T : Nat → Prop}
theorem StB.unlike {w : World} {a b : Nat} {t t' : TypeId} {x y : Array Value} (h : StB w a t x) (h' : StB w b t' y) (ht : t ≠ t') : a ≠ b := fun e => by
  subst e
  have := h.symm.trans h'
  injection this with this
  injection this with _ h2
  exact ht h2
theorem WkR.apart (h : WkR w p d q e xs sb u t g m S Z) : sb ≠ p := StB.unlike h.strip h.box (by decide)
theorem WkR.lies (h : WkR w p d q e xs sb u t g m S Z) : Lies w Z := fun j hj => by
  rcases (h.all j).1 hj with rfl | rfl | hj
  · exact h.box.lt
  · exact h.strip.lt
  · exact h.make.lt j hj
theorem WkR.touch (h : WkR w p d q e xs sb u t g m S Z) (ht : Touch w w' T) (hn : ∀ j, Z j → ¬ T j) : WkR w' p d q e xs sb u t g m S Z :=
  ⟨h.box.touch ht (hn p ((h.all p).2 (.inl rfl))), h.strip.touch ht (hn sb ((h.all sb).2 (.inr (.inl rfl)))), h.make.touch ht (fun j hj => hn j ((h.all j).2 (.inr (.inr hj)))), h.nbox, h.nstrip, h.all⟩
end

/-! ### The calls that only read -/
section
variable {w : World} {P : Nat} {pv : Value} {fed k a : Int} {cl : Bool} {A : Option Addr} {n c : Nat} {gone hd : Int}
set_option maxRecDepth 100000 in
theorem fault_rd (h : Hid (StB w P 79 (rdArr pv fed k a cl A n c gone hd))) : Calls Try.prog 19 #[.pointer (some ⟨P, 0, none⟩)] w fun y w' => y = .returned (.agg #[.int .i64 k, .int .i64 a]) ∧ Below w.heap.size w w' := by
  obtain ⟨r, hr⟩ : ∃ r, w.heap.size = r := ⟨_, rfl⟩
  obtain ⟨W, hW⟩ : ∃ W, W = w.alloc (.cells #[.int .i64 0, .int .i64 0] 34) := ⟨_, rfl⟩
  have HP := Lib.hid (show StB W P 79 (rdArr pv fed k a cl A n c gone hd) by rw [hW]; exact h.out.alloc _)
  have HR := Lib.hid (show StB W r 34 #[.int .i64 0, .int .i64 0] by rw [hW]; exact StB.made w hr.symm _ _)
  have HB := Lib.hid (show Below w.heap.size w W by rw [hW]; exact up_alloc (Below.refl _ _) _)
  have c2 : W.cell? ⟨P, 2, none⟩ = some (.int .i64 k) := HP.out.cell 2
  have c3 : W.cell? ⟨P, 3, none⟩ = some (.int .i64 a) := HP.out.cell 3
  have r0 : W.cell? ⟨r, 0, none⟩ = some (.int .i64 0) := HR.out.cell 0
  have r1 : W.cell? ⟨r, 1, none⟩ = some (.int .i64 0) := HR.out.cell 1
  have f0 := HR.out.free 0
  have f1 := HR.out.free 1
  have pl := HP.out.lt
  have rl := HR.out.lt
  go_enter Try.func19, Try.ntmps19
  go_upto_region 1 with fail
  rw [← hW]
  clear hW
  go_wp2_with fail
  have S2 := (HR.out.set_ 0 (.int .i64 k)).set_ 1 (.int .i64 a)
  have y0 := S2.cell 0
  have y1 := S2.cell 1
  have hb := (HB.out.setCell (p := ⟨r, 0, none⟩) (by rw [hr]; exact Nat.le_refl _) (.int .i64 k)).setCell (p := ⟨r, 1, none⟩) (by rw [hr]; exact Nat.le_refl _) (.int .i64 a)
  exact bodyPost_ret (v := .agg #[.int .i64 k, .int .i64 a]) (by simp [results, Try.results19, go_sem, y0, y1]) rfl ⟨rfl, hb⟩
set_option maxRecDepth 100000 in
theorem count_rd (h : Hid (StB w P 79 (rdArr pv fed k a cl A n c gone hd))) (h0 : 0 ≤ hd) (h1 : hd ≤ 1000000) (hn : n ≤ 1000000) : Calls Try.prog 16 #[.pointer (some ⟨P, 0, none⟩)] w fun y w' => y = .returned (.int .i64 (hd + n)) ∧ Below w.heap.size w w' := by
  have c5 : ∀ z : Above w, (onto w z).cell? ⟨P, 5, none⟩ = some (.slice A n c) := fun z => (StB.onto h.out z).cell 5
  have c7 : ∀ z : Above w, (onto w z).cell? ⟨P, 7, none⟩ = some (.int .i64 hd) := fun z => (StB.onto h.out z).cell 7
  have pl := h.out.lt
  have zg : ∀ z : Above w, P < (onto w z).heap.size := fun z => (StB.onto h.out z).lt
  go_enter Try.func16, Try.ntmps16
  go_wp2_with fail
  refine wp_region_onto (by kernel_rfl) (by kernel_rfl) ?_
  repeat (go_big_quiet_step (fail))
  refine wpQuiet_nil ?_
  intro _ hw'
  obtain ⟨y1, hw''⟩ := hw'
  subst hw''
  go_wp2_with fail
  go_ret
  exact ⟨rfl, onto_below w y1⟩
set_option maxRecDepth 100000 in
theorem offset_rd (h : Hid (StB w P 79 (rdArr pv fed k a cl A n c gone hd))) : Calls Try.prog 17 #[.pointer (some ⟨P, 0, none⟩)] w fun y w' => y = .returned (.int .i64 (if k ≠ 0 then a else fed)) ∧ Below w.heap.size w w' := by
  have c1 : w.cell? ⟨P, 1, none⟩ = some (.int .i64 fed) := h.out.cell 1
  have c2 : w.cell? ⟨P, 2, none⟩ = some (.int .i64 k) := h.out.cell 2
  have c3 : w.cell? ⟨P, 3, none⟩ = some (.int .i64 a) := h.out.cell 3
  have pl := h.out.lt
  by_cases hk : k = 0
  · have hk1 : (k != 0) = false := by simpa using hk
    rw [if_neg (by simpa using hk)]
    clear hk
    go_enter Try.func17, Try.ntmps17
    go_wp2_with fail
    go_ret
    exact ⟨rfl, Below.refl _ _⟩
  · have hk1 : (k != 0) = true := by simpa using hk
    rw [if_pos hk]
    clear hk
    go_enter Try.func17, Try.ntmps17
    go_wp2_with fail
    go_ret
    exact ⟨rfl, Below.refl _ _⟩
end

/-! ### stop -/
section
variable {w : World} {P : Nat} {pv : Value} {fed k a : Int} {cl : Bool} {A : Option Addr} {n c : Nat} {gone hd : Int}
set_option maxRecDepth 100000 in
theorem stop_bad (h : Hid (StB w P 79 (rdArr pv fed k a cl A n c gone hd))) (kk at_ : Int) (hk : kk ≠ 0) : Calls Try.prog 53 #[.pointer (some ⟨P, 0, none⟩), .int .i64 kk, .int .i64 at_] w fun y w' => y = .returned (.tuple #[]) ∧ Hid (StB w' P 79 (rdArr (.pointer none) fed kk at_ cl A n c gone hd)) ∧ Hid (Touch w w' (fun j => j = P)) := by
  have hk1 : (kk != 0) = true := by simpa using hk
  have c0 : w.cell? ⟨P, 0, none⟩ = some pv := h.out.cell 0
  have c2 : w.cell? ⟨P, 2, none⟩ = some (.int .i64 k) := h.out.cell 2
  have c3 : w.cell? ⟨P, 3, none⟩ = some (.int .i64 a) := h.out.cell 3
  have f0 := h.out.free 0
  have f2 := h.out.free 2
  have f3 := h.out.free 3
  have pl := h.out.lt
  have HS := Lib.hid (((h.out.set_ 2 (.int .i64 kk)).set_ 3 (.int .i64 at_)).set_ 0 (.pointer none))
  have HT := Lib.hid ((((Touch.refl w (fun j => j = P)).then_set (p := ⟨P, 2, none⟩) (.inl rfl) (.int .i64 kk)).then_set (p := ⟨P, 3, none⟩) (.inl rfl) (.int .i64 at_)).then_set (p := ⟨P, 0, none⟩) (.inl rfl) (.pointer none))
  clear hk
  go_enter Try.func53, Try.ntmps53
  go_wp2_with fail
  go_end0
  exact ⟨rfl, HS, HT⟩
set_option maxRecDepth 100000 in
theorem stop_ok (h : Hid (StB w P 79 (rdArr pv fed k a cl A n c gone hd))) (at_ : Int) : Calls Try.prog 53 #[.pointer (some ⟨P, 0, none⟩), .int .i64 0, .int .i64 at_] w fun y w' => y = .returned (.tuple #[]) ∧ Hid (StB w' P 79 (rdArr (.pointer none) fed k a cl A n c gone hd)) ∧ Hid (Touch w w' (fun j => j = P)) := by
  have c0 : w.cell? ⟨P, 0, none⟩ = some pv := h.out.cell 0
  have f0 := h.out.free 0
  have pl := h.out.lt
  have HS := Lib.hid (h.out.set_ 0 (.pointer none))
  have HT := Lib.hid ((Touch.refl w (fun j => j = P)).then_set (p := ⟨P, 0, none⟩) (.inl rfl) (.pointer none))
  go_enter Try.func53, Try.ntmps53
  go_wp2_with fail
  go_end0
  exact ⟨rfl, HS, HT⟩
end
end Go.Proofs.Ytoeanbfemgmgnaa

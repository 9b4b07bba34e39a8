/- Layer 12: where the program's reader lies: its box, the rows that wait, its walker; the small calls. Layer 12: the program's walker: its step and its end. Layer 12: the program's reader walks through what its stripper hands on, and comes to its end. Layer 12: the program's reader: where it lies in each state (RBx), New, Feed, Close. Layer 12: the program's reader: New, Feed. Layer 12: the program's reader: Close. Layer 12: the program's reader: drop, Next. Layer 12: the program's reader: Next; all that the laws ask of it (pr_says). -/
import Derived.Test.YtoeanbfemgmgnaaGreatDoorPrr
import Derived.Test.YtoeanbfemgmgnaaGreatDoorCfa
import Derived.Test.YtoeanbfemgmgnaaGreatDoorCua
import Derived.Test.YtoeanbfemgmgnaaGreatDoorZs
import Derived.Test.YtoeanbfemgmgnaaGreatDoorZk
import Derived.Deep.DeepCutAuto
import Derived.Deep.CutBlock
import Derived.Deep.RegionWith
import Derived.Test.YtoeanbfemgmgnaaGreatDoorTra
import Derived.Test.YtoeanbfemgmgnaaGreatDoorZn
namespace Go.Proofs.YtoeanbfemgmgnaaGreatDoor
open Go.ChangeShapes Go.WideShapes Go.ChangeAt Go.RowKit
set_option linter.unusedVariables false
set_option linter.unusedSimpArgs false

theorem infoRowR : (Tryz.prog.info? 38).map (fun i => (i.zero, i.size, i.bytes)) = some (some (.slice none 0 0), 1, 24) := by kernel_rfl
/-- Rows one by one, each in a block of its own; S: these blocks. -/
def RowsB (w : World) : List Value → List (List ByteArray) → (Nat → Prop) → Prop
  | [], [], S => ∀ k, ¬ S k
  | v :: V, r :: rs, S => ∃ A c S1, v = .slice A r.length c ∧ SlOwn w 0 9 A r.length c (strs r) ∧ (∀ k, S k ↔ (blkOf A = some k ∨ S1 k)) ∧ (∀ k, blkOf A = some k → ¬ S1 k) ∧ RowsB w V rs S1
  | _, _, _ => False
theorem RowsB.len {w : World} : ∀ {V : List Value} {rs : List (List ByteArray)} {S : Nat → Prop}, RowsB w V rs S → V.length = rs.length
  | [], [], _, _ => rfl
  | v :: V, r :: rs, S, h => by
    obtain ⟨A, c, S1, _, _, _, _, h5⟩ := h
    rw [List.length_cons, List.length_cons, h5.len]
  | [], _ :: _, _, h => h.elim
  | _ :: _, [], _, h => h.elim
theorem RowsB.lies {w : World} : ∀ {V : List Value} {rs : List (List ByteArray)} {S : Nat → Prop}, RowsB w V rs S → Lies w S
  | [], [], _, h => fun k hk => (h k hk).elim
  | v :: V, r :: rs, S, h => fun k hk => by
    obtain ⟨A, c, S1, _, h2, h3, _, h5⟩ := h
    rcases (h3 k).1 hk with hk | hk
    · exact (h2.blk k hk).2
    · exact h5.lies k hk
  | [], _ :: _, _, h => h.elim
  | _ :: _, [], _, h => h.elim
theorem RowsB.touch {w w' : World} {T : Nat → Prop} (ht : Touch w w' T) : ∀ {V : List Value} {rs : List (List ByteArray)} {S : Nat → Prop}, RowsB w V rs S → (∀ k, S k → ¬ T k) → RowsB w' V rs S
  | [], [], _, h, _ => h
  | v :: V, r :: rs, S, h, hn => by
    obtain ⟨A, c, S1, h1, h2, h3, h4, h5⟩ := h
    exact ⟨A, c, S1, h1, h2.touch ht (fun k hk => hn k ((h3 k).2 (.inl hk))), h3, h4, h5.touch ht (fun k hk => hn k ((h3 k).2 (.inr hk)))⟩
  | [], _ :: _, _, h, _ => h.elim
  | _ :: _, [], _, h, _ => h.elim
theorem RowsB.snoc {w : World} {A : Option Addr} {c : Nat} {x : List ByteArray} (ho : SlOwn w 0 9 A x.length c (strs x)) : ∀ {V : List Value} {rs : List (List ByteArray)} {S : Nat → Prop}, RowsB w V rs S → (∀ k, blkOf A = some k → ¬ S k) → RowsB w (V ++ [.slice A x.length c]) (rs ++ [x]) (fun k => S k ∨ blkOf A = some k)
  | [], [], S, h, _ => ⟨A, c, S, rfl, ho, fun k => ⟨fun hk => hk.elim (fun hs => (h k hs).elim) .inl, fun hk => hk.elim .inr .inl⟩, fun k _ => h k, h⟩
  | v :: V, r :: rs, S, h, hn => by
    obtain ⟨A2, c2, S1, h1, h2, h3, h4, h5⟩ := h
    refine ⟨A2, c2, fun k => S1 k ∨ blkOf A = some k, h1, h2, fun k => ?_, fun k hk hk2 => ?_, h5.snoc ho (fun k hk hs => hn k hk ((h3 k).2 (.inr hs)))⟩
    · show (S k ∨ blkOf A = some k) ↔ (blkOf A2 = some k ∨ S1 k ∨ blkOf A = some k)
      rw [h3 k]
      constructor
      · rintro ((h | h) | h)
        · exact .inl h
        · exact .inr (.inl h)
        · exact .inr (.inr h)
      · rintro (h | h | h)
        · exact .inl (.inl h)
        · exact .inl (.inr h)
        · exact .inr h
    · rcases hk2 with hk2 | hk2
      · exact h4 k hk hk2
      · exact hn k hk2 ((h3 k).2 (.inl hk))
  | [], _ :: _, _, h, _ => h.elim
  | _ :: _, [], _, h, _ => h.elim

/-- A reader's cells. -/
def rdArr (pv : Value) (fed k a : Int) (cl : Bool) (A : Option Addr) (n c : Nat) (gone h : Int) : Array Value := #[pv, .int .i64 fed, .int .i64 k, .int .i64 a, .bool cl, .slice A n c, .int .i64 gone, .int .i64 h]
/-- A reader's box, and the rows that wait: of one that was not asked for any yet. -/
structure RdO (w : World) (P : Nat) (pv : Value) (fed k a : Int) (cl : Bool) (rs : List (List ByteArray)) (A : Option Addr) (n c : Nat) (V : List Value) (SR S : Nat → Prop) : Prop where
  box : StB w P 87 (rdArr pv fed k a cl A n c 0 0)
  own : SlOwn w 0 38 A n c V
  rows : RowsB w V rs SR
  apart : ∀ j, blkOf A = some j → ¬ SR j
  far : ¬ SR P
  all : ∀ j, S j ↔ (j = P ∨ blkOf A = some j ∨ SR j)
section
variable {w w' : World} {P : Nat} {pv : Value} {fed k a : Int} {cl : Bool} {rs : List (List ByteArray)} {A : Option Addr} {n c : Nat} {V : List Value} {SR S T : Nat → Prop}
theorem RdO.lies (h : RdO w P pv fed k a cl rs A n c V SR S) : Lies w S := fun j hj => by
  rcases (h.all j).1 hj with rfl | hj | hj
  · exact h.box.lt
  · exact (h.own.blk j hj).2
  · exact h.rows.lies j hj
theorem RdO.touch (h : RdO w P pv fed k a cl rs A n c V SR S) (ht : Touch w w' T) (hn : ∀ j, S j → ¬ T j) : RdO w' P pv fed k a cl rs A n c V SR S :=
  ⟨h.box.touch ht (hn P ((h.all P).2 (.inl rfl))), h.own.touch ht (fun j hj => hn j ((h.all j).2 (.inr (.inl hj)))), h.rows.touch ht (fun j hj => hn j ((h.all j).2 (.inr (.inr hj)))), h.apart, h.far, h.all⟩
theorem RdO.boxOf (h : RdO w P pv fed k a cl rs A n c V SR S) : S P := (h.all P).2 (.inl rfl)
theorem RdO.nbox (h : RdO w P pv fed k a cl rs A n c V SR S) : ∀ j, blkOf A = some j → j ≠ P := h.own.unlike_st h.box (by decide)
theorem RdO.rowsLen (h : RdO w P pv fed k a cl rs A n c V SR S) : rs.length = n := by rw [← h.rows.len, h.own.1]
/-- Its box is written. -/
theorem RdO.write (h : RdO w P pv fed k a cl rs A n c V SR S) {pv' : Value} {fed' k' a' : Int} {cl' : Bool} (ht : Touch w w' (fun j => j = P)) (hb : StB w' P 87 (rdArr pv' fed' k' a' cl' A n c 0 0)) : RdO w' P pv' fed' k' a' cl' rs A n c V SR S :=
  ⟨hb, h.own.touch ht (fun j hj e => h.nbox j hj e), h.rows.touch ht (fun j hj e => by have e' : j = P := e; exact h.far (e' ▸ hj)), h.apart, h.far, h.all⟩
end

/-- A walker's cells: its dialect, its stripper, its two states, its maker. -/
def wrArr (d q e : Int) (sb : Nat) (u t : Int) (g : Nat) : Array Value := #[.int .u8 d, .int .u8 q, .int .i64 e, .pointer (some ⟨sb, 0, none⟩), .int .i64 u, .int .i64 t, .pointer (some ⟨g, 0, none⟩)]
/-- Block p is a walker whose stripper was handed xs; Z are the blocks that it, its stripper and its maker alone have. -/
structure WkR (w : World) (p : Nat) (d q e : Int) (xs : Array Value) (sb : Nat) (u t : Int) (g : Nat) (m : Mk) (S Z : Nat → Prop) : Prop where
  box : StB w p 93 (wrArr d q e sb u t g)
  strip : StB w sb 123 xs
  make : MkB w g m S
  nbox : ¬ S p
  nstrip : ¬ S sb
  all : ∀ j, Z j ↔ (j = p ∨ j = sb ∨ S j)
section
variable {w w' : World} {p : Nat} {d q e : Int} {xs : Array Value} {sb : Nat} {u t : Int} {g : Nat} {m : Mk} {S Z T : Nat → Prop}
theorem StB.unlike {w : World} {a b : Nat} {t t' : TypeId} {x y : Array Value} (h : StB w a t x) (h' : StB w b t' y) (ht : t ≠ t') : a ≠ b := fun e => by
  subst e
  have := h.symm.trans h'
  injection this with this
  injection this with _ h2
  exact ht h2
theorem WkR.apart (h : WkR w p d q e xs sb u t g m S Z) : sb ≠ p := StB.unlike h.strip h.box (by decide)
theorem WkR.lies (h : WkR w p d q e xs sb u t g m S Z) : Lies w Z := fun j hj => by
  rcases (h.all j).1 hj with rfl | rfl | hj
  · exact h.box.lt
  · exact h.strip.lt
  · exact h.make.lt j hj
theorem WkR.touch (h : WkR w p d q e xs sb u t g m S Z) (ht : Touch w w' T) (hn : ∀ j, Z j → ¬ T j) : WkR w' p d q e xs sb u t g m S Z :=
  ⟨h.box.touch ht (hn p ((h.all p).2 (.inl rfl))), h.strip.touch ht (hn sb ((h.all sb).2 (.inr (.inl rfl)))), h.make.touch ht (fun j hj => hn j ((h.all j).2 (.inr (.inr hj)))), h.nbox, h.nstrip, h.all⟩
end

/-! ### The calls that only read -/
section
variable {w : World} {P : Nat} {pv : Value} {fed k a : Int} {cl : Bool} {A : Option Addr} {n c : Nat} {gone hd : Int}
end

/-! ### stop -/
section
variable {w : World} {P : Nat} {pv : Value} {fed k a : Int} {cl : Bool} {A : Option Addr} {n c : Nat} {gone hd : Int}
set_option maxRecDepth 100000 in
theorem stop_bad (h : Hid (StB w P 87 (rdArr pv fed k a cl A n c gone hd))) (kk at_ : Int) (hk : kk ≠ 0) : Calls Tryz.prog 62 #[.pointer (some ⟨P, 0, none⟩), .int .i64 kk, .int .i64 at_] w fun y w' => y = .returned (.tuple #[]) ∧ Hid (StB w' P 87 (rdArr (.pointer none) fed kk at_ cl A n c gone hd)) ∧ Hid (Touch w w' (fun j => j = P)) := by
  have hk1 : (kk != 0) = true := by simpa using hk
  have c0 : w.cell? ⟨P, 0, none⟩ = some pv := h.out.cell 0
  have c2 : w.cell? ⟨P, 2, none⟩ = some (.int .i64 k) := h.out.cell 2
  have c3 : w.cell? ⟨P, 3, none⟩ = some (.int .i64 a) := h.out.cell 3
  have f0 := h.out.free 0
  have f2 := h.out.free 2
  have f3 := h.out.free 3
  have pl := h.out.lt
  have HS := Lib.hid (((h.out.set_ 2 (.int .i64 kk)).set_ 3 (.int .i64 at_)).set_ 0 (.pointer none))
  have HT := Lib.hid ((((Touch.refl w (fun j => j = P)).then_set (p := ⟨P, 2, none⟩) (.inl rfl) (.int .i64 kk)).then_set (p := ⟨P, 3, none⟩) (.inl rfl) (.int .i64 at_)).then_set (p := ⟨P, 0, none⟩) (.inl rfl) (.pointer none))
  clear hk
  go_enter Tryz.func62, Tryz.ntmps62
  go_wp2_with fail
  go_end0
  exact ⟨rfl, HS, HT⟩
set_option maxRecDepth 100000 in
theorem stop_ok (h : Hid (StB w P 87 (rdArr pv fed k a cl A n c gone hd))) (at_ : Int) : Calls Tryz.prog 62 #[.pointer (some ⟨P, 0, none⟩), .int .i64 0, .int .i64 at_] w fun y w' => y = .returned (.tuple #[]) ∧ Hid (StB w' P 87 (rdArr (.pointer none) fed k a cl A n c gone hd)) ∧ Hid (Touch w w' (fun j => j = P)) := by
  have c0 : w.cell? ⟨P, 0, none⟩ = some pv := h.out.cell 0
  have f0 := h.out.free 0
  have pl := h.out.lt
  have HS := Lib.hid (h.out.set_ 0 (.pointer none))
  have HT := Lib.hid ((Touch.refl w (fun j => j = P)).then_set (p := ⟨P, 0, none⟩) (.inl rfl) (.pointer none))
  go_enter Tryz.func62, Tryz.ntmps62
  go_wp2_with fail
  go_end0
  exact ⟨rfl, HS, HT⟩
end
end Go.Proofs.YtoeanbfemgmgnaaGreatDoor

namespace Go.Proofs.YtoeanbfemgmgnaaGreatDoor
open Go.ChangeShapes Go.WideShapes Go.ChangeAt Go.RowKit
set_option linter.unusedVariables false
set_option linter.unusedSimpArgs false

/-- What a step answers: the record (l; told: there is one), the error; without one the walker goes on. -/
def PassR (p : Nat) (d q e : Int) (xs : Array Value) (sb : Nat) (u t : Int) (g : Nat) (m : Mk) (l : List ByteArray) (n : Nat) (told : Bool) (k : Int) (Z : Nat → Prop) (w : World) (x : Ending) (w' : World) : Prop :=
  ∃ A c, x = .returned (.tuple #[.slice A n c, .bool told, .int .i64 k]) ∧
    Hid (Touch w w' Z ∧ (k = 0 → ∃ S' Z', WkR w' p d q e xs sb u t g m S' Z' ∧ Sub w Z' Z ∧ SlOwn w' 0 9 A l.length c (strs l) ∧ ∀ j, blkOf A = some j → ¬ Z' j ∧ (Z j ∨ w.heap.size ≤ j)))
theorem rtake_at (g : Nat) (bg ad fi li re : Bool) (pb : Int) (s : Mk) (S : Nat → Prop) (N : Nat) (hN : N ≤ 100000) (ok : Hid (s.Ok N)) (b0 : 0 ≤ pb) (b1 : pb ≤ 255) (s' : Mk) (l : List ByteArray) (n : Nat) (t : Bool) (r : Int)
    (hs : Hid (mTake ⟨bg, ad, fi, li, re, pb⟩ s = s')) (hl : Hid (mRec ⟨bg, ad, fi, li, re, pb⟩ s = l)) (hn : Hid (l.length = n)) (ht : Hid (mTold ⟨bg, ad, fi, li, re, pb⟩ s = t)) (hr : Hid (s'.er = r)) (w : World) (h : Hid (MkB w g s S)) :
    Calls Tryz.prog 79 #[.pointer (some ⟨g, 0, none⟩), .agg #[.bool bg, .bool ad, .bool fi, .bool li, .bool re, .int .u8 pb]] w fun x w' => ∃ A c, x = .returned (.tuple #[.slice A n c, .bool t, .int .i64 r]) ∧ Hid (Handed A c l g s' S w w') :=
  take_is g ⟨bg, ad, fi, li, re, pb⟩ s S N hN ok b0 b1 s' l n t r hs hl hn ht hr w h

section
variable {p : Nat} {d q e u t u' t' : Int} {xs : Array Value} {sb g : Nat} {w : World} {m m' : Mk} {S Z : Nat → Prop}
theorem rpass_end {w V w3 : World} {A : Option Addr} {c : Nat} {l : List ByteArray} (h : WkR w p d q e xs sb u t g m S Z) (hp : StB V p 93 (wrArr d q e sb u' t' g)) (ht : Touch w V (fun k => k = p)) (hh : Handed A c l g m' S V.drew w3) :
    Touch w w3 Z ∧ ∃ S' Z', WkR w3 p d q e xs sb u' t' g m' S' Z' ∧ Sub w Z' Z ∧ SlOwn w3 0 9 A l.length c (strs l) ∧ ∀ j, blkOf A = some j → ¬ Z' j ∧ (Z j ∨ w.heap.size ≤ j) := by
  obtain ⟨o, S', m3, t3, b3, d3⟩ := hh
  have hZp : Z p := (h.all p).2 (.inl rfl)
  have hZs : Z sb := (h.all sb).2 (.inr (.inl rfl))
  have ht' : Touch w V.drew Z := (ht.mono fun k hk => by have hk' : k = p := hk; rw [hk']; exact hZp).then_drew
  have hSZ : ∀ k, S k → Z k := fun k hk => (h.all k).2 (.inr (.inr hk))
  have hz := ht.size
  have hpl : p < V.drew.heap.size := hp.lt
  have hsb : StB V.drew sb 123 xs := (h.strip.touch ht (fun e => h.apart e)).drew
  have hsl : sb < V.drew.heap.size := hsb.lt
  have n1 : ∀ x, x < V.drew.heap.size → ¬ S x → ¬ S' x := fun x hx hs hs' => by
    rcases b3 x hs' with h1 | h1
    · exact hs h1
    · omega
  have np : ∀ x, x < V.drew.heap.size → ¬ S x → ∀ j, blkOf A = some j → j ≠ x := fun x hx hs j hj e => by
    subst e
    rcases (d3 j hj).2 with h1 | h1
    · exact hs h1
    · omega
  refine ⟨ht'.trans (fun k hk => .inl (hSZ k hk)) t3, S', fun k => k = p ∨ k = sb ∨ S' k, ⟨StB.touch (w := V.drew) hp t3 h.nbox, hsb.touch t3 h.nstrip, m3, n1 p hpl h.nbox, n1 sb hsl h.nstrip, fun k => Iff.rfl⟩, ?_, o, fun j hj => ⟨?_, ?_⟩⟩
  · rintro k (hk | hk | hk)
    · rw [hk]; exact .inl hZp
    · rw [hk]; exact .inl hZs
    · rcases b3 k hk with h1 | h1
      · exact .inl (hSZ k h1)
      · exact .inr (Nat.le_trans hz h1)
  · rintro (h1 | h1 | h1)
    · exact np p hpl h.nbox j hj h1
    · exact np sb hsl h.nstrip j hj h1
    · exact (d3 j hj).1 h1
  · rcases (d3 j hj).2 with h1 | h1
    · exact .inl (hSZ j h1)
    · exact .inr (Nat.le_trans hz h1)

set_option maxHeartbeats 800000 in
theorem rstep_utf (h : Hid (StB w p 93 (wrArr d q e sb u t g))) (b : Int) (b0 : 0 ≤ b) (b1 : b ≤ 255) (ho : Hid (utOk u b = false)) :
    Calls Tryz.prog 61 #[.pointer (some ⟨p, 0, none⟩), .int .u8 b] w fun x w' => x = .returned (.tuple #[.slice none 0 0, .bool false, .int .i64 3]) ∧ Below w.heap.size w w' := by
  have hp := h.out.lt
  have c4 : w.cell? ⟨p, 4, none⟩ = some (.int .i64 u) := h.out.cell 4
  obtain ⟨n, hn⟩ : ∃ n, utNx u b = n := ⟨_, rfl⟩
  have HN := Lib.hid hn
  clear hn
  go_enter Tryz.func61, Tryz.ntmps61
  go_wp2_with (go_at_call 77; ((with_reducible refine (utStep_is u b n false b0 b1 HN ho _).mono ?_); rintro x w' ⟨rfl, rfl⟩))
  exact bodyPost_ret (v := .tuple #[.slice none 0 0, .bool false, .int .i64 3]) (by simp [results, Tryz.results61, go_sem]) rfl ⟨rfl, Below.refl _ _⟩

/-- An event's box, made and written. -/
theorem rev_join {W V : World} {g : Nat} {n k : Int} {a0 a1 a2 a3 a4 a5 u0 u1 u2 u3 u4 u5 : Value} (hb : Below W.heap.size W V) (h : StB V g 142 #[a0, a1, a2, a3, a4, a5]) (hg : W.heap.size ≤ g) :
    ∃ gg : Nat, Value.pointer (some ⟨g, 0, none⟩) = .pointer (some ⟨gg, 0, none⟩) ∧ Value.int .i64 n = .int .i64 n ∧ Value.int .i64 k = .int .i64 k ∧
      Hid (Below W.heap.size W ((((((V.setCell ⟨g, 0, none⟩ u0).setCell ⟨g, 1, none⟩ u1).setCell ⟨g, 2, none⟩ u2).setCell ⟨g, 3, none⟩ u3).setCell ⟨g, 4, none⟩ u4).setCell ⟨g, 5, none⟩ u5)) ∧
      Hid (StB ((((((V.setCell ⟨g, 0, none⟩ u0).setCell ⟨g, 1, none⟩ u1).setCell ⟨g, 2, none⟩ u2).setCell ⟨g, 3, none⟩ u3).setCell ⟨g, 4, none⟩ u4).setCell ⟨g, 5, none⟩ u5) gg 142 #[u0, u1, u2, u3, u4, u5] ∧ W.heap.size ≤ gg) := by
  have S6 := (((((h.set_ 0 u0).set_ 1 u1).set_ 2 u2).set_ 3 u3).set_ 4 u4).set_ 5 u5
  have b1 := hb.setCell (p := ⟨g, 0, none⟩) hg u0
  have b2 := b1.setCell (p := ⟨g, 1, none⟩) hg u1
  have b3 := b2.setCell (p := ⟨g, 2, none⟩) hg u2
  have b4 := b3.setCell (p := ⟨g, 3, none⟩) hg u3
  have b5 := b4.setCell (p := ⟨g, 4, none⟩) hg u4
  have b6 := b5.setCell (p := ⟨g, 5, none⟩) hg u5
  exact ⟨g, rfl, rfl, rfl, Lib.hid b6, Lib.hid ⟨S6, hg⟩⟩
theorem rsize_drew (W : World) (yy : Above W.drew) : W.heap.size ≤ (onto W.drew yy).heap.size := (onto_below W.drew yy).size
theorem rbelow_drew (W : World) (yy : Above W.drew) : Below W.heap.size W (onto W.drew yy) := up_onto (show Below W.heap.size W W.drew from (Below.refl _ W).drew) yy
theorem rbelow_alloc (W : World) (o : Obj) (yy : Above (W.alloc o).drew) : Below W.heap.size W (onto (W.alloc o).drew yy) := up_onto (show Below W.heap.size W (W.alloc o).drew from (up_alloc (Below.refl _ W) _).drew) yy
theorem rstb_alloc (W : World) (t : TypeId) (cs : Array Value) (yy : Above (W.alloc (.cells cs t)).drew) : StB (onto (W.alloc (.cells cs t)).drew yy) W.heap.size t cs := StB.below (show StB (W.alloc _).drew _ _ _ from StB.new W _ _) (onto_below _ yy)

set_option maxRecDepth 100000 in
set_option maxHeartbeats 3200000 in
theorem rstep_go (W : World) (H : Hid (WkR W p d q e xs sb u t g m S Z)) (b : Int) (b0 : 0 ≤ b) (b1 : b ≤ 255) (t0 : 0 ≤ t) (t6 : t ≤ 6) (n : Int) (hn : Hid (utNx u b = n)) (ho : Hid (utOk u b = true))
    (bg ad fi li re : Bool) (pb tn k : Int) (hv : Hid (stepR d q e t b = ⟨⟨bg, ad, fi, li, re, pb⟩, tn, k⟩)) (pb0 : 0 ≤ pb) (pb1 : pb ≤ 255) (N : Nat) (hN : N ≤ 100000) (ok : Hid (m.Ok N)) (m' : Mk) (l : List ByteArray) (n' : Nat) (told : Bool) (r' : Int)
    (hs' : Hid (mTake ⟨bg, ad, fi, li, re, pb⟩ m = m')) (hl : Hid (mRec ⟨bg, ad, fi, li, re, pb⟩ m = l)) (hln : Hid (l.length = n')) (htd : Hid (mTold ⟨bg, ad, fi, li, re, pb⟩ m = told)) (hr' : Hid (m'.er = r')) :
    Calls Tryz.prog 61 #[.pointer (some ⟨p, 0, none⟩), .int .u8 b] W fun x w' => (k ≠ 0 ∧ x = .returned (.tuple #[.slice none 0 0, .bool false, .int .i64 k]) ∧ Below W.heap.size W w') ∨ (k = 0 ∧ PassR p d q e xs sb n tn g m' l n' told r' Z W x w') := by
  have HS := Lib.hid H.out.box
  have hpW : p < W.heap.size := HS.out.lt
  have c0 : W.cell? ⟨p, 0, none⟩ = some (.int .u8 d) := HS.out.cell 0
  have c1 : W.cell? ⟨p, 1, none⟩ = some (.int .u8 q) := HS.out.cell 1
  have c2 : W.cell? ⟨p, 2, none⟩ = some (.int .i64 e) := HS.out.cell 2
  have c4 : W.cell? ⟨p, 4, none⟩ = some (.int .i64 u) := HS.out.cell 4
  have c5 : W.cell? ⟨p, 5, none⟩ = some (.int .i64 t) := HS.out.cell 5
  go_enter Tryz.func61, Tryz.ntmps61
  go_upto_region 4 with (go_at_call 77; ((with_reducible refine (utStep_is u b n true b0 b1 hn ho _).mono ?_); rintro x w' ⟨rfl, rfl⟩))
  go_cut [9, 10, 11] (fun s8 s9 s10 wx => ∃ gg : Nat, s8 = .pointer (some ⟨gg, 0, none⟩) ∧ s9 = .int .i64 tn ∧ s10 = .int .i64 k ∧ Hid (Below W.heap.size W wx) ∧ Hid (StB wx gg 142 #[.bool bg, .bool ad, .bool fi, .bool li, .bool re, .int .u8 pb] ∧ W.heap.size ≤ gg))
  case first =>
    go_region_with (first | (go_at_call 78; ((with_reducible refine (above (step_is d q e t b t0 t6 _ _ _ _ _ _ _ _ hv _)).mono ?_); rintro x _ ⟨rfl, yy, rfl⟩)))
    all_goals (go_wp2_with fail; go_meet)
    all_goals first
      | with_reducible exact ⟨_, rfl, rfl, rfl, Lib.hid (up_alloc (rbelow_drew W yy) _), Lib.hid ⟨StB.new _ _ _, rsize_drew W yy⟩⟩
      | with_reducible exact rev_join (rbelow_alloc W _ yy) (rstb_alloc W _ _ yy) (Nat.le_refl _)
  case rest =>
    obtain ⟨gg, rfl, rfl, rfl, HBW, HG⟩ := hcut
    obtain ⟨V, hV⟩ : ∃ V, V = wc := ⟨_, rfl⟩
    subst hV
    have HP := Lib.hid (HS.out.below HBW.out)
    have HGG := Lib.hid HG.out.1
    have n3 : ¬ gg = p := by have := HG.out.2; omega
    have n4 : ¬ p = gg := by omega
    have pl : p < V.heap.size := HP.out.lt
    have gl : gg < V.heap.size := HGG.out.lt
    have p4 : V.cell? ⟨p, 4, none⟩ = some (.int .i64 u) := HP.out.cell 4
    have p5 : V.cell? ⟨p, 5, none⟩ = some (.int .i64 t) := HP.out.cell 5
    have q4 := HP.out.free 4
    have q5 := HP.out.free 5
    clear c0 c1 c2 c4 c5
    by_cases hk : k = 0
    · subst hk
      go_wp2_with fail
      have SP := (HP.out.set_ 4 (.int .i64 n)).set_ 5 (.int .i64 tn)
      have SG := (HGG.out.far (p := ⟨p, 4, none⟩) n3 (.int .i64 n)).far (p := ⟨p, 5, none⟩) n3 (.int .i64 tn)
      have TW := ((Touch.of_below HBW.out (fun k => k = p)).then_set (p := ⟨p, 4, none⟩) (.inl rfl) (.int .i64 n)).then_set (p := ⟨p, 5, none⟩) (.inl rfl) (.int .i64 tn)
      generalize (V.setCell ⟨p, 4, none⟩ (.int .i64 n)).setCell ⟨p, 5, none⟩ (.int .i64 tn) = V5 at SP SG TW ⊢
      have m0 : V5.cell? ⟨gg, 0, none⟩ = some (.bool bg) := SG.cell 0
      have m1 : V5.cell? ⟨gg, 1, none⟩ = some (.bool ad) := SG.cell 1
      have m2 : V5.cell? ⟨gg, 2, none⟩ = some (.bool fi) := SG.cell 2
      have m3 : V5.cell? ⟨gg, 3, none⟩ = some (.bool li) := SG.cell 3
      have m4 : V5.cell? ⟨gg, 4, none⟩ = some (.bool re) := SG.cell 4
      have m5 : V5.cell? ⟨gg, 5, none⟩ = some (.int .u8 pb) := SG.cell 5
      have p6 : V5.cell? ⟨p, 6, none⟩ = some (.pointer (some ⟨g, 0, none⟩)) := SP.cell 6
      have pl5 : p < V5.heap.size := SP.lt
      have gl5 : gg < V5.heap.size := SG.lt
      have HSP := Lib.hid SP
      have HTW := Lib.hid TW
      have MV : MkB V5 g m S := H.out.make.touch TW (fun j hj e => by have e' : j = p := e; exact H.out.nbox (e' ▸ hj))
      have HMV := Lib.hid (show MkB V5.drew g m S from MV)
      clear SP SG TW MV p4 p5 q4 q5 pl gl
      go_region_with (first | (go_at_call 79; ((with_reducible refine (rtake_at g bg ad fi li re pb m S N hN ok pb0 pb1 m' l n' told r' hs' hl hln htd hr' _ HMV).mono ?_); rintro x w3 ⟨A, c, rfl, HH⟩)))
      all_goals
        go_wp2_with fail
        have hh := rpass_end H.out HSP.out HTW.out HH.out
        refine bodyPost_ret (v := .tuple #[.slice A n' c, .bool told, .int .i64 r']) (by simp [results, Tryz.results61, go_sem]) (by rfl) ?_
        first
          | exact ⟨A, c, rfl, Lib.hid ⟨hh.1, fun _ => hh.2⟩⟩
          | exact .inr ⟨by trivial, A, c, rfl, Lib.hid ⟨hh.1, fun _ => hh.2⟩⟩
    · have hk1 : (k != 0) = true := by simpa using hk
      go_wp2_with fail
      exact bodyPost_ret (v := .tuple #[.slice none 0 0, .bool false, .int .i64 k]) (by simp [results, Tryz.results61, go_sem]) rfl (.inl ⟨hk, rfl, HBW.out⟩)

set_option maxHeartbeats 800000 in
theorem rend_cut (h : Hid (StB w p 93 (wrArr d q e sb u t g))) (hu : (u != 0) = true) :
    Calls Tryz.prog 66 #[.pointer (some ⟨p, 0, none⟩)] w fun x w' => x = .returned (.tuple #[.slice none 0 0, .bool false, .int .i64 12]) ∧ Below w.heap.size w w' := by
  have hp := h.out.lt
  have c4 : w.cell? ⟨p, 4, none⟩ = some (.int .i64 u) := h.out.cell 4
  go_enter Tryz.func66, Tryz.ntmps66
  go_wp2_with fail
  exact bodyPost_ret (v := .tuple #[.slice none 0 0, .bool false, .int .i64 12]) (by simp [results, Tryz.results66, go_sem]) rfl ⟨rfl, Below.refl _ _⟩
set_option maxRecDepth 100000 in
set_option maxHeartbeats 3200000 in
theorem rend_go (W : World) (H : Hid (WkR W p d q e xs sb 0 t g m S Z)) (t0 : 0 ≤ t) (t6 : t ≤ 6)
    (bg ad fi li re : Bool) (pb k : Int) (hv : Hid (closeE t = ⟨bg, ad, fi, li, re, pb⟩)) (hk0 : Hid (closeK t = k)) (pb0 : 0 ≤ pb) (pb1 : pb ≤ 255) (N : Nat) (hN : N ≤ 100000) (ok : Hid (m.Ok N)) (m' : Mk) (l : List ByteArray) (n' : Nat) (told : Bool) (r' : Int)
    (hs' : Hid (mTake ⟨bg, ad, fi, li, re, pb⟩ m = m')) (hl : Hid (mRec ⟨bg, ad, fi, li, re, pb⟩ m = l)) (hln : Hid (l.length = n')) (htd : Hid (mTold ⟨bg, ad, fi, li, re, pb⟩ m = told)) (hr' : Hid (m'.er = r')) :
    Calls Tryz.prog 66 #[.pointer (some ⟨p, 0, none⟩)] W fun x w' => (k ≠ 0 ∧ x = .returned (.tuple #[.slice none 0 0, .bool false, .int .i64 k]) ∧ Below W.heap.size W w') ∨ (k = 0 ∧ PassR p d q e xs sb 0 t g m' l n' told r' Z W x w') := by
  have HS := Lib.hid H.out.box
  have hpW : p < W.heap.size := HS.out.lt
  have c4 : W.cell? ⟨p, 4, none⟩ = some (.int .i64 0) := HS.out.cell 4
  have c5 : W.cell? ⟨p, 5, none⟩ = some (.int .i64 t) := HS.out.cell 5
  by_cases hk : k = 0
  · subst hk
    go_enter Tryz.func66, Tryz.ntmps66
    go_upto_region 6 with (go_at_call 81; ((with_reducible refine (above (close_is t t0 t6 bg ad fi li re pb 0 hv hk0 _)).mono ?_); rintro x _ ⟨rfl, yy, rfl⟩))
    obtain ⟨V5, hV5⟩ : ∃ V5, (onto W yy).alloc (.cells #[.bool bg, .bool ad, .bool fi, .bool li, .bool re, .int .u8 pb] 142) = V5 := ⟨_, rfl⟩
    obtain ⟨gg, hgg⟩ : ∃ gg, (onto W yy).heap.size = gg := ⟨_, rfl⟩
    have SG : StB V5 gg 142 #[.bool bg, .bool ad, .bool fi, .bool li, .bool re, .int .u8 pb] := by rw [← hV5]; exact StB.made _ hgg.symm _ _
    have TW : Touch W V5 (fun k => k = p) := by rw [← hV5]; exact Touch.of_below (up_alloc (onto_below W yy) _) _
    have SP := HS.out.below (show Below W.heap.size W V5 by rw [← hV5]; exact up_alloc (onto_below W yy) _)
    rw [hV5, hgg]
    clear hV5 hgg c4 c5 hpW
    have m0 : V5.cell? ⟨gg, 0, none⟩ = some (.bool bg) := SG.cell 0
    have m1 : V5.cell? ⟨gg, 1, none⟩ = some (.bool ad) := SG.cell 1
    have m2 : V5.cell? ⟨gg, 2, none⟩ = some (.bool fi) := SG.cell 2
    have m3 : V5.cell? ⟨gg, 3, none⟩ = some (.bool li) := SG.cell 3
    have m4 : V5.cell? ⟨gg, 4, none⟩ = some (.bool re) := SG.cell 4
    have m5 : V5.cell? ⟨gg, 5, none⟩ = some (.int .u8 pb) := SG.cell 5
    have p6 : V5.cell? ⟨p, 6, none⟩ = some (.pointer (some ⟨g, 0, none⟩)) := SP.cell 6
    have pl5 : p < V5.heap.size := SP.lt
    have gl5 : gg < V5.heap.size := SG.lt
    have HSP := Lib.hid SP
    have HTW := Lib.hid TW
    have MV : MkB V5 g m S := H.out.make.touch TW (fun j hj e => by have e' : j = p := e; exact H.out.nbox (e' ▸ hj))
    have HMV := Lib.hid (show MkB V5.drew g m S from MV)
    clear SP SG TW MV
    go_region_with (first | (go_at_call 79; ((with_reducible refine (rtake_at g bg ad fi li re pb m S N hN ok pb0 pb1 m' l n' told r' hs' hl hln htd hr' _ HMV).mono ?_); rintro x w3 ⟨A, c, rfl, HH⟩)))
    all_goals
      go_wp2_with fail
      have hh := rpass_end H.out HSP.out HTW.out HH.out
      refine bodyPost_ret (v := .tuple #[.slice A n' c, .bool told, .int .i64 r']) (by simp [results, Tryz.results66, go_sem]) (by rfl) ?_
      first
        | exact ⟨A, c, rfl, Lib.hid ⟨hh.1, fun _ => hh.2⟩⟩
        | exact .inr ⟨by trivial, A, c, rfl, Lib.hid ⟨hh.1, fun _ => hh.2⟩⟩
  · have hk1 : (k != 0) = true := by simpa using hk
    go_enter Tryz.func66, Tryz.ntmps66
    go_wp2_with (go_at_call 81; ((with_reducible refine (above (close_is t t0 t6 bg ad fi li re pb k hv hk0 _)).mono ?_); rintro x _ ⟨rfl, yy, rfl⟩))
    refine bodyPost_ret (v := .tuple #[.slice none 0 0, .bool false, .int .i64 k]) (by simp [results, Tryz.results66, go_sem]) rfl (.inl ⟨hk, rfl, ?_⟩)
    (repeat (first | (with_reducible exact Below.refl _ _) | with_reducible refine up_alloc ?_ _ | with_reducible refine up_onto ?_ _ | with_reducible refine up_drew ?_ | with_reducible refine up_set ?_ (by first | (simp; done) | (simp; omega)) _))

/-- A step, by what it comes to. -/
theorem rstep_any (w : World) (H : Hid (WkR w p d q e xs sb u t g m S Z)) (b : Int) (b0 : 0 ≤ b) (b1 : b ≤ 255) (t0 : 0 ≤ t) (t6 : t ≤ 6) (N : Nat) (hN : N ≤ 100000) (ok : Hid (m.Ok N)) (l : List ByteArray) (n' : Nat) (told : Bool) (k : Int)
    (hv : Hid (pasB d q e u t m b = ⟨u', t', m', l, told, k⟩)) (hln : Hid (l.length = n')) :
    Calls Tryz.prog 61 #[.pointer (some ⟨p, 0, none⟩), .int .u8 b] w (PassR p d q e xs sb u' t' g m' l n' told k Z w) := by
  have hv' := hv.out
  have hn' := hln.out
  rw [pasB] at hv'
  by_cases c1 : utOk u b = false
  · rw [if_pos c1] at hv'
    cases hv'
    subst hn'
    refine (rstep_utf (Lib.hid H.out.box) b b0 b1 (Lib.hid c1)).mono ?_
    rintro x w' ⟨rfl, hb⟩
    exact ⟨none, 0, rfl, Lib.hid ⟨Touch.of_below hb _, fun h => (by cases h)⟩⟩
  · rw [if_neg c1] at hv'
    have c1' : utOk u b = true := by simpa using c1
    obtain ⟨⟨⟨bg, ad, fi, li, re, pb⟩, tn, kk⟩, hr⟩ : ∃ v, stepR d q e t b = v := ⟨_, rfl⟩
    have hpb := stepR_b (d := d) (q := q) (e := e) (s := t) b0 b1
    rw [hr] at hv' hpb
    refine (rstep_go w H b b0 b1 t0 t6 _ (Lib.hid rfl) (Lib.hid c1') bg ad fi li re pb tn kk (Lib.hid hr) hpb.1 hpb.2 N hN ok _ _ _ _ _ (Lib.hid rfl) (Lib.hid rfl) (Lib.hid rfl) (Lib.hid rfl) (Lib.hid rfl)).mono ?_
    rintro x w' (⟨hk, rfl, hb⟩ | ⟨hk, hp⟩)
    · rw [if_pos hk] at hv'
      cases hv'
      subst hn'
      exact ⟨none, 0, rfl, Lib.hid ⟨Touch.of_below hb _, fun h => absurd h hk⟩⟩
    · rw [if_neg (by simpa using hk)] at hv'
      cases hv'
      subst hn'
      exact hp
theorem rend_any (w : World) (H : Hid (WkR w p d q e xs sb u t g m S Z)) (t0 : 0 ≤ t) (t6 : t ≤ 6) (N : Nat) (hN : N ≤ 100000) (ok : Hid (m.Ok N)) (l : List ByteArray) (n' : Nat) (told : Bool) (k : Int)
    (hv : Hid (pasE u t m = ⟨u', t', m', l, told, k⟩)) (hln : Hid (l.length = n')) :
    Calls Tryz.prog 66 #[.pointer (some ⟨p, 0, none⟩)] w (PassR p d q e xs sb u' t' g m' l n' told k Z w) := by
  have hv' := hv.out
  have hn' := hln.out
  rw [pasE] at hv'
  by_cases c1 : u ≠ 0
  · rw [if_pos c1] at hv'
    cases hv'
    subst hn'
    refine (rend_cut (Lib.hid H.out.box) (by simpa using c1)).mono ?_
    rintro x w' ⟨rfl, hb⟩
    exact ⟨none, 0, rfl, Lib.hid ⟨Touch.of_below hb _, fun h => (by cases h)⟩⟩
  · rw [if_neg c1] at hv'
    have c1' : u = 0 := by omega
    subst c1'
    obtain ⟨⟨bg, ad, fi, li, re, pb⟩, hr⟩ : ∃ v, closeE t = v := ⟨_, rfl⟩
    obtain ⟨kk, hkk⟩ : ∃ kk, closeK t = kk := ⟨_, rfl⟩
    have hpb := closeE_b t
    rw [hr] at hv' hpb
    have hpb' : pb = 0 := hpb
    rw [hkk] at hv'
    refine (rend_go w H t0 t6 bg ad fi li re pb kk (Lib.hid hr) (Lib.hid hkk) (by omega) (by omega) N hN ok _ _ _ _ _ (Lib.hid rfl) (Lib.hid rfl) (Lib.hid rfl) (Lib.hid rfl) (Lib.hid rfl)).mono ?_
    rintro x w' (⟨hk, rfl, hb⟩ | ⟨hk, hp⟩)
    · rw [if_pos hk] at hv'
      cases hv'
      subst hn'
      exact ⟨none, 0, rfl, Lib.hid ⟨Touch.of_below hb _, fun h => absurd h hk⟩⟩
    · rw [if_neg (by simpa using hk)] at hv'
      cases hv'
      subst hn'
      exact hp
end
end Go.Proofs.YtoeanbfemgmgnaaGreatDoor

namespace Go.Proofs.YtoeanbfemgmgnaaGreatDoor
open Go.ChangeShapes Go.WideShapes Go.ChangeAt Go.RowKit
set_option linter.unusedVariables false
set_option linter.unusedSimpArgs false

theorem rn_round {d q e : Int} {l : List Int} {k : Nat} {x : Int} (R0 : Rn) (i : Nat) (h : l[k]? = some x) : rnL d q e R0 i (l.take (k + 1)) = rnB d q e (rnL d q e R0 i (l.take k)) (i + k) x := by
  have hk := (List.getElem?_eq_some_iff.1 h).1
  rw [List.take_add_one, h]
  show rnL d q e R0 i (l.take k ++ [x]) = _
  rw [rnL_snoc, List.length_take, Nat.min_eq_left (Nat.le_of_lt hk)]
theorem rn_break {d q e : Int} {l : List Int} {k : Nat} (R0 : Rn) (i : Nat) (h : (rnL d q e R0 i (l.take k)).k ≠ 0) : rnL d q e R0 i l = rnL d q e R0 i (l.take k) := by
  have := rnL_app (d := d) (q := q) (e := e) (l.take k) (l.drop k) R0 i
  rw [List.take_append_drop] at this
  rw [this, rnL_stop _ h]
theorem rnB_bad {d q e : Int} {R : Rn} {x : Int} {v : Pas} (hv : pasB d q e R.u R.t R.m x = v) (h0 : R.k = 0) (hk : v.k ≠ 0) (i : Nat) : rnB d q e R i x = ⟨R.u, R.t, R.m, R.rs, v.k, i⟩ := by
  unfold rnB; rw [if_neg (show ¬ R.k ≠ 0 by simpa using h0), hv, if_pos hk]
theorem rnB_good {d q e : Int} {R : Rn} {x : Int} {v : Pas} (hv : pasB d q e R.u R.t R.m x = v) (h0 : R.k = 0) (hk : v.k = 0) (i : Nat) : rnB d q e R i x = ⟨v.u, v.t, v.m, if v.told = true then R.rs ++ [v.l] else R.rs, 0, 0⟩ := by
  unfold rnB; rw [if_neg (show ¬ R.k ≠ 0 by simpa using h0), hv, if_neg (show ¬ v.k ≠ 0 by simpa using hk)]

/-- A reader that takes more. -/
def ThrAt (w : World) (P wk sb g : Nat) (d q e : Int) (xs : Array Value) (fed : Nat) (R : Rn) (S : Nat → Prop) : Prop :=
  ∃ A n c V SR S1 SM Z, RdO w P (.pointer (some ⟨wk, 0, none⟩)) fed 0 0 false R.rs A n c V SR S1 ∧ WkR w wk d q e xs sb R.u R.t g R.m SM Z ∧ (∀ j, S1 j → ¬ Z j) ∧ ∀ j, S j ↔ (S1 j ∨ Z j)
/-- A reader that takes nothing any more. -/
def EndAt (w : World) (P : Nat) (fed k a : Int) (rs : List (List ByteArray)) (S : Nat → Prop) : Prop := ∃ A n c V SR, RdO w P (.pointer none) fed k a false rs A n c V SR S
def RdAt (w : World) (P wk sb g : Nat) (d q e : Int) (xs : Array Value) (fed : Nat) (R : Rn) (S : Nat → Prop) : Prop :=
  (R.k = 0 ∧ ThrAt w P wk sb g d q e xs fed R S) ∨ (R.k ≠ 0 ∧ EndAt w P fed R.k R.at_ R.rs S)
section
variable {w w' : World} {P wk sb g : Nat} {d q e : Int} {xs : Array Value} {fed : Nat} {R : Rn} {S T : Nat → Prop}
theorem ThrAt.lies (h : ThrAt w P wk sb g d q e xs fed R S) : Lies w S := fun j hj => by
  obtain ⟨A, n, c, V, SR, S1, SM, Z, h1, h2, h3, h4⟩ := h
  rcases (h4 j).1 hj with hj | hj
  · exact h1.lies j hj
  · exact h2.lies j hj
theorem ThrAt.touch (h : ThrAt w P wk sb g d q e xs fed R S) (ht : Touch w w' T) (hn : ∀ j, S j → ¬ T j) : ThrAt w' P wk sb g d q e xs fed R S := by
  obtain ⟨A, n, c, V, SR, S1, SM, Z, h1, h2, h3, h4⟩ := h
  exact ⟨A, n, c, V, SR, S1, SM, Z, h1.touch ht (fun j hj => hn j ((h4 j).2 (.inl hj))), h2.touch ht (fun j hj => hn j ((h4 j).2 (.inr hj))), h3, h4⟩
/-- One more row waits. -/
theorem RdO.push {w1 Wa W2 : World} {pv : Value} {fd k a : Int} {cl : Bool} {rs : List (List ByteArray)} {A A' : Option Addr} {n c c' : Nat} {V : List Value} {SR S1 : Nat → Prop} {x : List ByteArray} {A3 : Option Addr} {c3 : Nat}
    (h : RdO w1 P pv fd k a cl rs A n c V SR S1) (ho : SlOwn w1 0 9 A3 x.length c3 (strs x)) (hn : ∀ j, blkOf A3 = some j → ¬ S1 j) (hba : Below w1.heap.size w1 Wa)
    (hown : SlOwn W2 0 38 A' (n + 1) c' (V ++ [.slice A3 x.length c3])) (hg : Wa.grownBy W2 (blkOf A)) (hat : A' = A ∨ A' = some ⟨Wa.heap.size, 0, none⟩) :
    ∃ S3, RdO (W2.setCell ⟨P, 5, none⟩ (.slice A' (n + 1) c')) P pv fd k a cl (rs ++ [x]) A' (n + 1) c' (V ++ [.slice A3 x.length c3]) (fun j => SR j ∨ blkOf A3 = some j) S3 ∧ Touch w1 (W2.setCell ⟨P, 5, none⟩ (.slice A' (n + 1) c')) S1 ∧ ∀ j, S3 j → S1 j ∨ blkOf A3 = some j ∨ w1.heap.size ≤ j := by
  have hAS : ∀ j, blkOf A = some j → S1 j := fun j hj => (h.all j).2 (.inr (.inl hj))
  have hPS : S1 P := h.boxOf
  have t1 : Touch w1 W2 (fun j => blkOf A = some j) := (Touch.of_below hba _).trans (Sub.refl _ _) (Touch.of_grown hg (fun j hj => hj))
  have hbox : StB W2 P 87 (rdArr pv fd k a cl A n c 0 0) := h.box.touch t1 (fun e => h.nbox P e rfl)
  have hrow : SlOwn W2 0 9 A3 x.length c3 (strs x) := ho.touch t1 (fun j hj hA => hn j hj (hAS j hA))
  have hrows : RowsB W2 V rs SR := h.rows.touch t1 (fun j hj hA => h.apart j hA hj)
  have t2 : Touch W2 (W2.setCell ⟨P, 5, none⟩ (.slice A' (n + 1) c')) (fun j => j = P) := (Touch.refl W2 (fun j => j = P)).then_set (p := ⟨P, 5, none⟩) (.inl rfl) _
  have hnP : ∀ j, blkOf A3 = some j → j ≠ P := fun j hj e => hn j hj (e ▸ hPS)
  have hne : ∀ j, blkOf A' = some j → S1 j ∨ Wa.heap.size ≤ j := fun j hj => by
    rcases hat with h1 | h1
    · rw [h1] at hj; exact .inl (hAS j hj)
    · rw [h1] at hj; injection hj with hj; exact .inr (by rw [← hj]; exact Nat.le_refl _)
  have hz := hba.size
  have hA'R : ∀ j, blkOf A' = some j → ¬ SR j := fun j hj hs => by
    rcases hat with h1 | h1
    · rw [h1] at hj; exact h.apart j hj hs
    · rw [h1] at hj; injection hj with hj
      have := h.rows.lies j hs
      have hj' : Wa.heap.size = j := hj
      omega
  have hA'3 : ∀ j, blkOf A' = some j → ¬ blkOf A3 = some j := fun j hj hs => by
    rcases hat with h1 | h1
    · rw [h1] at hj; exact hn j hs (hAS j hj)
    · rw [h1] at hj; injection hj with hj
      have := (ho.blk j hs).2
      have hj' : Wa.heap.size = j := hj
      omega
  have hA'P : ∀ j, blkOf A' = some j → ¬ j = P := fun j hj => hown.unlike_st hbox (by decide) j hj
  refine ⟨fun j => j = P ∨ blkOf A' = some j ∨ (SR j ∨ blkOf A3 = some j), ⟨hbox.set_ 5 _, hown.touch t2 hA'P, RowsB.snoc (hrow.touch t2 hnP) (hrows.touch t2 (fun j hj e => by have e' : j = P := e; exact h.far (e' ▸ hj))) (fun j hj hs => hn j hj ((h.all j).2 (.inr (.inr hs)))), fun j hj hs => ?_, fun hs => ?_, fun j => Iff.rfl⟩, ?_, fun j hj => ?_⟩
  · rcases hs with hs | hs
    · exact hA'R j hj hs
    · exact hA'3 j hj hs
  · rcases hs with hs | hs
    · exact h.far hs
    · exact hnP P hs rfl
  · exact (t1.mono hAS).trans (Sub.refl _ _) (t2.mono (fun j hj => by have hj' : j = P := hj; rw [hj']; exact hPS))
  · rcases hj with hj | hj | hj | hj
    · rw [hj]; exact .inl hPS
    · rcases hne j hj with h1 | h1
      · exact .inl h1
      · exact .inr (.inr (by omega))
    · exact .inl ((h.all j).2 (.inr (.inr hj)))
    · exact .inr (.inl hj)
end
/-- What a step leaves of a reader (S: its blocks ahead of it; it lies at P, its walker at wk). -/
theorem mid_step {w w1 : World} {P wk sb g : Nat} {d q e : Int} {xs : Array Value} {fed : Int} {rs : List (List ByteArray)} {A : Option Addr} {n c : Nat} {V : List Value} {SR S1 Z Z' : Nat → Prop} {pv : Value} {A3 : Option Addr}
    (h1 : RdO w P pv fed 0 0 false rs A n c V SR S1) (h3 : ∀ j, S1 j → ¬ Z j) (ht : Touch w w1 Z) (hs : Sub w Z' Z) (hb : ∀ j, blkOf A3 = some j → ¬ Z' j ∧ (Z j ∨ w.heap.size ≤ j)) :
    RdO w1 P pv fed 0 0 false rs A n c V SR S1 ∧ (∀ j, S1 j → ¬ Z' j) ∧ ∀ j, blkOf A3 = some j → ¬ S1 j := by
  refine ⟨h1.touch ht h3, fun j hj hz => ?_, fun j hj hs1 => ?_⟩
  · rcases hs j hz with h | h
    · exact h3 j hj h
    · have := h1.lies j hj; omega
  · rcases (hb j hj).2 with h | h
    · exact h3 j hs1 h
    · have := h1.lies j hs1; omega

section
variable {P wk sb g : Nat} {d q e : Int} {xs : Array Value}
set_option maxRecDepth 100000 in
set_option maxHeartbeats 6400000 in
theorem through_rd (w : World) (S0 : Nat → Prop) (R0 : Rn) (hk0 : R0.k = 0) (fed n : Nat) (hle : n ≤ fed) (hfed : fed ≤ 50000) (N : Nat) (hN : N + n ≤ 50000) (ok : Hid (R0.Ok N)) (B : Option Addr) (c : Nat) (l : List Int) (hb8 : Hid (∀ x ∈ l, 0 ≤ x ∧ x ≤ 255)) (hin : Hid (SlIn w B n (u8s l))) (hBS : Hid (∀ j, blkOf B = some j → ¬ S0 j ∧ j < w.heap.size)) (h : Hid (ThrAt w P wk sb g d q e xs fed R0 S0)) :
    Calls Tryz.prog 41 #[.pointer (some ⟨P, 0, none⟩), .slice B n c] w fun x w' => x = .returned (.tuple #[]) ∧ ∃ S', Hid (RdAt w' P wk sb g d q e xs fed (rnL d q e R0 (fed - n) l) S') ∧ Hid (Touch w w' S0) ∧ Hid (Sub w S' S0) := by
  obtain ⟨i0, hi, hz0, hz1, hz2⟩ := info_parts infoRowR
  have Hi := Lib.hid hi
  have Hz0 := Lib.hid hz0
  have Hz1 := Lib.hid hz1
  have Hz2 := Lib.hid hz2
  clear hi hz0 hz1 hz2
  have hlen := hin.out.len8
  obtain ⟨at0, hat0⟩ : ∃ at0, fed - n = at0 := ⟨_, rfl⟩
  have hat1 : at0 + n ≤ 50000 := by omega
  have hati : (fed : Int) - (n : Int) = (at0 : Int) := by omega
  have HL := Lib.hid hlen
  have hP0 : P < w.heap.size ∧ w.cell? ⟨P, 1, none⟩ = some (.int .i64 fed) := by
    obtain ⟨A, n, c, V, SR, S1, SM, Z, h1, h2, h3, h4⟩ := h.out
    exact ⟨h1.box.lt, h1.box.cell 1⟩
  obtain ⟨pl0, p1⟩ := hP0
  rw [hat0]
  clear hlen
  go_enter Tryz.func41, Tryz.ntmps41
  go_step3
  go_wp2_with fail
  go_step3
  go_wp2_with fail
  clear p1 pl0 hati hat0 hle hfed
  go_loopw [19] (fun i wr => ∃ (k : Nat) (S : Nat → Prop), k ≤ n ∧ i = .int .i64 k ∧ Hid ((rnL d q e R0 at0 (l.take k)).k = 0) ∧ Hid (ThrAt wr P wk sb g d q e xs fed (rnL d q e R0 at0 (l.take k)) S) ∧ Hid (Touch w wr S0) ∧ Hid (Sub w S S0)) (fun i _ => n - (intOf i).toNat)
  case atStart => exact ⟨0, S0, Nat.zero_le _, rfl, Lib.hid hk0, h, Lib.hid (Touch.refl _ _), Lib.hid (Sub.refl _ _)⟩
  case round =>
    obtain ⟨k, S, hk, rfl, HK, HT, HW, HS⟩ := hrel
    obtain ⟨W, hW⟩ : ∃ W, W = wr := ⟨_, rfl⟩
    subst hW
    by_cases hlt : k < n
    · obtain ⟨x, hx⟩ : ∃ x, l[k]? = some x := ⟨_, List.getElem?_eq_getElem (by rw [HL.out]; exact hlt)⟩
      obtain ⟨x0, x1⟩ := hb8.out x (List.mem_of_getElem? hx)
      obtain ⟨R, hR⟩ : ∃ R, rnL d q e R0 at0 (l.take k) = R := ⟨_, rfl⟩
      have hrd := rn_round (d := d) (q := q) (e := e) R0 at0 hx
      have hbk := fun h => rn_break (d := d) (q := q) (e := e) (l := l) (k := k + 1) R0 at0 h
      rw [hR] at HT HK hrd
      have hok : R.Ok (N + k) := by
        have := rnL_ok (d := d) (q := q) (e := e) (l.take k) ok.out at0
        rw [hR, List.length_take, Nat.min_eq_left (by rw [HL.out]; exact hk)] at this
        exact this
      have HIN := Lib.hid (hin.out.touch HW.out (fun j hj => (hBS.out j hj).1))
      obtain ⟨ad, rfl, hca⟩ := HIN.out.at_ (u8s_get hx)
      obtain ⟨A, m, cc, V, SR, S1, SM, Z, h1, h2, h3, h4⟩ := HT.out
      have hm2 : m ≤ 60000 := by have := h1.rowsLen; have := hok.few; omega
      obtain ⟨⟨u', t', m', row, told, kk⟩, hv⟩ : ∃ v, pasB d q e R.u R.t R.m x = v := ⟨_, rfl⟩
      obtain ⟨rl, hrl⟩ : ∃ rl, row.length = rl := ⟨_, rfl⟩
      have HST := Lib.hid (rstep_any W (Lib.hid h2) x x0 x1 hok.t0 hok.t6 (N + k) (by omega) (Lib.hid hok.m) row rl told kk (Lib.hid hv) (Lib.hid hrl))
      have p0 : W.cell? ⟨P, 0, none⟩ = some (.pointer (some ⟨wk, 0, none⟩)) := h1.box.cell 0
      have pl := h1.box.lt
      have H1 := Lib.hid h1
      have H3 := Lib.hid h3
      have H4 := Lib.hid h4
      have HV := Lib.hid hv
      have HRD := Lib.hid hrd
      have HBK := Lib.hid hbk
      have HRL := Lib.hid hrl
      have HZL := Lib.hid h2.lies
      clear h1 h2 h3 h4 hv hrd hbk hrl hx HT hR HIN
      go_wp2_with fail
      refine HST.out.mono ?_
      rintro y w1 ⟨A3, c3, rfl, HH⟩
      clear p0 pl hca HST
      by_cases hk0 : kk = 0
      · subst hk0
        obtain ⟨S', Z', z1, z2, z3, z4⟩ := HH.out.2 rfl
        obtain ⟨m1, m2, m3⟩ := mid_step (d := d) (q := q) (e := e) (xs := xs) (wk := wk) (sb := sb) (g := g) H1.out H3.out HH.out.1 z2 z4
        have hgd := rnB_good HV.out HK.out rfl (at0 + k)
        cases told
        · have HT2 := Lib.hid (show ThrAt w1 P wk sb g d q e xs fed (rnL d q e R0 at0 (l.take (k + 1))) (fun j => S1 j ∨ Z' j) by
            rw [HRD.out, hgd]
            exact ⟨A, m, cc, V, SR, S1, S', Z', m1, z1, m2, fun j => Iff.rfl⟩)
          have HK2 := Lib.hid (show (rnL d q e R0 at0 (l.take (k + 1))).k = 0 by rw [HRD.out, hgd])
          have HTW := Lib.hid (show Touch w w1 S0 from HW.out.trans HS.out (HH.out.1.mono (fun j hj => (H4.out j).2 (.inr hj))))
          have HSW := Lib.hid (show Sub w (fun j => S1 j ∨ Z' j) S0 from fun j hj => by
            rcases hj with hj | hj
            · exact HS.out j ((H4.out j).2 (.inl hj))
            · rcases z2 j hj with h | h
              · exact HS.out j ((H4.out j).2 (.inr h))
              · exact .inr (Nat.le_trans HW.out.size h))
          clear z1 z2 z3 z4 m1 m2 m3 hgd HH H1 H3 H4 HV HRD HBK HRL HZL HK hok
          go_wp2_with fail
          go_roundw
          case rel => exact ⟨k + 1, _, by omega, by go_num, HK2, HT2, HTW, HSW⟩
          case measure => simp [intOf]; omega
        · have p5 : w1.cell? ⟨P, 5, none⟩ = some (.slice A m cc) := m1.box.cell 5
          have f5 := m1.box.free 5
          have pl := m1.box.lt
          have M1 := Lib.hid m1
          have M2 := Lib.hid m2
          have M3 := Lib.hid m3
          have Z1 := Lib.hid z1
          have Z2 := Lib.hid z2
          have Z3 := Lib.hid z3
          have Z4 := Lib.hid z4
          have HGD := Lib.hid hgd
          obtain ⟨Wa, hWa⟩ : ∃ Wa, Wa = w1.alloc (.cells #[.slice A3 rl c3] 38) := ⟨_, rfl⟩
          have HBa := Lib.hid (show Below w1.heap.size w1 Wa by rw [hWa]; exact up_alloc (Below.refl _ _) _)
          have HCa := Lib.hid (show SlOwn (w1.alloc (.cells #[.slice A3 rl c3] 38)) 0 38 A m cc V by rw [← hWa]; exact M1.out.own.below HBa.out)
          have HIa := Lib.hid (slIn_new1 w1 38 (.slice A3 rl c3))
          clear m1 m2 m3 z1 z2 z3 z4 hgd hok
          go_wp2_with (at_builtin; refine wpList_append_sl _ rfl (.tmp 49) (.tmp 51) 24 rfl 38 i0 _ 24 Tryz.underlying24 Hi.out Hz0.out Hz1.out Hz2.out rfl 0 A m cc V rfl HCa.out (some ⟨w1.heap.size, 0, none⟩) 1 1 [.slice A3 rl c3] rfl HIa.out (by intro v hv; simp at hv; subst hv; rfl) (by unfold maxLen; omega) (by omega) (Nat.zero_le _) ?_; intro A' cc' W2 hown hgrow hat; rw [← hWa] at hgrow hat; obtain ⟨S3, r1, r2, r3⟩ := M1.out.push (x := row) (A3 := A3) (c3 := c3) Z3.out M3.out HBa.out (by rw [HRL.out]; exact hown) hgrow hat; rw [HRL.out] at r1; have R1 := Lib.hid r1; have R2 := Lib.hid r2; have R3 := Lib.hid r3; clear r1 r2 r3 p5 f5 pl; have HB2 := Lib.hid (M1.out.box.touch ((Touch.of_below HBa.out (fun j => blkOf A = some j)).trans (Sub.refl _ _) (Touch.of_grown hgrow (fun j hj => hj))) (fun e => M1.out.nbox P e rfl)); have p5 : W2.cell? ⟨P, 5, none⟩ = some (.slice A m cc) := HB2.out.cell 5; have f5 := HB2.out.free 5; have pl := HB2.out.lt; clear hown hgrow hat)
          have HT2 := Lib.hid (show ThrAt (W2.setCell ⟨P, 5, none⟩ (.slice A' (m + 1) cc')) P wk sb g d q e xs fed (rnL d q e R0 at0 (l.take (k + 1))) (fun j => S3 j ∨ Z' j) by
            rw [HRD.out, HGD.out]
            refine ⟨A', m + 1, cc', _, _, S3, S', Z', R1.out, Z1.out.touch R2.out (fun j hj hs => M2.out j hs hj), fun j hj hz => ?_, fun j => Iff.rfl⟩
            rcases R3.out j hj with h | h | h
            · exact M2.out j h hz
            · exact (Z4.out j h).1 hz
            · have := Z1.out.lies j hz; omega)
          have HK2 := Lib.hid (show (rnL d q e R0 at0 (l.take (k + 1))).k = 0 by rw [HRD.out, HGD.out])
          have HTW := Lib.hid (show Touch w (W2.setCell ⟨P, 5, none⟩ (.slice A' (m + 1) cc')) S0 from (HW.out.trans HS.out (HH.out.1.mono (fun j hj => (H4.out j).2 (.inr hj)))).trans (fun j hj => HS.out j ((H4.out j).2 (.inl hj))) R2.out)
          have HSW := Lib.hid (show Sub w (fun j => S3 j ∨ Z' j) S0 from fun j hj => by
            have hz := HW.out.size
            have hz1 := HH.out.1.size
            rcases hj with hj | hj
            · rcases R3.out j hj with h | h | h
              · exact HS.out j ((H4.out j).2 (.inl h))
              · rcases (Z4.out j h).2 with h | h
                · exact HS.out j ((H4.out j).2 (.inr h))
                · exact .inr (Nat.le_trans hz h)
              · exact .inr (by omega)
            · rcases Z2.out j hj with h | h
              · exact HS.out j ((H4.out j).2 (.inr h))
              · exact .inr (Nat.le_trans hz h))
          clear R1 R2 R3 HB2 p5 f5 pl HCa HIa HBa hWa M1 M2 M3 Z1 Z2 Z3 Z4 HGD HH H1 H3 H4 HV HRD HBK HRL HZL HK
          go_wp2_with fail
          go_roundw
          case rel => exact ⟨k + 1, _, by omega, by go_num, HK2, HT2, HTW, HSW⟩
          case measure => simp [intOf]; omega
      · have hk1 : (kk != 0) = true := by simpa using hk0
        have hbd := rnB_bad HV.out HK.out (by exact hk0) (at0 + k)
        have hall : rnL d q e R0 at0 l = ⟨R.u, R.t, R.m, R.rs, kk, at0 + k⟩ := by
          rw [HBK.out (by rw [HRD.out, hbd]; exact hk0), HRD.out, hbd]
        have HALL := Lib.hid hall
        have m1 := H1.out.touch HH.out.1 H3.out
        have M1 := Lib.hid m1
        have HSTOP := Lib.hid (stop_bad (Lib.hid m1.box) kk ((at0 : Int) + (k : Int)) hk0)
        clear hbd hall hok m1
        go_wp2_with fail
        refine HSTOP.out.mono ?_
        rintro y w2 ⟨rfl, HB2, HT2⟩
        clear HSTOP
        have HEND := Lib.hid (show EndAt w2 P fed kk ((at0 + k : Nat) : Int) R.rs S1 from ⟨A, m, cc, V, SR, M1.out.write HT2.out (by rw [show ((at0 + k : Nat) : Int) = (at0 : Int) + (k : Int) by omega]; exact HB2.out)⟩)
        have HTW := Lib.hid (show Touch w w2 S0 from (HW.out.trans HS.out (HH.out.1.mono (fun j hj => (H4.out j).2 (.inr hj)))).trans (fun j hj => HS.out j ((H4.out j).2 (.inl hj))) (HT2.out.mono (fun j hj => by have hj' : j = P := hj; rw [hj']; exact H1.out.boxOf)))
        go_wp2_with fail
        simp only [Exit.noGoto]
        go_end0
        refine ⟨rfl, S1, Lib.hid ?_, HTW, Lib.hid (fun j hj => HS.out j ((H4.out j).2 (.inl hj)))⟩
        rw [HALL.out]
        exact .inr ⟨hk0, HEND.out⟩
    · obtain rfl : k = n := by omega
      have ht : l.take k = l := List.take_of_length_le (by rw [HL.out]; exact Nat.le_refl _)
      rw [ht] at HK HT
      go_wp2_with fail
      simp only [Exit.noGoto]
      go_end0
      exact ⟨rfl, S, Lib.hid (.inl ⟨HK.out, HT.out⟩), HW, HS⟩

theorem pasE_told {u t : Int} {m : Mk} {v : Pas} (hv : pasE u t m = v) (hk : v.k ≠ 0) : v.told = false := by
  rw [pasE] at hv
  subst hv
  split at hk
  · rename_i h; rw [if_pos h]
  · rename_i h
    rw [if_neg h]
    split at hk
    · rename_i h2; rw [if_pos h2]
    · rename_i h2
      rw [if_neg h2]
      cases ht : mTold (closeE t) m
      · exact ht
      · exfalso
        apply hk
        unfold mTold at ht
        simp only [Bool.and_eq_true, decide_eq_true_eq] at ht
        show (mTake (closeE t) m).er = 0
        rw [mTake3 ht.1 ht.2.1 ht.2.2]
        exact ht.2.1
set_option maxRecDepth 100000 in
set_option maxHeartbeats 3200000 in
theorem end_rd (w : World) (S0 : Nat → Prop) (R : Rn) (hk0 : R.k = 0) (fed : Nat) (N : Nat) (hN : N ≤ 50000) (ok : Hid (R.Ok N)) (h : Hid (ThrAt w P wk sb g d q e xs fed R S0)) :
    Calls Tryz.prog 44 #[.pointer (some ⟨P, 0, none⟩)] w fun x w' => x = .returned (.tuple #[]) ∧ ∃ S', Hid (EndAt w' P fed (rnE R fed).2.1 (rnE R fed).2.2 (rnE R fed).1 S') ∧ Hid (Touch w w' S0) ∧ Hid (Sub w S' S0) := by
  obtain ⟨i0, hi, hz0, hz1, hz2⟩ := info_parts infoRowR
  have Hi := Lib.hid hi
  have Hz0 := Lib.hid hz0
  have Hz1 := Lib.hid hz1
  have Hz2 := Lib.hid hz2
  clear hi hz0 hz1 hz2
  obtain ⟨A, m, cc, V, SR, S1, SM, Z, h1, h2, h3, h4⟩ := h.out
  have hm2 : m ≤ 60000 := by have := h1.rowsLen; have := ok.out.few; omega
  obtain ⟨⟨u', t', m', row, told, kk⟩, hv⟩ : ∃ v, pasE R.u R.t R.m = v := ⟨_, rfl⟩
  obtain ⟨rl, hrl⟩ : ∃ rl, row.length = rl := ⟨_, rfl⟩
  have HST := Lib.hid (rend_any w (Lib.hid h2) ok.out.t0 ok.out.t6 N (by omega) (Lib.hid ok.out.m) row rl told kk (Lib.hid hv) (Lib.hid hrl))
  have p0 : w.cell? ⟨P, 0, none⟩ = some (.pointer (some ⟨wk, 0, none⟩)) := h1.box.cell 0
  have pl := h1.box.lt
  have H1 := Lib.hid h1
  have H3 := Lib.hid h3
  have H4 := Lib.hid h4
  have HRL := Lib.hid hrl
  have HTF := Lib.hid (fun hk : kk ≠ 0 => pasE_told hv hk)
  have HE := Lib.hid (show rnE R fed = if kk ≠ 0 then (R.rs, kk, (fed : Int)) else (if told = true then R.rs ++ [row] else R.rs, 0, 0) by
    unfold rnE; rw [if_neg (show ¬ R.k ≠ 0 by simpa using hk0), hv])
  clear h1 h2 h3 h4 hv hrl
  go_enter Tryz.func44, Tryz.ntmps44
  go_wp2_with fail
  refine HST.out.mono ?_
  rintro y w1 ⟨A3, c3, rfl, HH⟩
  clear p0 pl HST
  by_cases hk : kk = 0
  · subst hk
    obtain ⟨S', Z', z1, z2, z3, z4⟩ := HH.out.2 rfl
    obtain ⟨m1, m2, m3⟩ := mid_step (d := d) (q := q) (e := e) (xs := xs) (wk := wk) (sb := sb) (g := g) H1.out H3.out HH.out.1 z2 z4
    cases told
    · have p1 : w1.cell? ⟨P, 1, none⟩ = some (.int .i64 fed) := m1.box.cell 1
      have pl := m1.box.lt
      have HS := Lib.hid (stop_ok (Lib.hid m1.box) (fed : Int))
      have M1 := Lib.hid m1
      clear z1 z2 z3 z4 m1 m2 m3
      go_wp2_with fail
      refine HS.out.mono ?_
      rintro y w2 ⟨rfl, HB2, HT2⟩
      go_wp2_with fail
      go_end0
      refine ⟨rfl, S1, Lib.hid ?_, Lib.hid ?_, Lib.hid (fun j hj => .inl ((H4.out j).2 (.inl hj)))⟩
      · rw [HE.out]; exact ⟨A, m, cc, V, SR, M1.out.write HT2.out HB2.out⟩
      · exact (HH.out.1.mono (fun j hj => (H4.out j).2 (.inr hj))).trans (fun j hj => .inl ((H4.out j).2 (.inl hj))) (HT2.out.mono (fun j hj => by have hj' : j = P := hj; rw [hj']; exact H1.out.boxOf))
    · have p5 : w1.cell? ⟨P, 5, none⟩ = some (.slice A m cc) := m1.box.cell 5
      have f5 := m1.box.free 5
      have pl := m1.box.lt
      have M1 := Lib.hid m1
      have M3 := Lib.hid m3
      have Z3 := Lib.hid z3
      have Z4 := Lib.hid z4
      obtain ⟨Wa, hWa⟩ : ∃ Wa, Wa = w1.alloc (.cells #[.slice A3 rl c3] 38) := ⟨_, rfl⟩
      have HBa := Lib.hid (show Below w1.heap.size w1 Wa by rw [hWa]; exact up_alloc (Below.refl _ _) _)
      have HCa := Lib.hid (show SlOwn (w1.alloc (.cells #[.slice A3 rl c3] 38)) 0 38 A m cc V by rw [← hWa]; exact M1.out.own.below HBa.out)
      have HIa := Lib.hid (slIn_new1 w1 38 (.slice A3 rl c3))
      clear m1 m2 m3 z1 z2 z3 z4
      go_wp2_with (at_builtin; refine wpList_append_sl _ rfl (.tmp 19) (.tmp 21) 24 rfl 38 i0 _ 24 Tryz.underlying24 Hi.out Hz0.out Hz1.out Hz2.out rfl 0 A m cc V rfl HCa.out (some ⟨w1.heap.size, 0, none⟩) 1 1 [.slice A3 rl c3] rfl HIa.out (by intro v hv; simp at hv; subst hv; rfl) (by unfold maxLen; omega) (by omega) (Nat.zero_le _) ?_; intro A' cc' W2 hown hgrow hat; rw [← hWa] at hgrow hat; obtain ⟨S3, r1, r2, r3⟩ := M1.out.push (x := row) (A3 := A3) (c3 := c3) Z3.out M3.out HBa.out (by rw [HRL.out]; exact hown) hgrow hat; rw [HRL.out] at r1; have R1 := Lib.hid r1; have R2 := Lib.hid r2; have R3 := Lib.hid r3; clear r1 r2 r3 p5 f5 pl; have HB2 := Lib.hid (M1.out.box.touch ((Touch.of_below HBa.out (fun j => blkOf A = some j)).trans (Sub.refl _ _) (Touch.of_grown hgrow (fun j hj => hj))) (fun e => M1.out.nbox P e rfl)); have p5 : W2.cell? ⟨P, 5, none⟩ = some (.slice A m cc) := HB2.out.cell 5; have p1 : W2.cell? ⟨P, 1, none⟩ = some (.int .i64 fed) := HB2.out.cell 1; have f5 := HB2.out.free 5; have pl := HB2.out.lt; clear hown hgrow hat)
      have HS := Lib.hid (stop_ok (Lib.hid R1.out.box) (fed : Int))
      refine HS.out.mono ?_
      rintro y w2 ⟨rfl, HB3, HT3⟩
      clear HB2 p5 f5 pl p1 HS
      go_wp2_with fail
      go_end0
      refine ⟨rfl, S3, Lib.hid ?_, Lib.hid ?_, Lib.hid (fun j hj => ?_)⟩
      · rw [HE.out]; exact ⟨A', m + 1, cc', _, _, R1.out.write HT3.out HB3.out⟩
      · exact ((HH.out.1.mono (fun j hj => (H4.out j).2 (.inr hj))).trans (fun j hj => .inl ((H4.out j).2 (.inl hj))) R2.out).trans (S' := S3) (fun j hj => by
          have hz1 := HH.out.1.size
          rcases R3.out j hj with h | h | h
          · exact .inl ((H4.out j).2 (.inl h))
          · rcases (Z4.out j h).2 with h | h
            · exact .inl ((H4.out j).2 (.inr h))
            · exact .inr h
          · exact .inr (by omega)) (HT3.out.mono (fun j hj => by have hj' : j = P := hj; rw [hj']; exact R1.out.boxOf))
      · have hz1 := HH.out.1.size
        rcases R3.out j hj with h | h | h
        · exact .inl ((H4.out j).2 (.inl h))
        · rcases (Z4.out j h).2 with h | h
          · exact .inl ((H4.out j).2 (.inr h))
          · exact .inr h
        · exact .inr (by omega)
  · have htf := HTF.out hk
    subst htf
    have m1 := H1.out.touch HH.out.1 H3.out
    have M1 := Lib.hid m1
    have p1 : w1.cell? ⟨P, 1, none⟩ = some (.int .i64 fed) := m1.box.cell 1
    have pl := m1.box.lt
    have HS := Lib.hid (stop_bad (Lib.hid m1.box) kk (fed : Int) hk)
    clear m1
    go_wp2_with fail
    refine HS.out.mono ?_
    rintro y w2 ⟨rfl, HB2, HT2⟩
    go_wp2_with fail
    go_end0
    refine ⟨rfl, S1, Lib.hid ?_, Lib.hid ?_, Lib.hid (fun j hj => .inl ((H4.out j).2 (.inl hj)))⟩
    · rw [HE.out, if_pos hk]; exact ⟨A, m, cc, V, SR, M1.out.write HT2.out HB2.out⟩
    · exact (HH.out.1.mono (fun j hj => (H4.out j).2 (.inr hj))).trans (fun j hj => .inl ((H4.out j).2 (.inl hj))) (HT2.out.mono (fun j hj => by have hj' : j = P := hj; rw [hj']; exact H1.out.boxOf))
end
end Go.Proofs.YtoeanbfemgmgnaaGreatDoor

namespace Go.Proofs.YtoeanbfemgmgnaaGreatDoor
open Go.ChangeShapes Go.WideShapes Go.ChangeAt Go.RowKit
set_option linter.unusedVariables false
set_option linter.unusedSimpArgs false

/-- A closed reader's box, and the rows that wait. -/
structure RdC (w : World) (P : Nat) (fed k a gone h : Int) (rs : List (List ByteArray)) (A : Option Addr) (n c : Nat) (V : List Value) (SR S : Nat → Prop) : Prop where
  box : StB w P 87 (rdArr (.pointer none) fed k a true A n c gone h)
  own : SlAt w 38 A n c V
  rows : RowsB w V rs SR
  apart : ∀ j, blkOf A = some j → ¬ SR j
  far : ¬ SR P
  all : ∀ j, S j ↔ (j = P ∨ blkOf A = some j ∨ SR j)
theorem slAt_far {w : World} {e T : TypeId} {A : Option Addr} {n c g : Nat} {xs : List Value} {cs : Array Value} (h : SlAt w e A n c xs) (hs : StB w g T cs) (he : e ≠ T) : ∀ k, blkOf A = some k → k ≠ g := by
  intro k hk hkg
  rcases h.2.2.2 with ⟨rfl, _⟩ | ⟨q, off, cur, fz, rfl, hg, _⟩
  · cases hk
  · have : q = k := by simpa [blkOf] using hk
    subst this hkg
    unfold StB at hs
    rw [hs] at hg
    injection hg with hg
    injection hg with _ h2 _
    exact he h2.symm
section
variable {w w' : World} {P : Nat} {fed k a gone h : Int} {rs : List (List ByteArray)} {A : Option Addr} {n c : Nat} {V : List Value} {SR S T : Nat → Prop}
theorem RdC.lies (H : RdC w P fed k a gone h rs A n c V SR S) : Lies w S := fun j hj => by
  rcases (H.all j).1 hj with rfl | hj | hj
  · exact H.box.lt
  · exact H.own.blk j hj
  · exact H.rows.lies j hj
theorem RdC.touch (H : RdC w P fed k a gone h rs A n c V SR S) (ht : Touch w w' T) (hn : ∀ j, S j → ¬ T j) : RdC w' P fed k a gone h rs A n c V SR S :=
  ⟨H.box.touch ht (hn P ((H.all P).2 (.inl rfl))), H.own.touch ht (fun j hj => hn j ((H.all j).2 (.inr (.inl hj)))), H.rows.touch ht (fun j hj => hn j ((H.all j).2 (.inr (.inr hj)))), H.apart, H.far, H.all⟩
theorem RdO.shut {pv : Value} (H : RdO w P pv fed k a false rs A n c V SR S) (ht : Touch w w' (fun j => j = P)) (hb : StB w' P 87 (rdArr (.pointer none) fed k a true A n c 0 0)) : RdC w' P fed k a 0 0 rs A n c V SR S :=
  ⟨hb, (H.own.touch ht (fun j hj e => H.nbox j hj e)).toAt, H.rows.touch ht (fun j hj e => by have e' : j = P := e; exact H.far (e' ▸ hj)), H.apart, H.far, H.all⟩
end
/-- Where the program's reader lies. -/
def RBx (w : World) (p : Addr) (X : RdS) (S : Nat → Prop) : Prop := ∃ P : Nat, p = ⟨P, 0, none⟩ ∧
  ((X.cl = false ∧ X.h = 0 ∧ ∃ (wk sb g fed : Nat), (X.run.k = 0 → fed = X.x.size) ∧ RdAt w P wk sb g X.d X.q X.e (bomCells (bl X.x)) fed X.run S) ∨
   (X.cl = true ∧ X.h ≤ X.rs.length ∧ ∃ (fed gone : Nat) (A : Option Addr) (n c : Nat) (V : List Value) (SR : Nat → Prop), gone ≤ X.h ∧ (X.K.1 = 0 → fed = X.x.size) ∧ RdC w P fed X.K.1 X.K.2 gone X.h (X.rs.drop X.h) A n c V SR S))
section
variable {w w' : World} {P wk sb g : Nat} {d q e : Int} {xs : Array Value} {fed : Nat} {R : Rn} {S T : Nat → Prop}
theorem RdAt.lies (h : RdAt w P wk sb g d q e xs fed R S) : Lies w S := by
  rcases h with ⟨_, h⟩ | ⟨_, A, n, c, V, SR, h⟩
  · exact h.lies
  · exact h.lies
theorem RdAt.touch (h : RdAt w P wk sb g d q e xs fed R S) (ht : Touch w w' T) (hn : ∀ j, S j → ¬ T j) : RdAt w' P wk sb g d q e xs fed R S := by
  rcases h with ⟨h0, h⟩ | ⟨h0, A, n, c, V, SR, h⟩
  · exact .inl ⟨h0, h.touch ht hn⟩
  · exact .inr ⟨h0, A, n, c, V, SR, h.touch ht hn⟩
theorem RdAt.box (h : RdAt w P wk sb g d q e xs fed R S) : ∃ pv A n c, n = R.rs.length ∧ S P ∧ StB w P 87 (rdArr pv fed R.K.1 R.K.2 false A n c 0 0) := by
  rcases h with ⟨h0, A, n, c, V, SR, S1, SM, Z, h1, h2, h3, h4⟩ | ⟨h0, A, n, c, V, SR, h⟩
  · refine ⟨.pointer (some ⟨wk, 0, none⟩), A, n, c, h1.rowsLen.symm, (h4 P).2 (.inl h1.boxOf), ?_⟩
    have : R.K = (0, 0) := by unfold Rn.K; simp [h0]
    rw [this]; exact h1.box
  · refine ⟨.pointer none, A, n, c, h.rowsLen.symm, h.boxOf, ?_⟩
    have : R.K = (R.k, (R.at_ : Int)) := by unfold Rn.K; rw [if_neg h0]
    rw [this]; exact h.box
/-- The stripper turns. -/
theorem ThrAt.strip {ys : Array Value} (h : ThrAt w P wk sb g d q e xs fed R S) (ht : Touch w w' (fun j => j = sb)) (hs : StB w' sb 123 ys) : ThrAt w' P wk sb g d q e ys fed R S := by
  obtain ⟨A, n, c, V, SR, S1, SM, Z, h1, h2, h3, h4⟩ := h
  have hZ : Z sb := (h2.all sb).2 (.inr (.inl rfl))
  refine ⟨A, n, c, V, SR, S1, SM, Z, h1.touch ht (fun j hj hj2 => ?_), ⟨h2.box.touch ht (fun e => h2.apart e.symm), hs, h2.make.touch ht (fun j hj hj2 => ?_), h2.nbox, h2.nstrip, h2.all⟩, h3, h4⟩
  · have e : j = sb := hj2
    exact h3 j hj (e ▸ hZ)
  · have e : j = sb := hj2
    exact h2.nstrip (e ▸ hj)
/-- More is fed. -/
theorem ThrAt.more {fed' : Nat} (h : ThrAt w P wk sb g d q e xs fed R S) (ht : Touch w w' (fun j => j = P)) (hs : ∀ pv A n c, StB w P 87 (rdArr pv fed 0 0 false A n c 0 0) → StB w' P 87 (rdArr pv fed' 0 0 false A n c 0 0)) : ThrAt w' P wk sb g d q e xs fed' R S := by
  obtain ⟨A, n, c, V, SR, S1, SM, Z, h1, h2, h3, h4⟩ := h
  exact ⟨A, n, c, V, SR, S1, SM, Z, h1.write ht (hs _ _ _ _ h1.box), h2.touch ht (fun j hj e => by have e' : j = P := e; exact h3 P h1.boxOf (e' ▸ hj)), h3, h4⟩
end
theorem rbx_lies {w : World} {p : Addr} {X : RdS} {S : Nat → Prop} (h : RBx w p X S) : Lies w S := by
  obtain ⟨P, rfl, ⟨_, _, wk, sb, g, fed, _, h⟩ | ⟨_, _, fed, gone, A, n, c, V, SR, _, _, h⟩⟩ := h
  · exact h.lies
  · exact h.lies
theorem rbx_keep {w w' : World} {p : Addr} {X : RdS} {S S' : Nat → Prop} (h : RBx w p X S) (ht : Touch w w' S') (hn : ∀ k, S k → ¬ S' k) : RBx w' p X S := by
  obtain ⟨P, rfl, ⟨h1, h2, wk, sb, g, fed, h3, h⟩ | ⟨h1, h2, fed, gone, A, n, c, V, SR, h3, h4, h⟩⟩ := h
  · exact ⟨P, rfl, .inl ⟨h1, h2, wk, sb, g, fed, h3, h.touch ht hn⟩⟩
  · exact ⟨P, rfl, .inr ⟨h1, h2, fed, gone, A, n, c, V, SR, h3, h4, h.touch ht hn⟩⟩
/-! ### New -/
set_option maxRecDepth 100000 in
set_option maxHeartbeats 1600000 in
theorem newWalker_rd (d q e a b c : Int) (u : Bool) (d0 : 0 ≤ d) (d1 : d ≤ 255) (q0 : 0 ≤ q) (q1 : q ≤ 255) (h : rightB d q e = true) (hl : Hid ((withinB a && (withinB b && withinB c)) = true)) (w : World) :
    Calls Tryz.prog 39 #[.agg #[.int .u8 d, .int .u8 q, .int .i64 e], .agg #[.int .i64 a, .int .i64 b, .int .i64 c, .bool u]] w fun x w' =>
      ∃ p sb g S Z, x = .returned (.tuple #[.pointer (some ⟨p, 0, none⟩), .int .i64 0]) ∧ Hid (WkR w' p d q e (bomCells []) sb 0 0 g (mk0 a b c u) S Z ∧ (∀ k, Z k → w.heap.size ≤ k) ∧ Below w.heap.size w w') := by
  go_enter Tryz.func39, Tryz.ntmps39
  go_wp2_with (first | (go_at_call 19; ((with_reducible refine (above (check_yes d q e d0 d1 q0 q1 h _)).mono ?_); rintro x _ ⟨rfl, yy, rfl⟩)))
  obtain ⟨V, hV⟩ : ∃ V, onto ((w.alloc (.cells #[.int .u8 d, .int .u8 q, .int .i64 e] 23)).alloc (.cells #[.int .i64 a, .int .i64 b, .int .i64 c, .bool u] 49)) yy = V := ⟨_, rfl⟩
  have HB := Lib.hid (show Below w.heap.size w V from by rw [← hV]; exact up_onto (up_alloc (up_alloc (Below.refl _ _) _) _) yy)
  have hd := (StB.alloc (StB.made w (g := w.heap.size) rfl 23 #[.int .u8 d, .int .u8 q, .int .i64 e]) (.cells #[.int .i64 a, .int .i64 b, .int .i64 c, .bool u] 49)).onto yy
  rw [hV] at hd ⊢
  clear hV
  obtain ⟨r, hr⟩ : ∃ r, w.heap.size = r := ⟨_, rfl⟩
  rw [hr] at hd
  refine (new_yes a b c u hl V).mono ?_
  rintro x w1 ⟨g, S, rfl, hm, hS, hb⟩
  have hd1 := hd.below hb.out
  have c0 : w1.cell? ⟨r, 0, none⟩ = some (.int .u8 d) := hd1.cell 0
  have c1 : w1.cell? ⟨r, 1, none⟩ = some (.int .u8 q) := hd1.cell 1
  have c2 : w1.cell? ⟨r, 2, none⟩ = some (.int .i64 e) := hd1.cell 2
  have cl := hd1.lt
  have HB1 := Lib.hid (HB.out.trans (hb.out.mono HB.out.size))
  have HSS := Lib.hid (show ∀ k, S k → w.heap.size ≤ k ∧ k < w1.heap.size from fun k hk => ⟨Nat.le_trans HB.out.size (hS.out k hk), hm.out.lt k hk⟩)
  rw [← hr] at c0 c1 c2 cl
  clear hd hd1 hr hb hS
  go_wp2_with fail
  go_region_with (first | (go_at_call 60; refine (bomNew_any _).mono ?_; rintro x _ ⟨rfl, rfl⟩))
  all_goals
    go_wp2_with fail
    refine bodyPost_ret (v := .tuple #[.pointer (some ⟨w1.heap.size + 1, 0, none⟩), .int .i64 0]) (by simp [results, Tryz.results39, go_sem]) (by rfl) ?_
    refine ⟨w1.heap.size + 1, w1.heap.size, g, S, fun j => j = w1.heap.size + 1 ∨ j = w1.heap.size ∨ S j, rfl, Lib.hid ⟨⟨?_, ?_, ?_, fun hs => ?_, fun hs => ?_, fun j => Iff.rfl⟩, fun k hk => ?_, ?_⟩⟩
    · exact StB.made _ (by simp) _ _
    · exact StB.below (w := w1.alloc (.cells (bomCells []) 123)) (StB.new w1 _ _) (by (repeat (first | (with_reducible exact Below.refl _ _) | with_reducible refine up_alloc ?_ _ | with_reducible refine up_drew ?_)))
    · exact hm.out.below (by (repeat (first | (with_reducible exact Below.refl _ _) | with_reducible refine up_alloc ?_ _ | with_reducible refine up_drew ?_)))
    · have := (HSS.out _ hs).2; omega
    · have := (HSS.out _ hs).2; omega
    · rcases hk with rfl | rfl | hk
      · omega
      · omega
      · exact (HSS.out k hk).1
    · (repeat (first | (with_reducible exact HB1.out) | with_reducible refine up_alloc ?_ _ | with_reducible refine up_drew ?_))
end Go.Proofs.YtoeanbfemgmgnaaGreatDoor

namespace Go.Proofs.YtoeanbfemgmgnaaGreatDoor
open Go.ChangeShapes Go.WideShapes Go.ChangeAt Go.RowKit
set_option linter.unusedVariables false
set_option linter.unusedSimpArgs false

theorem run_new (d q e lf ls lr : Int) (un : Bool) : (RdS.new d q e lf ls lr un).run = (RdS.new d q e lf ls lr un).r0 := by
  unfold RdS.run
  rw [show bomTold (bl (RdS.new d q e lf ls lr un).x) = [] from rfl]
  rfl
set_option maxRecDepth 100000 in
set_option maxHeartbeats 1600000 in
theorem new_rd (d q e lf ls lr : Int) (un : Bool) (w : World) (ok : (RdS.new d q e lf ls lr un).Ok) : Calls Tryz.prog 24 #[.agg #[.int .u8 d, .int .u8 q, .int .i64 e], .agg #[.int .i64 lf, .int .i64 ls, .int .i64 lr, .bool un]] w fun y w' =>
    ∃ p S, y = .returned (.tuple #[.pointer (some p), .int .i64 0]) ∧ Hid (RBx w' p (RdS.new d q e lf ls lr un) S) ∧ Hid (∀ k, S k → w.heap.size ≤ k) ∧ Hid (Below w.heap.size w w') := by
  obtain ⟨V, hV⟩ : ∃ V, V = (w.alloc (.cells #[.int .u8 d, .int .u8 q, .int .i64 e] 23)).alloc (.cells #[.int .i64 lf, .int .i64 ls, .int .i64 lr, .bool un] 49) := ⟨_, rfl⟩
  obtain ⟨r, hr⟩ : ∃ r, w.heap.size = r := ⟨_, rfl⟩
  have H0 := Lib.hid (show StB V r 23 #[.int .u8 d, .int .u8 q, .int .i64 e] by rw [hV]; exact (StB.made w hr.symm _ _).alloc _)
  have H1 := Lib.hid (show StB V (r + 1) 49 #[.int .i64 lf, .int .i64 ls, .int .i64 lr, .bool un] by rw [hV]; exact StB.made _ (by simp; omega) _ _)
  have HB := Lib.hid (show Below w.heap.size w V by rw [hV]; exact up_alloc (up_alloc (Below.refl _ _) _) _)
  have k0 : V.cell? ⟨r, 0, none⟩ = some (.int .u8 d) := H0.out.cell 0
  have k1 : V.cell? ⟨r, 1, none⟩ = some (.int .u8 q) := H0.out.cell 1
  have k2 : V.cell? ⟨r, 2, none⟩ = some (.int .i64 e) := H0.out.cell 2
  have l0 : V.cell? ⟨r + 1, 0, none⟩ = some (.int .i64 lf) := H1.out.cell 0
  have l1 : V.cell? ⟨r + 1, 1, none⟩ = some (.int .i64 ls) := H1.out.cell 1
  have l2 : V.cell? ⟨r + 1, 2, none⟩ = some (.int .i64 lr) := H1.out.cell 2
  have l3 : V.cell? ⟨r + 1, 3, none⟩ = some (.bool un) := H1.out.cell 3
  have kl := H0.out.lt
  have ll := H1.out.lt
  have HNW := Lib.hid (newWalker_rd d q e lf ls lr un ok.d0 ok.d1 ok.q0 ok.q1 ok.right (Lib.hid ok.fits) V)
  go_enter Tryz.func24, Tryz.ntmps24
  go_upto_region 1 with fail
  rw [← hV]
  clear hV
  go_wp2_with fail
  refine HNW.out.mono ?_
  rintro x w1 ⟨p, sb, g, S, Z, rfl, HH⟩
  clear HNW k0 k1 k2 l0 l1 l2 l3 kl ll
  go_wp2_with fail
  refine bodyPost_ret (v := .tuple #[.pointer (some ⟨w1.heap.size, 0, none⟩), .int .i64 0]) (by simp [results, Tryz.results24, go_sem]) (by rfl) ?_
  obtain ⟨h1, h2, h3⟩ := HH.out
  have hb2 : Below w1.heap.size w1 (w1.alloc (.cells (rdArr (.pointer (some ⟨p, 0, none⟩)) ((0 : Nat) : Int) 0 0 false none 0 0 0 0) 87)) := up_alloc (Below.refl _ _) _
  have hbx : StB (w1.alloc (.cells (rdArr (.pointer (some ⟨p, 0, none⟩)) ((0 : Nat) : Int) 0 0 false none 0 0 0 0) 87)) w1.heap.size 87 (rdArr (.pointer (some ⟨p, 0, none⟩)) ((0 : Nat) : Int) 0 0 false none 0 0 0 0) := StB.new _ _ _
  have hw := h1.touch (Touch.of_below hb2 (fun _ => False)) (fun _ _ h => h)
  have hZ : ∀ j, Z j → j < w1.heap.size := fun j hj => h1.lies j hj
  refine ⟨⟨w1.heap.size, 0, none⟩, fun j => j = w1.heap.size ∨ Z j, rfl, Lib.hid ⟨w1.heap.size, rfl, .inl ⟨rfl, rfl, p, sb, g, 0, fun _ => rfl, .inl ⟨by rw [run_new]; rfl, ?_⟩⟩⟩, Lib.hid (fun k hk => ?_), Lib.hid ?_⟩
  · rw [run_new]
    refine ⟨none, 0, 0, [], fun _ => False, fun j => j = w1.heap.size, S, Z, ⟨hbx, SlOwn.nothing _ _ _, fun _ h => h, fun _ _ h => h, fun h => h, fun j => ?_⟩, hw, fun j hj hz => ?_, fun j => Iff.rfl⟩
    · constructor
      · intro h; exact .inl h
      · rintro (h | h | h)
        · exact h
        · cases h
        · exact h.elim
    · have hj' : j = w1.heap.size := hj
      have := hZ j hz; omega
  · have := HB.out.size
    rcases hk with hk | hk
    · have hk' : k = w1.heap.size := hk
      have := h3.size; omega
    · have := h2 k hk; omega
  · exact up_alloc (HB.out.trans (h3.mono HB.out.size)) _

theorem told_byte {s b : ByteArray} {x : Int} (h : x ∈ bomTold (bl s ++ bl b)) : 0 ≤ x ∧ x ≤ 255 := by
  have h1 : x ∈ bl s ++ bl b := by
    unfold bomTold at h
    split at h
    · cases h
    · unfold bomStrip at h
      split at h
      · exact List.mem_of_mem_drop h
      · exact h
  have h2 : ∀ t : ByteArray, x ∈ bl t → 0 ≤ x ∧ x ≤ 255 := fun t ht => by
    unfold bl at ht
    obtain ⟨y, _, rfl⟩ := List.mem_map.1 ht
    have := y.toNat_lt
    omega
  rcases List.mem_append.1 h1 with h1 | h1
  · exact h2 s h1
  · exact h2 b h1
theorem rdArr_no8 (pv : Value) (fed k a : Int) (cl : Bool) (A : Option Addr) (n c : Nat) (gone h : Int) (hp : ∀ x : Int, pv ≠ .int .u8 x) (x : Int) (i : Nat) : (rdArr pv fed k a cl A n c gone h)[i]? ≠ some (.int .u8 x) := by
  unfold rdArr
  match i with
  | 0 => simpa using hp x
  | 1 => simp
  | 2 => simp
  | 3 => simp
  | 4 => simp
  | 5 => simp
  | 6 => simp
  | 7 => simp
  | i + 8 => simp
theorem kfx_run {X : RdS} (h : X.cl = false) : kfx X = X.run.K := by unfold kfx RdS.now; rw [h, if_neg (by simp)]; rfl
set_option maxRecDepth 100000 in
set_option maxHeartbeats 6400000 in
theorem feed_of_rd (X : RdS) (p : Addr) (S : Nat → Prop) (A : Option Addr) (n c : Nat) (b : ByteArray) (w : World) (ok : X.Ok) (hcl : X.cl = false) (hsz : X.x.size + b.size ≤ 2500) (hnc : n ≤ c) (H : Hid (RBx w p X S)) (hin : Hid (SlIn w A n (u8s (bl b)))) :
    Calls Tryz.prog 26 #[.pointer (some p), .slice A n c] w fun y w' => y = .returned (fltV (kfx (X.feed b))) ∧ ∃ S', Hid (RBx w' p (X.feed b) S') ∧ Hid (Touch w w' S) ∧ Hid (Sub w S' S) := by
  obtain ⟨P, rfl, ⟨_, hh, wk, sb, g, fed, hfed, hat⟩ | ⟨h0, _⟩⟩ := H.out
  case inr => rw [hcl] at h0; cases h0
  have hn : n = b.size := by rw [← hin.out.len8, bl_length]
  have hkf : kfx (X.feed b) = (X.feed b).run.K := kfx_run hcl
  rw [hkf]
  obtain ⟨k2, a2, hK⟩ : ∃ k2 a2, (X.feed b).run.K = (k2, a2) := ⟨_, _, rfl⟩
  obtain ⟨r, hr⟩ : ∃ r, w.heap.size = r := ⟨_, rfl⟩
  obtain ⟨W, hW⟩ : ∃ W, W = w.alloc (.cells #[.int .i64 0, .int .i64 0] 45) := ⟨_, rfl⟩
  have HR := Lib.hid (show StB W r 45 #[.int .i64 0, .int .i64 0] by rw [hW]; exact StB.made w hr.symm _ _)
  have HB := Lib.hid (show Below w.heap.size w W by rw [hW]; exact up_alloc (Below.refl _ _) _)
  have HKK := Lib.hid hK
  have hSr : ∀ j, S j → j < r := fun j hj => by rw [← hr]; exact hat.lies j hj
  have HSR := Lib.hid hSr
  rw [hK]
  by_cases h0 : X.run.k = 0
  · obtain rfl : fed = X.x.size := hfed h0
    rcases hat with ⟨_, ht⟩ | ⟨h1, _⟩
    case inr => exact absurd h0 h1
    obtain ⟨fd, hfd⟩ : ∃ fd, X.x.size = fd := ⟨_, rfl⟩
    obtain ⟨fd2, hfd2⟩ : ∃ fd2, fd + n = fd2 := ⟨_, rfl⟩
    rw [hfd] at ht
    have ht0 := ht.touch (Touch.of_below HB.out (fun _ => False)) (fun _ _ h => h)
    obtain ⟨B, m, cb, V, SR, S1, SM, Z, q1, q2, q3, q4⟩ := ht0
    have p0 : W.cell? ⟨P, 0, none⟩ = some (.pointer (some ⟨wk, 0, none⟩)) := q1.box.cell 0
    have p1 : W.cell? ⟨P, 1, none⟩ = some (.int .i64 fd) := q1.box.cell 1
    have f1 := q1.box.free 1
    have pl := q1.box.lt
    have T1 := (Touch.refl W (fun j => j = P)).then_set (p := ⟨P, 1, none⟩) (.inl rfl) (.int .i64 fd2)
    have hwP : ¬ wk = P := fun e => by subst e; exact q3 wk q1.boxOf ((q2.all wk).2 (.inl rfl))
    have hrP : ¬ r = P := by have := hSr P ((q4 P).2 (.inl q1.boxOf)); omega
    have hS1 := q1.boxOf
    have hSP : S P := (q4 P).2 (.inl q1.boxOf)
    have hSb : S sb := (q4 sb).2 (.inr ((q2.all sb).2 (.inr (.inl rfl))))
    obtain ⟨W1, hW1⟩ : ∃ W1, W1 = W.setCell ⟨P, 1, none⟩ (.int .i64 fd2) := ⟨_, rfl⟩
    rw [← hW1] at T1
    have ht1 := (ht.touch (Touch.of_below HB.out (fun _ => False)) (fun _ _ h => h)).more (fed' := fd2) T1 (fun pv A n c hs => by rw [hW1]; exact hs.set_ 1 _)
    have hin1 : SlIn W1 A n (u8s (bl b)) := bomIn_keep (hin.out.below HB.out) q1.box (fun x i => rdArr_no8 _ _ _ _ _ _ _ _ _ _ (by intro x h; cases h) x i) (by rw [hW1]; exact only_set (only_of (Below.refl _ _) _) 1 _)
    have wb := q2.box.touch T1 (fun e => hwP e)
    have w3 : W1.cell? ⟨wk, 3, none⟩ = some (.pointer (some ⟨sb, 0, none⟩)) := wb.cell 3
    have wl := wb.lt
    have p0' : W1.cell? ⟨P, 0, none⟩ = some (.pointer (some ⟨wk, 0, none⟩)) := by rw [hW1]; exact (q1.box.set_ 1 (.int .i64 fd2)).cell 0
    have pl' : P < W1.heap.size := Nat.lt_of_lt_of_le pl T1.size
    have hstr : StB W1 sb 123 (bomCells (bl X.x)) := q2.strip.touch T1 (fun e => by have e' : sb = P := e; exact q3 P hS1 ((q2.all P).2 (.inr (.inl e'.symm))))
    have HF := Lib.hid (bomFeed_any sb (bl X.x) (bl b) A n c W1 hstr hin1 (by omega) hnc)
    have HT1 := Lib.hid ht1
    have HTT := Lib.hid T1
    have HR1 := Lib.hid (HR.out.touch T1 hrP)
    have HSTR := Lib.hid hstr
    have hfdb : fd + n ≤ 2500 := by omega
    have HFD2 := Lib.hid hfd2
    have HFD := Lib.hid hfd
    have HN := Lib.hid hn
    have hsum : (fd : Int) + (n : Int) = (fd2 : Int) := by omega
    have HOK := Lib.hid (run_ok ok)
    have HH0 := Lib.hid h0
    have HHH := Lib.hid hh
    have HCL := Lib.hid hcl
    have HSB := Lib.hid hSb
    have HSPP := Lib.hid hSP
    clear q1 q2 q3 q4 ht T1 ht1 hin1 wb hstr h0 hK hh hSb hSP hSr hkf hn hfd hfd2 hcl hfed
    go_enter Tryz.func26, Tryz.ntmps26
    go_upto_region 1 with fail
    rw [← hW]
    clear hW
    go_upto_region 3 with fail
    rw [← hW1]
    clear p0 p1 f1 pl hW1
    go_wp2_with fail
    refine HF.out.mono ?_
    rintro x w2 ⟨A2, c2, out, rfl, ho, hto, hst2, hg2⟩
    have ht2 := HT1.out.strip (Touch.of_grown hg2 (fun j hj => by injection hj with hj; exact hj.symm)) hst2
    have hsr : ¬ sb = r := by have := HSR.out sb HSB.out; omega
    have HR2 := Lib.hid (HR1.out.grown hg2 (fun e => hsr (by injection e with e; exact e.symm)))
    have hol : out.length ≤ fd2 := by
      have h1 := bomTold_length (bl X.x ++ bl b)
      rw [hto, List.length_append, List.length_append, bl_length, bl_length] at h1
      have := HFD2.out; have := HFD.out; have := HN.out; omega
    have ho8 : ∀ x ∈ out, 0 ≤ x ∧ x ≤ 255 := fun x hx => told_byte (by rw [hto]; exact List.mem_append_right _ hx)
    have hz1 : r < W1.heap.size := HR1.out.lt
    have hfd2b : fd2 ≤ 2500 := by have := HFD2.out; omega
    have HTH := Lib.hid (through_rd w2 S X.run HH0.out fd2 out.length hol (by omega) X.x.size (by have := HFD.out; omega) HOK A2 c2 out (Lib.hid ho8) (Lib.hid ho.toIn) (Lib.hid (fun j hj => ⟨fun hs => by have := HSR.out j hs; have := (ho.blk j hj).1; omega, (ho.blk j hj).2⟩)) (Lib.hid ht2))
    have HRUN := Lib.hid (show rnL X.d X.q X.e X.run (fd2 - out.length) out = (X.feed b).run by rw [run_feed X b out hto, ← HFD2.out, HFD.out, HN.out])
    have HG2 := Lib.hid hg2
    have HZ12 := Lib.hid hg2.size
    clear ht2 hol ho8 ho hto hst2 hg2 w3 wl p0' pl' HF
    go_wp2_with fail
    refine HTH.out.mono ?_
    rintro x w3 ⟨rfl, S', hr3, ht3, hs3⟩
    rw [HRUN.out] at hr3
    have hz2 : r < w2.heap.size := HR2.out.lt
    have hrS : ¬ S r := fun hs => by have := HSR.out r hs; omega
    have hrS' : ¬ S' r := fun hs => by
      rcases hs3.out r hs with h | h
      · exact hrS h
      · omega
    have HR3 := Lib.hid (HR2.out.touch ht3.out hrS)
    obtain ⟨pv, A4, n4, c4, hn4, hSP4, hbx⟩ := hr3.out.box
    rw [HKK.out] at hbx
    have b2 : w3.cell? ⟨P, 2, none⟩ = some (.int .i64 k2) := hbx.cell 2
    have b3 : w3.cell? ⟨P, 3, none⟩ = some (.int .i64 a2) := hbx.cell 3
    have bl3 := hbx.lt
    have r0 : w3.cell? ⟨r, 0, none⟩ = some (.int .i64 0) := HR3.out.cell 0
    have r1 : w3.cell? ⟨r, 1, none⟩ = some (.int .i64 0) := HR3.out.cell 1
    have e0 := HR3.out.free 0
    have e1 := HR3.out.free 1
    have rl := HR3.out.lt
    have hRS' := Lib.hid hrS'
    clear HTH hbx hrS hn4
    go_wp2_with fail
    have S2 := (HR3.out.set_ 0 (.int .i64 k2)).set_ 1 (.int .i64 a2)
    have y0 := S2.cell 0
    have y1 := S2.cell 1
    have T3 := ((Touch.refl w3 (fun j => j = r)).then_set (p := ⟨r, 0, none⟩) (.inl rfl) (.int .i64 k2)).then_set (p := ⟨r, 1, none⟩) (.inl rfl) (.int .i64 a2)
    have TA : Touch w w3 S := ((((Touch.of_below HB.out S).trans (Sub.refl _ _) (HTT.out.mono (fun j hj => by have hj' : j = P := hj; rw [hj']; exact HSPP.out))).trans (Sub.refl _ _) (Touch.of_grown HG2.out (fun j hj => by injection hj with hj; rw [← hj]; exact HSB.out))).trans (Sub.refl _ _) ht3.out)
    have hzz : w.heap.size ≤ r := by omega
    refine bodyPost_ret (v := .agg #[.int .i64 k2, .int .i64 a2]) (by simp [results, Tryz.results26, go_sem, y0, y1]) rfl ⟨rfl, S', Lib.hid ⟨P, rfl, .inl ⟨HCL.out, HHH.out, wk, sb, g, fd2, fun _ => ?_, ?_⟩⟩, Lib.hid ?_, Lib.hid ?_⟩
    · show fd2 = (X.x ++ b).size
      rw [ByteArray.size_append, HFD.out, ← HFD2.out, HN.out]
    · have h := hr3.out.touch T3 (fun j hj e => by have e' : j = r := e; exact hRS'.out (e' ▸ hj))
      show RdAt _ P wk sb g X.d X.q X.e (bomCells (bl (X.x ++ b))) fd2 (X.feed b).run S'
      rw [bl_append]
      exact h
    · exact (TA.then_set (p := ⟨r, 0, none⟩) (.inr hzz) _).then_set (p := ⟨r, 1, none⟩) (.inr hzz) _
    · intro j hj
      rcases hs3.out j hj with h | h
      · exact .inl h
      · have := HZ12.out; omega
  · have hrun : (X.feed b).run = X.run := by
      obtain ⟨out, ho⟩ := told_app (bl X.x) (bl b)
      rw [run_feed X b out ho, rnL_stop _ h0]
    rw [hrun] at hK HKK
    rcases hat with ⟨h1, _⟩ | ⟨_, he⟩
    · exact absurd h1 h0
    have hatw := (show RdAt w P wk sb g X.d X.q X.e (bomCells (bl X.x)) fed X.run S from .inr ⟨h0, he⟩).touch (Touch.of_below HB.out (fun _ => False)) (fun _ _ h => h)
    have hat2 : RdAt W P wk sb g X.d X.q X.e (bomCells (bl (X.x ++ b))) fed X.run S := by
      rcases hatw with ⟨h1, _⟩ | ⟨_, h1⟩
      · exact absurd h1 h0
      · exact .inr ⟨h0, h1⟩
    obtain ⟨B, m, cb, V, SR, q1⟩ := he
    have q2 := q1.touch (Touch.of_below HB.out (fun _ => False)) (fun _ _ h => h)
    have hKK : k2 = X.run.k ∧ a2 = (X.run.at_ : Int) := by
      have : X.run.K = (X.run.k, (X.run.at_ : Int)) := by unfold Rn.K; rw [if_neg h0]
      rw [this] at hK
      injection hK with h1 h2
      exact ⟨h1.symm, h2.symm⟩
    have p0 : W.cell? ⟨P, 0, none⟩ = some (.pointer none) := q2.box.cell 0
    have p2 : W.cell? ⟨P, 2, none⟩ = some (.int .i64 k2) := by rw [hKK.1]; exact q2.box.cell 2
    have p3 : W.cell? ⟨P, 3, none⟩ = some (.int .i64 a2) := by rw [hKK.2]; exact q2.box.cell 3
    have pl := q2.box.lt
    have r0 : W.cell? ⟨r, 0, none⟩ = some (.int .i64 0) := HR.out.cell 0
    have r1 : W.cell? ⟨r, 1, none⟩ = some (.int .i64 0) := HR.out.cell 1
    have e0 := HR.out.free 0
    have e1 := HR.out.free 1
    have rl := HR.out.lt
    have HAT := Lib.hid hat2
    have HRUN := Lib.hid hrun
    have HHH := Lib.hid hh
    have HCL := Lib.hid hcl
    have HH0 := Lib.hid h0
    clear hK hKK q1 q2 hatw hat2 hrun hh hcl h0 hSr hkf hn hfed
    go_enter Tryz.func26, Tryz.ntmps26
    go_upto_region 1 with fail
    rw [← hW]
    clear hW
    go_wp2_with fail
    have S2 := (HR.out.set_ 0 (.int .i64 k2)).set_ 1 (.int .i64 a2)
    have y0 := S2.cell 0
    have y1 := S2.cell 1
    have T3 := ((Touch.refl W (fun j => j = r)).then_set (p := ⟨r, 0, none⟩) (.inl rfl) (.int .i64 k2)).then_set (p := ⟨r, 1, none⟩) (.inl rfl) (.int .i64 a2)
    have hzz : w.heap.size ≤ r := by omega
    refine bodyPost_ret (v := .agg #[.int .i64 k2, .int .i64 a2]) (by simp [results, Tryz.results26, go_sem, y0, y1]) rfl ⟨rfl, S, Lib.hid ⟨P, rfl, .inl ⟨HCL.out, HHH.out, wk, sb, g, fed, fun hz => ?_, ?_⟩⟩, Lib.hid ?_, Lib.hid (Sub.refl _ _)⟩
    · rw [HRUN.out] at hz; exact absurd hz HH0.out
    · rw [HRUN.out]
      exact HAT.out.touch T3 (fun j hj e => by have e' : j = r := e; have := HSR.out j hj; omega)
    · exact ((Touch.of_below HB.out S).then_set (p := ⟨r, 0, none⟩) (.inr hzz) _).then_set (p := ⟨r, 1, none⟩) (.inr hzz) _
end Go.Proofs.YtoeanbfemgmgnaaGreatDoor

namespace Go.Proofs.YtoeanbfemgmgnaaGreatDoor
open Go.ChangeShapes Go.WideShapes Go.ChangeAt Go.RowKit
set_option linter.unusedVariables false
set_option linter.unusedSimpArgs false

/-- What is closed, as its state says. -/
theorem closed_at {X : RdS} {w : World} {P r : Nat} {fed : Nat} {S : Nat → Prop} (h0 : X.h = 0) (hf : X.K.1 = 0 → fed = X.x.size) (he : EndAt w P fed X.K.1 X.K.2 X.rs S) (hr : ¬ S r)
    (w2 : World) (hw2 : w2 = ((w.setCell ⟨P, 4, none⟩ (.bool true)).setCell ⟨r, 0, none⟩ (.int .i64 X.K.1)).setCell ⟨r, 1, none⟩ (.int .i64 X.K.2)) : RBx w2 ⟨P, 0, none⟩ X.shut S := by
  obtain ⟨A, n, c, V, SR, h⟩ := he
  have t1 : Touch w (w.setCell ⟨P, 4, none⟩ (.bool true)) (fun j => j = P) := (Touch.refl w (fun j => j = P)).then_set (p := ⟨P, 4, none⟩) (.inl rfl) _
  have h1 := h.shut t1 (h.box.set_ 4 _)
  have t2 := ((Touch.refl (w.setCell ⟨P, 4, none⟩ (.bool true)) (fun j => j = r)).then_set (p := ⟨r, 0, none⟩) (.inl rfl) (.int .i64 X.K.1)).then_set (p := ⟨r, 1, none⟩) (.inl rfl) (.int .i64 X.K.2)
  have h2 := h1.touch t2 (fun j hj e => by have e' : j = r := e; exact hr (e' ▸ hj))
  rw [← hw2] at h2
  refine ⟨P, rfl, .inr ⟨rfl, by show X.h ≤ _; omega, fed, 0, A, n, c, V, SR, Nat.zero_le _, hf, ?_⟩⟩
  show RdC w2 P fed X.K.1 X.K.2 ((0 : Nat) : Int) (X.h : Int) (X.rs.drop X.h) A n c V SR S
  rw [h0]
  exact h2
theorem EndAt.box {w : World} {P : Nat} {fed k a : Int} {rs : List (List ByteArray)} {S : Nat → Prop} (h : EndAt w P fed k a rs S) : S P ∧ Lies w S ∧ ∃ A n c, StB w P 87 (rdArr (.pointer none) fed k a false A n c 0 0) := by
  obtain ⟨A, n, c, V, SR, h⟩ := h
  exact ⟨h.boxOf, h.lies, A, n, c, h.box⟩
theorem EndAt.touch {w w' : World} {P : Nat} {fed k a : Int} {rs : List (List ByteArray)} {S T : Nat → Prop} (h : EndAt w P fed k a rs S) (ht : Touch w w' T) (hn : ∀ j, S j → ¬ T j) : EndAt w' P fed k a rs S := by
  obtain ⟨A, n, c, V, SR, h⟩ := h
  exact ⟨A, n, c, V, SR, h.touch ht hn⟩
theorem rnE_fin {R : Rn} {i : Nat} (h : R.k ≠ 0) : rnE R i = R.fin := by unfold rnE; rw [if_pos h]

set_option maxRecDepth 100000 in
set_option maxHeartbeats 6400000 in
theorem close_of_rd (X : RdS) (p : Addr) (S : Nat → Prop) (w : World) (ok : X.Ok) (hcl : X.cl = false) (hsz : X.x.size ≤ 2500) (H : Hid (RBx w p X S)) :
    Calls Tryz.prog 27 #[.pointer (some p)] w fun y w' => y = .returned (fltV (kfx X.shut)) ∧ ∃ S', Hid (RBx w' p X.shut S') ∧ Hid (Touch w w' S) ∧ Hid (Sub w S' S) := by
  obtain ⟨P, rfl, ⟨_, hh, wk, sb, g, fed, hfed, hat⟩ | ⟨h0, _⟩⟩ := H.out
  case inr => rw [hcl] at h0; cases h0
  have hkf : kfx X.shut = X.K := told_all X.shut rfl
  rw [hkf]
  obtain ⟨k2, a2, hK⟩ : ∃ k2 a2, X.K = (k2, a2) := ⟨_, _, rfl⟩
  obtain ⟨r, hr⟩ : ∃ r, w.heap.size = r := ⟨_, rfl⟩
  obtain ⟨W, hW⟩ : ∃ W, W = w.alloc (.cells #[.int .i64 0, .int .i64 0] 45) := ⟨_, rfl⟩
  have HR := Lib.hid (show StB W r 45 #[.int .i64 0, .int .i64 0] by rw [hW]; exact StB.made w hr.symm _ _)
  have HB := Lib.hid (show Below w.heap.size w W by rw [hW]; exact up_alloc (Below.refl _ _) _)
  have HKK := Lib.hid hK
  have hSr : ∀ j, S j → j < r := fun j hj => by rw [← hr]; exact hat.lies j hj
  have HSR := Lib.hid hSr
  have hzz : w.heap.size ≤ r := by omega
  have HZZ := Lib.hid hzz
  have HHH := Lib.hid hh
  have HK1 := Lib.hid (show X.K.1 = k2 by rw [hK])
  have HK2 := Lib.hid (show X.K.2 = a2 by rw [hK])
  -- what ends it
  have HEND := Lib.hid (fun (V : World) (S' : Nat → Prop) (fd : Nat) (hrS : ¬ S' r) (hf : X.K.1 = 0 → fd = X.x.size) (he : EndAt V P fd X.K.1 X.K.2 X.rs S') (t : Touch w V S) (s : Sub w S' S) =>
    show ∃ S', Hid (RBx (((V.setCell ⟨P, 4, none⟩ (.bool true)).setCell ⟨r, 0, none⟩ (.int .i64 k2)).setCell ⟨r, 1, none⟩ (.int .i64 a2)) ⟨P, 0, none⟩ X.shut S') ∧ Hid (Touch w (((V.setCell ⟨P, 4, none⟩ (.bool true)).setCell ⟨r, 0, none⟩ (.int .i64 k2)).setCell ⟨r, 1, none⟩ (.int .i64 a2)) S) ∧ Hid (Sub w S' S) from by
      refine ⟨S', Lib.hid (closed_at HHH.out hf he hrS _ (by rw [HK1.out, HK2.out])), Lib.hid ?_, Lib.hid s⟩
      exact ((t.trans s ((Touch.refl V S').then_set (p := ⟨P, 4, none⟩) (.inl he.box.1) _)).then_set (p := ⟨r, 0, none⟩) (.inr HZZ.out) _).then_set (p := ⟨r, 1, none⟩) (.inr HZZ.out) _)
  rw [hK]
  clear hzz hh
  by_cases h0 : X.run.k = 0
  · obtain rfl : fed = X.x.size := hfed h0
    rcases hat with ⟨_, ht⟩ | ⟨h1, _⟩
    case inr => exact absurd h0 h1
    obtain ⟨fd, hfd⟩ : ∃ fd, X.x.size = fd := ⟨_, rfl⟩
    rw [hfd] at ht
    have ht0 := ht.touch (Touch.of_below HB.out (fun _ => False)) (fun _ _ h => h)
    have HT0 := Lib.hid ht0
    obtain ⟨B, m, cb, V, SR, S1, SM, Z, q1, q2, q3, q4⟩ := ht0
    have p0 : W.cell? ⟨P, 0, none⟩ = some (.pointer (some ⟨wk, 0, none⟩)) := q1.box.cell 0
    have pl := q1.box.lt
    have w3 : W.cell? ⟨wk, 3, none⟩ = some (.pointer (some ⟨sb, 0, none⟩)) := q2.box.cell 3
    have wl := q2.box.lt
    have hSP : S P := (q4 P).2 (.inl q1.boxOf)
    have hSb : S sb := (q4 sb).2 (.inr ((q2.all sb).2 (.inr (.inl rfl))))
    obtain ⟨hd, hhd⟩ : ∃ hd, bomHeld (bl X.x) = hd := ⟨_, rfl⟩
    have hh1 := held_at (bl X.x)
    rw [hhd, bl_length, hfd] at hh1
    have hh2 := bomHeld_le (bl X.x)
    rw [hhd] at hh2
    have HC := Lib.hid (bomClose_any sb hd (.int .i64 (bomStage (bl X.x))) (.bool (bomHad (bl X.x))) (by omega) W (by have := q2.strip; unfold bomCells at this; rw [hhd] at this; exact this))
    have HSH := Lib.hid (show (X.rs, X.K) = rnE (rnL X.d X.q X.e X.run (fd - hd) (bomMk.take hd)) fd by rw [run_shut X, hhd, hfd])
    have HOK := Lib.hid (run_ok ok)
    have HFD := Lib.hid hfd
    have HH0 := Lib.hid h0
    have HSB := Lib.hid hSb
    have HHL := Lib.hid hh1
    have hfd2 : fd ≤ 2500 := by omega
    have HCB := Lib.hid (show ∀ x ∈ bomMk.take hd, 0 ≤ x ∧ x ≤ 255 from fun x hx => by
      have := List.mem_of_mem_take hx
      simp [bomMk] at this
      omega)
    clear q1 q2 q3 q4 ht h0 hK hSb hSr hkf hfd hfed hh1 hhd hcl hsz
    go_enter Tryz.func27, Tryz.ntmps27
    go_upto_region 1 with fail
    rw [← hW]
    clear hW
    go_wp2_with fail
    refine HC.out.mono ?_
    rintro x w2 ⟨A2, c2, rfl, ho, hst2, hg2⟩
    have ht2 := HT0.out.strip (Touch.of_grown hg2 (fun j hj => by injection hj with hj; exact hj.symm)) hst2
    have hsr : ¬ sb = r := by have := HSR.out sb HSB.out; omega
    have hz1 : r < W.heap.size := HR.out.lt
    have HR2 := Lib.hid (HR.out.grown hg2 (fun e => hsr (by injection e with e; exact e.symm)))
    have HTH := Lib.hid (through_rd w2 S X.run HH0.out fd hd HHL.out.1 (by omega) X.x.size (by have := HFD.out; omega) HOK A2 c2 (bomMk.take hd) HCB (Lib.hid ho.toIn) (Lib.hid (fun j hj => ⟨fun hs => by have := HSR.out j hs; have := (ho.blk j hj).1; omega, (ho.blk j hj).2⟩)) (Lib.hid ht2))
    have HTW2 := Lib.hid (((Touch.of_below HB.out S)).trans (Sub.refl _ _) (Touch.of_grown hg2 (fun j hj => by injection hj with hj; rw [← hj]; exact HSB.out)))
    clear ht2 ho hst2 hg2 w3 wl p0 pl HC
    go_wp2_with fail
    refine HTH.out.mono ?_
    rintro x w3 ⟨rfl, S', hr3, ht3, hs3⟩
    have hz2 : r < w2.heap.size := HR2.out.lt
    have hrS : ¬ S r := fun hs => by have := HSR.out r hs; omega
    have hrS' : ¬ S' r := fun hs => by
      rcases hs3.out r hs with h | h
      · exact hrS h
      · omega
    have HR3 := Lib.hid (HR2.out.touch ht3.out hrS)
    have HTW3 := Lib.hid (HTW2.out.trans (Sub.refl _ _) ht3.out)
    have HSW3 := Lib.hid (show Sub w S' S from fun j hj => by
      rcases hs3.out j hj with h | h
      · exact .inl h
      · exact .inr (Nat.le_trans HTW2.out.size h))
    obtain ⟨R2, hR2⟩ : ∃ R2, rnL X.d X.q X.e X.run (fd - hd) (bomMk.take hd) = R2 := ⟨_, rfl⟩
    have hok2 : R2.Ok (X.x.size + hd) := by
      have := rnL_ok (d := X.d) (q := X.q) (e := X.e) (bomMk.take hd) HOK.out (fd - hd)
      rw [hR2, HHL.out.2] at this; exact this
    have HOK2 := Lib.hid hok2
    have HSH2 := Lib.hid (show (X.rs, X.K) = rnE R2 fd by rw [HSH.out, hR2])
    rw [hR2] at hr3
    have hrs2 := Lib.hid hrS'
    clear HTH HSH hR2 hrS hrS' hok2 ht3 hs3
    by_cases hk2 : R2.k = 0
    · rcases hr3.out with ⟨_, ht4⟩ | ⟨h1, _⟩
      case inr => exact absurd hk2 h1
      have HT4 := Lib.hid ht4
      obtain ⟨B, m, cb, V, SR, S1, SM, Z, q1, q2, q3, q4⟩ := ht4
      have p0 : w3.cell? ⟨P, 0, none⟩ = some (.pointer (some ⟨wk, 0, none⟩)) := q1.box.cell 0
      have pl := q1.box.lt
      have HED := Lib.hid (end_rd w3 S' R2 hk2 fd (X.x.size + hd) (by have := HFD.out; omega) HOK2 HT4)
      clear q1 q2 q3 q4 hr3 hk2
      go_wp2_with fail
      refine HED.out.mono ?_
      rintro x w4 ⟨rfl, S4, he4, ht4, hs4⟩
      have hz3 : r < w3.heap.size := HR3.out.lt
      have hrS4 : ¬ S4 r := fun hs => by
        rcases hs4.out r hs with h | h
        · exact hrs2.out h
        · omega
      have HR4 := Lib.hid (HR3.out.touch ht4.out hrs2.out)
      rw [← HSH2.out] at he4
      have hE := HEND.out w4 S4 fd hrS4 (fun _ => HFD.out.symm) he4.out (HTW3.out.trans HSW3.out ht4.out) (fun j hj => by
        rcases hs4.out j hj with h | h
        · exact HSW3.out j h
        · exact .inr (Nat.le_trans HTW3.out.size h))
      obtain ⟨hSP4, hL4, A4, n4, c4, hbx⟩ := he4.out.box
      have hnP : ¬ r = P := fun e => hrS4 (e ▸ hSP4)
      have b4 : w4.cell? ⟨P, 4, none⟩ = some (.bool false) := hbx.cell 4
      have b2 : w4.cell? ⟨P, 2, none⟩ = some (.int .i64 k2) := by rw [← HK1.out]; exact hbx.cell 2
      have b3 : w4.cell? ⟨P, 3, none⟩ = some (.int .i64 a2) := by rw [← HK2.out]; exact hbx.cell 3
      have g4 := hbx.free 4
      have bl3 := hbx.lt
      have r0 : w4.cell? ⟨r, 0, none⟩ = some (.int .i64 0) := HR4.out.cell 0
      have r1 : w4.cell? ⟨r, 1, none⟩ = some (.int .i64 0) := HR4.out.cell 1
      have e0 := HR4.out.free 0
      have e1 := HR4.out.free 1
      have rl := HR4.out.lt
      have hE' := Lib.hid hE
      clear hE HED hbx p0 pl
      go_wp2_with fail
      have S2 := ((HR4.out.far (p := ⟨P, 4, none⟩) hnP (.bool true)).set_ 0 (.int .i64 k2)).set_ 1 (.int .i64 a2)
      have y0 := S2.cell 0
      have y1 := S2.cell 1
      exact bodyPost_ret (v := .agg #[.int .i64 k2, .int .i64 a2]) (by simp [results, Tryz.results27, go_sem, y0, y1]) rfl ⟨rfl, hE'.out⟩
    · rcases hr3.out with ⟨h1, _⟩ | ⟨_, he⟩
      · exact absurd h1 hk2
      have he4 : EndAt w3 P fd X.K.1 X.K.2 X.rs S' := by
        have h := HSH2.out
        rw [rnE_fin hk2] at h
        have h1 : X.rs = R2.rs := congrArg Prod.fst h
        have h2 : X.K = R2.K := congrArg Prod.snd h
        rw [h1, h2]
        unfold Rn.K
        rw [if_neg hk2]
        exact he
      have hE := HEND.out w3 S' fd hrs2.out (fun _ => HFD.out.symm) he4 HTW3.out HSW3.out
      obtain ⟨hSP4, hL4, A4, n4, c4, hbx⟩ := he4.box
      have hnP : ¬ r = P := fun e => hrs2.out (e ▸ hSP4)
      have b0 : w3.cell? ⟨P, 0, none⟩ = some (.pointer none) := hbx.cell 0
      have b4 : w3.cell? ⟨P, 4, none⟩ = some (.bool false) := hbx.cell 4
      have b2 : w3.cell? ⟨P, 2, none⟩ = some (.int .i64 k2) := by rw [← HK1.out]; exact hbx.cell 2
      have b3 : w3.cell? ⟨P, 3, none⟩ = some (.int .i64 a2) := by rw [← HK2.out]; exact hbx.cell 3
      have g4 := hbx.free 4
      have bl3 := hbx.lt
      have r0 : w3.cell? ⟨r, 0, none⟩ = some (.int .i64 0) := HR3.out.cell 0
      have r1 : w3.cell? ⟨r, 1, none⟩ = some (.int .i64 0) := HR3.out.cell 1
      have e0 := HR3.out.free 0
      have e1 := HR3.out.free 1
      have rl := HR3.out.lt
      have hE' := Lib.hid hE
      clear hE hbx hr3 he hk2
      go_wp2_with fail
      have S2 := ((HR3.out.far (p := ⟨P, 4, none⟩) hnP (.bool true)).set_ 0 (.int .i64 k2)).set_ 1 (.int .i64 a2)
      have y0 := S2.cell 0
      have y1 := S2.cell 1
      exact bodyPost_ret (v := .agg #[.int .i64 k2, .int .i64 a2]) (by simp [results, Tryz.results27, go_sem, y0, y1]) rfl ⟨rfl, hE'.out⟩
  · rcases hat with ⟨h1, _⟩ | ⟨_, he⟩
    · exact absurd h1 h0
    have he4 : EndAt W P fed X.K.1 X.K.2 X.rs S := by
      have h := stuck_now h0
      have h1 : X.rs = X.run.rs := congrArg Prod.fst h
      have h2 : X.K = X.run.K := congrArg Prod.snd h
      rw [h1, h2]
      unfold Rn.K
      rw [if_neg h0]
      exact he.touch (Touch.of_below HB.out (fun _ => False)) (fun _ _ h => h)
    have hk2 : X.K.1 = 0 → fed = X.x.size := fun hz => by
      have h := stuck_now h0
      have h2 : X.K = X.run.K := congrArg Prod.snd h
      rw [h2] at hz
      exact absurd hz h0
    have hrS : ¬ S r := fun hs => by have := hSr r hs; omega
    have hE := HEND.out W S fed hrS hk2 he4 (Touch.of_below HB.out S) (Sub.refl _ _)
    obtain ⟨hSP4, hL4, A4, n4, c4, hbx⟩ := he4.box
    have hnP : ¬ r = P := fun e => hrS (e ▸ hSP4)
    have b0 : W.cell? ⟨P, 0, none⟩ = some (.pointer none) := hbx.cell 0
    have b4 : W.cell? ⟨P, 4, none⟩ = some (.bool false) := hbx.cell 4
    have b2 : W.cell? ⟨P, 2, none⟩ = some (.int .i64 k2) := by rw [← HK1.out]; exact hbx.cell 2
    have b3 : W.cell? ⟨P, 3, none⟩ = some (.int .i64 a2) := by rw [← HK2.out]; exact hbx.cell 3
    have g4 := hbx.free 4
    have bl3 := hbx.lt
    have r0 : W.cell? ⟨r, 0, none⟩ = some (.int .i64 0) := HR.out.cell 0
    have r1 : W.cell? ⟨r, 1, none⟩ = some (.int .i64 0) := HR.out.cell 1
    have e0 := HR.out.free 0
    have e1 := HR.out.free 1
    have rl := HR.out.lt
    have hE' := Lib.hid hE
    clear hE hbx he h0 hK hkf hfed hk2 hSr hrS he4 hcl
    go_enter Tryz.func27, Tryz.ntmps27
    go_upto_region 1 with fail
    rw [← hW]
    clear hW
    go_wp2_with fail
    have S2 := ((HR.out.far (p := ⟨P, 4, none⟩) hnP (.bool true)).set_ 0 (.int .i64 k2)).set_ 1 (.int .i64 a2)
    have y0 := S2.cell 0
    have y1 := S2.cell 1
    exact bodyPost_ret (v := .agg #[.int .i64 k2, .int .i64 a2]) (by simp [results, Tryz.results27, go_sem, y0, y1]) rfl ⟨rfl, hE'.out⟩
end Go.Proofs.YtoeanbfemgmgnaaGreatDoor

namespace Go.Proofs.YtoeanbfemgmgnaaGreatDoor
open Go.ChangeShapes Go.WideShapes Go.ChangeAt Go.RowKit
set_option linter.unusedVariables false
set_option linter.unusedSimpArgs false

theorem SlAt.store {w : World} {e : TypeId} {g off n c : Nat} {xs : List Value} (h : SlAt w e (some ⟨g, off, none⟩) n c xs) (k : Nat) (u : Value) (hk : k < n) : SlAt (w.setCell ⟨g, off + k, none⟩ u) e (some ⟨g, off, none⟩) n c (xs.set k u) := by
  obtain ⟨h1, h2, h3, h4⟩ := h
  refine ⟨by simpa using h1, h2, h3, ?_⟩
  rcases h4 with ⟨h0, _⟩ | ⟨q, o, cur, fz, hq, hg, hs, hf, hx⟩
  · cases h0
  · obtain ⟨rfl, rfl⟩ : g = q ∧ off = o := by simp only [Option.some.injEq, Addr.mk.injEq] at hq; exact ⟨hq.1, hq.2.1⟩
    refine .inr ⟨g, off, cur.setIfInBounds (off + k) u, fz, rfl, by simp [World.setCell, Array.getElem?_modify, hg], by simp [hs], by simpa using hf, fun j v hv => ?_⟩
    rw [Array.getElem?_setIfInBounds]
    by_cases hj : k = j
    · subst hj
      rw [List.getElem?_set_self (by omega)] at hv
      rw [if_pos rfl, if_pos (by omega)]; exact hv
    · rw [List.getElem?_set_ne hj] at hv
      rw [if_neg (by omega)]; exact hx j v hv
theorem SlAt.first {w : World} {e : TypeId} {A : Option Addr} {n c : Nat} {v : Value} {xs : List Value} (h : SlAt w e A n c (v :: xs)) : ∃ g off, A = some ⟨g, off, none⟩ ∧ w.cell? ⟨g, off, none⟩ = some v ∧ w.frozen? ⟨g, off, none⟩ = false ∧ g < w.heap.size ∧ n = xs.length + 1 ∧ n ≤ c ∧ c ≤ maxLen := by
  obtain ⟨h1, h2, h3, h4⟩ := h
  rcases h4 with ⟨_, h0⟩ | ⟨q, o, cur, fz, rfl, hg, hs, hf, hx⟩
  · simp at h1; omega
  · have hl : n = xs.length + 1 := by rw [← h1]; rfl
    refine ⟨q, o, rfl, ?_, frozen_off hg hf (by omega), heap_lt hg, hl, h2, h3⟩
    rw [cell_of_row w q o cur e fz hg]
    have := hx 0 v rfl
    simpa using this

theorem rowsB_one {w : World} : ∀ {V : List Value} {rs : List (List ByteArray)} {S : Nat → Prop}, RowsB w V rs S → ∀ u ∈ V, u.oneCell' = true
  | [], [], _, _, u, hu => by cases hu
  | v :: V, r :: rs, S, h, u, hu => by
    obtain ⟨A, c, S1, h1, _, _, _, h5⟩ := h
    rcases List.mem_cons.1 hu with rfl | hu
    · rw [h1]; rfl
    · exact rowsB_one h5 u hu
  | [], _ :: _, _, h, _, _ => h.elim
  | _ :: _, [], _, h, _, _ => h.elim
/-- What drop leaves. -/
def DropR (w : World) (P : Nat) (fed k a h : Int) (gone : Nat) (rs : List (List ByteArray)) (A : Option Addr) (V : List Value) (SR : Nat → Prop) (x : Ending) (w' : World) : Prop :=
  x = .returned (.tuple #[]) ∧ ∃ (gone' : Nat) (A' : Option Addr) (n' c' : Nat) (S' : Nat → Prop), gone' ≤ gone + 1 ∧ Hid (RdC w' P fed k a gone' h rs A' n' c' V SR S') ∧ Hid (Touch w w' (fun j => j = P ∨ blkOf A = some j)) ∧ Hid (∀ j, blkOf A' = some j → blkOf A = some j ∨ w.heap.size ≤ j)
set_option maxRecDepth 100000 in
set_option maxHeartbeats 3200000 in
theorem drop_rd (P : Nat) (fed k a h : Int) (gone : Nat) (hg : gone ≤ 100000) (rs : List (List ByteArray)) (hrs : rs.length ≤ 100000) (A : Option Addr) (n c : Nat) (v : Value) (V : List Value) (SR : Nat → Prop) (w : World)
    (hbox : Hid (StB w P 87 (rdArr (.pointer none) fed k a true A n c gone h))) (hown : Hid (SlAt w 38 A n c (v :: V))) (hrows : Hid (RowsB w V rs SR)) (hap : Hid (∀ j, blkOf A = some j → ¬ SR j)) (hfar : Hid (¬ SR P)) :
    Calls Tryz.prog 45 #[.pointer (some ⟨P, 0, none⟩)] w (DropR w P fed k a h gone rs A V SR) := by
  obtain ⟨ga, off, rfl, hc, hfz, hgl, hn, hnc, hcm⟩ := hown.out.first
  have hVl := hrows.out.len
  obtain ⟨m, hm⟩ : ∃ m, rs.length = m := ⟨_, rfl⟩
  obtain rfl : n = m + 1 := by omega
  have hVm : V.length = m := by omega
  have hm9 : m ≤ 100000 := by omega
  have hgP : ¬ ga = P := fun e => slAt_far hown.out hbox.out (by decide) ga rfl e
  have hPg : ¬ P = ga := fun e => hgP e.symm
  have p5 : w.cell? ⟨P, 5, none⟩ = some (.slice (some ⟨ga, off, none⟩) (m + 1) c) := hbox.out.cell 5
  have pl := hbox.out.lt
  obtain ⟨W1, hW1⟩ : ∃ W1, W1 = w.setCell ⟨ga, off, none⟩ (.slice none 0 0) := ⟨_, rfl⟩
  have T1 : Touch w W1 (fun j => j = ga) := by rw [hW1]; exact (Touch.refl w (fun j => j = ga)).then_set (p := ⟨ga, off, none⟩) (.inl rfl) _
  have HB1 := Lib.hid (hbox.out.touch T1 hPg)
  have hs0 := hown.out.store 0 (.slice none 0 0) (by omega)
  rw [Nat.add_zero, ← hW1, List.set_cons_zero] at hs0
  have HR1 := Lib.hid (hrows.out.touch T1 (fun j hj e => by have e' : j = ga := e; exact hap.out ga rfl (e' ▸ hj)))
  obtain ⟨hcut, hcb⟩ := hs0.cut (k := 1) (by omega)
  rw [List.drop_succ_cons, List.drop_zero] at hcut
  obtain ⟨A1, hA1⟩ : ∃ A1 : Option Addr, (if c = 1 then some (⟨ga, off, none⟩ : Addr) else some (⟨ga, off + 1, none⟩ : Addr)) = A1 := ⟨_, rfl⟩
  have hA2 : (if c = 1 then some (⟨ga, off, none⟩ : Addr) else (some (⟨ga, off, none⟩ : Addr)).map (·.add 1)) = A1 := by
    rw [← hA1, Option.map_some, Addr.add_lit]
  obtain ⟨c1, hc1⟩ : ∃ c1, c - 1 = c1 := ⟨_, rfl⟩
  rw [hA2, Nat.add_sub_cancel, hc1] at hcut
  rw [hA2] at hcb
  have HS1 := Lib.hid hcut
  have HCB := Lib.hid (show ∀ j, blkOf A1 = some j → j = ga from fun j hj => by have := hcb j hj; injection this with this; exact this.symm)
  have HT1 := Lib.hid T1
  have q5 : W1.cell? ⟨P, 5, none⟩ = some (.slice (some ⟨ga, off, none⟩) (m + 1) c) := HB1.out.cell 5
  have q6 : W1.cell? ⟨P, 6, none⟩ = some (.int .i64 gone) := HB1.out.cell 6
  have g5 := HB1.out.free 5
  have g6 := HB1.out.free 6
  have ql := HB1.out.lt
  have HM := Lib.hid hm
  have HVM := Lib.hid hVm
  clear T1 hs0 hcut hcb hA2 hm hVm hVl hrs hn hcm
  go_enter Tryz.func45, Tryz.ntmps45
  go_upto_region 1 with fail
  rw [← hW1]
  clear hW1 p5 pl hc hfz
  go_upto_region 3 with fail
  try rw [hA1]
  have hg1 : (gone : Int) + 1 = ((gone + 1 : Nat) : Int) := by omega
  rw [hg1]
  try rw [hc1]
  obtain ⟨W2, hW2⟩ : ∃ W2, W2 = (W1.setCell ⟨P, 5, none⟩ (.slice A1 m c1)).setCell ⟨P, 6, none⟩ (.int .i64 ((gone + 1 : Nat) : Int)) := ⟨_, rfl⟩
  have HB2 := Lib.hid (show StB W2 P 87 (rdArr (.pointer none) fed k a true A1 m c1 ((gone + 1 : Nat) : Int) h) by rw [hW2]; exact (HB1.out.set_ 5 _).set_ 6 _)
  have HT2 := Lib.hid (show Touch W1 W2 (fun j => j = P) by rw [hW2]; exact ((Touch.refl W1 (fun j => j = P)).then_set (p := ⟨P, 5, none⟩) (.inl rfl) _).then_set (p := ⟨P, 6, none⟩) (.inl rfl) _)
  have HS2 := Lib.hid (HS1.out.touch HT2.out (fun j hj e => hgP (by rw [← HCB.out j hj]; exact e)))
  have HR2 := Lib.hid (HR1.out.touch HT2.out (fun j hj e => by have e' : j = P := e; exact hfar.out (e' ▸ hj)))
  have HTW := Lib.hid (show Touch w W2 (fun j => j = P ∨ blkOf (some (⟨ga, off, none⟩ : Addr)) = some j) from (HT1.out.mono (fun j hj => by have hj' : j = ga := hj; right; rw [hj']; rfl)).trans (Sub.refl _ _) (HT2.out.mono (fun j hj => .inl hj)))
  rw [← hW2]
  obtain ⟨g1, hgg⟩ : ∃ g1, gone + 1 = g1 := ⟨_, rfl⟩
  rw [hgg] at HB2 ⊢
  have HGG := Lib.hid hgg
  have hg9 : g1 ≤ 100001 := by omega
  clear hW2 q5 q6 g5 g6 ql hg1 hgg hA1 hc1
  have r5 : W2.cell? ⟨P, 5, none⟩ = some (.slice A1 m c1) := HB2.out.cell 5
  have r6 : W2.cell? ⟨P, 6, none⟩ = some (.int .i64 g1) := HB2.out.cell 6
  have rl := HB2.out.lt
  by_cases hge : (m : Int) ≤ (g1 : Int)
  · have hbool : decide ((g1 : Int) ≥ (m : Int)) = true := decide_eq_true hge
    refine wp_region_onto (by kernel_rfl) (by kernel_rfl) ?_
    repeat (go_big_quiet_step (fail))
    refine wpQuiet_nil ?_
    intro _ hw'
    obtain ⟨z1, hw''⟩ := hw'
    subst hw''
    obtain ⟨W3, hW3⟩ : ∃ W3, W3 = onto W2 z1 := ⟨_, rfl⟩
    have HBL := Lib.hid (show Below W2.heap.size W2 W3 by rw [hW3]; exact onto_below W2 z1)
    rw [← hW3]
    clear hW3 r5 r6 rl hbool hge
    obtain ⟨i0, hi, hz0, hz1, hz2⟩ := info_parts infoRowR
    have Hi := Lib.hid hi
    have Hz0 := Lib.hid hz0
    have Hz1 := Lib.hid hz1
    have Hz2 := Lib.hid hz2
    clear hi hz0 hz1 hz2
    have HB3 := Lib.hid (HB2.out.below HBL.out)
    have HS3 := Lib.hid (HS2.out.below HBL.out).toIn
    have HR3 := Lib.hid (HR2.out.touch (Touch.of_below HBL.out (fun _ => False)) (fun _ _ h => h))
    have HTW3 := Lib.hid (HTW.out.then_below HBL.out)
    have HONE := Lib.hid (rowsB_one HR3.out)
    have r5 : W3.cell? ⟨P, 5, none⟩ = some (.slice A1 m c1) := HB3.out.cell 5
    have rl := HB3.out.lt
    go_wp2_with (at_builtin; refine wpList_append_sl _ rfl (.const (.slice none 0 0)) (.tmp 37) 24 rfl 38 i0 _ 24 Tryz.underlying24 Hi.out Hz0.out Hz1.out Hz2.out rfl W3.heap.size none 0 0 [] rfl (SlOwn.nothing _ _ _) A1 m c1 V rfl HS3.out HONE.out (by unfold maxLen; omega) (by omega) (Nat.le_refl _) ?_; intro O co W4 hown hgrow hat; rw [List.nil_append, Nat.zero_add] at hown; have hb4 : Below W3.heap.size W3 W4 := ⟨hgrow.os, hgrow.tape, hgrow.output, hgrow.size, fun k hk => hgrow.block k hk (by simp [blkOf])⟩; have HB4 := Lib.hid (HB3.out.below hb4); have HR4 := Lib.hid (HR3.out.touch (Touch.of_below hb4 (fun _ => False)) (fun _ _ h => h)); have HTW4 := Lib.hid (HTW3.out.then_below hb4); have HO4 := Lib.hid hown; have HRL := Lib.hid HR3.out.lies; have HZ3 := Lib.hid HTW3.out.size; clear hown hgrow hat hb4 r5 rl; rw [Nat.zero_add]; have r5 : W4.cell? ⟨P, 5, none⟩ = some (.slice A1 m c1) := HB4.out.cell 5; have r6 : W4.cell? ⟨P, 6, none⟩ = some (.int .i64 g1) := HB4.out.cell 6; have g5 := HB4.out.free 5; have g6 := HB4.out.free 6; have rl := HB4.out.lt)
    have hs5 := (HB4.out.set_ 5 (.slice O m co)).set_ 6 (.int .i64 0)
    have T5 := ((Touch.refl W4 (fun j => j = P)).then_set (p := ⟨P, 5, none⟩) (.inl rfl) (.slice O m co)).then_set (p := ⟨P, 6, none⟩) (.inl rfl) (.int .i64 0)
    have hOP := HO4.out.unlike_st HB4.out (by decide)
    have HOb := Lib.hid HO4.out.blk
    have HO5 := Lib.hid (HO4.out.touch T5 (fun j hj e => hOP j hj e))
    have HR5 := Lib.hid (HR4.out.touch T5 (fun j hj e => by have e' : j = P := e; exact hfar.out (e' ▸ hj)))
    have HT5 := Lib.hid (HTW4.out.trans (Sub.refl _ _) (T5.mono (fun j hj => .inl hj)))
    have HS5 := Lib.hid hs5
    clear hs5 T5 hOP
    go_wp2_with fail
    go_end0
    refine ⟨rfl, 0, O, m, co, fun j => j = P ∨ blkOf O = some j ∨ SR j, Nat.zero_le _, Lib.hid ⟨HS5.out, HO5.out.toAt, HR5.out, fun j hj hs => ?_, hfar.out, fun j => Iff.rfl⟩, HT5, Lib.hid (fun j hj => .inr (Nat.le_trans HZ3.out (HOb.out j hj).1))⟩
    have := (HOb.out j hj).1
    have := HRL.out j hs
    omega
  · have hbool : decide ((g1 : Int) ≥ (m : Int)) = false := decide_eq_false hge
    refine wp_region_onto (by kernel_rfl) (by kernel_rfl) ?_
    repeat (go_big_quiet_step (fail))
    refine wpQuiet_nil ?_
    intro _ hw'
    obtain ⟨z1, hw''⟩ := hw'
    subst hw''
    have hbl := onto_below W2 z1
    go_wp2_with fail
    go_end0
    refine ⟨rfl, g1, A1, m, c1, fun j => j = P ∨ blkOf A1 = some j ∨ SR j, by rw [HGG.out]; exact Nat.le_refl _, Lib.hid ⟨HB2.out.below hbl, HS2.out.below hbl, HR2.out.touch (Touch.of_below hbl (fun _ => False)) (fun _ _ h => h), fun j hj hs => ?_, hfar.out, fun j => Iff.rfl⟩, Lib.hid (HTW.out.then_below hbl), Lib.hid (fun j hj => .inl (by rw [HCB.out j hj]; rfl))⟩
    exact hap.out j (by rw [HCB.out j hj]; rfl) hs
end Go.Proofs.YtoeanbfemgmgnaaGreatDoor

namespace Go.Proofs.YtoeanbfemgmgnaaGreatDoor
open Go.ChangeShapes Go.WideShapes Go.ChangeAt Go.RowKit
set_option linter.unusedVariables false
set_option linter.unusedSimpArgs false

set_option maxRecDepth 100000 in
set_option maxHeartbeats 3200000 in
theorem next_yes_rd (X : RdS) (p : Addr) (S : Nat → Prop) (r : List ByteArray) (w : World) (ok : X.Ok) (hcl : X.cl = true) (hsz : X.x.size ≤ 2500) (hr : X.rs[X.h]? = some r) (H : Hid (RBx w p X S)) : Calls Tryz.prog 28 #[.pointer (some p)] w fun y w' =>
    ∃ A c S', y = .returned (.tuple #[.slice A r.length c, .bool true]) ∧ Hid (SlIn w' A r.length (strs r)) ∧ Hid (Apart w' A S') ∧ Hid (∀ k, blkOf A = some k → S k ∨ w.heap.size ≤ k) ∧ Hid (RBx w' p X.next S') ∧ Hid (Touch w w' S) ∧ Hid (Sub w S' S) := by
  obtain ⟨P, rfl, ⟨h0, _⟩ | ⟨_, hh, fed, gone, A, n, c, V, SR, hgone, hfed, hc⟩⟩ := H.out
  case inl => rw [hcl] at h0; cases h0
  have hlt := (List.getElem?_eq_some_iff.1 hr).1
  have hdrop : X.rs.drop X.h = r :: X.rs.drop (X.h + 1) := by
    rw [List.drop_eq_getElem_cons hlt]
    rw [(List.getElem?_eq_some_iff.1 hr).2]
  have hfew := ok.few
  rw [hdrop] at hc
  obtain ⟨k, hk⟩ : ∃ k, X.K.1 = k := ⟨_, rfl⟩
  obtain ⟨a, ha⟩ : ∃ a, X.K.2 = a := ⟨_, rfl⟩
  obtain ⟨hd, hhd⟩ : ∃ hd, X.h = hd := ⟨_, rfl⟩
  obtain ⟨rest, hrest⟩ : ∃ rest, X.rs.drop (X.h + 1) = rest := ⟨_, rfl⟩
  have hrl : rest.length ≤ 3000 := by rw [← hrest, List.length_drop]; omega
  rw [hk, ha, hrest, hhd] at hc
  obtain ⟨v, V1, rfl⟩ : ∃ v V1, V = v :: V1 := by
    have := hc.rows.len
    cases V with
    | nil => simp at this
    | cons v V1 => exact ⟨v, V1, rfl⟩
  obtain ⟨A3, c3, S1, rfl, ho, hS, hn1, hrows⟩ := hc.rows
  obtain ⟨ga, off, rfl, hcell, hfz, hgl, hn, hnc, hcm⟩ := hc.own.first
  have hVl := hrows.len
  obtain ⟨m, hm⟩ : ∃ m, rest.length = m := ⟨_, rfl⟩
  obtain rfl : n = m + 1 := by omega
  have hgP : ¬ ga = P := fun e => slAt_far hc.own hc.box (by decide) ga rfl e
  have p5 : w.cell? ⟨P, 5, none⟩ = some (.slice (some ⟨ga, off, none⟩) (m + 1) c) := hc.box.cell 5
  have p7 : w.cell? ⟨P, 7, none⟩ = some (.int .i64 hd) := hc.box.cell 7
  have f7 := hc.box.free 7
  have pl := hc.box.lt
  obtain ⟨rl, hrlen⟩ : ∃ rl, r.length = rl := ⟨_, rfl⟩
  rw [hrlen] at hcell
  obtain ⟨W1, hW1⟩ : ∃ W1, W1 = w.setCell ⟨P, 7, none⟩ (.int .i64 ((hd : Int) + 1)) := ⟨_, rfl⟩
  have T1 : Touch w W1 (fun j => j = P) := by rw [hW1]; exact (Touch.refl w (fun j => j = P)).then_set (p := ⟨P, 7, none⟩) (.inl rfl) _
  have hb1 : StB W1 P 87 (rdArr (.pointer none) fed k a true (some ⟨ga, off, none⟩) (m + 1) c gone ((hd : Int) + 1)) := by rw [hW1]; exact hc.box.set_ 7 _
  have hSP : S P := (hc.all P).2 (.inl rfl)
  have hSA : S ga := (hc.all ga).2 (.inr (.inl rfl))
  have hSR : ∀ j, SR j → S j := fun j hj => (hc.all j).2 (.inr (.inr hj))
  have h1P : ¬ S1 P := fun hs => hc.far ((hS P).2 (.inr hs))
  have hA3P : ∀ j, blkOf A3 = some j → j ≠ P := fun j hj e => hc.far (e ▸ (hS j).2 (.inl hj))
  have hA3A : ∀ j, blkOf A3 = some j → j ≠ ga := fun j hj e => hc.apart ga rfl (e ▸ (hS j).2 (.inl hj))
  have HDR := Lib.hid (drop_rd P fed k a ((hd : Int) + 1) gone (by omega) rest (by omega) (some ⟨ga, off, none⟩) (m + 1) c (.slice A3 r.length c3) V1 S1 W1 (Lib.hid hb1)
    (Lib.hid (hc.own.touch T1 (fun j hj e => slAt_far hc.own hc.box (by decide) j hj e))) (Lib.hid (hrows.touch T1 (fun j hj e => by have e' : j = P := e; exact h1P (e' ▸ hj)))) (Lib.hid (fun j hj hs => hc.apart j hj ((hS j).2 (.inr hs)))) (Lib.hid h1P))
  have HO1 := Lib.hid (ho.touch T1 hA3P)
  have HT1 := Lib.hid T1
  have HRL := Lib.hid hrlen
  have HHD := Lib.hid hhd
  have HGO := Lib.hid hgone
  have HLT := Lib.hid hlt
  have HFD := Lib.hid hfed
  have HCL := Lib.hid hcl
  have HK := Lib.hid (show X.K.1 = k from hk)
  have HA := Lib.hid (show X.K.2 = a from ha)
  have HRE := Lib.hid hrest
  have HSS := Lib.hid hS
  have HALL := Lib.hid hc.all
  have HLI := Lib.hid hc.lies
  have HAP := Lib.hid hc.apart
  have hhd9 : hd ≤ 3000 := by omega
  have hm9 : m ≤ 3000 := by omega
  clear hc ho hrows T1 hb1 hrlen hhd hgone hlt hfed hcl hk ha hrest hS hdrop hfew hh hm hn hVl hr
  go_enter Tryz.func28, Tryz.ntmps28
  go_upto_region 5 with fail
  rw [← hW1]
  clear hW1 p5 p7 f7 pl hcell hfz
  go_wp2_with fail
  refine HDR.out.mono ?_
  rintro x w2 ⟨rfl, gone', A', n', c', S', hg', HC2, HT2, HBL⟩
  clear HDR
  go_wp2_with fail
  refine bodyPost_ret (v := .tuple #[.slice A3 rl c3, .bool true]) (by simp [results, Tryz.results28, go_sem]) (by rfl) ?_
  have ho2 := HO1.out.touch HT2.out (fun j hj hs => by
    rcases hs with hs | hs
    · exact hA3P j hj hs
    · injection hs with hs
      have hs' : ga = j := hs
      exact hA3A j hj hs'.symm)
  have hTT : Touch w w2 S := (HT1.out.mono (fun j hj => by have hj' : j = P := hj; rw [hj']; exact hSP)).trans (Sub.refl _ _) (HT2.out.mono (fun j hs => by
    rcases hs with hs | hs
    · have hs' : j = P := hs
      rw [hs']; exact hSP
    · injection hs with hs
      have hs' : ga = j := hs
      rw [← hs']; exact hSA))
  refine ⟨A3, c3, S', by rw [HRL.out], Lib.hid ho2.toIn, Lib.hid (fun j hj => ⟨fun hs => ?_, (ho2.blk j hj).2⟩), Lib.hid (fun j hj => .inl (hSR j ((HSS.out j).2 (.inl hj)))), Lib.hid ⟨P, rfl, .inr ⟨HCL.out, ?_, fed, gone', A', n', c', V1, S1, ?_, HFD.out, ?_⟩⟩, Lib.hid hTT, Lib.hid (fun j hj => ?_)⟩
  · rcases (HC2.out.all j).1 hs with h | h | h
    · exact hA3P j hj h
    · rcases HBL.out j h with h2 | h2
      · injection h2 with h2
        have h2' : ga = j := h2
        exact hA3A j hj h2'.symm
      · have := (HO1.out.blk j hj).2; omega
    · exact hn1 j hj h
  · show X.h + 1 ≤ X.rs.length
    have := HLT.out; omega
  · show gone' ≤ X.h + 1
    have := HGO.out; omega
  · show RdC w2 P fed X.K.1 X.K.2 gone' ((X.h + 1 : Nat) : Int) (X.rs.drop (X.h + 1)) A' n' c' V1 S1 S'
    rw [HK.out, HA.out, HRE.out, HHD.out]
    exact HC2.out
  · rcases (HC2.out.all j).1 hj with h | h | h
    · rw [h]; exact .inl hSP
    · rcases HBL.out j h with h2 | h2
      · injection h2 with h2
        have h2' : ga = j := h2
        rw [← h2']; exact .inl hSA
      · exact .inr (Nat.le_trans HT1.out.size h2)
    · exact .inl (hSR j ((HSS.out j).2 (.inr h)))
set_option maxRecDepth 100000 in
theorem next_no_rd (X : RdS) (p : Addr) (S : Nat → Prop) (w : World) (hcl : X.cl = true) (hr : X.rs.length ≤ X.h) (H : Hid (RBx w p X S)) : Calls Tryz.prog 28 #[.pointer (some p)] w fun y w' =>
    ∃ S', y = .returned (.tuple #[.slice none 0 0, .bool false]) ∧ Hid (RBx w' p X S') ∧ Hid (Touch w w' S) ∧ Hid (Sub w S' S) := by
  obtain ⟨P, rfl, ⟨h0, _⟩ | ⟨_, hh, fed, gone, A, n, c, V, SR, hgone, hfed, hc⟩⟩ := H.out
  case inl => rw [hcl] at h0; cases h0
  have hn : n = 0 := by
    have := hc.rows.len
    rw [List.drop_eq_nil_of_le hr, hc.own.1] at this
    exact this
  subst hn
  have p5 : w.cell? ⟨P, 5, none⟩ = some (.slice A 0 c) := hc.box.cell 5
  have pl := hc.box.lt
  clear hc hfed hh hgone hcl hr
  go_enter Tryz.func28, Tryz.ntmps28
  go_wp2_with fail
  refine bodyPost_ret (v := .tuple #[.slice none 0 0, .bool false]) (by simp [results, Tryz.results28, go_sem]) (by rfl) ?_
  exact ⟨S, rfl, H, Lib.hid (Touch.refl _ _), Lib.hid (Sub.refl _ _)⟩

theorem pr_says : PR RBx kfx cfx ofx :=
  { lies := rbx_lies, keep := rbx_keep
    told := fun X _ h => told_all X h
    stuck := fun X _ h hk b => stuck_all X h hk b
    new_yes := fun d q e lf ls lr un w ok => new_rd d q e lf ls lr un w ok
    feed := fun X p S A n c b w ok hcl hsz hnc h hin => feed_of_rd X p S A n c b w ok hcl hsz hnc h hin
    close := fun X p S w ok hcl hsz h => close_of_rd X p S w ok hcl hsz h
    next_yes := fun X p S r w ok hcl hsz hr h => next_yes_rd X p S r w ok hcl hsz hr h
    next_no := fun X p S w _ hcl _ hr h => next_no_rd X p S w hcl hr h }
end Go.Proofs.YtoeanbfemgmgnaaGreatDoor

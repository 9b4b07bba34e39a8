/- Layer 11: what the program's Drain does (a premise); the pieces, plain. -/
import Derived.Test.YtaoncnlhilpgfaaDoorWrb
import Derived.Test.YtaoncnlhilpgfaaDoorZk
namespace Go.Proofs.YtaoncnlhilpgfaaDoor
open Go.ChangeShapes Go.WideShapes Go.ChangeAt Go.RowKit
set_option linter.unusedVariables false
set_option linter.unusedSimpArgs false

/-- A piece, as it is handed on: where it lies, its room, what was there ahead of it, its bytes. -/
structure Pce where
  O : Option Addr
  c : Nat
  base : Nat
  b : ByteArray
def pceArgs (x : Pce) : Array Value := #[.slice x.O x.b.size x.c]
def pceHand (x : Pce) (w : World) : Prop := SlOwn w x.base 5 x.O x.b.size x.c (u8s (bl x.b))
def pceBlk (x : Pce) (k : Nat) : Prop := blkOf x.O = some k
theorem pceHand_keep : ∀ x W W' S, pceHand x W → Touch W W' S → (∀ k, S k → ¬ pceBlk x k) → (∀ k, pceBlk x k → k < W.heap.size) → pceHand x W' :=
  fun x W W' S h ht hs _ => SlOwn.touch h ht (fun j hj hS => hs j hS hj)
/-- Piece i of S, in pieces of m. -/
def pceAt (S : ByteArray) (m i : Nat) : ByteArray := S.extract (i * m) (i * m + m)
def pceN (S : ByteArray) (m : Nat) : Nat := (S.size + (m - 1)) / m
def pcesE (S : ByteArray) (m : Nat) : List ByteArray := (List.range (pceN S m)).map (pceAt S m)
theorem pcesE_len (S : ByteArray) (m : Nat) : (pcesE S m).length = pceN S m := by unfold pcesE; simp
theorem pceN_lt {S : ByteArray} {m i : Nat} (hm : 1 ≤ m) (h : i < pceN S m) : i * m < S.size := by
  have h1 : (i + 1) * m ≤ S.size + (m - 1) := (Nat.le_div_iff_mul_le hm).1 h
  rw [Nat.add_mul] at h1; omega
theorem pceN_all (S : ByteArray) {m : Nat} (hm : 1 ≤ m) : S.size ≤ pceN S m * m := by
  have h1 : ¬ (pceN S m + 1) * m ≤ S.size + (m - 1) := fun h => by
    have := (Nat.le_div_iff_mul_le hm).2 h
    unfold pceN at this; omega
  rw [Nat.add_mul] at h1; omega
theorem pceN_le (S : ByteArray) {m : Nat} (hm : 1 ≤ m) : pceN S m ≤ S.size := by
  rcases Nat.eq_zero_or_pos (pceN S m) with h | h
  · omega
  · have h1 := pceN_lt (S := S) (i := pceN S m - 1) hm (by omega)
    have h2 : (pceN S m - 1) * 1 ≤ (pceN S m - 1) * m := Nat.mul_le_mul_left _ hm
    omega
theorem pcesE_at {S : ByteArray} {m : Nat} {pre : List ByteArray} {x : ByteArray} (h : pre ++ [x] <+: pcesE S m) : pre.length < pceN S m ∧ x = pceAt S m pre.length := by
  have hl := h.length_le
  rw [pcesE_len] at hl
  simp at hl
  have h1 : (pcesE S m)[pre.length]? = some x := by
    obtain ⟨r, hr⟩ := h
    rw [← hr]; simp
  unfold pcesE at h1
  rw [List.getElem?_map, List.getElem?_range (by omega), Option.map_some] at h1
  injection h1 with h1
  exact ⟨by omega, h1.symm⟩
theorem pceAt_size {S : ByteArray} {m i : Nat} (h : i * m < S.size) : (pceAt S m i).size = min m (S.size - i * m) := by
  unfold pceAt
  rw [ByteArray.size_extract]; omega
theorem pceAt_next {S O : ByteArray} {m i : Nat} (h : bl O = (bl S).take (i * m)) : bl (O ++ pceAt S m i) = (bl S).take ((i + 1) * m) := by
  rw [bl_append, h, pceAt, bl_mid, Nat.add_sub_cancel_left, Nat.add_mul, Nat.one_mul, List.take_add]
/-- What is left of a writer. -/
def Wr1.rest (x : Wr1) : ByteArray := x.S.extract x.tk x.S.size
def Wr1.drained (x : Wr1) (m i : Nat) : Wr1 := { x with tk := x.tk + min (i * m) (x.S.size - x.tk) }
theorem rest_all {x : Wr1} (h : x.tk = 0) : x.rest = x.S := bl_inj (by
  unfold Wr1.rest
  rw [bl_mid, h, List.drop_zero, Nat.sub_zero, List.take_of_length_le (by rw [bl_length]; omega)])
theorem drained_got {x : Wr1} (h : x.tk = 0) (hx : x.S.size ≤ 1000000) (m i : Nat) {O : ByteArray} (hO : bl O = (bl x.S).take (i * m)) : O ++ (x.drained m i).got 1048576 = x.S := bl_inj (by
  have hl : (bl x.S).length = x.S.size := bl_length _
  rw [bl_append, hO]
  unfold Wr1.got Wr1.drained
  dsimp only
  unfold Wr1.tkN
  dsimp only
  rw [bl_mid, h, Nat.zero_add, Nat.sub_zero, Nat.add_sub_cancel_left]
  rw [show (1048576 : Int).toNat = 1048576 from rfl]
  rw [List.take_of_length_le (l := (bl x.S).drop _) (by rw [List.length_drop]; omega)]
  rcases Nat.le_total (i * m) x.S.size with h1 | h1
  · rw [Nat.min_eq_left h1, List.take_append_drop]
  · rw [Nat.min_eq_right h1, List.take_of_length_le (by omega), List.drop_of_length_le (by omega), List.append_nil])
theorem drained_ok {x : Wr1} (h : x.Ok) (m i : Nat) : (x.drained m i).Ok := ⟨h.d0, h.d1, h.q0, h.q1, by have := h.tk; show x.tk + min (i * m) (x.S.size - x.tk) ≤ x.S.size; omega⟩
/-- What the program's Drain does. -/
def DrainSays (WB : World → Addr → Wr1 → (Nat → Prop) → Prop) : Prop := ∀ (x : Wr1) (p : Addr) (S : Nat → Prop) (sz : Int) (w : World), x.Ok → x.S.size ≤ 1000000 → -9223372036854775808 ≤ sz → sz ≤ 9223372036854775807 → Hid (WB w p x S) →
  Calls Tryd.prog 25 #[.pointer (some p), .int .i64 sz] w fun y w' => ∃ (gf : Nat) (lb : Array Value) (Sc : Nat → Prop), y = .returned (.func (.func gf) #[] lb) ∧
    Hid (∀ args w, (callFunc gf args).run Tryd.prog w = .ok (.enter gf args) w) ∧ Hid (∀ w, (binOp .eql 55 (.func (.func gf) #[] lb) Value.nilFunc).run Tryd.prog w = .ok (.bool false) w) ∧
    Hid (Below w.heap.size w w') ∧ Hid (∀ k, Sc k → w.heap.size ≤ k ∧ k < w'.heap.size) ∧
    Hid (∀ W1, Below w'.heap.size w' W1 → SeqS Fence.wide 19 Tryd.prog gf lb pceArgs (·.b) pceHand pceBlk (pcesE x.rest (max sz 1).toNat) (fun pre W S' => WB W p (x.drained (max sz 1).toNat pre.length) S') (fun k => S k ∨ Sc k) W1)
/-- What holds in the loop: box ob has what came so far, box nb how many; of what there was, these and S0 alone have turned. -/
def DrI (W6 : World) (ob nb : Nat) (S0 : Nat → Prop) (S : ByteArray) (m : Nat) (pre : List ByteArray) (W : World) (T : Nat → Prop) : Prop :=
  T ob ∧ T nb ∧ (∀ k, T k → k = ob ∨ k = nb) ∧ Touch W6 W (fun k => k = ob ∨ k = nb ∨ S0 k) ∧ StB W nb 3 #[.int .i64 (pre.length : Int)] ∧ ∃ O : ByteArray, StB W ob 9 #[.string O] ∧ bl O = (bl S).take (pre.length * m)
/-- Left at the stop. -/
def DrX (W6 : World) (ob nb : Nat) (S0 : Nat → Prop) (S : ByteArray) (m : Nat) (id : Nat) (stop : Int) (c : Code) (pre : List ByteArray) (W : World) (T : Nat → Prop) : Prop :=
  c = .exit id ∧ (pre.length : Int) = stop ∧ DrI W6 ob nb S0 S m pre W T
theorem drI_ab (W6 : World) (ob nb : Nat) (S0 : Nat → Prop) (S : ByteArray) (m : Nat) {B : Nat} (hB : W6.heap.size ≤ B) : AbK (fun k => B ≤ k ∨ S0 k) (DrI W6 ob nb S0 S m) := fun s W1 W2 T X h hl ht hX => by
  obtain ⟨h1, h2, h3, h4, h5, O, h6, h7⟩ := h
  refine ⟨h1, h2, h3, ⟨ht.os.trans h4.os, ht.tape.trans h4.tape, ht.output.trans h4.output, Nat.le_trans h4.size ht.size, fun k hk hn => ?_⟩, h5.touch ht (fun hs => (hX _ hs).1 h2), O, h6.touch ht (fun hs => (hX _ hs).1 h1), h7⟩
  refine (ht.block k (Nat.lt_of_lt_of_le hk h4.size) (fun hs => ?_)).trans (h4.block k hk hn)
  rcases (hX k hs).2 with h | h
  · omega
  · exact hn (.inr (.inr h))
theorem drX_ab (W6 : World) (ob nb : Nat) (S0 : Nat → Prop) (S : ByteArray) (m id : Nat) (stop : Int) {B : Nat} (hB : W6.heap.size ≤ B) (c : Code) : AbK (fun k => B ≤ k ∨ S0 k) (DrX W6 ob nb S0 S m id stop c) :=
  fun s W1 W2 T X ⟨h1, h2, h3⟩ hl ht hX => ⟨h1, h2, drI_ab W6 ob nb S0 S m hB s W1 W2 T X h3 hl ht hX⟩
end Go.Proofs.YtaoncnlhilpgfaaDoor

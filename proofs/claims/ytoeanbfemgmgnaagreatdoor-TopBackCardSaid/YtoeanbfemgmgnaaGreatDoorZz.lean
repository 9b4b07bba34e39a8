/- Layer 9: what the program's Quoted answers (premise). strings.ReplaceAll(s, one byte, new), at whatever text, in whatever world (the library's MaxLen is not read at one byte). Layer 9: the program's quoteOf, Quoted. Layer 2 and layer 10: the program's utf.Run, Bad, Valid; its dialect.End; its writable. strings.Builder's WriteByte, WriteString, String in this program, with what they leave as it was (the library's own contracts, laid by hand: the numbers of the functions and types). -/
import Derived.Test.YtoeanbfemgmgnaaGreatDoorZq
import Derived.Test.YtoeanbfemgmgnaaGreatDoorShelf
import Derived.Test.YtoeanbfemgmgnaaGreatDoorZp
import Derived.Test.YtoeanbfemgmgnaaGreatDoorZk
import Derived.Deep.LoopGhost
import Derived.Lib.Hide
import Derived.Test.YtoeanbfemgmgnaaGreatDoorZy
import Derived.Test.YtoeanbfemgmgnaaGreatDoorCua
import Derived.Test.YtoeanbfemgmgnaaGreatDoorZn
import Derived.Shelf.Strings.BuilderK
namespace Go.Proofs.YtoeanbfemgmgnaaGreatDoor
open Go.ChangeShapes Go.WideShapes Go.ChangeAt Go.RowKit
set_option linter.unusedVariables false
set_option linter.unusedSimpArgs false

def QuotedSays : Prop := ∀ (d q e : Int) (f : ByteArray) (w : World), 0 ≤ d → d ≤ 255 → 0 ≤ q → q ≤ 255 → rightB d q e = true → f.size ≤ 1000 →
  Calls Tryz.prog 56 #[.agg #[.int .u8 d, .int .u8 q, .int .i64 e], .string f] w fun x w' => x = .returned (.string (quoO q f)) ∧ Below w.heap.size w w'
end Go.Proofs.YtoeanbfemgmgnaaGreatDoor

namespace Go.Proofs.YtoeanbfemgmgnaaGreatDoor
open Go.ChangeShapes Go.WideShapes Go.ChangeAt Go.RowKit
set_option linter.unusedVariables false
set_option linter.unusedSimpArgs false

theorem writeString_at (B b : Nat) (bs : List Value) (s : ByteArray) (w : World) (h : Lib.IsBuilder 105 5 B b bs w) (hlen : bs.length + s.size ≤ 140737488355328) (hBw : B ≤ w.heap.size) :
    Calls Tryz.prog 55 #[.pointer (some ⟨b, 0, none⟩), .string s] w fun e w' => e = .returned (.tuple #[.int .i64 s.size, .nilIface]) ∧ (Lib.BuilderAt 105 5 B b (.pointer (some ⟨b, 0, none⟩)) (bs ++ Lib.strCells s) w' ∧ Below B w w') :=
  Any.Builder_WriteString { Tryz.lays154 with } Tryz.Builder_Extra_154 B b bs s w h hlen hBw

set_option maxRecDepth 100000 in
set_option maxHeartbeats 3200000 in
theorem replaceOne_some (s old new : ByteArray) (c : UInt8) (ho : Hid (old = ⟨#[c]⟩)) (w : World) (hs : s.size < 4294967281) (hn : new.size ≤ 1000) (hne : old ≠ new) (hc0 : s.data.toList.count c ≠ 0) :
    Calls Tryz.prog 90 #[.string s, .string old, .string new, .int .i64 (-1)] w fun e w' => e = .returned (.string ⟨(repl c new.data.toList s.data.toList).toArray⟩) ∧ Below w.heap.size w w' := by
  obtain ⟨L, hL⟩ : ∃ L, s.data.toList = L := ⟨_, rfl⟩
  obtain ⟨N, hN⟩ : ∃ N, new.data.toList = N := ⟨_, rfl⟩
  obtain ⟨K, hK⟩ : ∃ K : Nat, L.count c = K := ⟨_, rfl⟩
  have hLs : L.length = s.size := by rw [← hL]; exact (Lib.size_eq s).symm
  have hNs : N.length = new.size := by rw [← hN]; exact (Lib.size_eq new).symm
  have hKs : K ≤ s.size := by rw [← hK, ← hLs]; exact List.count_le_length ..
  rw [hL, hK] at hc0
  rw [hL, hN]
  have HC := Lib.hid (show ∀ w, Calls Tryz.prog 107 #[.string s, .string old] w fun e w' => e = .returned (.int .i64 (K : Int)) ∧ w' = w from fun w => by
    have := Tryz.strings_Count_one s c w
    rw [hL] at this
    unfold Lib.countByte at this
    rw [hK] at this
    rw [ho.out]
    exact this)
  have HI := Lib.hid (show ∀ (t : ByteArray) w, Calls Tryz.prog 109 #[.string t, .string old] w fun e w' => e = .returned (.int .i64 (Lib.indexByte t.data.toList c)) ∧ w' = w from fun t w => by rw [ho.out]; exact Tryz.strings_Index_one t c w)
  have hbeq : (old.toList == new.toList) = false := (Lib.bytes_beq_false_iff _ new).2 hne
  have hz1 : (((-1 : Int)) == 0) = false := rfl
  have hcz : ((K : Int) == 0) = false := beq_eq_false_iff_ne.2 (by omega)
  have hKn : K * new.size ≤ 4294967281 * 1000 := Nat.mul_le_mul (by omega) hn
  have hone : old.size = 1 := by rw [ho.out]; rfl
  have hod : decide (0 < old.size) = true := decide_eq_true (by omega)
  have hga := Lib.grow_arg s.size K new.size old.size (by omega) (by rw [hone]; omega) (by omega)
  rw [hone] at hga
  rw [IntWalk.wrap64_in ((new.size : Int) - ((1 : Nat) : Int)) ⟨by omega, by omega⟩] at hga
  obtain ⟨g0, hg0⟩ : ∃ g0 : Nat, s.size + K * new.size - K * 1 = g0 := ⟨_, rfl⟩
  rw [hg0] at hga
  have hg0b : g0 ≤ 281474976710656 := by omega
  have HGA := Lib.hid (show wrap64 ((s.size : Int) + wrap64 ((K : Int) * ((new.size : Int) - 1))) = (g0 : Int) from hga)
  have HCK := Lib.hid hK
  have HLL := Lib.hid hL
  have HNN := Lib.hid hN
  have HKN := Lib.hid hKn
  clear hg0 hne hK hN hL hKn hga
  go_enter Tryz.func90, Tryz.ntmps90
  go_wp2_with (go_at_call 107; with_reducible refine (HC.out _).mono ?_; rintro x w' ⟨rfl, hw⟩; rw [hw])
  rw [HGA.out]
  refine (Tryz.Builder_Grow_fresh w.heap.size w.heap.size g0 _ (Nat.le_refl _) (heap_alloc_new w _) (by simp) hg0b).mono ?_
  rintro e w1 ⟨rfl, hb0, hb1⟩
  have H1 := Lib.hid (Or.inr hb0 : Lib.IsBuilder 105 5 w.heap.size w.heap.size (Lib.byteCells []) w1)
  have HB1 := Lib.hid (((Below.refl w.heap.size w).alloc (Nat.le_refl _) _).trans hb1)
  clear hb0 hb1 HGA
  go_wp2_with fail
  go_loopw [11, 53] (fun s11 s53 wr => ∃ (i start : Nat) (acc : List UInt8), s53 = .int .i64 i ∧ s11 = .int .i64 start ∧ i ≤ K ∧ start ≤ s.size ∧
      Hid (Lib.IsBuilder 105 5 w.heap.size w.heap.size (Lib.byteCells acc) wr) ∧ Hid (Below w.heap.size w wr) ∧ Hid (acc ++ repl c N (L.drop start) = repl c N L) ∧
      Hid ((L.drop start).count c + i = K) ∧ Hid (acc.length + (s.size - start) ≤ s.size + i * new.size)) (fun _ s53 _ => K - (intOf s53).toNat)
  case atStart => exact ⟨0, 0, [], rfl, rfl, Nat.zero_le _, Nat.zero_le _, H1, HB1, Lib.hid (by simp), Lib.hid (by simpa using HCK.out), Lib.hid (by simp)⟩
  case round =>
    obtain ⟨i, start, acc, rfl, rfl, hik, hst, HB, HW, HR, HCT, HLE⟩ := hrel
    have hBw : w.heap.size ≤ wr.heap.size := HW.out.size
    have hil : i * new.size ≤ K * new.size := Nat.mul_le_mul_right _ hik
    have hacc : acc.length + (s.size - start) ≤ 4294967281 + 4294967281 * 1000 := by have := HLE.out; have := HKN.out; omega
    clear hil
    by_cases hlt : i < K
    · obtain ⟨j, hj, hjl, hjc, hjr⟩ := index_hit (c := c) (l := L.drop start) (by have := HCT.out; omega)
      have hroom : j < s.size - start := by rw [List.length_drop, hLs] at hjl; exact hjl
      have c1 : (0 : Int) ≤ (start : Int) := by omega
      have c2 : (start : Int) ≤ (s.size : Int) := by omega
      have c3 : (start : Int) ≤ (start : Int) + (j : Int) := by omega
      have c4 : (start : Int) + (j : Int) ≤ (s.size : Int) := by omega
      have HN1 := Lib.hid (show Lib.byteCells acc ++ Lib.strCells (s.extract start (start + j)) ++ Lib.strCells new = Lib.byteCells (acc ++ (L.drop start).take j ++ N) by
        rw [Lib.strCells_eq, Lib.strCells_eq, Lib.extract_data, Nat.add_sub_cancel_left, HLL.out, HNN.out, ← Lib.byteCells_append, ← Lib.byteCells_append])
      have HR1 := Lib.hid (show (acc ++ (L.drop start).take j ++ N) ++ repl c N (L.drop (start + j + 1)) = repl c N L by
        rw [← HR.out, hjr, List.drop_drop, show start + (j + 1) = start + j + 1 by omega]
        simp only [List.append_assoc])
      have HC1 := Lib.hid (show (L.drop (start + j + 1)).count c + (i + 1) = K by
        have := HCT.out
        rw [hjc, List.drop_drop, show start + (j + 1) = start + j + 1 by omega] at this
        omega)
      have HL1 := Lib.hid (show (acc ++ (L.drop start).take j ++ N).length + (s.size - (start + j + 1)) ≤ s.size + (i + 1) * new.size by
        have := HLE.out
        rw [Nat.succ_mul, List.length_append, List.length_append, List.length_take, List.length_drop, hLs, hNs]
        omega)
      clear hjr hjc hjl HR HCT HLE
      go_wp2_with (go_at_call 109; refine (HI.out _ _).mono ?_; rintro x w' ⟨rfl, hw⟩; rw [hw, Lib.extract_to_end, HLL.out, hj])
      refine (writeString_at w.heap.size w.heap.size _ (s.extract start (start + j)) wr HB.out (by rw [Lib.byteCells_length, ByteArray.size_extract]; omega) hBw).mono ?_
      rintro x w3 ⟨rfl, h3, hb3⟩
      have hBw3 : w.heap.size ≤ w3.heap.size := Nat.le_trans hBw hb3.size
      have H3 := Lib.hid h3
      have HB3 := Lib.hid (HW.out.trans hb3)
      clear h3 hb3 HB HW
      go_wp2_with fail
      refine (writeString_at w.heap.size w.heap.size _ new w3 (Or.inr H3.out) (by rw [List.length_append, Lib.byteCells_length, Lib.strCells_length, ByteArray.size_extract]; omega) hBw3).mono ?_
      rintro x w4 ⟨rfl, h4, hb4⟩
      rw [HN1.out] at h4
      have H4 := Lib.hid (Or.inr h4 : Lib.IsBuilder 105 5 w.heap.size w.heap.size _ w4)
      have HB4 := Lib.hid (HB3.out.trans hb4)
      clear h4 hb4 H3 HB3
      go_wp2_with fail
      go_roundw
      case measure => simp [intOf]; omega
      case rel => exact ⟨i + 1, start + j + 1, _, by go_num, by go_num, by omega, by omega, H4, HB4, HR1, HC1, HL1⟩
    · obtain rfl : i = K := by omega
      have hrest : repl c N (L.drop start) = L.drop start := repl_none c N _ (List.count_eq_zero.1 (by have := HCT.out; omega))
      have HF := Lib.hid (show acc ++ L.drop start = repl c N L by rw [← HR.out, hrest])
      have c1 : (0 : Int) ≤ (start : Int) := by omega
      have c2 : (start : Int) ≤ (s.size : Int) := by omega
      clear hrest HR HCT HLE
      go_wp2_with fail
      refine (writeString_at w.heap.size w.heap.size _ _ wr HB.out (by rw [Lib.byteCells_length, ByteArray.size_extract]; omega) hBw).mono ?_
      rintro x w3 ⟨rfl, h3, hb3⟩
      rw [Lib.strCells_eq, Lib.extract_to_end, HLL.out, ← Lib.byteCells_append, HF.out] at h3
      have H3 := Lib.hid (Or.inr h3 : Lib.IsBuilder 105 5 w.heap.size w.heap.size _ w3)
      have HB3 := Lib.hid (HW.out.trans hb3)
      have hBw3 : w.heap.size ≤ w3.heap.size := HB3.out.size
      clear h3 hb3 HB HW
      go_wp2_with fail
      refine (Tryz.Builder_String_any w.heap.size w.heap.size _ w3 H3.out hBw3).mono ?_
      rintro x w5 ⟨rfl, hb5⟩
      have HB5 := Lib.hid (HB3.out.trans hb5)
      clear hb5
      go_wp2_with fail
      go_ret
      exact ⟨rfl, HB5.out⟩
theorem replaceOne_any (s old new : ByteArray) (c : UInt8) (ho : old = ⟨#[c]⟩) (w : World) (hs : s.size < 4294967281) (hn : new.size ≤ 1000) (hne : old ≠ new) :
    Calls Tryz.prog 90 #[.string s, .string old, .string new, .int .i64 (-1)] w fun e w' => e = .returned (.string ⟨(repl c new.data.toList s.data.toList).toArray⟩) ∧ Below w.heap.size w w' := by
  by_cases hc0 : s.data.toList.count c = 0
  · rw [repl_none c _ _ (List.count_eq_zero.1 hc0)]
    have HC := Lib.hid (show ∀ w, Calls Tryz.prog 107 #[.string s, .string old] w fun e w' => e = .returned (.int .i64 (0 : Int)) ∧ w' = w from fun w => by
      have := Tryz.strings_Count_one s c w
      unfold Lib.countByte at this
      rw [hc0] at this
      rw [ho]
      exact this)
    have hbeq : (old.toList == new.toList) = false := (Lib.bytes_beq_false_iff _ new).2 hne
    have hz1 : (((-1 : Int)) == 0) = false := rfl
    clear hc0 hne ho
    go_enter Tryz.func90, Tryz.ntmps90
    go_wp2_with (go_at_call 107; with_reducible refine (HC.out _).mono ?_; rintro x w' ⟨rfl, hw⟩; rw [hw])
    go_ret
    exact ⟨by rw [Lib.mk_data]; rfl, Below.refl _ _⟩
  · exact replaceOne_some s old new c (Lib.hid ho) w hs hn hne hc0
theorem replaceAllOne_any (s old new : ByteArray) (c : UInt8) (ho : old = ⟨#[c]⟩) (w : World) (hs : s.size < 4294967281) (hn : new.size ≤ 1000) (hne : old ≠ new) :
    Calls Tryz.prog 75 #[.string s, .string old, .string new] w fun e w' => e = .returned (.string ⟨(repl c new.data.toList s.data.toList).toArray⟩) ∧ Below w.heap.size w w' := by
  have HC := Lib.hid (fun w => replaceOne_any s old new c ho w hs hn hne)
  generalize repl c new.data.toList s.data.toList = R at HC ⊢
  clear ho hne
  go_enter Tryz.func75, Tryz.ntmps75
  go_wp2_with (go_at_call 90; with_reducible refine (above (HC.out _)).mono ?_; rintro x _ ⟨rfl, y, rfl⟩)
  go_ret
  exact ⟨rfl, onto_below _ _⟩
end Go.Proofs.YtoeanbfemgmgnaaGreatDoor

namespace Go.Proofs.YtoeanbfemgmgnaaGreatDoor
open Go.ChangeShapes Go.WideShapes Go.ChangeAt Go.RowKit
set_option linter.unusedVariables false
set_option linter.unusedSimpArgs false

/-- A byte as a text. -/
def oneB (q : Int) : ByteArray := ⟨#[UInt8.ofNat q.toNat]⟩
theorem bl_oneB {q : Int} (q0 : 0 ≤ q) (q1 : q ≤ 255) : bl (oneB q) = [q] := bl_toBA [q] (by simp; omega)
theorem oneB_size (q : Int) : (oneB q).size = 1 := rfl
theorem byte_back {q : Int} (q0 : 0 ≤ q) (q1 : q ≤ 255) : ((UInt8.ofNat q.toNat).toNat : Int) = q := by
  rw [UInt8.toNat_ofNat']; omega
theorem bl_mk (l : List UInt8) : bl ⟨l.toArray⟩ = l.map fun b => (b.toNat : Int) := rfl
/-- What ReplaceAll makes of a field, between two Quotes, is the field quoted. -/
theorem quo_repl {q : Int} (q0 : 0 ≤ q) (q1 : q ≤ 255) (s : ByteArray) : oneB q ++ ⟨(repl (UInt8.ofNat q.toNat) (oneB q ++ oneB q).data.toList s.data.toList).toArray⟩ ++ oneB q = quoO q s := bl_inj (by
  rw [bl_append, bl_append, bl_quoO q0 q1, bl_oneB q0 q1, bl_mk]
  have h : (oneB q ++ oneB q).data.toList = [UInt8.ofNat q.toNat, UInt8.ofNat q.toNat] := by rw [ByteArray.data_append]; rfl
  rw [h, repl_dbl, byte_back q0 q1]
  rfl)
theorem repl_bytes {q : Int} (q0 : 0 ≤ q) (q1 : q ≤ 255) (s : ByteArray) (n : List UInt8) (hn : n.length = 2) : (⟨(repl (UInt8.ofNat q.toNat) n s.data.toList).toArray⟩ : ByteArray).size ≤ 2 * s.size := by
  have h1 := repl_len (UInt8.ofNat q.toNat) n s.data.toList
  have h2 : s.data.toList.count (UInt8.ofNat q.toNat) ≤ s.data.toList.length := List.count_le_length ..
  have h3 : s.data.toList.length = s.size := (Lib.size_eq s).symm
  show (repl _ n s.data.toList).toArray.size ≤ _
  rw [List.size_toArray]
  rw [hn] at h1
  omega
set_option maxRecDepth 100000 in
theorem quoteOf_any (d q e : Int) (w : World) :
    Calls Tryz.prog 74 #[.agg #[.int .u8 d, .int .u8 q, .int .i64 e]] w fun x w' => x = .returned (.string (oneB q)) ∧ Below w.heap.size w w' := by
  obtain ⟨Q, hQ⟩ : ∃ Q : ByteArray, (⟨#[UInt8.ofNat q.toNat]⟩ : ByteArray) = Q := ⟨_, rfl⟩
  have HQ := Lib.hid (show oneB q = Q from hQ)
  obtain ⟨W0, hW0⟩ : ∃ W0, w.alloc (.cells #[.int .u8 d, .int .u8 q, .int .i64 e] 23) = W0 := ⟨_, rfl⟩
  have hcv : (convert 42 9 (.slice (some ⟨W0.heap.size, 0, none⟩) 1 1)).run Tryz.prog (W0.alloc (.cells #[.int .u8 q] 5)) = .ok (.string Q) (W0.alloc (.cells #[.int .u8 q] 5)) := by
    rw [← hQ]; exact run_string_one' W0 _ _ 5 rfl rfl rfl q _ 1
  have m1 : W0.cell? ⟨w.heap.size, 1, none⟩ = some (.int .u8 q) := by rw [← hW0]; exact (StB.made w rfl _ _).cell 1
  have ml : w.heap.size < W0.heap.size := by rw [← hW0]; simp
  have HB0 := Lib.hid (show Below w.heap.size w W0 by rw [← hW0]; exact up_alloc (Below.refl _ w) _)
  rw [HQ.out]
  clear hQ HQ
  go_enter Tryz.func74, Tryz.ntmps74
  go_upto_region 1 with fail
  clear hW0
  go_wp2_with fail
  go_ret
  exact ⟨rfl, (by (repeat (first | exact HB0.out | refine up_onto ?_ _ | refine up_alloc ?_ _)))⟩
set_option maxRecDepth 100000 in
theorem quoted_any : QuotedSays := by
  intro d q e s w d0 d1 q0 q1 hr hs
  obtain ⟨Q, hQ⟩ : ∃ Q, oneB q = Q := ⟨_, rfl⟩
  obtain ⟨R, hR⟩ : ∃ R : ByteArray, (⟨(repl (UInt8.ofNat q.toNat) (oneB q ++ oneB q).data.toList s.data.toList).toArray⟩ : ByteArray) = R := ⟨_, rfl⟩
  have hRs : R.size ≤ 2000 := by rw [← hR]; have := repl_bytes q0 q1 s (oneB q ++ oneB q).data.toList (by rw [ByteArray.data_append]; rfl); omega
  have hne : oneB q ≠ oneB q ++ oneB q := fun h => by have := congrArg ByteArray.size h; rw [ByteArray.size_append, oneB_size] at this; omega
  have HRA := Lib.hid (fun w => replaceAllOne_any s (oneB q) (oneB q ++ oneB q) _ rfl w (by omega) (by rw [ByteArray.size_append, oneB_size]; omega) hne)
  have HF := Lib.hid (quo_repl q0 q1 s)
  have HQO := Lib.hid (fun w => quoteOf_any d q e w)
  rw [hR] at HRA HF
  rw [hQ] at HRA HF HQO
  have hQs : Q.size ≤ 1 := by rw [← hQ]; exact Nat.le_of_eq (oneB_size q)
  rw [← HF.out]
  clear hQ hR hne HF
  go_enter Tryz.func56, Tryz.ntmps56
  go_wp2_with (first
    | (go_at_call 74; with_reducible refine (above (HQO.out _)).mono ?_; rintro x _ ⟨rfl, y, rfl⟩)
    | (go_at_call 75; with_reducible refine (above (HRA.out _)).mono ?_; rintro x _ ⟨rfl, y, rfl⟩))
  go_ret
  exact ⟨rfl, (by (repeat (first | exact Below.refl _ _ | refine up_onto ?_ _ | refine up_alloc ?_ _)))⟩
def nums (l : List UInt8) : List Int := l.map fun b => (b.toNat : Int)
theorem nums_append (a b : List UInt8) : nums (a ++ b) = nums a ++ nums b := List.map_append ..
end Go.Proofs.YtoeanbfemgmgnaaGreatDoor

namespace Go.Proofs.YtoeanbfemgmgnaaGreatDoor
open Go.ChangeShapes Go.WideShapes Go.ChangeAt Go.RowKit
set_option linter.unusedVariables false
set_option linter.unusedSimpArgs false

set_option maxHeartbeats 800000 in
theorem utRun_any (s : Int) (t : ByteArray) (ht : t.size ≤ maxLen) (w : World) : Calls Tryz.prog 87 #[.int .i64 s, .string t] w fun e w' => e = .returned (.tuple #[.int .i64 (utRs s (bl t)), .int .i64 (utRn s (bl t))]) ∧ w = w' := by
  unfold maxLen at ht
  go_enter Tryz.func87, Tryz.ntmps87
  go_wp2_with fail
  go_loop [0, 5] (fun st n => ∃ (k : Nat) (u : Int), k ≤ t.size ∧ n = .int .i64 k ∧ st = .int .i64 u ∧ Hid (utRs s (bl t) = utRs u ((bl t).drop k)) ∧ Hid (utRn s (bl t) = k + utRn u ((bl t).drop k))) (fun _ n => t.size - (intOf n).toNat)
  case atStart => exact ⟨0, s, Nat.zero_le _, rfl, rfl, Lib.hid (by simp), Lib.hid (by simp)⟩
  case round =>
    obtain ⟨k, u, hk, rfl, rfl, H1, H2⟩ := hrel
    by_cases hlt : k < t.size
    · have hd := bl_drop t k hlt
      have HD := Lib.hid hd
      clear hd
      cases ho : utOk u ((t[k].toNat : Nat) : Int)
      · have e1 : utRs s (bl t) = u := by rw [H1.out, HD.out, utRs, if_neg (by simp [ho])]
        have e2 : utRn s (bl t) = k := by rw [H2.out, HD.out, utRn, if_neg (by simp [ho])]; rfl
        have E1 := Lib.hid e1
        have E2 := Lib.hid e2
        clear e1 e2 H1 H2
        go_wp2_with (go_at_call 77; ((with_reducible refine (utStep_any _ _ (byte_lo _) (byte_hi _) _).mono ?_); rintro e w' ⟨rfl, rfl⟩))
        go_ret2
        rw [E1.out, E2.out]
        exact ⟨rfl, rfl⟩
      · have e1 : utRs s (bl t) = utRs (utNx u ((t[k].toNat : Nat) : Int)) ((bl t).drop (k + 1)) := by rw [H1.out, HD.out, utRs, if_pos ho]
        have e2 : utRn s (bl t) = k + 1 + utRn (utNx u ((t[k].toNat : Nat) : Int)) ((bl t).drop (k + 1)) := by rw [H2.out, HD.out, utRn, if_pos ho]; omega
        have E1 := Lib.hid e1
        have E2 := Lib.hid e2
        clear e1 e2 H1 H2
        go_wp2_with (go_at_call 77; ((with_reducible refine (utStep_any _ _ (byte_lo _) (byte_hi _) _).mono ?_); rintro e w' ⟨rfl, rfl⟩))
        go_round
        case rel => exact ⟨k + 1, _, by omega, by go_num, rfl, E1, E2⟩
        case measure => simp [intOf]; omega
    · have e1 : utRs s (bl t) = u := by rw [H1.out, bl_end t k (by omega), utRs]
      have e2 : utRn s (bl t) = k := by rw [H2.out, bl_end t k (by omega), utRn]; rfl
      have E1 := Lib.hid e1
      have E2 := Lib.hid e2
      clear e1 e2 H1 H2
      go_wp2_with fail
      go_ret2
      rw [E1.out, E2.out]
      exact ⟨rfl, rfl⟩

def utBadK (l : List Int) : Int := if utRn 0 l < l.length then 3 else if utRs 0 l = 0 then 0 else 12
def utBadA (l : List Int) : Int := if utRn 0 l < l.length then utRn 0 l else if utRs 0 l = 0 then 0 else utRn 0 l
set_option maxHeartbeats 400000 in
theorem utBad_any (s : ByteArray) (hs : s.size ≤ maxLen) (w : World) : Calls Tryz.prog 71 #[.string s] w fun e w' => e = .returned (.agg #[.int .i64 (utBadK (bl s)), .int .i64 (utBadA (bl s))]) ∧ Below w.heap.size w w' := by
  have hl := bl_length s
  have hr := utRn_le 0 (bl s)
  rw [hl] at hr
  by_cases h : utRn 0 (bl s) < s.size
  · have e1 : utBadK (bl s) = 3 := by rw [utBadK, hl, if_pos h]
    have e2 : utBadA (bl s) = utRn 0 (bl s) := by rw [utBadA, hl, if_pos h]
    rw [e1, e2]
    clear e1 e2 hl
    go_enter Tryz.func71, Tryz.ntmps71
    go_wp2_with (go_at_call 87; ((with_reducible refine (utRun_any _ _ hs _).mono ?_); rintro e w' ⟨rfl, rfl⟩))
    exact bodyPost_ret (v := .agg #[.int .i64 3, .int .i64 (utRn 0 (bl s))]) (by simp [results, Tryz.results71, go_sem]) rfl ⟨rfl, up_alloc (Below.refl _ _) _⟩
  · by_cases h0 : utRs 0 (bl s) = 0
    · have e1 : utBadK (bl s) = 0 := by rw [utBadK, hl, if_neg h, if_pos h0]
      have e2 : utBadA (bl s) = 0 := by rw [utBadA, hl, if_neg h, if_pos h0]
      have h0' : (utRs 0 (bl s) != 0) = false := by simpa using h0
      rw [e1, e2]
      clear e1 e2 hl h0
      go_enter Tryz.func71, Tryz.ntmps71
      go_wp2_with (go_at_call 87; ((with_reducible refine (utRun_any _ _ hs _).mono ?_); rintro e w' ⟨rfl, rfl⟩))
      exact bodyPost_ret (v := .agg #[.int .i64 0, .int .i64 0]) (by simp [results, Tryz.results71, go_sem]) rfl ⟨rfl, up_alloc (Below.refl _ _) _⟩
    · have e1 : utBadK (bl s) = 12 := by rw [utBadK, hl, if_neg h, if_neg h0]
      have e2 : utBadA (bl s) = utRn 0 (bl s) := by rw [utBadA, hl, if_neg h, if_neg h0]
      have h0' : (utRs 0 (bl s) != 0) = true := by simpa using h0
      rw [e1, e2]
      clear e1 e2 hl h0
      go_enter Tryz.func71, Tryz.ntmps71
      go_wp2_with (go_at_call 87; ((with_reducible refine (utRun_any _ _ hs _).mono ?_); rintro e w' ⟨rfl, rfl⟩))
      exact bodyPost_ret (v := .agg #[.int .i64 12, .int .i64 (utRn 0 (bl s))]) (by simp [results, Tryz.results71, go_sem]) rfl ⟨rfl, up_alloc (Below.refl _ _) _⟩

theorem utf_kind (s : ByteArray) : (utBadK (bl s) == 0) = utfB s := by
  unfold utfB utBadK
  rw [Bool.eq_iff_iff, decide_eq_true_eq, beq_iff_eq]
  have hle := utRn_le 0 (bl s)
  have hwl := utWhole_le (bl s)
  have hbl := bl_length s
  constructor
  · intro h
    by_cases h1 : utRn 0 (bl s) < (bl s).length
    · rw [if_pos h1] at h; cases h
    · rw [if_neg h1] at h
      by_cases h2 : utRs 0 (bl s) = 0
      · have := utAll_whole (l := bl s) (by omega) h2
        omega
      · rw [if_neg h2] at h; cases h
  · intro h
    obtain ⟨h1, h2⟩ := utWhole_all (l := bl s) (by omega)
    rw [if_neg (by omega), if_pos h2]

theorem utfValid_any (s : ByteArray) (hs : s.size ≤ maxLen) (v : Bool) (hv : Hid (utfB s = v)) (w : World) : Calls Tryz.prog 52 #[.string s] w fun e w' => e = .returned (.bool v) ∧ Below w.heap.size w w' := by
  have hfld : ∀ (x y : Value) w, (Instr.field 45 (.agg #[x, y]) 0).run Tryz.prog w = .ok x w := fun _ _ _ => by kernel_rfl
  have HK := Lib.hid (show (utBadK (bl s) == 0) = v by rw [utf_kind]; exact hv.out)
  go_enter Tryz.func52, Tryz.ntmps52
  go_wp2_with fail
  refine (utBad_any _ hs _).mono ?_
  rintro e w1 ⟨rfl, hb⟩
  go_wp2_with fail
  go_ret
  exact ⟨congrArg (fun b => Ending.returned (.bool b)) HK.out, hb⟩

set_option maxHeartbeats 400000 in
theorem dEnd_any (d q e : Int) (d0 : 0 ≤ d) (d1 : d ≤ 255) (q0 : 0 ≤ q) (q1 : q ≤ 255) (h : rightB d q e = true) (w : World) :
    Calls Tryz.prog 57 #[.agg #[.int .u8 d, .int .u8 q, .int .i64 e]] w fun x w' => x = .returned (.string (endO e)) ∧ Below w.heap.size w w' := by
  have he : e = 1 ∨ e = 2 ∨ e = 3 := by simp [rightB, endB] at h; omega
  rcases he with rfl | rfl | rfl
  all_goals
    have H := Lib.hid h
    clear h
    go_enter Tryz.func57, Tryz.ntmps57
    go_wp2_with fail
    refine (check_yes _ _ _ d0 d1 q0 q1 H.out _).mono ?_
    rintro x w1 ⟨rfl, hb⟩
    obtain ⟨hc, hf⟩ := bcell hb
    go_wp2_with fail
    go_ret
    exact ⟨rfl, ((Below.refl _ _).alloc (Nat.le_refl _) _).trans (hb.mono (by simp))⟩

theorem mayN_ok {r : List ByteArray} (h0 : r ≠ []) (h : r.all utfB = true) : mayN r = 0 := by unfold mayN; rw [if_neg h0, if_pos h]
theorem mayN_bad {r : List ByteArray} (h0 : r ≠ []) {s : ByteArray} {k : Nat} (h : r[k]? = some s) (hs : utfB s = false) : mayN r = 14 := by
  unfold mayN
  rw [if_neg h0, if_neg]
  intro hall
  have := List.all_eq_true.1 hall s (List.mem_of_getElem? h)
  rw [hs] at this
  cases this

set_option maxHeartbeats 1600000 in
theorem writable_any (A : Option Addr) (n c : Nat) (r : List ByteArray) (hn : n ≤ 1000) (v : Int) (hv : Hid (mayN r = v)) (w : World) (hr : Hid (SlIn w A n (strs r))) (hok : Hid (∀ s ∈ r, s.size ≤ maxLen)) :
    Calls Tryz.prog 37 #[.slice A n c] w fun x w' => x = .returned (.int .i64 v) ∧ Below w.heap.size w w' := by
  have HL := Lib.hid hr.out.lenS
  by_cases h0 : n = 0
  · have HV := Lib.hid (show v = 13 by rw [← hv.out]; have := HL.out; unfold mayN; rw [if_pos (List.length_eq_zero_iff.1 (by omega))])
    subst h0
    go_enter Tryz.func37, Tryz.ntmps37
    go_wp2_with fail
    go_ret
    exact ⟨by rw [HV.out]; rfl, Below.refl _ _⟩
  · have h0' : ((n : Int) == 0) = false := by rw [beq_eq_false_iff_ne]; omega
    have HNE := Lib.hid (show r ≠ [] by intro h; have := HL.out; rw [h] at this; simp at this; omega)
    go_enter Tryz.func37, Tryz.ntmps37
    go_wp2_with fail
    go_loopw [10] (fun i wr => ∃ k : Nat, k ≤ n ∧ i = .int .i64 k ∧ Hid ((r.take k).all utfB = true) ∧ Hid (∃ y, wr = onto w y)) (fun i _ => n - (intOf i).toNat)
    case atStart => exact ⟨0, Nat.zero_le _, rfl, Lib.hid (by simp), Lib.hid (onto_self w)⟩
    case round =>
      obtain ⟨k, hk, rfl, HA, HY⟩ := hrel
      obtain ⟨y, rfl⟩ := HY.out
      clear HY
      by_cases hlt : k < n
      · obtain ⟨s, hs⟩ : ∃ s, r[k]? = some s := ⟨_, List.getElem?_eq_getElem (by rw [HL.out]; exact hlt)⟩
        obtain ⟨a, rfl, hca⟩ := hr.out.at_ (strs_get hs)
        have za : ∀ z, (onto w z).cell? (a.add k) = some (.string s) := fun z => mem_cell (onto_below w z) hca
        have hsz : s.size ≤ maxLen := hok.out s (List.mem_of_getElem? hs)
        have HS := Lib.hid hs
        obtain ⟨u, hu⟩ : ∃ u, utfB s = u := ⟨_, rfl⟩
        have HU := Lib.hid hu
        clear hs hca hu
        cases u
        · have HV := Lib.hid (show v = 14 by rw [← hv.out]; exact mayN_bad HNE.out HS.out HU.out)
          go_wp2_with (go_at_call 52; with_reducible refine (above (utfValid_any s hsz _ HU _)).mono ?_; rintro x _ ⟨rfl, y1, rfl⟩)
          go_ret
          exact ⟨by rw [HV.out]; rfl, up_onto (onto_below w _) _⟩
        · go_wp2_with (go_at_call 52; with_reducible refine (above (utfValid_any s hsz _ HU _)).mono ?_; rintro x _ ⟨rfl, y1, rfl⟩)
          go_roundw
          case rel => exact ⟨k + 1, by omega, by go_num, Lib.hid (by rw [List.take_add_one, HS.out, List.all_append, HA.out]; simpa using HU.out), Lib.hid ⟨_, rfl⟩⟩
          case measure => simp [intOf]; omega
      · obtain rfl : k = n := by omega
        have HV := Lib.hid (show v = 0 by rw [← hv.out]; have := HA.out; rw [List.take_of_length_le (by rw [HL.out]; omega)] at this; exact mayN_ok HNE.out this)
        go_wp2_with fail
        go_ret
        exact ⟨by rw [HV.out]; rfl, onto_below w _⟩
end Go.Proofs.YtoeanbfemgmgnaaGreatDoor

namespace Go.Proofs.YtoeanbfemgmgnaaGreatDoor
open Go.RowKit Go.Shelf
set_option linter.unusedVariables false

def wbRen : Go.Shelf.Ren := ⟨fun | 167 => 54 | n => Tryz.lays154_ren.f n, Tryz.lays154_ren.t, Tryz.lays154_ren.g⟩
theorem wbLays : Go.Proofs.Lays.n167 Tryz.prog wbRen := {
  mixed := by kernel_rfl
  f167 := Tryz.func54.trans (congrArg some (by kernel_rfl))
  f240 := Tryz.func73.trans (congrArg some (by kernel_rfl))
  f276 := Tryz.func89.trans (congrArg some (by kernel_rfl))
  t0 := Tryz.underlying0
  a0 := Tryz.isAgg0
  z0 := Tryz.sizeOf0
  v0 := Tryz.zeroValue0
  t4 := Tryz.underlying4
  a4 := Tryz.isAgg4
  z4 := Tryz.sizeOf4
  v4 := Tryz.zeroValue4
  t5 := Tryz.underlying5
  a5 := Tryz.isAgg5
  z5 := Tryz.sizeOf5
  v5 := Tryz.zeroValue5
  t9 := Tryz.underlying9
  a9 := Tryz.isAgg9
  z9 := Tryz.sizeOf9
  v9 := Tryz.zeroValue9
  t20 := Tryz.underlying20
  a20 := Tryz.isAgg20
  z20 := Tryz.sizeOf20
  v20 := Tryz.zeroValue20
  t37 := Tryz.underlying42
  a37 := Tryz.isAgg42
  z37 := Tryz.sizeOf42
  v37 := Tryz.zeroValue42
  t70 := Tryz.underlying103
  a70 := Tryz.isAgg103
  z70 := Tryz.sizeOf103
  v70 := Tryz.zeroValue103
  t72 := Tryz.underlying105
  a72 := Tryz.isAgg105
  z72 := Tryz.sizeOf105
  v72 := Tryz.zeroValue105
  t75 := Tryz.underlying109
  a75 := Tryz.isAgg109
  z75 := Tryz.sizeOf109
  v75 := Tryz.zeroValue109
  t164 := Tryz.underlying156
  a164 := Tryz.isAgg156
  z164 := Tryz.sizeOf156
  v164 := Tryz.zeroValue156 }
theorem wbExtra : Builder.Extra Tryz.prog wbRen := {
  sizeBuilder := by kernel_rfl
  liesBuilder := by kernel_rfl
  t5 := Tryz.underlying5
  a5 := Tryz.isAgg5
  z5 := Tryz.sizeOf5
  v5 := Tryz.zeroValue5
  infoByte := by kernel_rfl
  cellsByte := by kernel_rfl
  sizeByte := by kernel_rfl
  neB5 := by decide }
theorem writeByte_k (B b : Nat) (bs : List Value) (c : Int) (w : World) (h : Lib.IsBuilderF 105 5 B b bs w) (hlen : bs.length + 1 ≤ 140737488355328) (hBw : B ≤ w.heap.size) :
    Calls Tryz.prog 54 #[.pointer (some ⟨b, 0, none⟩), .int .u8 c] w fun e w' => e = .returned .nilIface ∧ (Lib.BuilderAtF 105 5 B b (.pointer (some ⟨b, 0, none⟩)) (bs ++ [.int .u8 c]) w' ∧ Below B w w' ∧ Lib.OthersKept 5 (some b) w w') :=
  Any.Builder_WriteByte_k wbLays wbExtra B b bs c w h hlen hBw
theorem writeString_k (B b : Nat) (bs : List Value) (s : ByteArray) (w : World) (h : Lib.IsBuilderF 105 5 B b bs w) (hlen : bs.length + s.size ≤ 140737488355328) (hBw : B ≤ w.heap.size) :
    Calls Tryz.prog 55 #[.pointer (some ⟨b, 0, none⟩), .string s] w fun e w' => e = .returned (.tuple #[.int .i64 s.size, .nilIface]) ∧ (Lib.BuilderAtF 105 5 B b (.pointer (some ⟨b, 0, none⟩)) (bs ++ Lib.strCells s) w' ∧ Below B w w' ∧ Lib.OthersKept 5 (some b) w w') :=
  Any.Builder_WriteString_k { Tryz.lays154 with } Tryz.Builder_Extra_154 B b bs s w h hlen hBw
theorem string_k (B b : Nat) (l : List UInt8) (w : World) (h : Lib.IsBuilderF 105 5 B b (Lib.byteCells l) w) (hBw : B ≤ w.heap.size) :
    Calls Tryz.prog 58 #[.pointer (some ⟨b, 0, none⟩)] w fun e w' => e = .returned (.string ⟨l.toArray⟩) ∧ (Lib.IsBuilderF 105 5 B b (Lib.byteCells l) w' ∧ Below B w w' ∧ Lib.OthersKept 5 (some b) w w') :=
  Any.Builder_String_any_k Tryz.lays169 Tryz.Builder_Extra_169 B b l w h hBw
end Go.Proofs.YtoeanbfemgmgnaaGreatDoor

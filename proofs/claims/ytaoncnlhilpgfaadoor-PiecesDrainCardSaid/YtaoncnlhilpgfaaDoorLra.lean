/- strings.ReplaceAll(s, one byte, new), at whatever text, in whatever world (the library's MaxLen is not read at one byte). -/
import Derived.Test.YtaoncnlhilpgfaaDoorShelf
import Derived.Test.YtaoncnlhilpgfaaDoorZp
import Derived.Test.YtaoncnlhilpgfaaDoorZk
import Derived.Deep.LoopGhost
import Derived.Lib.Hide
namespace Go.Proofs.YtaoncnlhilpgfaaDoor
open Go.ChangeShapes Go.WideShapes Go.ChangeAt Go.RowKit
set_option linter.unusedVariables false
set_option linter.unusedSimpArgs false

theorem writeString_at (B b : Nat) (bs : List Value) (s : ByteArray) (w : World) (h : Lib.IsBuilder 80 5 B b bs w) (hlen : bs.length + s.size ≤ 140737488355328) (hBw : B ≤ w.heap.size) :
    Calls Tryd.prog 46 #[.pointer (some ⟨b, 0, none⟩), .string s] w fun e w' => e = .returned (.tuple #[.int .i64 s.size, .nilIface]) ∧ (Lib.BuilderAt 80 5 B b (.pointer (some ⟨b, 0, none⟩)) (bs ++ Lib.strCells s) w' ∧ Below B w w') :=
  Any.Builder_WriteString { Tryd.lays154 with } Tryd.Builder_Extra_154 B b bs s w h hlen hBw

set_option maxRecDepth 100000 in
set_option maxHeartbeats 3200000 in
theorem replaceOne_some (s old new : ByteArray) (c : UInt8) (ho : Hid (old = ⟨#[c]⟩)) (w : World) (hs : s.size < 4294967281) (hn : new.size ≤ 1000) (hne : old ≠ new) (hc0 : s.data.toList.count c ≠ 0) :
    Calls Tryd.prog 61 #[.string s, .string old, .string new, .int .i64 (-1)] w fun e w' => e = .returned (.string ⟨(repl c new.data.toList s.data.toList).toArray⟩) ∧ Below w.heap.size w w' := by
  obtain ⟨L, hL⟩ : ∃ L, s.data.toList = L := ⟨_, rfl⟩
  obtain ⟨N, hN⟩ : ∃ N, new.data.toList = N := ⟨_, rfl⟩
  obtain ⟨K, hK⟩ : ∃ K : Nat, L.count c = K := ⟨_, rfl⟩
  have hLs : L.length = s.size := by rw [← hL]; exact (Lib.size_eq s).symm
  have hNs : N.length = new.size := by rw [← hN]; exact (Lib.size_eq new).symm
  have hKs : K ≤ s.size := by rw [← hK, ← hLs]; exact List.count_le_length ..
  rw [hL, hK] at hc0
  rw [hL, hN]
  have HC := Lib.hid (show ∀ w, Calls Tryd.prog 66 #[.string s, .string old] w fun e w' => e = .returned (.int .i64 (K : Int)) ∧ w' = w from fun w => by
    have := Tryd.strings_Count_one s c w
    rw [hL] at this
    unfold Lib.countByte at this
    rw [hK] at this
    rw [ho.out]
    exact this)
  have HI := Lib.hid (show ∀ (t : ByteArray) w, Calls Tryd.prog 68 #[.string t, .string old] w fun e w' => e = .returned (.int .i64 (Lib.indexByte t.data.toList c)) ∧ w' = w from fun t w => by rw [ho.out]; exact Tryd.strings_Index_one t c w)
  have hbeq : (old.toList == new.toList) = false := (Lib.bytes_beq_false_iff _ new).2 hne
  have hz1 : (((-1 : Int)) == 0) = false := rfl
  have hcz : ((K : Int) == 0) = false := beq_eq_false_iff_ne.2 (by omega)
  have hKn : K * new.size ≤ 4294967281 * 1000 := Nat.mul_le_mul (by omega) hn
  have hone : old.size = 1 := by rw [ho.out]; rfl
  have hod : decide (0 < old.size) = true := decide_eq_true (by omega)
  have hga := Lib.grow_arg s.size K new.size old.size (by omega) (by rw [hone]; omega) (by omega)
  rw [hone] at hga
  rw [IntWalk.wrap64_in ((new.size : Int) - ((1 : Nat) : Int)) ⟨by omega, by omega⟩] at hga
  obtain ⟨g0, hg0⟩ : ∃ g0 : Nat, s.size + K * new.size - K * 1 = g0 := ⟨_, rfl⟩
  rw [hg0] at hga
  have hg0b : g0 ≤ 281474976710656 := by omega
  have HGA := Lib.hid (show wrap64 ((s.size : Int) + wrap64 ((K : Int) * ((new.size : Int) - 1))) = (g0 : Int) from hga)
  have HCK := Lib.hid hK
  have HLL := Lib.hid hL
  have HNN := Lib.hid hN
  have HKN := Lib.hid hKn
  clear hg0 hne hK hN hL hKn hga
  go_enter Tryd.func61, Tryd.ntmps61
  go_wp2_with (go_at_call 66; with_reducible refine (HC.out _).mono ?_; rintro x w' ⟨rfl, hw⟩; rw [hw])
  rw [HGA.out]
  refine (Tryd.Builder_Grow_fresh w.heap.size w.heap.size g0 _ (Nat.le_refl _) (heap_alloc_new w _) (by simp) hg0b).mono ?_
  rintro e w1 ⟨rfl, hb0, hb1⟩
  have H1 := Lib.hid (Or.inr hb0 : Lib.IsBuilder 80 5 w.heap.size w.heap.size (Lib.byteCells []) w1)
  have HB1 := Lib.hid (((Below.refl w.heap.size w).alloc (Nat.le_refl _) _).trans hb1)
  clear hb0 hb1 HGA
  go_wp2_with fail
  go_loopw [11, 53] (fun s11 s53 wr => ∃ (i start : Nat) (acc : List UInt8), s53 = .int .i64 i ∧ s11 = .int .i64 start ∧ i ≤ K ∧ start ≤ s.size ∧
      Hid (Lib.IsBuilder 80 5 w.heap.size w.heap.size (Lib.byteCells acc) wr) ∧ Hid (Below w.heap.size w wr) ∧ Hid (acc ++ repl c N (L.drop start) = repl c N L) ∧
      Hid ((L.drop start).count c + i = K) ∧ Hid (acc.length + (s.size - start) ≤ s.size + i * new.size)) (fun _ s53 _ => K - (intOf s53).toNat)
  case atStart => exact ⟨0, 0, [], rfl, rfl, Nat.zero_le _, Nat.zero_le _, H1, HB1, Lib.hid (by simp), Lib.hid (by simpa using HCK.out), Lib.hid (by simp)⟩
  case round =>
    obtain ⟨i, start, acc, rfl, rfl, hik, hst, HB, HW, HR, HCT, HLE⟩ := hrel
    have hBw : w.heap.size ≤ wr.heap.size := HW.out.size
    have hil : i * new.size ≤ K * new.size := Nat.mul_le_mul_right _ hik
    have hacc : acc.length + (s.size - start) ≤ 4294967281 + 4294967281 * 1000 := by have := HLE.out; have := HKN.out; omega
    clear hil
    by_cases hlt : i < K
    · obtain ⟨j, hj, hjl, hjc, hjr⟩ := index_hit (c := c) (l := L.drop start) (by have := HCT.out; omega)
      have hroom : j < s.size - start := by rw [List.length_drop, hLs] at hjl; exact hjl
      have c1 : (0 : Int) ≤ (start : Int) := by omega
      have c2 : (start : Int) ≤ (s.size : Int) := by omega
      have c3 : (start : Int) ≤ (start : Int) + (j : Int) := by omega
      have c4 : (start : Int) + (j : Int) ≤ (s.size : Int) := by omega
      have HN1 := Lib.hid (show Lib.byteCells acc ++ Lib.strCells (s.extract start (start + j)) ++ Lib.strCells new = Lib.byteCells (acc ++ (L.drop start).take j ++ N) by
        rw [Lib.strCells_eq, Lib.strCells_eq, Lib.extract_data, Nat.add_sub_cancel_left, HLL.out, HNN.out, ← Lib.byteCells_append, ← Lib.byteCells_append])
      have HR1 := Lib.hid (show (acc ++ (L.drop start).take j ++ N) ++ repl c N (L.drop (start + j + 1)) = repl c N L by
        rw [← HR.out, hjr, List.drop_drop, show start + (j + 1) = start + j + 1 by omega]
        simp only [List.append_assoc])
      have HC1 := Lib.hid (show (L.drop (start + j + 1)).count c + (i + 1) = K by
        have := HCT.out
        rw [hjc, List.drop_drop, show start + (j + 1) = start + j + 1 by omega] at this
        omega)
      have HL1 := Lib.hid (show (acc ++ (L.drop start).take j ++ N).length + (s.size - (start + j + 1)) ≤ s.size + (i + 1) * new.size by
        have := HLE.out
        rw [Nat.succ_mul, List.length_append, List.length_append, List.length_take, List.length_drop, hLs, hNs]
        omega)
      clear hjr hjc hjl HR HCT HLE
      go_wp2_with (go_at_call 68; refine (HI.out _ _).mono ?_; rintro x w' ⟨rfl, hw⟩; rw [hw, Lib.extract_to_end, HLL.out, hj])
      refine (writeString_at w.heap.size w.heap.size _ (s.extract start (start + j)) wr HB.out (by rw [Lib.byteCells_length, ByteArray.size_extract]; omega) hBw).mono ?_
      rintro x w3 ⟨rfl, h3, hb3⟩
      have hBw3 : w.heap.size ≤ w3.heap.size := Nat.le_trans hBw hb3.size
      have H3 := Lib.hid h3
      have HB3 := Lib.hid (HW.out.trans hb3)
      clear h3 hb3 HB HW
      go_wp2_with fail
      refine (writeString_at w.heap.size w.heap.size _ new w3 (Or.inr H3.out) (by rw [List.length_append, Lib.byteCells_length, Lib.strCells_length, ByteArray.size_extract]; omega) hBw3).mono ?_
      rintro x w4 ⟨rfl, h4, hb4⟩
      rw [HN1.out] at h4
      have H4 := Lib.hid (Or.inr h4 : Lib.IsBuilder 80 5 w.heap.size w.heap.size _ w4)
      have HB4 := Lib.hid (HB3.out.trans hb4)
      clear h4 hb4 H3 HB3
      go_wp2_with fail
      go_roundw
      case measure => simp [intOf]; omega
      case rel => exact ⟨i + 1, start + j + 1, _, by go_num, by go_num, by omega, by omega, H4, HB4, HR1, HC1, HL1⟩
    · obtain rfl : i = K := by omega
      have hrest : repl c N (L.drop start) = L.drop start := repl_none c N _ (List.count_eq_zero.1 (by have := HCT.out; omega))
      have HF := Lib.hid (show acc ++ L.drop start = repl c N L by rw [← HR.out, hrest])
      have c1 : (0 : Int) ≤ (start : Int) := by omega
      have c2 : (start : Int) ≤ (s.size : Int) := by omega
      clear hrest HR HCT HLE
      go_wp2_with fail
      refine (writeString_at w.heap.size w.heap.size _ _ wr HB.out (by rw [Lib.byteCells_length, ByteArray.size_extract]; omega) hBw).mono ?_
      rintro x w3 ⟨rfl, h3, hb3⟩
      rw [Lib.strCells_eq, Lib.extract_to_end, HLL.out, ← Lib.byteCells_append, HF.out] at h3
      have H3 := Lib.hid (Or.inr h3 : Lib.IsBuilder 80 5 w.heap.size w.heap.size _ w3)
      have HB3 := Lib.hid (HW.out.trans hb3)
      have hBw3 : w.heap.size ≤ w3.heap.size := HB3.out.size
      clear h3 hb3 HB HW
      go_wp2_with fail
      refine (Tryd.Builder_String_any w.heap.size w.heap.size _ w3 H3.out hBw3).mono ?_
      rintro x w5 ⟨rfl, hb5⟩
      have HB5 := Lib.hid (HB3.out.trans hb5)
      clear hb5
      go_wp2_with fail
      go_ret
      exact ⟨rfl, HB5.out⟩
theorem replaceOne_any (s old new : ByteArray) (c : UInt8) (ho : old = ⟨#[c]⟩) (w : World) (hs : s.size < 4294967281) (hn : new.size ≤ 1000) (hne : old ≠ new) :
    Calls Tryd.prog 61 #[.string s, .string old, .string new, .int .i64 (-1)] w fun e w' => e = .returned (.string ⟨(repl c new.data.toList s.data.toList).toArray⟩) ∧ Below w.heap.size w w' := by
  by_cases hc0 : s.data.toList.count c = 0
  · rw [repl_none c _ _ (List.count_eq_zero.1 hc0)]
    have HC := Lib.hid (show ∀ w, Calls Tryd.prog 66 #[.string s, .string old] w fun e w' => e = .returned (.int .i64 (0 : Int)) ∧ w' = w from fun w => by
      have := Tryd.strings_Count_one s c w
      unfold Lib.countByte at this
      rw [hc0] at this
      rw [ho]
      exact this)
    have hbeq : (old.toList == new.toList) = false := (Lib.bytes_beq_false_iff _ new).2 hne
    have hz1 : (((-1 : Int)) == 0) = false := rfl
    clear hc0 hne ho
    go_enter Tryd.func61, Tryd.ntmps61
    go_wp2_with (go_at_call 66; with_reducible refine (HC.out _).mono ?_; rintro x w' ⟨rfl, hw⟩; rw [hw])
    go_ret
    exact ⟨by rw [Lib.mk_data]; rfl, Below.refl _ _⟩
  · exact replaceOne_some s old new c (Lib.hid ho) w hs hn hne hc0
theorem replaceAllOne_any (s old new : ByteArray) (c : UInt8) (ho : old = ⟨#[c]⟩) (w : World) (hs : s.size < 4294967281) (hn : new.size ≤ 1000) (hne : old ≠ new) :
    Calls Tryd.prog 57 #[.string s, .string old, .string new] w fun e w' => e = .returned (.string ⟨(repl c new.data.toList s.data.toList).toArray⟩) ∧ Below w.heap.size w w' := by
  have HC := Lib.hid (fun w => replaceOne_any s old new c ho w hs hn hne)
  generalize repl c new.data.toList s.data.toList = R at HC ⊢
  clear ho hne
  go_enter Tryd.func57, Tryd.ntmps57
  go_wp2_with (go_at_call 61; with_reducible refine (above (HC.out _)).mono ?_; rintro x _ ⟨rfl, y, rfl⟩)
  go_ret
  exact ⟨rfl, onto_below _ _⟩
end Go.Proofs.YtaoncnlhilpgfaaDoor

/- Layer 7: a slice of one's own, sorted by the library; the program's within, rising. -/
import Derived.Test.YtjpemelnnemmiaaCtc
import Derived.Test.YtjpemelnnemmiaaKit11
import Derived.Test.YtjpemelnnemmiaaShelf
import Derived.Sort.OwnSortedInts
namespace Go.Proofs.Ytjpemelnnemmiaa
open Go.ChangeShapes Go.WideShapes Go.ChangeAt Go.RowKit
set_option linter.unusedVariables false
set_option linter.unusedSimpArgs false

theorem sorted_srt (l : List Nat) : ((l.map fun (x : Nat) => (x : Int)).mergeSort fun x y => decide (x ≤ y)) = (srt l).map fun (x : Nat) => (x : Int) := by
  refine List.Perm.eq_of_pairwise (le := fun a b : Int => a ≤ b) (fun a b _ _ h1 h2 => Int.le_antisymm h1 h2) ?_ ?_ ((List.mergeSort_perm _ _).trans ((srt_perm l).symm.map _))
  · have := List.pairwise_mergeSort (le := fun x y : Int => decide (x ≤ y)) (fun a b c h1 h2 => by simp at *; omega) (fun a b => by simp; omega) (l.map fun (x : Nat) => (x : Int))
    exact this.imp (by simp)
  · rw [List.pairwise_map]
    exact (srt_sorted l).imp (by omega)

theorem sort_own (base : Nat) (A : Option Addr) (n c : Nat) (l : List Nat) (w : World) (h : Hid (SlOwn w base 3 A n c (ints l))) (hn : n ≤ 1000000) (hb : base ≤ w.heap.size) :
    Calls Try.prog 30 #[.slice A n c] w fun x w' => x = .returned (.tuple #[]) ∧ Hid (SlOwn w' base 3 A n c (ints (srt l))) ∧ Hid (w.grownBy w' (blkOf A)) := by
  have HL : l.length = n := by have := h.out.1; rw [ints_length] at this; exact this
  obtain ⟨l1, l2, l3, l4⟩ := h.out
  rcases l4 with ⟨rfl, rfl⟩ | ⟨g, cur, fz, rfl, hbg, hg, hs, hf, hx⟩
  · obtain rfl : n = 0 := by omega
    obtain rfl : l = [] := List.eq_nil_of_length_eq_zero HL
    refine (Try.slices_Sort_int_none none 0 w).mono ?_
    rintro e w' ⟨rfl, rfl⟩
    exact ⟨rfl, h, Lib.hid (World.grownBy.refl _ _)⟩
  · subst HL
    have hH : Sort.Holds (Value.int .i64) w g 0 (l.map fun (x : Nat) => (x : Int)).toArray := by
      intro j hj
      have hj' : j < l.length := by simpa using hj
      have hu : (ints l)[j]? = some (.int .i64 ((l[j] : Nat) : Int)) := ints_get (List.getElem?_eq_getElem hj')
      refine ⟨?_, frozen_off hg (by omega) (by omega)⟩
      rw [Nat.zero_add, cell_of_row w g j cur _ fz hg, hx j _ hu]
      simp [hj']
    have hc := Try.slices_Sort_int g 0 c (l.map fun (x : Nat) => (x : Int)) w hH (heap_lt hg) (by simp; omega)
    rw [List.length_map] at hc
    refine hc.mono ?_
    rintro e w' ⟨rfl, m, os, rfl⟩
    rw [sorted_srt]
    refine ⟨rfl, Lib.hid ⟨by rw [ints_length, srt_length], l2, l3, .inr ⟨g, _, fz, rfl, hbg, heap_sortedI _ hg, by simp [Sort.putCells, hs], hf, fun j u hu => ?_⟩⟩, Lib.hid (grownBy_sortedI _)⟩
    have hj : j < (srt l).length := by have := (List.getElem?_eq_some_iff.1 hu).1; rw [ints_length] at this; exact this
    have hjl : j < l.length := by rw [← srt_length]; exact hj
    rw [ints_get (List.getElem?_eq_getElem hj)] at hu
    injection hu with hu
    subst hu
    have hjc : j < cur.size := by omega
    simp [Sort.putCells, hj, hjc]

theorem within_any (n : Int) (m : Nat) (w : World) : Calls Try.prog 26 #[.int .i64 n, .int .i64 (m : Int)] w fun x w' => x = .returned (.int .i64 ((holdN m n : Nat) : Int)) ∧ w = w' := by
  have HV := Lib.hid (show max (0 : Int) (min n (m : Int)) = ((holdN m n : Nat) : Int) by unfold holdN; split; omega; split <;> omega)
  go_enter Try.func26, Try.ntmps26
  go_wp2_with fail
  go_ret
  exact ⟨by rw [← HV.out]; rfl, rfl⟩

set_option maxRecDepth 100000 in
set_option maxHeartbeats 1600000 in
theorem rising_any (ps : List Int) (m : Nat) (P : Option Addr) (n c : Nat) (hn : n ≤ 1000000) (w : World) (hp : Hid (SlIn w P n (ps.map (Value.int .i64)))) :
    Calls Try.prog 21 #[.slice P n c, .int .i64 (m : Int)] w fun x w' => ∃ R cR, x = .returned (.slice R n cR) ∧ Hid (SlOwn w' w.heap.size 3 R n cR (ints (srt (ps.map (holdN m))))) ∧ Hid (Below w.heap.size w w') := by
  obtain ⟨j0, hj, hy0, hy1, hy2⟩ := info_parts infoInt7
  have Hj := Lib.hid hj
  have Hy0 := Lib.hid hy0
  have Hy1 := Lib.hid hy1
  have Hy2 := Lib.hid hy2
  clear hj hy0 hy1 hy2
  have HLN := Lib.hid (show ps.length = n by have := hp.out.1; simpa using this)
  go_enter Try.func21, Try.ntmps21
  go_wp2_with (at_make; refine wpList_make_sl _ rfl (.tmp 9) (.tmp 9) 22 rfl w.heap.size 3 j0 (.int .i64 0) 8 Try.underlying22 Hj.out Hy0.out Hy1.out Hy2.out rfl .i64 .i64 (n : Int) (n : Int) n n rfl rfl rfl rfl (Nat.le_refl _) (by omega) (by unfold maxLen; omega) (Nat.le_refl _) ?_; intro w1 hown hb1; have HO1 := Lib.hid hown; have HB1 := Lib.hid hb1; clear hown hb1)
  go_loopw [13] (fun i wr => ∃ k : Nat, k ≤ n ∧ i = .int .i64 k ∧ Hid (SlOwn wr w.heap.size 3 (some ⟨w.heap.size, 0, none⟩) n n ((ints ((ps.take k).map (holdN m))) ++ List.replicate (n - k) (.int .i64 0))) ∧ Hid (Below w.heap.size w wr)) (fun i _ => n - (intOf i).toNat)
  case atStart => exact ⟨0, Nat.zero_le _, rfl, Lib.hid (by simpa [ints] using HO1.out), HB1⟩
  case round =>
    obtain ⟨k, hk, rfl, HO, HB⟩ := hrel
    obtain ⟨W, hW⟩ : ∃ W, W = wr := ⟨_, rfl⟩
    subst hW
    clear HO1 HB1
    by_cases hlt : k < n
    · obtain ⟨x, hx⟩ : ∃ x, ps[k]? = some x := ⟨_, List.getElem?_eq_getElem (by rw [HLN.out]; exact hlt)⟩
      obtain ⟨a, rfl, hca⟩ := hp.out.at_ (show (ps.map (Value.int .i64))[k]? = some (.int .i64 x) by simp [hx])
      have hca2 : W.cell? (a.add k) = some (.int .i64 x) := mem_cell HB.out hca
      have HX := Lib.hid hx
      obtain ⟨g, u, hg, hgb, hgw, hxu, hcu, hfu⟩ := HO.out.cellAt hlt
      obtain rfl : w.heap.size = g := by injection hg with hg; injection hg
      clear hx hca hg hgb hxu
      go_wp2_with fail
      refine (within_any x m _).mono ?_
      rintro _ _ ⟨rfl, rfl⟩
      go_wp2_with fail
      go_roundw
      case rel =>
        refine ⟨k + 1, by omega, by go_num, Lib.hid ?_, Lib.hid (HB.out.setCell (by simp) _)⟩
        have h1 := HO.out.store k (.int .i64 ((holdN m x : Nat) : Int)) hlt
        have hlen : (ints ((ps.take k).map (holdN m))).length = k := by rw [ints_length, List.length_map, List.length_take, HLN.out]; omega
        have h2 : n - k = (n - (k + 1)) + 1 := by omega
        rw [List.set_append_right _ _ (Nat.le_of_eq hlen), hlen, Nat.sub_self, h2, List.replicate_succ, List.set_cons_zero] at h1
        rw [List.take_add_one, HX.out, List.map_append, ints_append, List.append_assoc]
        exact h1
      case measure => simp [intOf]; omega
    · obtain rfl : k = n := by omega
      have HO2 := Lib.hid (show SlOwn W w.heap.size 3 (some ⟨w.heap.size, 0, none⟩) k k (ints (ps.map (holdN m))) by have := HO.out; rw [List.take_of_length_le (by rw [HLN.out]; omega), Nat.sub_self, List.replicate_zero, List.append_nil] at this; exact this)
      clear HO hlt
      go_wp2_with fail
      refine (sort_own w.heap.size _ k k _ W HO2 hn HB.out.size).mono ?_
      rintro _ w3 ⟨rfl, HS, HG⟩
      go_wp2_with fail
      go_ret
      exact ⟨_, _, rfl, HS, Lib.hid (HB.out.grown HG.out HB.out.size (fun j hj => (HO2.out.blk j hj).1))⟩
end Go.Proofs.Ytjpemelnnemmiaa

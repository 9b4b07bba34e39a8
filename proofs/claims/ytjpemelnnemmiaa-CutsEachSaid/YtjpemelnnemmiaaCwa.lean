/- Layer 7: the contracts of the program's Count and way. -/
import Derived.Test.YtjpemelnnemmiaaCtb
namespace Go.Proofs.Ytjpemelnnemmiaa
open Go.ChangeShapes Go.WideShapes Go.ChangeAt Go.RowKit
set_option linter.unusedVariables false
set_option linter.unusedSimpArgs false

theorem shl_ways {N : Nat} (h : N ≤ 16) : wrap64 ((2 : Int) ^ (N - 1)) = ((waysN N : Nat) : Int) := by
  have h1 : waysN N = 2 ^ (N - 1) := by
    unfold waysN
    by_cases h0 : N = 0
    · rw [if_pos h0, h0]
    · rw [if_neg h0]
  have h2 := two_pow_le (k := N - 1) (by omega)
  have h3 : (2 : Int) ^ (N - 1) = ((2 ^ (N - 1) : Nat) : Int) := by simp
  rw [h1, h3]
  exact IntWalk.wrap64_in _ ⟨by omega, by omega⟩
theorem low_bit (m : Nat) (h : m ≤ 1000000) : bits BinOp.and IntKind.i64 (m : Int) 1 = ((m % 2 : Nat) : Int) := by
  have := bits_mask .i64 62 (by decide) (fun n h0 h1 => by rw [IntKind.wrap_i64]; omega) 1 (by decide) (m : Int) (by omega) (by omega)
  simpa using this

theorem count_any (n : Int) (hwf : (Lit.int .i64 n).wf = true) (w : World) : Calls Try.prog 17 #[.int .i64 n] w fun x w' => x = .returned (.tuple #[.int .i64 ((waysC n : Nat) : Int), .int .i64 (waysE n)]) ∧ w = w' := by
  by_cases h0 : n < 0
  · have HE := Lib.hid (show waysC n = 0 ∧ waysE n = 22 by simp [waysC, waysE, h0])
    go_enter Try.func17, Try.ntmps17
    go_wp2_with fail
    go_ret2
    exact ⟨by rw [HE.out.1, HE.out.2]; rfl, rfl⟩
  · by_cases h1 : 16 < n
    · have HE := Lib.hid (show waysC n = 0 ∧ waysE n = 26 by simp [waysC, waysE, h0, h1])
      go_enter Try.func17, Try.ntmps17
      go_wp2_with fail
      go_ret2
      exact ⟨by rw [HE.out.1, HE.out.2]; rfl, rfl⟩
    · obtain ⟨N, rfl⟩ : ∃ N : Nat, n = N := ⟨n.toNat, by omega⟩
      have HE := Lib.hid (show waysC (N : Int) = waysN N ∧ waysE (N : Int) = 0 by simp [waysC, waysE, h0, h1])
      have hN : N ≤ 16 := by omega
      by_cases hz : N = 0
      · subst hz
        clear h0 h1
        go_enter Try.func17, Try.ntmps17
        go_wp2_with fail
        go_ret2
        exact ⟨by rw [HE.out.1, HE.out.2]; rfl, rfl⟩
      · have h2 : ¬ (N : Int) < 1 := by omega
        have h3 : (1 : Int) ≤ N := by omega
        go_enter Try.func17, Try.ntmps17
        go_wp2_with fail
        go_ret2
        refine ⟨?_, rfl⟩
        rw [HE.out.1, HE.out.2, ← shl_ways hN]
        rfl

set_option maxHeartbeats 800000 in
theorem way_any (N i : Nat) (hn : N ≤ 16) (hi : i ≤ 1000000) (w : World) :
    Calls Try.prog 28 #[.int .i64 (N : Int), .int .i64 (i : Int)] w fun x w' => ∃ A c, x = .returned (.slice A (wayN N i).length c) ∧ Hid (SlOwn w' w.heap.size 3 A (wayN N i).length c (ints (wayN N i))) ∧ Hid (Below w.heap.size w w') := by
  obtain ⟨j0, hj, hy0, hy1, hy2⟩ := info_parts infoInt7
  have Hj := Lib.hid hj
  have Hy0 := Lib.hid hy0
  have Hy1 := Lib.hid hy1
  have Hy2 := Lib.hid hy2
  clear hj hy0 hy1 hy2
  go_enter Try.func28, Try.ntmps28
  go_wp2_with fail
  go_loopw [5, 6] (fun out kk wr => ∃ (k : Nat) (A : Option Addr) (n c : Nat) (l : List Nat), k ≤ N ∧ n ≤ k ∧ kk = .int .i64 ((k : Int) + 1) ∧ out = .slice A n c ∧ Hid (l.length = n ∧ (0 < N → k + 1 ≤ N) ∧ l ++ wayGo (k + 1) (N - 1 - k) (i / 2 ^ k) = wayN N i) ∧ Hid (SlOwn wr w.heap.size 3 A n c (ints l)) ∧ Hid (Below w.heap.size w wr)) (fun _ k _ => N + 1 - (intOf k).toNat)
  case atStart => exact ⟨0, none, 0, 0, [], by omega, by omega, rfl, rfl, Lib.hid ⟨rfl, fun h => by omega, by simp [wayN]⟩, Lib.hid (SlOwn.nothing _ _ _), Lib.hid (Below.refl _ _)⟩
  case round =>
    obtain ⟨k, A, n, c, l, hk, hnk, rfl, rfl, HL, HO, HB⟩ := hrel
    by_cases hlt : k + 1 < N
    · have hli : (k : Int) + 1 < N := by omega
      have hk15 : k ≤ 15 := by omega
      obtain ⟨m, hm⟩ : ∃ m, i / 2 ^ k = m := ⟨_, rfl⟩
      have hmi : m ≤ 1000000 := by rw [← hm]; exact Nat.le_trans (Nat.div_le_self _ _) hi
      have hsh : (i : Int) / 2 ^ k = (m : Int) := by rw [← hm]; simp
      have hand : bits BinOp.and IntKind.i64 ((i : Int) / 2 ^ k) 1 = ((m % 2 : Nat) : Int) := by rw [hsh]; exact low_bit m hmi
      have hm2 : i / 2 ^ (k + 1) = m / 2 := by rw [← hm, Nat.pow_succ, Nat.div_div_eq_div_mul]
      have hgo : wayGo (k + 1) (N - 1 - k) m = (if m % 2 = 1 then [k + 1] else []) ++ wayGo (k + 1 + 1) (N - 1 - (k + 1)) (m / 2) := by
        have : N - 1 - k = (N - 1 - (k + 1)) + 1 := by omega
        rw [this, wayGo]
      have HGO := Lib.hid hgo
      have HM2 := Lib.hid hm2
      have HLL := Lib.hid (show l ++ wayGo (k + 1) (N - 1 - k) m = wayN N i by rw [← hm]; exact HL.out.2.2)
      clear hsh hm2 hgo hm
      by_cases hb : m % 2 = 1
      · have hbb : (bits BinOp.and IntKind.i64 ((i : Int) / 2 ^ k) 1 == 1) = true := by rw [hand, hb]; rfl
        have HBB := Lib.hid hb
        clear hand
        obtain ⟨W, hW⟩ : ∃ W, W = wr := ⟨_, rfl⟩
        subst hW
        have HO2 := Lib.hid (HO.out.below (up_alloc (Below.refl _ W) (.cells #[.int .i64 ((k : Int) + 1)] 3)))
        have HBW := Lib.hid (Nat.le_trans HB.out.size (up_alloc (Below.refl _ W) (.cells #[.int .i64 ((k : Int) + 1)] 3)).size)
        go_wp2_with (at_builtin; refine wpList_append_sl _ rfl (.tmp 18) (.tmp 20) 22 rfl 3 j0 (.int .i64 0) 8 Try.underlying22 Hj.out Hy0.out Hy1.out Hy2.out rfl w.heap.size A n c (ints l) rfl HO2.out (some ⟨W.heap.size, 0, none⟩) 1 1 [.int .i64 ((k : Int) + 1)] rfl (slIn_new1 W 3 _) (by intro u hu; simp at hu; subst hu; rfl) (by unfold maxLen; omega) (by omega) HBW.out ?_; intro A' c' w3 hown hgrow _; have HO3 := Lib.hid hown; have HG3 := Lib.hid hgrow; clear hown hgrow)
        go_roundw
        case rel =>
          refine ⟨k + 1, A', n + 1, c', l ++ [k + 1], by omega, by omega, by go_num, rfl, Lib.hid ⟨by simp [HL.out.1], fun _ => by omega, ?_⟩, Lib.hid ?_, Lib.hid ?_⟩
          · rw [← HLL.out, HGO.out, if_pos HBB.out, HM2.out]; simp
          · rw [ints_append]; exact HO3.out
          · exact (HB.out.trans ((up_alloc (Below.refl _ W) (.cells #[.int .i64 ((k : Int) + 1)] 3)).mono HB.out.size)).grown HG3.out HBW.out (fun j hj => (HO.out.blk j hj).1)
        case measure => simp [intOf]; omega
      · have hbb : (bits BinOp.and IntKind.i64 ((i : Int) / 2 ^ k) 1 == 1) = false := by rw [hand]; simp; omega
        have HBB := Lib.hid hb
        clear hand
        go_wp2_with fail
        go_roundw
        case rel =>
          refine ⟨k + 1, A, n, c, l, by omega, by omega, by go_num, rfl, Lib.hid ⟨HL.out.1, fun _ => by omega, ?_⟩, HO, HB⟩
          · rw [← HLL.out, HGO.out, if_neg HBB.out, HM2.out]; rfl
        case measure => simp [intOf]; omega
    · have hli : ¬ (k : Int) + 1 < N := by omega
      have hlw : l = wayN N i := by
        rw [← HL.out.2.2]
        have : N - 1 - k = 0 := by omega
        rw [this]; simp [wayGo]
      have HLW := Lib.hid hlw
      have HLN := Lib.hid HL.out.1
      clear hlw
      go_wp2_with fail
      go_ret
      refine ⟨A, c, ?_, Lib.hid ?_, HB⟩
      · rw [← HLW.out, HLN.out]; rfl
      · rw [← HLW.out, HLN.out]; exact HO.out
end Go.Proofs.Ytjpemelnnemmiaa

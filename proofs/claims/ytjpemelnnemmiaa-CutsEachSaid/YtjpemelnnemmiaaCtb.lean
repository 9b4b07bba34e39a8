/- Layer 7: the contract of the document's Way. -/
import Derived.Test.YtjpemelnnemmiaaCta
namespace Go.Proofs.Ytjpemelnnemmiaa
open Go.ChangeShapes Go.WideShapes Go.ChangeAt Go.RowKit
set_option linter.unusedVariables false
set_option linter.unusedSimpArgs false

/-- Numbers as cells. -/
def ints (l : List Nat) : List Value := l.map fun (x : Nat) => Value.int .i64 (x : Int)
theorem ints_length (l : List Nat) : (ints l).length = l.length := by unfold ints; simp
theorem ints_append (a b : List Nat) : ints (a ++ b) = ints a ++ ints b := by unfold ints; simp
theorem ints_get {l : List Nat} {k x : Nat} (h : l[k]? = some x) : (ints l)[k]? = some (.int .i64 (x : Int)) := by unfold ints; simp [h]
theorem SlIn.lenI {w : World} {A : Option Addr} {n : Nat} {l : List Nat} (h : SlIn w A n (ints l)) : l.length = n := by rw [← h.1, ints_length]
theorem infoInt7 : (Try.prog.info? 3).map (fun i => (i.zero, i.size, i.bytes)) = some (some (.int .i64 0), 1, 8) := by kernel_rfl
theorem infoStr7 : (Try.prog.info? 9).map (fun i => (i.zero, i.size, i.bytes)) = some (some (.string ⟨#[]⟩), 1, 16) := by kernel_rfl

set_option maxHeartbeats 800000 in
theorem refWay_any (N i : Nat) (hn : N ≤ 100) (hi : i ≤ 1000000) (w : World) :
    Calls Try.prog 19 #[.int .i64 (N : Int), .int .i64 (i : Int)] w fun x w' => ∃ A c, x = .returned (.slice A (wayN N i).length c) ∧ Hid (SlOwn w' w.heap.size 3 A (wayN N i).length c (ints (wayN N i))) ∧ Hid (Below w.heap.size w w') := by
  obtain ⟨j0, hj, hy0, hy1, hy2⟩ := info_parts infoInt7
  have Hj := Lib.hid hj
  have Hy0 := Lib.hid hy0
  have Hy1 := Lib.hid hy1
  have Hy2 := Lib.hid hy2
  clear hj hy0 hy1 hy2
  go_enter Try.func19, Try.ntmps19
  go_wp2_with fail
  go_loopw [1, 5, 6] (fun j out kk wr => ∃ (k m : Nat) (A : Option Addr) (n c : Nat) (l : List Nat), k ≤ N ∧ m ≤ 1000000 ∧ n ≤ k ∧ kk = .int .i64 ((k : Int) + 1) ∧ j = .int .i64 m ∧ out = .slice A n c ∧ Hid (l.length = n ∧ (0 < N → k + 1 ≤ N) ∧ l ++ wayGo (k + 1) (N - 1 - k) m = wayN N i) ∧ Hid (SlOwn wr w.heap.size 3 A n c (ints l)) ∧ Hid (Below w.heap.size w wr)) (fun _ _ k _ => N + 1 - (intOf k).toNat)
  case atStart => exact ⟨0, i, none, 0, 0, [], by omega, hi, by omega, rfl, rfl, rfl, Lib.hid ⟨rfl, fun h => by omega, rfl⟩, Lib.hid (SlOwn.nothing _ _ _), Lib.hid (Below.refl _ _)⟩
  case round =>
    obtain ⟨k, m, A, n, c, l, hk, hm, hnk, rfl, rfl, rfl, HL, HO, HB⟩ := hrel
    by_cases hlt : k + 1 < N
    · have hli : (k : Int) + 1 < N := by omega
      have hgo : wayGo (k + 1) (N - 1 - k) m = (if m % 2 = 1 then [k + 1] else []) ++ wayGo (k + 1 + 1) (N - 1 - (k + 1)) (m / 2) := by
        have : N - 1 - k = (N - 1 - (k + 1)) + 1 := by omega
        rw [this, wayGo]
      have HGO := Lib.hid hgo
      by_cases hb : m % 2 = 1
      · have hbb : ((m : Int) % 2 == 1) = true := by simp; omega
        have HBB := Lib.hid hb
        clear hgo
        obtain ⟨W, hW⟩ : ∃ W, W = wr := ⟨_, rfl⟩
        subst hW
        have HO2 := Lib.hid (HO.out.below (up_alloc (Below.refl _ W) (.cells #[.int .i64 ((k : Int) + 1)] 3)))
        have HBW := Lib.hid (Nat.le_trans HB.out.size (up_alloc (Below.refl _ W) (.cells #[.int .i64 ((k : Int) + 1)] 3)).size)
        go_wp2_with (at_builtin; refine wpList_append_sl _ rfl (.tmp 15) (.tmp 17) 22 rfl 3 j0 (.int .i64 0) 8 Try.underlying22 Hj.out Hy0.out Hy1.out Hy2.out rfl w.heap.size A n c (ints l) rfl HO2.out (some ⟨W.heap.size, 0, none⟩) 1 1 [.int .i64 ((k : Int) + 1)] rfl (slIn_new1 W 3 _) (by intro u hu; simp at hu; subst hu; rfl) (by unfold maxLen; omega) (by omega) HBW.out ?_; intro A' c' w3 hown hgrow _; have HO3 := Lib.hid hown; have HG3 := Lib.hid hgrow; clear hown hgrow)
        go_roundw
        case rel =>
          refine ⟨k + 1, m / 2, A', n + 1, c', l ++ [k + 1], by omega, by omega, by omega, by go_num, by go_num, rfl, Lib.hid ⟨by simp [HL.out.1], fun _ => by omega, ?_⟩, Lib.hid ?_, Lib.hid ?_⟩
          · rw [← HL.out.2.2, HGO.out, if_pos HBB.out]; simp
          · rw [ints_append]; exact HO3.out
          · exact (HB.out.trans ((up_alloc (Below.refl _ W) (.cells #[.int .i64 ((k : Int) + 1)] 3)).mono HB.out.size)).grown HG3.out HBW.out (fun j hj => (HO.out.blk j hj).1)
        case measure => simp [intOf]; omega
      · have hbb : ((m : Int) % 2 == 1) = false := by simp; omega
        have HBB := Lib.hid hb
        clear hgo
        go_wp2_with fail
        go_roundw
        case rel =>
          refine ⟨k + 1, m / 2, A, n, c, l, by omega, by omega, by omega, by go_num, by go_num, rfl, Lib.hid ⟨HL.out.1, fun _ => by omega, ?_⟩, HO, HB⟩
          · rw [← HL.out.2.2, HGO.out, if_neg HBB.out]; rfl
        case measure => simp [intOf]; omega
    · have hli : ¬ (k : Int) + 1 < N := by omega
      have hlw : l = wayN N i := by
        rw [← HL.out.2.2]
        have : N - 1 - k = 0 := by omega
        rw [this]; simp [wayGo]
      have HLW := Lib.hid hlw
      have HLN := Lib.hid HL.out.1
      clear hlw
      go_wp2_with fail
      go_ret
      refine ⟨A, c, ?_, Lib.hid ?_, HB⟩
      · rw [← HLW.out, HLN.out]; rfl
      · rw [← HLW.out, HLN.out]; exact HO.out
end Go.Proofs.Ytjpemelnnemmiaa

/- Layer 9: the document's Quoted and Written. -/
import Derived.Test.YtaoncnlhilpgfaaDoorNdc
import Derived.Test.YtaoncnlhilpgfaaDoorZp
import Derived.LoopTactic
namespace Go.Proofs.YtaoncnlhilpgfaaDoor
open Go.ChangeShapes Go.WideShapes Go.ChangeAt Go.RowKit
set_option linter.unusedVariables false
set_option linter.unusedSimpArgs false

/-- A field quoted, as a text. -/
def quoO (q : Int) (s : ByteArray) : ByteArray := toBA (quoL q (bl s))
theorem bl_bytes (s : ByteArray) : ∀ x ∈ bl s, 0 ≤ x ∧ x ≤ 255 := fun x hx => by
  unfold bl at hx
  obtain ⟨c, _, rfl⟩ := List.mem_map.1 hx
  exact ⟨byte_lo c, byte_hi c⟩
theorem dbl_bytes {q : Int} (q0 : 0 ≤ q) (q1 : q ≤ 255) : ∀ l : List Int, (∀ x ∈ l, 0 ≤ x ∧ x ≤ 255) → ∀ x ∈ dbl q l, 0 ≤ x ∧ x ≤ 255
  | [], _, x, hx => by simp [dbl] at hx
  | b :: r, h, x, hx => by
    rw [dbl] at hx
    split at hx
    · simp only [List.mem_cons] at hx
      rcases hx with rfl | rfl | hx
      · exact ⟨q0, q1⟩
      · exact ⟨q0, q1⟩
      · exact dbl_bytes q0 q1 r (fun y hy => h y (List.mem_cons_of_mem _ hy)) x hx
    · simp only [List.mem_cons] at hx
      rcases hx with rfl | hx
      · exact h x (List.mem_cons_self ..)
      · exact dbl_bytes q0 q1 r (fun y hy => h y (List.mem_cons_of_mem _ hy)) x hx
theorem bl_quoO {q : Int} (q0 : 0 ≤ q) (q1 : q ≤ 255) (s : ByteArray) : bl (quoO q s) = quoL q (bl s) := bl_toBA _ fun x hx => by
  simp only [quoL, List.mem_cons, List.mem_append, List.not_mem_nil, or_false] at hx
  rcases hx with rfl | hx | rfl
  · exact ⟨q0, q1⟩
  · exact dbl_bytes q0 q1 _ (bl_bytes s) x hx
  · exact ⟨q0, q1⟩
theorem quoO_size {q : Int} (q0 : 0 ≤ q) (q1 : q ≤ 255) (s : ByteArray) : (quoO q s).size ≤ 2 * s.size + 2 := by
  rw [← bl_length, bl_quoO q0 q1, quoL_len]
  have := (dbl_len q (bl s)).2
  rw [bl_length] at this
  omega
theorem bl_one {s : ByteArray} {k : Nat} (h : k < s.size) : bl (s.extract k (k + 1)) = [((s[k].toNat : Nat) : Int)] := by
  obtain ⟨hl, hx⟩ := List.getElem?_eq_some_iff.1 (bl_at s k h)
  rw [bl_mid, List.drop_eq_getElem_cons hl, hx, show k + 1 - k = 1 by omega]
  rfl
theorem quoO_end {q : Int} (q0 : 0 ≤ q) (q1 : q ≤ 255) {s S Q : ByteArray} {k : Nat} (hk : ¬ k < s.size) (hQ : bl Q = [q]) (hS : bl S = q :: dbl q ((bl s).take k)) : S ++ Q = quoO q s := bl_inj (by
  rw [bl_append, hS, hQ, bl_quoO q0 q1, List.take_of_length_le (by rw [bl_length]; omega)]
  rfl)
set_option maxRecDepth 100000 in
set_option maxHeartbeats 1600000 in
theorem ref9Quoted_any (d q e : Int) (q0 : 0 ≤ q) (q1 : q ≤ 255) (s : ByteArray) (hs : s.size ≤ 1000001) (w : World) :
    Calls Tryd.prog 42 #[.agg #[.int .i64 d, .int .i64 q, .int .i64 e], .string s] w fun x w' => x = .returned (.string (quoO q s)) ∧ Below w.heap.size w w' := by
  obtain ⟨Q, hQ⟩ : ∃ Q : ByteArray, (⟨#[UInt8.ofNat q.toNat]⟩ : ByteArray) = Q := ⟨_, rfl⟩
  have HQ := Lib.hid (show bl Q = [q] by rw [← hQ]; exact bl_toBA [q] (by simp; omega))
  have hQs : Q.size = 1 := by have := HQ.out; rw [← bl_length, this]; rfl
  have hQ1 : Q.size ≤ 1 := by omega
  have HQS := Lib.hid hQs
  obtain ⟨W0, hW0⟩ : ∃ W0, w.alloc (.cells #[.int .i64 d, .int .i64 q, .int .i64 e] 33) = W0 := ⟨_, rfl⟩
  have hcv : (convert 43 9 (.slice (some ⟨W0.heap.size, 0, none⟩) 1 1)).run Tryd.prog (W0.alloc (.cells #[.int .u8 q] 5)) = .ok (.string Q) (W0.alloc (.cells #[.int .u8 q] 5)) := by
    rw [← hQ]; exact run_string_one' W0 _ _ 5 rfl rfl rfl q _ 1
  have m0 : W0.cell? ⟨w.heap.size, 0, none⟩ = some (.int .i64 d) := by rw [← hW0]; exact (StB.made w rfl _ _).cell 0
  have m1 : W0.cell? ⟨w.heap.size, 1, none⟩ = some (.int .i64 q) := by rw [← hW0]; exact (StB.made w rfl _ _).cell 1
  have ml : w.heap.size < W0.heap.size := by rw [← hW0]; simp
  have HB0 := Lib.hid (show Below w.heap.size w W0 by rw [← hW0]; exact up_alloc (Below.refl _ w) _)
  clear hQ hQs
  go_enter Tryd.func42, Tryd.ntmps42
  go_upto_region 1 with fail
  clear hW0
  go_wp2_with fail
  go_loopw [7, 6] (fun i s6 wr => ∃ (k : Nat) (S : ByteArray), k ≤ s.size ∧ i = .int .i64 k ∧ s6 = .string S ∧ Hid (bl S = q :: dbl q ((bl s).take k)) ∧ S.size ≤ 2 * k + 1 ∧ Hid (∃ y, wr = onto W0 y)) (fun i _ _ => s.size - (intOf i).toNat)
  case atStart => exact ⟨0, Q, Nat.zero_le _, rfl, rfl, Lib.hid (by rw [HQ.out]; rfl), by omega, Lib.hid (onto_of (by (repeat (first | exact Below.refl _ _ | refine up_onto ?_ _ | refine up_alloc ?_ _))))⟩
  case round =>
    obtain ⟨k, S, hk, rfl, rfl, HS, hsz, HY⟩ := hrel
    obtain ⟨y, rfl⟩ := HY.out
    clear HY
    by_cases hlt : k < s.size
    · have hlt' : (k : Int) < s.size := by omega
      have hw64 : wrap64 ((s[k].toNat : Nat) : Int) = ((s[k].toNat : Nat) : Int) := IntWalk.wrap64_in _ ⟨by have := s[k].toNat_lt; omega, by have := s[k].toNat_lt; omega⟩
      have ht : (bl s).take (k + 1) = (bl s).take k ++ [((s[k].toNat : Nat) : Int)] := by rw [List.take_add_one, bl_at s k hlt]; rfl
      have hone := bl_one hlt
      have hsub := fun z => run_sub (P := Tryd.prog) z 9 s k (k + 1) (k : Int) ((k : Int) + 1) rfl (by omega) (by omega) (by omega) rfl
      obtain ⟨C, hC⟩ : ∃ C, s.extract k (k + 1) = C := ⟨_, rfl⟩
      rw [hC] at hone hsub
      have hCs : C.size ≤ 1 := by rw [← bl_length, hone]; simp
      have z1 : ∀ z, (onto W0 z).cell? ⟨w.heap.size, 1, none⟩ = some (.int .i64 q) := fun z => mem_cell (onto_below W0 z) m1
      have HONE := Lib.hid hone
      have HT := Lib.hid ht
      clear hC hone ht
      by_cases he : ((s[k].toNat : Nat) : Int) = q
      · have hb : (((s[k].toNat : Nat) : Int) == q) = true := by simp [he]
        have HX := Lib.hid (show bl (S ++ Q ++ C) = q :: dbl q ((bl s).take (k + 1)) by
          rw [bl_append, bl_append, HS.out, HQ.out, HONE.out, HT.out, dbl_append, he]
          simp [dbl])
        clear he
        go_wp2_with fail
        refine wp_region_onto (by kernel_rfl) (by kernel_rfl) ?_
        repeat (go_big_quiet_step (fail))
        refine wpQuiet_nil ?_
        intro _ hw'
        obtain ⟨x1, hw''⟩ := hw'
        subst hw''
        go_wp2_with fail
        go_roundw
        case rel => exact ⟨k + 1, S ++ Q ++ C, by omega, by go_num, rfl, HX, by rw [ByteArray.size_append, ByteArray.size_append]; omega, Lib.hid ⟨_, rfl⟩⟩
        case measure => simp [intOf]; omega
      · have hb : (((s[k].toNat : Nat) : Int) == q) = false := by simp [he]
        have HX := Lib.hid (show bl (S ++ C) = q :: dbl q ((bl s).take (k + 1)) by
          rw [bl_append, HS.out, HONE.out, HT.out, dbl_append]
          simp [dbl, he])
        clear he
        go_wp2_with fail
        refine wp_region_onto (by kernel_rfl) (by kernel_rfl) ?_
        repeat (go_big_quiet_step (fail))
        refine wpQuiet_nil ?_
        intro _ hw'
        obtain ⟨x1, hw''⟩ := hw'
        subst hw''
        go_wp2_with fail
        go_roundw
        case rel => exact ⟨k + 1, S ++ C, by omega, by go_num, rfl, HX, by rw [ByteArray.size_append]; omega, Lib.hid ⟨_, rfl⟩⟩
        case measure => simp [intOf]; omega
    · have HV := Lib.hid (quoO_end q0 q1 hlt HQ.out HS.out)
      have hkk : k = s.size := by omega
      have hS2 : S.size ≤ 2000003 := by omega
      clear hkk
      go_wp2_with fail
      go_ret
      exact ⟨by rw [← HV.out]; rfl, up_onto HB0.out _⟩
theorem ref9Quoted_is (d q e : Int) (q0 : 0 ≤ q) (q1 : q ≤ 255) (s : ByteArray) (hs : s.size ≤ 1000001) (O : ByteArray) (hO : Hid (quoO q s = O)) (w : World) :
    Calls Tryd.prog 42 #[.agg #[.int .i64 d, .int .i64 q, .int .i64 e], .string s] w fun x w' => x = .returned (.string O) ∧ Below w.heap.size w w' := by
  rw [← hO.out]; exact ref9Quoted_any d q e q0 q1 s hs w
/-- A field as written. -/
def wriO (d q : Int) (s : ByteArray) (al fi : Bool) : ByteArray := if whyN d q (bl s) al fi = 0 then s else quoO q s
theorem whyN_cases (d q : Int) (f : List Int) (al fi : Bool) : 0 ≤ whyN d q f al fi := by
  unfold whyN; repeat' split
  all_goals omega
set_option maxRecDepth 100000 in
set_option maxHeartbeats 1600000 in
theorem ref9Written_is (d q e : Int) (q0 : 0 ≤ q) (q1 : q ≤ 255) (s : ByteArray) (al fi : Bool) (hs : s.size ≤ 1000001) (O : ByteArray) (hO : Hid (wriO d q s al fi = O)) (w : World) :
    Calls Tryd.prog 34 #[.agg #[.int .i64 d, .int .i64 q, .int .i64 e], .string s, .int .i64 (numB al), .int .i64 (numB fi)] w fun x w' => x = .returned (.string O) ∧ Below w.heap.size w w' := by
  obtain ⟨W, hW⟩ : ∃ W, whyN d q (bl s) al fi = W := ⟨_, rfl⟩
  have HW := Lib.hid hW
  have h0 : 0 ≤ W := by rw [← hW]; exact whyN_cases ..
  have hsm : s.size ≤ maxLen := by unfold maxLen; omega
  obtain ⟨na, hna⟩ : ∃ na, numB al = na := ⟨_, rfl⟩
  obtain ⟨nf, hnf⟩ : ∃ nf, numB fi = nf := ⟨_, rfl⟩
  have HWHY := Lib.hid (fun w => ref8Why_any d q e s al fi hsm W HW w)
  rw [hna, hnf] at HWHY
  rw [hna, hnf]
  clear hna hnf
  by_cases hz : W = 0
  · have HO := Lib.hid (show s = O by rw [← hO.out]; unfold wriO; rw [hW, if_pos hz])
    have hg : decide (0 < W) = false := decide_eq_false (by omega)
    clear hW hz
    go_enter Tryd.func34, Tryd.ntmps34
    go_wp2_with (go_at_call 41; with_reducible refine (above (HWHY.out _)).mono ?_; rintro x _ ⟨rfl, y, rfl⟩)
    go_ret
    exact ⟨by rw [← HO.out]; rfl, (by (repeat (first | exact Below.refl _ _ | refine up_onto ?_ _ | refine up_alloc ?_ _)))⟩
  · have HO := Lib.hid (show quoO q s = O by rw [← hO.out]; unfold wriO; rw [hW, if_neg hz])
    have hp : 0 < W := by omega
    have hg : decide (0 < W) = true := decide_eq_true hp
    clear hW hz
    go_enter Tryd.func34, Tryd.ntmps34
    go_wp2_with (first
      | (go_at_call 41; with_reducible refine (above (HWHY.out _)).mono ?_; rintro x _ ⟨rfl, y, rfl⟩)
      | (go_at_call 42; with_reducible refine (above (ref9Quoted_is d q e q0 q1 s hs O HO _)).mono ?_; rintro x _ ⟨rfl, y, rfl⟩))
    go_ret
    exact ⟨rfl, (by (repeat (first | exact Below.refl _ _ | refine up_onto ?_ _ | refine up_alloc ?_ _)))⟩
end Go.Proofs.YtaoncnlhilpgfaaDoor

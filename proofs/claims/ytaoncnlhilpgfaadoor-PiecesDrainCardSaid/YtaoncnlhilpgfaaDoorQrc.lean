/- Layer 10: the document's Line. -/
import Derived.Test.YtaoncnlhilpgfaaDoorQrb
import Derived.Test.YtaoncnlhilpgfaaDoorQna
import Derived.Test.YtaoncnlhilpgfaaDoorNdx
import Derived.Test.YtaoncnlhilpgfaaDoorZp
namespace Go.Proofs.YtaoncnlhilpgfaaDoor
open Go.ChangeShapes Go.WideShapes Go.ChangeAt Go.RowKit
set_option linter.unusedVariables false
set_option linter.unusedSimpArgs false

theorem layL_put (d : Int) : ∀ (xs : List (List Int)) (f : List Int), layL d (xs ++ [f]) = if xs = [] then f else layL d xs ++ d :: f
  | [], f => rfl
  | [x], f => by simp [layL]
  | x :: y :: r, f => by
    have h := layL_put d (y :: r) f
    rw [if_neg (by simp)] at h
    rw [if_neg (by simp)]
    show layL d (x :: y :: (r ++ [f])) = _
    rw [layL]
    show x ++ d :: layL d ((y :: r) ++ [f]) = _
    rw [h, layL]
    simp
theorem canR_snoc (d q : Int) (al : Bool) : ∀ (l : List (List Int)) (f : List Int) (fi : Bool), canR d q al fi (l ++ [f]) = canR d q al fi l ++ [(f, wriL d q f al (fi && decide (l = [])))]
  | [], f, fi => by simp [canR]
  | x :: l, f, fi => by
    show canR d q al fi (x :: (l ++ [f])) = _
    rw [canR, canR_snoc d q al l f false, canR]
    simp
/-- The line of the first k fields, its end left out. -/
def preL (d q : Int) (al fi : Bool) (r : List ByteArray) (k : Nat) : List Int := layL d ((canR d q al fi ((r.take k).map bl)).map (·.2))
theorem preL_zero (d q : Int) (al fi : Bool) (r : List ByteArray) : preL d q al fi r 0 = [] := rfl
theorem preL_succ {d q : Int} {al fi : Bool} {r : List ByteArray} {k : Nat} {s : ByteArray} (h : r[k]? = some s) :
    preL d q al fi r (k + 1) = if k = 0 then wriL d q (bl s) al fi else preL d q al fi r k ++ d :: wriL d q (bl s) al false := by
  have hlt : k < r.length := (List.getElem?_eq_some_iff.1 h).1
  unfold preL
  rw [List.take_add_one, h]
  simp only [Option.toList, List.map_append, List.map_cons, List.map_nil]
  rw [canR_snoc, List.map_append, List.map_cons, List.map_nil, layL_put]
  have hn : ((canR d q al fi ((r.take k).map bl)).map (·.2) = []) ↔ k = 0 := by
    rw [canR_nil, List.map_eq_nil_iff, List.take_eq_nil_iff]
    constructor
    · rintro (h1 | h1)
      · exact h1
      · rw [h1] at hlt; simp at hlt
    · intro h1; exact .inl h1
  have hn2 : ((r.take k).map bl = []) ↔ k = 0 := by
    rw [List.map_eq_nil_iff, List.take_eq_nil_iff]
    constructor
    · rintro (h1 | h1)
      · exact h1
      · rw [h1] at hlt; simp at hlt
    · intro h1; exact .inl h1
  rw [decide_eq_decide.2 hn2]
  by_cases hk : k = 0
  · rw [if_pos (hn.2 hk), if_pos hk, decide_eq_true hk, Bool.and_true]
  · rw [if_neg (fun e => hk (hn.1 e)), if_neg hk, decide_eq_false hk, Bool.and_false]
/-- A record's line. -/
def lineN (d q e : Int) (fi : Bool) (r : List ByteArray) : List Int := lineL d e (canR d q (decide (r.length = 1)) fi (r.map bl))
theorem lineN_pre (d q e : Int) (fi : Bool) (r : List ByteArray) : lineN d q e fi r = preL d q (decide (r.length = 1)) fi r r.length ++ endL e := by
  unfold lineN lineL preL
  rw [List.take_length]
theorem bl_wriO {q : Int} (q0 : 0 ≤ q) (q1 : q ≤ 255) (d : Int) (s : ByteArray) (al fi : Bool) : bl (wriO d q s al fi) = wriL d q (bl s) al fi := by
  unfold wriO wriL
  split
  · rfl
  · exact bl_quoO q0 q1 s
theorem wriO_size {q : Int} (q0 : 0 ≤ q) (q1 : q ≤ 255) (d : Int) (s : ByteArray) (al fi : Bool) : (wriO d q s al fi).size ≤ 2 * s.size + 2 := by
  unfold wriO
  split
  · omega
  · exact quoO_size q0 q1 s
theorem endO_size (e : Int) : (endO e).size ≤ 2 := by unfold endO; split <;> decide

set_option maxRecDepth 100000 in
set_option maxHeartbeats 3200000 in
theorem line_any (d q e : Int) (d0 : 0 ≤ d) (d1 : d ≤ 255) (q0 : 0 ≤ q) (q1 : q ≤ 255) (A : Option Addr) (n c : Nat) (r : List ByteArray) (fi : Bool) (hn : n ≤ 1000) (hsz : lenL r ≤ 1000) (w : World) (hr : Hid (SlIn w A n (strs r))) (O : ByteArray) (hO : Hid (bl O = lineN d q e fi r)) :
    Calls Tryd.prog 26 #[.agg #[.int .i64 d, .int .i64 q, .int .i64 e], .slice A n c, .int .i64 (numB fi)] w fun x w' => x = .returned (.string O) ∧ Below w.heap.size w w' := by
  have HL := Lib.hid hr.out.lenS
  obtain ⟨al, hal⟩ : ∃ al, ((n : Int) == 1) = al := ⟨_, rfl⟩
  have HAL := Lib.hid (show decide (r.length = 1) = al by rw [HL.out, ← hal, Bool.eq_iff_iff]; simp; omega)
  obtain ⟨D, hD⟩ : ∃ D : ByteArray, (⟨#[UInt8.ofNat d.toNat]⟩ : ByteArray) = D := ⟨_, rfl⟩
  have HD := Lib.hid (show bl D = [d] by rw [← hD]; exact bl_toBA [d] (by simp; omega))
  have hDs : D.size = 1 := by have := HD.out; rw [← bl_length, this]; rfl
  have hcv : ∀ V : World, (convert 43 9 (.slice (some ⟨V.heap.size, 0, none⟩) 1 1)).run Tryd.prog (V.alloc (.cells #[.int .u8 d] 5)) = .ok (.string D) (V.alloc (.cells #[.int .u8 d] 5)) := fun V => by
    rw [← hD]; exact run_string_one' V _ _ 5 rfl rfl rfl d _ 1
  obtain ⟨nf, hnf⟩ : ∃ nf, numB fi = nf := ⟨_, rfl⟩
  have hnf1 : (nf == 1) = fi := by rw [← hnf]; cases fi <;> rfl
  obtain ⟨E, hE⟩ : ∃ E, endO e = E := ⟨_, rfl⟩
  have HE := Lib.hid hE
  have HEB := Lib.hid (show bl E = endL e by rw [← hE]; exact bl_endO e)
  have hEs : E.size ≤ 2 := by rw [← hE]; exact endO_size e
  obtain ⟨W0, hW0⟩ : ∃ W0, w.alloc (.cells #[.int .i64 d, .int .i64 q, .int .i64 e] 33) = W0 := ⟨_, rfl⟩
  have m0 : W0.cell? ⟨w.heap.size, 0, none⟩ = some (.int .i64 d) := by rw [← hW0]; exact (StB.made w rfl _ _).cell 0
  have m1 : W0.cell? ⟨w.heap.size, 1, none⟩ = some (.int .i64 q) := by rw [← hW0]; exact (StB.made w rfl _ _).cell 1
  have m2 : W0.cell? ⟨w.heap.size, 2, none⟩ = some (.int .i64 e) := by rw [← hW0]; exact (StB.made w rfl _ _).cell 2
  have ml : w.heap.size < W0.heap.size := by rw [← hW0]; simp
  have HB0 := Lib.hid (show Below w.heap.size w W0 by rw [← hW0]; exact up_alloc (Below.refl _ w) _)
  have hr0 := Lib.hid (hr.out.below HB0.out)
  rw [hnf]
  clear hD hE hnf
  go_enter Tryd.func26, Tryd.ntmps26
  go_upto_region 1 with fail
  clear hW0
  go_wp2_with fail
  go_loopw [7, 12] (fun s7 i wr => ∃ (k : Nat) (S : ByteArray), k ≤ n ∧ i = .int .i64 k ∧ s7 = .string S ∧ Hid (bl S = preL d q al fi r k) ∧ S.size ≤ 2 * lenL (r.take k) + 3 * k ∧ Hid (∃ y, wr = onto W0 y)) (fun _ i _ => n - (intOf i).toNat)
  case atStart => exact ⟨0, ⟨#[]⟩, Nat.zero_le _, rfl, rfl, Lib.hid rfl, Nat.zero_le _, Lib.hid (onto_self W0)⟩
  case round =>
    obtain ⟨k, S, hk, rfl, rfl, HS, hSs, HY⟩ := hrel
    obtain ⟨y, rfl⟩ := HY.out
    clear HY
    by_cases hlt : k < n
    · obtain ⟨s, hs⟩ : ∃ s, r[k]? = some s := ⟨_, List.getElem?_eq_getElem (by rw [HL.out]; exact hlt)⟩
      obtain ⟨a, rfl, hca⟩ := hr0.out.at_ (strs_get hs)
      have hss : s.size ≤ 1000001 := by have := lenL_mem (List.mem_of_getElem? hs); omega
      have hlen := lenL_at hs
      have hle := lenL_take_le r (k + 1)
      obtain ⟨N, hN⟩ : ∃ N, N = lenL (r.take k) := ⟨_, rfl⟩
      have HN := Lib.hid (show lenL (r.take (k + 1)) = N + s.size by rw [hlen, hN])
      have hN1 : N + s.size ≤ 1000 := by rw [hN]; omega
      rw [← hN] at hSs
      have HP := Lib.hid (preL_succ (d := d) (q := q) (al := al) (fi := fi) hs)
      obtain ⟨W, hW⟩ : ∃ W, W = onto W0 y := ⟨_, rfl⟩
      have HBW := Lib.hid (show Below W0.heap.size W0 W by rw [hW]; exact onto_below W0 y)
      rw [← hW]
      clear hW
      have ya : W.cell? (a.add k) = some (.string s) := mem_cell HBW.out hca
      have HCA := Lib.hid hca
      have y0 : W.cell? ⟨w.heap.size, 0, none⟩ = some (.int .i64 d) := mem_cell HBW.out m0
      have ylt : w.heap.size < W.heap.size := Nat.lt_of_lt_of_le ml HBW.out.size
      clear hs hca hlen hle hN
      by_cases hk0 : k = 0
      · have hkz : ((k : Int) == 0) = true := by simp [hk0]
        have hgt : ¬ ((0 : Int) < (k : Int)) := by omega
        obtain ⟨T, hT⟩ : ∃ T, wriO d q s al fi = T := ⟨_, rfl⟩
        have hTs : T.size ≤ 2 * s.size + 2 := by rw [← hT]; exact wriO_size q0 q1 d s al fi
        have HX := Lib.hid (show bl (S ++ T) = preL d q al fi r (k + 1) by
          have h1 := HS.out
          rw [hk0, preL_zero] at h1
          rw [HP.out, if_pos hk0, bl_append, h1, ← hT, bl_wriO q0 q1, List.nil_append])
        have HT := Lib.hid hT
        have z0 : ∀ z, (onto W z).cell? ⟨w.heap.size, 0, none⟩ = some (.int .i64 d) := fun z => mem_cell (HBW.out.trans ((onto_below W z).mono HBW.out.size)) m0
        have z1 : ∀ z, (onto W z).cell? ⟨w.heap.size, 1, none⟩ = some (.int .i64 q) := fun z => mem_cell (HBW.out.trans ((onto_below W z).mono HBW.out.size)) m1
        have z2 : ∀ z, (onto W z).cell? ⟨w.heap.size, 2, none⟩ = some (.int .i64 e) := fun z => mem_cell (HBW.out.trans ((onto_below W z).mono HBW.out.size)) m2
        have hone := fun (v : Bool) (z : Above W) => calls_onto (one10_b v (onto W z))
        have hwri := fun (z : Above W) => calls_onto (ref9Written_is d q e q0 q1 s al fi hss T HT (onto W z))
        clear hT hk0
        cases fi
        all_goals
          go_wp2_with fail
          refine wp_region_onto (by kernel_rfl) (by kernel_rfl) ?_
          repeat (go_big_quiet_step (first | (go_at_call 32; with_reducible exact hone _ _) | (go_at_call 34; with_reducible exact hwri _)))
          refine wpQuiet_nil ?_
          intro _ hw'
          obtain ⟨x1, hw''⟩ := hw'
          subst hw''
          go_wp2_with fail
          go_roundw
          case rel => exact ⟨k + 1, S ++ T, by omega, by go_num, rfl, HX, by rw [HN.out, ByteArray.size_append]; omega, Lib.hid (onto_of (HBW.out.trans ((onto_below W x1).mono HBW.out.size)))⟩
          case measure => simp [intOf]; omega
      · have hkz : ((k : Int) == 0) = false := by rw [beq_eq_false_iff_ne]; omega
        have hgt : (0 : Int) < (k : Int) := by omega
        obtain ⟨T, hT⟩ : ∃ T, wriO d q s al false = T := ⟨_, rfl⟩
        have hTs : T.size ≤ 2 * s.size + 2 := by rw [← hT]; exact wriO_size q0 q1 d s al false
        have HX := Lib.hid (show bl (S ++ D ++ T) = preL d q al fi r (k + 1) by
          rw [HP.out, if_neg hk0, bl_append, bl_append, HS.out, HD.out, ← hT, bl_wriO q0 q1, List.append_assoc]; rfl)
        have HT := Lib.hid hT
        have hcvW := hcv W
        clear hT hk0
        go_wp2_with fail
        obtain ⟨W2, hW2⟩ : ∃ W2, W2 = W.alloc (.cells #[.int .u8 d] 5) := ⟨_, rfl⟩
        have HBX := Lib.hid (show Below W0.heap.size W0 W2 by rw [hW2]; exact HBW.out.alloc HBW.out.size _)
        rw [← hW2]
        clear hW2 hcvW ya y0 ylt
        have z0 : ∀ z, (onto W2 z).cell? ⟨w.heap.size, 0, none⟩ = some (.int .i64 d) := fun z => mem_cell (HBX.out.trans ((onto_below W2 z).mono HBX.out.size)) m0
        have z1 : ∀ z, (onto W2 z).cell? ⟨w.heap.size, 1, none⟩ = some (.int .i64 q) := fun z => mem_cell (HBX.out.trans ((onto_below W2 z).mono HBX.out.size)) m1
        have z2 : ∀ z, (onto W2 z).cell? ⟨w.heap.size, 2, none⟩ = some (.int .i64 e) := fun z => mem_cell (HBX.out.trans ((onto_below W2 z).mono HBX.out.size)) m2
        have hone := fun (v : Bool) (z : Above W2) => calls_onto (one10_b v (onto W2 z))
        have hwri := fun (z : Above W2) => calls_onto (ref9Written_is d q e q0 q1 s al false hss T HT (onto W2 z))
        have hSD : (S ++ D).size ≤ 10000 := by rw [ByteArray.size_append]; omega
        cases fi
        all_goals
          refine wp_region_onto (by kernel_rfl) (by kernel_rfl) ?_
          repeat (go_big_quiet_step (first | (go_at_call 32; with_reducible exact hone _ _) | (go_at_call 34; with_reducible exact hwri _)))
          refine wpQuiet_nil ?_
          intro _ hw'
          obtain ⟨x1, hw''⟩ := hw'
          subst hw''
          go_wp2_with fail
          go_roundw
          case rel => exact ⟨k + 1, S ++ D ++ T, by omega, by go_num, rfl, HX, by rw [HN.out, ByteArray.size_append, ByteArray.size_append]; omega, Lib.hid (onto_of (HBX.out.trans ((onto_below W2 x1).mono HBX.out.size)))⟩
          case measure => simp [intOf]; omega
    · obtain rfl : k = n := by omega
      have HR := Lib.hid (show O = S ++ E by
        refine bl_inj ?_
        rw [hO.out, bl_append, HS.out, HEB.out, lineN_pre, HAL.out, HL.out])
      have hle := lenL_take_le r k
      have hS9 : S.size ≤ 10000 := by omega
      obtain ⟨W, hW⟩ : ∃ W, W = onto W0 y := ⟨_, rfl⟩
      have HBW := Lib.hid (show Below W0.heap.size W0 W by rw [hW]; exact onto_below W0 y)
      rw [← hW]
      clear hW hlt hle
      have y0 : W.cell? ⟨w.heap.size, 0, none⟩ = some (.int .i64 d) := mem_cell HBW.out m0
      have y1 : W.cell? ⟨w.heap.size, 1, none⟩ = some (.int .i64 q) := mem_cell HBW.out m1
      have y2 : W.cell? ⟨w.heap.size, 2, none⟩ = some (.int .i64 e) := mem_cell HBW.out m2
      have ylt : w.heap.size < W.heap.size := Nat.lt_of_lt_of_le ml HBW.out.size
      go_wp2_with (go_at_call 35; with_reducible refine (above (refEnd_is d q e E HE _)).mono ?_; rintro x _ ⟨rfl, y3, rfl⟩)
      go_ret
      exact ⟨by rw [HR.out]; rfl, HB0.out.trans ((HBW.out.trans ((onto_below W y3).mono HBW.out.size)).mono HB0.out.size)⟩
end Go.Proofs.YtaoncnlhilpgfaaDoor

/- Layer 10: the document's Text. -/
import Derived.Test.YtaoncnlhilpgfaaDoorQrc
namespace Go.Proofs.YtaoncnlhilpgfaaDoor
open Go.ChangeShapes Go.WideShapes Go.ChangeAt Go.RowKit
set_option linter.unusedVariables false
set_option linter.unusedSimpArgs false

/-- Lines one behind the other. -/
def rowsL (d q e : Int) : Bool → List (List ByteArray) → List Int
  | _, [] => []
  | fi, r :: t => lineN d q e fi r ++ rowsL d q e false t
theorem rowsL_snoc (d q e : Int) : ∀ (t : List (List ByteArray)) (r : List ByteArray) (fi : Bool), rowsL d q e fi (t ++ [r]) = rowsL d q e fi t ++ lineN d q e (fi && decide (t = [])) r
  | [], r, fi => by simp [rowsL]
  | x :: t, r, fi => by
    show rowsL d q e fi (x :: (t ++ [r])) = _
    rw [rowsL, rowsL_snoc d q e t r false, rowsL]
    simp
theorem rowsL_at {d q e : Int} {t : List (List ByteArray)} {k : Nat} {r : List ByteArray} (h : t[k]? = some r) : rowsL d q e true (t.take (k + 1)) = rowsL d q e true (t.take k) ++ lineN d q e (decide (k = 0)) r := by
  have hlt : k < t.length := (List.getElem?_eq_some_iff.1 h).1
  rw [List.take_add_one, h]
  show rowsL d q e true (t.take k ++ [r]) = _
  rw [rowsL_snoc, Bool.true_and]
  congr 2
  refine decide_eq_decide.2 ?_
  rw [List.take_eq_nil_iff]
  constructor
  · rintro (h1 | h1)
    · exact h1
    · rw [h1] at hlt; simp at hlt
  · intro h1; exact .inl h1
theorem wriL_len2 (d q : Int) (f : List Int) (al fi : Bool) : (wriL d q f al fi).length ≤ 2 * f.length + 2 := by
  unfold wriL
  split
  · omega
  · rw [quoL_len]; have := (dbl_len q f).2; omega
theorem preL_len (d q : Int) (al fi : Bool) (r : List ByteArray) : ∀ k, k ≤ r.length → (preL d q al fi r k).length ≤ 2 * lenL (r.take k) + 3 * k
  | 0, _ => by simp [preL_zero]
  | k + 1, hk => by
    obtain ⟨s, hs⟩ : ∃ s, r[k]? = some s := ⟨_, List.getElem?_eq_getElem (by omega)⟩
    have ih := preL_len d q al fi r k (by omega)
    rw [preL_succ hs, lenL_at hs]
    split
    · have := wriL_len2 d q (bl s) al fi
      rw [bl_length] at this; omega
    · have := wriL_len2 d q (bl s) al false
      rw [bl_length] at this
      rw [List.length_append, List.length_cons]; omega
theorem lineN_len (d q e : Int) (fi : Bool) (r : List ByteArray) : (lineN d q e fi r).length ≤ 2 * lenL r + 3 * r.length + 2 := by
  have h := preL_len d q (decide (r.length = 1)) fi r r.length (Nat.le_refl _)
  rw [List.take_length] at h
  have he : (endL e).length ≤ 2 := by unfold endL; split <;> decide
  rw [lineN_pre, List.length_append]; omega
theorem endL_bytes (e : Int) : ∀ x ∈ endL e, 0 ≤ x ∧ x ≤ 255 := by
  unfold endL; split <;> simp
theorem wriL_bytes {d q : Int} (q0 : 0 ≤ q) (q1 : q ≤ 255) (s : ByteArray) (al fi : Bool) : ∀ x ∈ wriL d q (bl s) al fi, 0 ≤ x ∧ x ≤ 255 := by
  rw [← bl_wriO q0 q1]; exact bl_bytes _
theorem preL_bytes {d q : Int} (d0 : 0 ≤ d) (d1 : d ≤ 255) (q0 : 0 ≤ q) (q1 : q ≤ 255) (al fi : Bool) (r : List ByteArray) : ∀ k, k ≤ r.length → ∀ x ∈ preL d q al fi r k, 0 ≤ x ∧ x ≤ 255
  | 0, _, x, hx => by simp [preL_zero] at hx
  | k + 1, hk, x, hx => by
    obtain ⟨s, hs⟩ : ∃ s, r[k]? = some s := ⟨_, List.getElem?_eq_getElem (by omega)⟩
    rw [preL_succ hs] at hx
    split at hx
    · exact wriL_bytes q0 q1 s al fi x hx
    · rcases List.mem_append.1 hx with h | h
      · exact preL_bytes d0 d1 q0 q1 al fi r k (by omega) x h
      · rcases List.mem_cons.1 h with rfl | h
        · exact ⟨d0, d1⟩
        · exact wriL_bytes q0 q1 s al false x h
theorem lineN_bytes {d q : Int} (d0 : 0 ≤ d) (d1 : d ≤ 255) (q0 : 0 ≤ q) (q1 : q ≤ 255) (e : Int) (fi : Bool) (r : List ByteArray) : ∀ x ∈ lineN d q e fi r, 0 ≤ x ∧ x ≤ 255 := by
  intro x hx
  rw [lineN_pre] at hx
  rcases List.mem_append.1 hx with h | h
  · exact preL_bytes d0 d1 q0 q1 _ fi r _ (Nat.le_refl _) x h
  · exact endL_bytes e x h
theorem rowsL_bytes {d q : Int} (d0 : 0 ≤ d) (d1 : d ≤ 255) (q0 : 0 ≤ q) (q1 : q ≤ 255) (e : Int) : ∀ (t : List (List ByteArray)) (fi : Bool), ∀ x ∈ rowsL d q e fi t, 0 ≤ x ∧ x ≤ 255
  | [], fi, x, hx => by simp [rowsL] at hx
  | r :: t, fi, x, hx => by
    rw [rowsL] at hx
    rcases List.mem_append.1 hx with h | h
    · exact lineN_bytes d0 d1 q0 q1 e fi r x h
    · exact rowsL_bytes d0 d1 q0 q1 e t false x h
theorem rowsL_len (d q e : Int) : ∀ (t : List (List ByteArray)) (fi : Bool), (rowsL d q e fi t).length ≤ 2 * bytN t + 3 * fldN t + 2 * t.length
  | [], fi => by simp [rowsL]
  | r :: t, fi => by
    have h1 := lineN_len d q e fi r
    have h2 := rowsL_len d q e t false
    rw [rowsL, List.length_append]
    simp only [bytN, fldN, List.length_cons]
    omega
/-- A line, as a text. -/
def lineO (d q e : Int) (fi : Bool) (r : List ByteArray) : ByteArray := toBA (lineN d q e fi r)
theorem bl_lineO {d q : Int} (d0 : 0 ≤ d) (d1 : d ≤ 255) (q0 : 0 ≤ q) (q1 : q ≤ 255) (e : Int) (fi : Bool) (r : List ByteArray) : bl (lineO d q e fi r) = lineN d q e fi r := bl_toBA _ (lineN_bytes d0 d1 q0 q1 e fi r)
/-- The text of the first k records. -/
def textN (d q e : Int) (t : List (List ByteArray)) (k : Nat) : List Int := rowsL d q e true (t.take k)

set_option maxRecDepth 100000 in
set_option maxHeartbeats 3200000 in
theorem text_any (d q e : Int) (d0 : 0 ≤ d) (d1 : d ≤ 255) (q0 : 0 ≤ q) (q1 : q ≤ 255) (A : Option Addr) (n c : Nat) (V : List Value) (t : List (List ByteArray)) (hn : n ≤ 1000) (hf : fldN t ≤ 1000) (hb : bytN t ≤ 1000) (w : World) (ht : Hid (TabIn w A n V t)) (hok : Hid (Sizes t)) (O : ByteArray) (hO : Hid (bl O = textN d q e t (frontN t))) :
    Calls Tryd.prog 23 #[.agg #[.int .i64 d, .int .i64 q, .int .i64 e], .slice A n c] w fun x w' => x = .returned (.string O) ∧ Below w.heap.size w w' := by
  have HL := Lib.hid ht.out.len
  obtain ⟨F, hF⟩ : ∃ F, frontN t = F := ⟨_, rfl⟩
  have HF := Lib.hid hF
  have hFn : F ≤ n := by have := frontN_le t; rw [hF, HL.out] at this; exact this
  obtain ⟨W0, hW0⟩ : ∃ W0, w.alloc (.cells #[.int .i64 d, .int .i64 q, .int .i64 e] 33) = W0 := ⟨_, rfl⟩
  have m0 : W0.cell? ⟨w.heap.size, 0, none⟩ = some (.int .i64 d) := by rw [← hW0]; exact (StB.made w rfl _ _).cell 0
  have m1 : W0.cell? ⟨w.heap.size, 1, none⟩ = some (.int .i64 q) := by rw [← hW0]; exact (StB.made w rfl _ _).cell 1
  have m2 : W0.cell? ⟨w.heap.size, 2, none⟩ = some (.int .i64 e) := by rw [← hW0]; exact (StB.made w rfl _ _).cell 2
  have ml : w.heap.size < W0.heap.size := by rw [← hW0]; simp
  have HB0 := Lib.hid (show Below w.heap.size w W0 by rw [← hW0]; exact up_alloc (Below.refl _ w) _)
  have ht0 := Lib.hid (ht.out.below HB0.out)
  have hfront := Lib.hid (fun W (hb : Below W0.heap.size W0 W) => front_is A n c V t (by omega) F HF W (Lib.hid (ht0.out.below hb)) hok)
  clear hF
  go_enter Tryd.func23, Tryd.ntmps23
  go_upto_region 1 with fail
  clear hW0
  go_wp2_with fail
  go_loopw [5, 6] (fun s5 i wr => ∃ (k : Nat) (S : ByteArray), k ≤ F ∧ i = .int .i64 k ∧ s5 = .string S ∧ Hid (bl S = textN d q e t k) ∧ S.size ≤ 10000 ∧ Hid (∃ y, wr = onto W0 y)) (fun _ i _ => F - (intOf i).toNat)
  case atStart => exact ⟨0, ⟨#[]⟩, Nat.zero_le _, rfl, rfl, Lib.hid rfl, Nat.zero_le _, Lib.hid (onto_self W0)⟩
  case round =>
    obtain ⟨k, S, hk, rfl, rfl, HS, hSs, HY⟩ := hrel
    obtain ⟨y, rfl⟩ := HY.out
    clear HY
    obtain ⟨W, hW⟩ : ∃ W, W = onto W0 y := ⟨_, rfl⟩
    have HBW := Lib.hid (show Below W0.heap.size W0 W by rw [hW]; exact onto_below W0 y)
    rw [← hW]
    clear hW
    have hfr := Lib.hid (hfront.out W HBW.out)
    by_cases hlt : k < F
    · obtain ⟨r, hr'⟩ : ∃ r, t[k]? = some r := ⟨_, List.getElem?_eq_getElem (by rw [HL.out]; omega)⟩
      obtain ⟨a, D, b, rfl, hca, hD⟩ := ht0.out.row hr'
      obtain ⟨m, hm⟩ : ∃ m, m = r.length := ⟨_, rfl⟩
      have hm1 : m ≤ 1000 := by have := fldN_mem (List.mem_of_getElem? hr'); omega
      have hlr : lenL r ≤ 1000 := by have := bytN_mem (List.mem_of_getElem? hr'); omega
      rw [← hm] at hca hD
      have HCA := Lib.hid hca
      have HD := Lib.hid hD
      obtain ⟨T, hT⟩ : ∃ T, lineO d q e (decide (k = 0)) r = T := ⟨_, rfl⟩
      have HTB := Lib.hid (show bl T = lineN d q e (decide (k = 0)) r by rw [← hT]; exact bl_lineO d0 d1 q0 q1 e _ r)
      have hX : bl (S ++ T) = textN d q e t (k + 1) := by rw [bl_append, HS.out, HTB.out]; exact (rowsL_at hr').symm
      have HX := Lib.hid hX
      have hXs : (S ++ T).size ≤ 10000 := by
        have h1 := rowsL_len d q e (t.take (k + 1)) true
        have h2 := fldN_take_le t (k + 1)
        have h3 := bytN_take_le t (k + 1)
        have h4 : (t.take (k + 1)).length ≤ 1000 := by rw [List.length_take, HL.out]; omega
        rw [← bl_length, hX]
        unfold textN
        omega
      have hTs : T.size ≤ 10000 := by rw [ByteArray.size_append] at hXs; omega
      obtain ⟨kz, hkz⟩ : ∃ kz, ((k : Int) == 0) = kz := ⟨_, rfl⟩
      have hkd : decide (k = 0) = kz := by rw [← hkz, Bool.eq_iff_iff]; simp
      rw [hkd] at HTB
      have hnk : (k : Int) < (n : Int) := by omega
      clear hr' hca hD hm hT hX hkd
      go_wp2_with (go_at_call 24; with_reducible refine (above hfr.out).mono ?_; rintro x _ ⟨rfl, y2, rfl⟩)
      obtain ⟨W2, hW2⟩ : ∃ W2, W2 = onto W y2 := ⟨_, rfl⟩
      have HBX := Lib.hid (show Below W0.heap.size W0 W2 by rw [hW2]; exact HBW.out.trans ((onto_below W y2).mono HBW.out.size))
      rw [← hW2]
      clear hW2 hfr
      have za : ∀ z, (onto W2 z).cell? (a.add k) = some (.slice D m b) := fun z => mem_cell (HBX.out.trans ((onto_below W2 z).mono HBX.out.size)) HCA.out
      have z0 : ∀ z, (onto W2 z).cell? ⟨w.heap.size, 0, none⟩ = some (.int .i64 d) := fun z => mem_cell (HBX.out.trans ((onto_below W2 z).mono HBX.out.size)) m0
      have z1 : ∀ z, (onto W2 z).cell? ⟨w.heap.size, 1, none⟩ = some (.int .i64 q) := fun z => mem_cell (HBX.out.trans ((onto_below W2 z).mono HBX.out.size)) m1
      have z2 : ∀ z, (onto W2 z).cell? ⟨w.heap.size, 2, none⟩ = some (.int .i64 e) := fun z => mem_cell (HBX.out.trans ((onto_below W2 z).mono HBX.out.size)) m2
      have hone := fun (v : Bool) (z : Above W2) => calls_onto (one10_b v (onto W2 z))
      have hline := fun (z : Above W2) => calls_onto (line_any d q e d0 d1 q0 q1 D m b r kz hm1 hlr (onto W2 z) (Lib.hid (HD.out.below (HBX.out.trans ((onto_below W2 z).mono HBX.out.size)))) T HTB)
      refine wp_region_onto (by kernel_rfl) (by kernel_rfl) ?_
      repeat (go_big_quiet_step (first | (go_at_call 32; with_reducible exact hone _ _) | (go_at_call 26; with_reducible exact hline _)))
      refine wpQuiet_nil ?_
      intro _ hw'
      obtain ⟨x1, hw''⟩ := hw'
      subst hw''
      go_wp2_with fail
      go_roundw
      case rel => exact ⟨k + 1, S ++ T, by omega, by go_num, rfl, HX, hXs, Lib.hid (onto_of (HBX.out.trans ((onto_below W2 x1).mono HBX.out.size)))⟩
      case measure => simp [intOf]; omega
    · obtain rfl : k = F := by omega
      have HR := Lib.hid (show O = S from bl_inj (by rw [hO.out, HS.out, HF.out]))
      clear hlt
      go_wp2_with (go_at_call 24; with_reducible refine (above hfr.out).mono ?_; rintro x _ ⟨rfl, y2, rfl⟩)
      go_ret
      exact ⟨by rw [HR.out]; rfl, HB0.out.trans ((HBW.out.trans ((onto_below W y2).mono HBW.out.size)).mono HB0.out.size)⟩
end Go.Proofs.YtaoncnlhilpgfaaDoor

/- Layer 9: the program's quoteOf, Quoted. -/
import Derived.Test.YtaoncnlhilpgfaaDoorLra
import Derived.Test.YtaoncnlhilpgfaaDoorQnq
import Derived.Test.YtaoncnlhilpgfaaDoorNea
namespace Go.Proofs.YtaoncnlhilpgfaaDoor
open Go.ChangeShapes Go.WideShapes Go.ChangeAt Go.RowKit
set_option linter.unusedVariables false
set_option linter.unusedSimpArgs false

/-- A byte as a text. -/
def oneB (q : Int) : ByteArray := ⟨#[UInt8.ofNat q.toNat]⟩
theorem bl_oneB {q : Int} (q0 : 0 ≤ q) (q1 : q ≤ 255) : bl (oneB q) = [q] := bl_toBA [q] (by simp; omega)
theorem oneB_size (q : Int) : (oneB q).size = 1 := rfl
theorem byte_back {q : Int} (q0 : 0 ≤ q) (q1 : q ≤ 255) : ((UInt8.ofNat q.toNat).toNat : Int) = q := by
  rw [UInt8.toNat_ofNat']; omega
theorem bl_mk (l : List UInt8) : bl ⟨l.toArray⟩ = l.map fun b => (b.toNat : Int) := rfl
/-- What ReplaceAll makes of a field, between two Quotes, is the field quoted. -/
theorem quo_repl {q : Int} (q0 : 0 ≤ q) (q1 : q ≤ 255) (s : ByteArray) : oneB q ++ ⟨(repl (UInt8.ofNat q.toNat) (oneB q ++ oneB q).data.toList s.data.toList).toArray⟩ ++ oneB q = quoO q s := bl_inj (by
  rw [bl_append, bl_append, bl_quoO q0 q1, bl_oneB q0 q1, bl_mk]
  have h : (oneB q ++ oneB q).data.toList = [UInt8.ofNat q.toNat, UInt8.ofNat q.toNat] := by rw [ByteArray.data_append]; rfl
  rw [h, repl_dbl, byte_back q0 q1]
  rfl)
theorem repl_bytes {q : Int} (q0 : 0 ≤ q) (q1 : q ≤ 255) (s : ByteArray) (n : List UInt8) (hn : n.length = 2) : (⟨(repl (UInt8.ofNat q.toNat) n s.data.toList).toArray⟩ : ByteArray).size ≤ 2 * s.size := by
  have h1 := repl_len (UInt8.ofNat q.toNat) n s.data.toList
  have h2 : s.data.toList.count (UInt8.ofNat q.toNat) ≤ s.data.toList.length := List.count_le_length ..
  have h3 : s.data.toList.length = s.size := (Lib.size_eq s).symm
  show (repl _ n s.data.toList).toArray.size ≤ _
  rw [List.size_toArray]
  rw [hn] at h1
  omega
set_option maxRecDepth 100000 in
theorem quoteOf_any (d q e : Int) (w : World) :
    Calls Tryd.prog 56 #[.agg #[.int .u8 d, .int .u8 q, .int .i64 e]] w fun x w' => x = .returned (.string (oneB q)) ∧ Below w.heap.size w w' := by
  obtain ⟨Q, hQ⟩ : ∃ Q : ByteArray, (⟨#[UInt8.ofNat q.toNat]⟩ : ByteArray) = Q := ⟨_, rfl⟩
  have HQ := Lib.hid (show oneB q = Q from hQ)
  obtain ⟨W0, hW0⟩ : ∃ W0, w.alloc (.cells #[.int .u8 d, .int .u8 q, .int .i64 e] 23) = W0 := ⟨_, rfl⟩
  have hcv : (convert 43 9 (.slice (some ⟨W0.heap.size, 0, none⟩) 1 1)).run Tryd.prog (W0.alloc (.cells #[.int .u8 q] 5)) = .ok (.string Q) (W0.alloc (.cells #[.int .u8 q] 5)) := by
    rw [← hQ]; exact run_string_one' W0 _ _ 5 rfl rfl rfl q _ 1
  have m1 : W0.cell? ⟨w.heap.size, 1, none⟩ = some (.int .u8 q) := by rw [← hW0]; exact (StB.made w rfl _ _).cell 1
  have ml : w.heap.size < W0.heap.size := by rw [← hW0]; simp
  have HB0 := Lib.hid (show Below w.heap.size w W0 by rw [← hW0]; exact up_alloc (Below.refl _ w) _)
  rw [HQ.out]
  clear hQ HQ
  go_enter Tryd.func56, Tryd.ntmps56
  go_upto_region 1 with fail
  clear hW0
  go_wp2_with fail
  go_ret
  exact ⟨rfl, (by (repeat (first | exact HB0.out | refine up_onto ?_ _ | refine up_alloc ?_ _)))⟩
set_option maxRecDepth 100000 in
theorem quoted_any : QuotedSays := by
  intro d q e s w d0 d1 q0 q1 hr hs
  obtain ⟨Q, hQ⟩ : ∃ Q, oneB q = Q := ⟨_, rfl⟩
  obtain ⟨R, hR⟩ : ∃ R : ByteArray, (⟨(repl (UInt8.ofNat q.toNat) (oneB q ++ oneB q).data.toList s.data.toList).toArray⟩ : ByteArray) = R := ⟨_, rfl⟩
  have hRs : R.size ≤ 2000 := by rw [← hR]; have := repl_bytes q0 q1 s (oneB q ++ oneB q).data.toList (by rw [ByteArray.data_append]; rfl); omega
  have hne : oneB q ≠ oneB q ++ oneB q := fun h => by have := congrArg ByteArray.size h; rw [ByteArray.size_append, oneB_size] at this; omega
  have HRA := Lib.hid (fun w => replaceAllOne_any s (oneB q) (oneB q ++ oneB q) _ rfl w (by omega) (by rw [ByteArray.size_append, oneB_size]; omega) hne)
  have HF := Lib.hid (quo_repl q0 q1 s)
  have HQO := Lib.hid (fun w => quoteOf_any d q e w)
  rw [hR] at HRA HF
  rw [hQ] at HRA HF HQO
  have hQs : Q.size ≤ 1 := by rw [← hQ]; exact Nat.le_of_eq (oneB_size q)
  rw [← HF.out]
  clear hQ hR hne HF
  go_enter Tryd.func47, Tryd.ntmps47
  go_wp2_with (first
    | (go_at_call 56; with_reducible refine (above (HQO.out _)).mono ?_; rintro x _ ⟨rfl, y, rfl⟩)
    | (go_at_call 57; with_reducible refine (above (HRA.out _)).mono ?_; rintro x _ ⟨rfl, y, rfl⟩))
  go_ret
  exact ⟨rfl, (by (repeat (first | exact Below.refl _ _ | refine up_onto ?_ _ | refine up_alloc ?_ _)))⟩
def nums (l : List UInt8) : List Int := l.map fun b => (b.toNat : Int)
theorem nums_append (a b : List UInt8) : nums (a ++ b) = nums a ++ nums b := List.map_append ..
end Go.Proofs.YtaoncnlhilpgfaaDoor

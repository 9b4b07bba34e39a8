/- Layer 9: the program's quoteOf, Quoted, Written, Size. Layer 9: the program's inQuotes, Unquote, and the document's example over the program. Layer 9: the document's example over the program. -/
import Derived.Test.YtngdmkhinebbdaaDoorLra
import Derived.Test.YtngdmkhinebbdaaDoorQnc
import Derived.Test.YtngdmkhinebbdaaDoorNwc
namespace Go.Proofs.YtngdmkhinebbdaaDoor
open Go.ChangeShapes Go.WideShapes Go.ChangeAt Go.RowKit
set_option linter.unusedVariables false
set_option linter.unusedSimpArgs false

/-- A byte as a text. -/
def oneB (q : Int) : ByteArray := ⟨#[UInt8.ofNat q.toNat]⟩
theorem bl_oneB {q : Int} (q0 : 0 ≤ q) (q1 : q ≤ 255) : bl (oneB q) = [q] := bl_toBA [q] (by simp; omega)
theorem oneB_size (q : Int) : (oneB q).size = 1 := rfl
theorem byte_back {q : Int} (q0 : 0 ≤ q) (q1 : q ≤ 255) : ((UInt8.ofNat q.toNat).toNat : Int) = q := by
  rw [UInt8.toNat_ofNat']; omega
theorem bl_mk (l : List UInt8) : bl ⟨l.toArray⟩ = l.map fun b => (b.toNat : Int) := rfl
/-- What ReplaceAll makes of a field, between two Quotes, is the field quoted. -/
theorem quo_repl {q : Int} (q0 : 0 ≤ q) (q1 : q ≤ 255) (s : ByteArray) : oneB q ++ ⟨(repl (UInt8.ofNat q.toNat) (oneB q ++ oneB q).data.toList s.data.toList).toArray⟩ ++ oneB q = quoO q s := bl_inj (by
  rw [bl_append, bl_append, bl_quoO q0 q1, bl_oneB q0 q1, bl_mk]
  have h : (oneB q ++ oneB q).data.toList = [UInt8.ofNat q.toNat, UInt8.ofNat q.toNat] := by rw [ByteArray.data_append]; rfl
  rw [h, repl_dbl, byte_back q0 q1]
  rfl)
theorem repl_bytes {q : Int} (q0 : 0 ≤ q) (q1 : q ≤ 255) (s : ByteArray) (n : List UInt8) (hn : n.length = 2) : (⟨(repl (UInt8.ofNat q.toNat) n s.data.toList).toArray⟩ : ByteArray).size ≤ 2 * s.size := by
  have h1 := repl_len (UInt8.ofNat q.toNat) n s.data.toList
  have h2 : s.data.toList.count (UInt8.ofNat q.toNat) ≤ s.data.toList.length := List.count_le_length ..
  have h3 : s.data.toList.length = s.size := (Lib.size_eq s).symm
  show (repl _ n s.data.toList).toArray.size ≤ _
  rw [List.size_toArray]
  rw [hn] at h1
  omega
set_option maxRecDepth 100000 in
theorem quoteOf_any (d q e : Int) (w : World) :
    Calls Tryd.prog 22 #[.agg #[.int .u8 d, .int .u8 q, .int .i64 e]] w fun x w' => x = .returned (.string (oneB q)) ∧ Below w.heap.size w w' := by
  obtain ⟨Q, hQ⟩ : ∃ Q : ByteArray, (⟨#[UInt8.ofNat q.toNat]⟩ : ByteArray) = Q := ⟨_, rfl⟩
  have HQ := Lib.hid (show oneB q = Q from hQ)
  obtain ⟨W0, hW0⟩ : ∃ W0, w.alloc (.cells #[.int .u8 d, .int .u8 q, .int .i64 e] 23) = W0 := ⟨_, rfl⟩
  have hcv : (convert 55 9 (.slice (some ⟨W0.heap.size, 0, none⟩) 1 1)).run Tryd.prog (W0.alloc (.cells #[.int .u8 q] 5)) = .ok (.string Q) (W0.alloc (.cells #[.int .u8 q] 5)) := by
    rw [← hQ]; exact run_string_one' W0 _ _ 5 rfl rfl rfl q _ 1
  have m1 : W0.cell? ⟨w.heap.size, 1, none⟩ = some (.int .u8 q) := by rw [← hW0]; exact (StB.made w rfl _ _).cell 1
  have ml : w.heap.size < W0.heap.size := by rw [← hW0]; simp
  have HB0 := Lib.hid (show Below w.heap.size w W0 by rw [← hW0]; exact up_alloc (Below.refl _ w) _)
  rw [HQ.out]
  clear hQ HQ
  go_enter Tryd.func22, Tryd.ntmps22
  go_upto_region 1 with fail
  clear hW0
  go_wp2_with fail
  go_ret
  exact ⟨rfl, (by (repeat (first | exact HB0.out | refine up_onto ?_ _ | refine up_alloc ?_ _)))⟩
set_option maxRecDepth 100000 in
theorem quoted_any : QuotedSays := by
  intro d q e s w d0 d1 q0 q1 hr hs
  obtain ⟨Q, hQ⟩ : ∃ Q, oneB q = Q := ⟨_, rfl⟩
  obtain ⟨R, hR⟩ : ∃ R : ByteArray, (⟨(repl (UInt8.ofNat q.toNat) (oneB q ++ oneB q).data.toList s.data.toList).toArray⟩ : ByteArray) = R := ⟨_, rfl⟩
  have hRs : R.size ≤ 2000 := by rw [← hR]; have := repl_bytes q0 q1 s (oneB q ++ oneB q).data.toList (by rw [ByteArray.data_append]; rfl); omega
  have hne : oneB q ≠ oneB q ++ oneB q := fun h => by have := congrArg ByteArray.size h; rw [ByteArray.size_append, oneB_size] at this; omega
  have HRA := Lib.hid (fun w => replaceAllOne_any s (oneB q) (oneB q ++ oneB q) _ rfl w (by omega) (by rw [ByteArray.size_append, oneB_size]; omega) hne)
  have HF := Lib.hid (quo_repl q0 q1 s)
  have HQO := Lib.hid (fun w => quoteOf_any d q e w)
  rw [hR] at HRA HF
  rw [hQ] at HRA HF HQO
  have hQs : Q.size ≤ 1 := by rw [← hQ]; exact Nat.le_of_eq (oneB_size q)
  rw [← HF.out]
  clear hQ hR hne HF
  go_enter Tryd.func12, Tryd.ntmps12
  go_wp2_with (first
    | (go_at_call 22; with_reducible refine (above (HQO.out _)).mono ?_; rintro x _ ⟨rfl, y, rfl⟩)
    | (go_at_call 23; with_reducible refine (above (HRA.out _)).mono ?_; rintro x _ ⟨rfl, y, rfl⟩))
  go_ret
  exact ⟨rfl, (by (repeat (first | exact Below.refl _ _ | refine up_onto ?_ _ | refine up_alloc ?_ _)))⟩
theorem wriO_need (d q : Int) (s : ByteArray) (al fi : Bool) : wriO d q s al fi = if needB d q s al fi = true then quoO q s else s := by
  unfold wriO needB
  by_cases h : whyN d q (bl s) al fi = 0
  · rw [if_pos h, if_neg (by simp [h])]
  · rw [if_neg h, if_pos (by simp [h])]
set_option maxRecDepth 100000 in
theorem written_any : WrittenSays := by
  intro d q e s al fi w d0 d1 q0 q1 hr hs
  have HN := Lib.hid (fun w => need_any d q e s al fi w d0 d1 q0 q1 hr (by omega))
  have HQ := Lib.hid (fun w => quoted_any d q e s w d0 d1 q0 q1 hr hs)
  rw [wriO_need]
  generalize needB d q s al fi = v at HN ⊢
  obtain ⟨O, hO⟩ : ∃ O, quoO q s = O := ⟨_, rfl⟩
  rw [hO] at HQ ⊢
  clear hO
  cases v
  all_goals
    go_enter Tryd.func14, Tryd.ntmps14
    go_wp2_with (first
      | (go_at_call 24; with_reducible refine (above (HN.out _)).mono ?_; rintro x _ ⟨rfl, y, rfl⟩)
      | (go_at_call 12; with_reducible refine (above (HQ.out _)).mono ?_; rintro x _ ⟨rfl, y, rfl⟩))
    go_ret
    exact ⟨rfl, (by (repeat (first | exact Below.refl _ _ | refine up_onto ?_ _ | refine up_alloc ?_ _)))⟩
/-- How many bytes a field quoted has. -/
theorem quo_count {q : Int} (q0 : 0 ≤ q) (q1 : q ≤ 255) (s : ByteArray) : ((quoO q s).size : Int) = 1 + (s.size : Int) + ((s.data.toList.count (UInt8.ofNat q.toNat) : Nat) : Int) + 1 := by
  have h := congrArg ByteArray.size (quo_repl q0 q1 s)
  rw [ByteArray.size_append, ByteArray.size_append, oneB_size] at h
  have h1 := repl_len (UInt8.ofNat q.toNat) (oneB q ++ oneB q).data.toList s.data.toList
  have h2 : (oneB q ++ oneB q).data.toList.length = 2 := by rw [ByteArray.data_append]; rfl
  have h3 : s.data.toList.length = s.size := (Lib.size_eq s).symm
  have h4 : (⟨(repl (UInt8.ofNat q.toNat) (oneB q ++ oneB q).data.toList s.data.toList).toArray⟩ : ByteArray).size = (repl (UInt8.ofNat q.toNat) (oneB q ++ oneB q).data.toList s.data.toList).length := List.size_toArray ..
  rw [h4] at h
  rw [h2] at h1
  omega
set_option maxRecDepth 100000 in
theorem size_any9 : SizeSays := by
  intro d q e s al fi w d0 d1 q0 q1 hr hs
  have HN := Lib.hid (fun w => need_any d q e s al fi w d0 d1 q0 q1 hr (by omega))
  have HQO := Lib.hid (fun w => quoteOf_any d q e w)
  have HC := Lib.hid (fun w => Tryd.strings_Count_one s (UInt8.ofNat q.toNat) w)
  rw [show (⟨#[UInt8.ofNat q.toNat]⟩ : ByteArray) = oneB q from rfl] at HC
  rw [wriO_need]
  have hcn := quo_count q0 q1 s
  have hcl : s.data.toList.count (UInt8.ofNat q.toNat) ≤ s.size := by rw [Lib.size_eq]; exact List.count_le_length ..
  unfold Lib.countByte at HC
  obtain ⟨Q, hQ⟩ : ∃ Q, oneB q = Q := ⟨_, rfl⟩
  have hQs : Q.size = 1 := by rw [← hQ]; exact oneB_size q
  rw [hQ] at HC HQO
  obtain ⟨O, hO⟩ : ∃ O, quoO q s = O := ⟨_, rfl⟩
  rw [hO] at hcn ⊢
  generalize s.data.toList.count (UInt8.ofNat q.toNat) = k at HC hcn hcl
  generalize needB d q s al fi = v at HN ⊢
  have HCN := Lib.hid hcn
  clear hO hQ hcn
  cases v
  all_goals
    go_enter Tryd.func15, Tryd.ntmps15
    go_wp2_with (first
      | (go_at_call 24; with_reducible refine (above (HN.out _)).mono ?_; rintro x _ ⟨rfl, y, rfl⟩)
      | (go_at_call 22; with_reducible refine (above (HQO.out _)).mono ?_; rintro x _ ⟨rfl, y, rfl⟩)
      | (go_at_call 25; with_reducible refine (HC.out _).mono ?_; rintro x w' ⟨rfl, hw⟩; rw [hw]))
    go_ret
    exact ⟨by first | rfl | exact (ret_int HCN.out).symm, (by (repeat (first | exact Below.refl _ _ | refine up_onto ?_ _ | refine up_alloc ?_ _)))⟩
end Go.Proofs.YtngdmkhinebbdaaDoor

namespace Go.Proofs.YtngdmkhinebbdaaDoor
open Go.ChangeShapes Go.WideShapes Go.ChangeAt Go.RowKit
set_option linter.unusedVariables false
set_option linter.unusedSimpArgs false

/-- Bytes as numbers. -/
def nums (l : List UInt8) : List Int := l.map fun b => (b.toNat : Int)
theorem nums_inj {a b : List UInt8} (h : nums a = nums b) : a = b := by
  have := bl_inj (a := ⟨a.toArray⟩) (b := ⟨b.toArray⟩) h
  have h2 := congrArg (fun x : ByteArray => x.data.toList) this
  simpa using h2
theorem nums_append (a b : List UInt8) : nums (a ++ b) = nums a ++ nums b := List.map_append ..
theorem mem_dbl (q : Int) : ∀ (g : List Int) (x : Int), x ∈ g → x ∈ dbl q g
  | b :: r, x, h => by
    rw [dbl]
    rcases List.mem_cons.1 h with rfl | h
    · split
      · rename_i e; rw [e]; exact List.mem_cons_self ..
      · exact List.mem_cons_self ..
    · have ih := mem_dbl q r x h
      split
      · exact List.mem_cons_of_mem _ (List.mem_cons_of_mem _ ih)
      · exact List.mem_cons_of_mem _ ih
section
variable {d q : Int} {s : ByteArray} {I T : List UInt8}
theorem unq_good (q0 : 0 ≤ q) (q1 : q ≤ 255) (hs : bl s = q :: nums (I ++ [UInt8.ofNat q.toNat])) (hp : I.count (UInt8.ofNat q.toNat) = 2 * pairs (UInt8.ofNat q.toNat) I) : unqO d q s = (⟨(ones (UInt8.ofNat q.toNat) I).toArray⟩, 1, 0) := by
  have h1 := repl_pairs (UInt8.ofNat q.toNat) I.length I (Nat.le_refl _) hp
  have h2 : nums I = dbl q (nums (ones (UInt8.ofNat q.toNat) I)) := by
    have := repl_dbl (UInt8.ofNat q.toNat) (ones (UInt8.ofNat q.toNat) I)
    rw [← h1, byte_back q0 q1] at this
    exact this
  have h3 : bl s = quoL q (nums (ones (UInt8.ofNat q.toNat) I)) := by
    rw [hs, nums_append, h2]
    show q :: (_ ++ [((UInt8.ofNat q.toNat).toNat : Int)]) = _
    rw [byte_back q0 q1]
    rfl
  rw [unqO_quo (by rw [hs]; rfl) h3]
  have := toBA_bl' ⟨(ones (UInt8.ofNat q.toNat) I).toArray⟩
  rw [bl_mk] at this
  unfold nums
  rw [this]
theorem unq_bad (q0 : 0 ≤ q) (q1 : q ≤ 255) (hs : bl s = q :: nums (I ++ [UInt8.ofNat q.toNat])) (hp : I.count (UInt8.ofNat q.toNat) ≠ 2 * pairs (UInt8.ofNat q.toNat) I) : unqO d q s = (⟨#[]⟩, 0, 4) := by
  refine unqO_bad (by rw [hs]; rfl) fun g hg => hp ?_
  have hgb : ∀ x ∈ g, 0 ≤ x ∧ x ≤ 255 := fun x hx => by
    have h1 : x ∈ bl s := by rw [hg]; exact List.mem_cons_of_mem _ (List.mem_append_left _ (mem_dbl q g x hx))
    exact bl_bytes s x h1
  have hG := bl_toBA g hgb
  have h2 : nums (I ++ [UInt8.ofNat q.toNat]) = dbl q g ++ [q] := by rw [hs] at hg; exact (List.cons.inj hg).2
  rw [nums_append, show nums [UInt8.ofNat q.toNat] = [q] from congrArg (· :: []) (byte_back q0 q1)] at h2
  have h3 := List.append_cancel_right h2
  have h4 : I = repl (UInt8.ofNat q.toNat) [UInt8.ofNat q.toNat, UInt8.ofNat q.toNat] (toBA g).data.toList := nums_inj (by
    rw [h3]
    have := repl_dbl (UInt8.ofNat q.toNat) (toBA g).data.toList
    rw [byte_back q0 q1] at this
    unfold nums
    rw [this]
    show _ = dbl q (bl (toBA g))
    rw [hG])
  have h5 := (pairs_repl (UInt8.ofNat q.toNat) (toBA g).data.toList).1
  rw [← h4] at h5
  exact h5.symm
theorem unq_open (q0 : 0 ≤ q) (q1 : q ≤ 255) (hs : bl s = q :: nums T) (hp : Lib.hasSuffix T [UInt8.ofNat q.toNat] = false) : unqO d q s = (⟨#[]⟩, 0, 4) := by
  refine unqO_bad (by rw [hs]; rfl) fun g hg => ?_
  have h2 : nums T = dbl q g ++ [q] := by rw [hs] at hg; exact (List.cons.inj hg).2
  have hne : T ≠ [] := fun e => by rw [e] at h2; simp [nums] at h2
  refine unq_nosuffix hp (T.dropLast) ?_
  have h3 : T = T.dropLast ++ [T.getLast hne] := (List.dropLast_concat_getLast hne).symm
  have h4 : nums T = nums T.dropLast ++ [((T.getLast hne).toNat : Int)] := (congrArg nums h3).trans (nums_append _ _)
  rw [h4] at h2
  have h5 := List.append_inj_right' h2 rfl
  have h6 : T.getLast hne = UInt8.ofNat q.toNat := UInt8.toNat_inj.1 (by
    have := (List.cons.inj h5).1
    have := byte_back q0 q1
    omega)
  rw [← h6]; exact h3
end
theorem bl_tail {q : Int} {s : ByteArray} (h : (bl s).head? = some q) : bl s = q :: nums (s.extract 1 s.size).data.toList ∧ 1 ≤ s.size := by
  have h1 := bl_from s 1
  cases hb : bl s with
  | nil => rw [hb] at h; cases h
  | cons x r =>
    rw [hb] at h h1
    injection h with h
    refine ⟨?_, ?_⟩
    · show _ = q :: bl (s.extract 1 s.size)
      rw [h1, h]; rfl
    · rw [← bl_length, hb]; simp
theorem prefix_head {q : Int} (q0 : 0 ≤ q) (q1 : q ≤ 255) (s : ByteArray) : Lib.hasPrefix s.data.toList (oneB q).data.toList = decide ((bl s).head? = some q) := by
  unfold Lib.hasPrefix bl
  show [UInt8.ofNat q.toNat].isPrefixOf s.data.toList = _
  have hb := byte_back q0 q1
  cases s.data.toList with
  | nil => rfl
  | cons b r =>
    rw [Bool.eq_iff_iff]
    simp only [List.isPrefixOf_cons_cons, List.isPrefixOf_nil_left, Bool.and_true, beq_iff_eq, List.map_cons, List.head?_cons, Option.some.injEq, decide_eq_true_eq]
    constructor
    · intro h; rw [← h]; exact hb
    · intro h; exact UInt8.toNat_inj.1 (by omega)
set_option maxRecDepth 100000 in
set_option maxHeartbeats 1600000 in
theorem inQuotes_any (d q e : Int) (s : ByteArray) (q0 : 0 ≤ q) (q1 : q ≤ 255) (hs : s.size ≤ 3000) (h : (bl s).head? = some q) (F : ByteArray) (is er : Int) (hF : unqO d q s = (F, is, er)) (w : World) (hm : MaxInt w) :
    Calls Tryd.prog 27 #[.agg #[.int .u8 d, .int .u8 q, .int .i64 e], .string s] w fun x w' => x = .returned (.tuple #[.string F, .bool (is == 1), .int .i64 er]) ∧ Below w.heap.size w w' := by
  obtain ⟨hbl, h1s⟩ := bl_tail h
  have HQO := Lib.hid (fun w => quoteOf_any d q e w)
  obtain ⟨c, hc⟩ : ∃ c, UInt8.ofNat q.toNat = c := ⟨_, rfl⟩
  have hQd : (oneB q).data.toList = [c] := by rw [← hc]; rfl
  have hQ1 : oneB q = ⟨#[c]⟩ := by rw [← hc]; rfl
  have hg := @unq_good d q s
  have hb := @unq_bad d q s
  have ho := @unq_open d q s
  rw [hc] at hg hb ho
  obtain ⟨Q, hQ⟩ : ∃ Q, oneB q = Q := ⟨_, rfl⟩
  rw [hQ] at HQO hQd hQ1
  have hQs : Q.size = 1 := by rw [hQ1]; rfl
  obtain ⟨t, ht⟩ : ∃ t, s.extract 1 s.size = t := ⟨_, rfl⟩
  rw [ht] at hbl
  have hts : t.size + 1 = s.size := by rw [← ht, ByteArray.size_extract]; omega
  have HCS := Lib.hid (fun w => Tryd.strings_CutSuffix t Q w (by omega))
  rw [hQd] at HCS
  have h1i : (1 : Int) ≤ (s.size : Int) := by omega
  have hsub : ∀ z, (Instr.slice 9 (.string s) (some (.int .i64 1)) none none).run Tryd.prog z = .ok (.string t) z := fun z => by
    have := run_slice_string_from_if (P := Tryd.prog) (w := z) 9 s .i64 1 rfl
    rw [← ht]
    rw [this]
    simp
    omega
  rw [hc] at *
  cases hv : Lib.hasSuffix t.data.toList [c]
  · have hX := ho q0 q1 hbl hv
    rw [hF] at hX
    injection hX with hX1 hX
    injection hX with hX2 hX3
    subst hX1 hX2 hX3
    obtain ⟨I, hI⟩ : ∃ I : ByteArray, (⟨(Lib.trimSuffix t.data.toList [c]).toArray⟩ : ByteArray) = I := ⟨_, rfl⟩
    rw [hv, hI] at HCS
    clear hg hb ho hF hbl hv hI hQ1 hQd hQ hc ht h hts
    go_enter Tryd.func27, Tryd.ntmps27
    go_wp2_with (first
      | (go_at_call 22; with_reducible refine (above (HQO.out _)).mono ?_; rintro x _ ⟨rfl, y, rfl⟩)
      | (go_at_call 40; with_reducible refine (HCS.out _).mono ?_; rintro x w' ⟨rfl, hw⟩; rw [hw]))
    refine bodyPost_ret (v := .tuple #[.string ⟨#[]⟩, .bool false, .int .i64 4]) (by simp [results, Tryd.results27, go_sem]) rfl ⟨rfl, (by (repeat (first | exact Below.refl _ _ | refine up_onto ?_ _ | refine up_alloc ?_ _)))⟩
  · have hsp := unq_suffix hv
    obtain ⟨Il, hIl⟩ : ∃ Il, Lib.trimSuffix t.data.toList [c] = Il := ⟨_, rfl⟩
    rw [hIl] at hsp HCS
    rw [hv] at HCS
    have hbl2 := hbl
    rw [hsp] at hbl2
    obtain ⟨II, hII⟩ : ∃ II : ByteArray, (⟨Il.toArray⟩ : ByteArray) = II := ⟨_, rfl⟩
    have hIId : II.data.toList = Il := by rw [← hII]
    rw [hII] at HCS
    have hIIs : II.size + 1 = t.size := by
      have h1 : t.data.toList.length = t.size := (Lib.size_eq t).symm
      have h2 : II.data.toList.length = II.size := (Lib.size_eq II).symm
      rw [hsp, List.length_append, ← hIId] at h1
      rw [h2] at h1
      exact h1
    have hQQ : (Q ++ Q).data.toList = [c, c] := by rw [ByteArray.data_append, Array.toList_append, hQd]; rfl
    have hQQs : (Q ++ Q).size = 2 := by rw [ByteArray.size_append, hQs]
    have hcp : Lib.countB II (Q ++ Q) = pairs c Il := by
      unfold Lib.countB
      rw [hQQ, hIId]
      exact count_pairs c Il.length Il (Nat.le_refl _)
    have hpl := pairs_le c Il.length Il (Nat.le_refl _)
    have hcl : Il.count c ≤ II.size := by rw [Lib.size_eq, hIId]; exact List.count_le_length ..
    have hrep := replaceAll_ones c Il
    have HC1 := Lib.hid (fun w => Tryd.strings_Count_one II c w)
    have HC2 := Lib.hid (show ∀ w : World, MaxInt w → Calls Tryd.prog 25 #[.string II, .string (Q ++ Q)] w fun e w' => e = .returned (.int .i64 ((pairs c Il : Nat) : Int)) ∧ w' = w from fun w h => h.elim fun m hm => by
      have := Tryd.strings_Count_any II (Q ++ Q) m w (by omega) hm (by omega)
      rw [hcp] at this
      exact this)
    have HRA := Lib.hid (show ∀ w : World, MaxInt w → Calls Tryd.prog 23 #[.string II, .string (Q ++ Q), .string Q] w fun e w' => e = .returned (.string ⟨(ones c Il).toArray⟩) ∧ Below w.heap.size w w' from fun w h => h.elim fun m hm => by
      have := Tryd.strings_ReplaceAll II (Q ++ Q) Q m w (by omega) hm (by omega) (by rw [hcp, hQs]; omega)
      rw [hIId, hQQ, hQd, hrep] at this
      exact this)
    rw [hIId, ← hQ1] at HC1
    unfold Lib.countByte at HC1
    have hQQ2 : (Q ++ Q).size ≤ 2 := by omega
    have hIm : II.size ≤ 3000 := by omega
    by_cases hpe : Il.count c = 2 * pairs c Il
    · have hX := hg q0 q1 hbl2 hpe
      rw [hF] at hX
      injection hX with hX1 hX
      injection hX with hX2 hX3
      subst hX1 hX2 hX3
      rw [hpe] at HC1
      have hpb : pairs c Il ≤ 3000 := by omega
      generalize pairs c Il = k at HC1 HC2 hpb
      rw [show (((2 * k : Nat)) : Int) = 2 * (k : Int) from by omega] at HC1
      have heq : ((2 * (k : Int)) == 2 * (k : Int)) = true := by simp
      obtain ⟨G, hG⟩ : ∃ G : ByteArray, (⟨(ones c Il).toArray⟩ : ByteArray) = G := ⟨_, rfl⟩
      rw [hG] at HRA ⊢
      clear hg hb ho hF hbl hbl2 hv hIl hsp hII hIId hIIs hQQ hQQs hcp hpl hcl hrep hpe hG hQ1 hQd hQ hc ht h hts
      go_enter Tryd.func27, Tryd.ntmps27
      go_wp2_with (first
      | (go_at_call 22; with_reducible refine (above (HQO.out _)).mono ?_; rintro x _ ⟨rfl, y, rfl⟩)
      | (go_at_call 40; with_reducible refine (HCS.out _).mono ?_; rintro x w' ⟨rfl, hw⟩; rw [hw])
      | (go_at_call 25; with_reducible refine (HC1.out _).mono ?_; rintro x w' ⟨rfl, hw⟩; rw [hw])
      | (go_at_call 25; with_reducible refine (HC2.out _ (hm.up (by (repeat (first | exact Below.refl _ _ | refine up_onto ?_ _ | refine up_alloc ?_ _))))).mono ?_; rintro x w' ⟨rfl, hw⟩; rw [hw])
      | (go_at_call 23; with_reducible refine (above (HRA.out _ (hm.up (by (repeat (first | exact Below.refl _ _ | refine up_onto ?_ _ | refine up_alloc ?_ _)))))).mono ?_; rintro x _ ⟨rfl, y, rfl⟩))
      refine bodyPost_ret (v := .tuple #[.string G, .bool true, .int .i64 0]) (by simp [results, Tryd.results27, go_sem]) rfl ⟨rfl, (by (repeat (first | exact Below.refl _ _ | refine up_onto ?_ _ | refine up_alloc ?_ _)))⟩
    · have hX := hb q0 q1 hbl2 hpe
      rw [hF] at hX
      injection hX with hX1 hX
      injection hX with hX2 hX3
      subst hX1 hX2 hX3
      have hpb : pairs c Il ≤ 3000 := by omega
      have hcb : Il.count c ≤ 3000 := by omega
      generalize pairs c Il = k at HC1 HC2 hpb hpe
      generalize Il.count c = j at HC1 hpe hcb
      have heq : (((j : Nat) : Int) == 2 * (k : Int)) = false := beq_eq_false_iff_ne.2 (by omega)
      have hne : (((j : Nat) : Int) != 2 * (k : Int)) = true := by simpa using heq
      clear hg hb ho hF hbl hbl2 hv hIl hsp hII hIId hIIs hQQ hQQs hcp hpl hcl hrep hpe HRA hQ1 hQd hQ hc ht h hts
      go_enter Tryd.func27, Tryd.ntmps27
      go_wp2_with (first
      | (go_at_call 22; with_reducible refine (above (HQO.out _)).mono ?_; rintro x _ ⟨rfl, y, rfl⟩)
      | (go_at_call 40; with_reducible refine (HCS.out _).mono ?_; rintro x w' ⟨rfl, hw⟩; rw [hw])
      | (go_at_call 25; with_reducible refine (HC1.out _).mono ?_; rintro x w' ⟨rfl, hw⟩; rw [hw])
      | (go_at_call 25; with_reducible refine (HC2.out _ (hm.up (by (repeat (first | exact Below.refl _ _ | refine up_onto ?_ _ | refine up_alloc ?_ _))))).mono ?_; rintro x w' ⟨rfl, hw⟩; rw [hw]))
      refine bodyPost_ret (v := .tuple #[.string ⟨#[]⟩, .bool false, .int .i64 4]) (by simp [results, Tryd.results27, go_sem]) rfl ⟨rfl, (by (repeat (first | exact Below.refl _ _ | refine up_onto ?_ _ | refine up_alloc ?_ _)))⟩
theorem need_bare (d q : Int) (s : ByteArray) : needB d q s false false = (hasL (bl s) d || (hasL (bl s) q || (hasL (bl s) 10 || hasL (bl s) 13))) := by
  unfold needB whyN
  cases hasL (bl s) d <;> cases hasL (bl s) q <;> cases hasL (bl s) 10 <;> cases hasL (bl s) 13 <;> simp
set_option maxRecDepth 100000 in
set_option maxHeartbeats 1600000 in
theorem unquote_any : UnquoteSays := by
  intro d q e s F is er w d0 d1 q0 q1 hr hs hF hm
  have HQO := Lib.hid (fun w => quoteOf_any d q e w)
  have HP := Lib.hid (fun w => Tryd.strings_HasPrefix s (oneB q) w)
  rw [prefix_head q0 q1 s] at HP
  obtain ⟨Q, hQ⟩ : ∃ Q, oneB q = Q := ⟨_, rfl⟩
  rw [hQ] at HQO HP
  by_cases h : (bl s).head? = some q
  · have HI := Lib.hid (fun w hm => inQuotes_any d q e s q0 q1 hs h F is er hF w hm)
    rw [decide_eq_true h] at HP
    generalize (is == 1) = v at HI ⊢
    clear hF h hQ
    go_enter Tryd.func16, Tryd.ntmps16
    go_wp2_with (first
      | (go_at_call 22; with_reducible refine (above (HQO.out _)).mono ?_; rintro x _ ⟨rfl, y, rfl⟩)
      | (go_at_call 26; with_reducible refine (HP.out _).mono ?_; rintro x w' ⟨rfl, hw⟩; rw [hw])
      | (go_at_call 27; with_reducible refine (above (HI.out _ (hm.up (by (repeat (first | exact Below.refl _ _ | refine up_onto ?_ _ | refine up_alloc ?_ _)))))).mono ?_; rintro x _ ⟨rfl, y, rfl⟩))
    refine bodyPost_ret (v := .tuple #[.string F, .bool v, .int .i64 er]) (by simp [results, Tryd.results16, go_sem]) rfl ⟨rfl, (by (repeat (first | exact Below.refl _ _ | refine up_onto ?_ _ | refine up_alloc ?_ _)))⟩
  · have HN := Lib.hid (fun w => need_any d q e s false false w d0 d1 q0 q1 hr (by omega))
    rw [decide_eq_false h] at HP
    rw [unqO_bare h (need_bare d q s).symm] at hF
    generalize needB d q s false false = v at HN hF
    clear h hQ
    cases v
    · rw [if_neg (by simp)] at hF
      injection hF with hX1 hX
      injection hX with hX2 hX3
      subst hX1 hX2 hX3
      go_enter Tryd.func16, Tryd.ntmps16
      go_wp2_with (first
        | (go_at_call 22; with_reducible refine (above (HQO.out _)).mono ?_; rintro x _ ⟨rfl, y, rfl⟩)
        | (go_at_call 26; with_reducible refine (HP.out _).mono ?_; rintro x w' ⟨rfl, hw⟩; rw [hw])
        | (go_at_call 24; with_reducible refine (above (HN.out _)).mono ?_; rintro x _ ⟨rfl, y, rfl⟩))
      refine bodyPost_ret (v := .tuple #[.string s, .bool false, .int .i64 0]) (by simp [results, Tryd.results16, go_sem]) rfl ⟨rfl, (by (repeat (first | exact Below.refl _ _ | refine up_onto ?_ _ | refine up_alloc ?_ _)))⟩
    · rw [if_pos rfl] at hF
      injection hF with hX1 hX
      injection hX with hX2 hX3
      subst hX1 hX2 hX3
      go_enter Tryd.func16, Tryd.ntmps16
      go_wp2_with (first
        | (go_at_call 22; with_reducible refine (above (HQO.out _)).mono ?_; rintro x _ ⟨rfl, y, rfl⟩)
        | (go_at_call 26; with_reducible refine (HP.out _).mono ?_; rintro x w' ⟨rfl, hw⟩; rw [hw])
        | (go_at_call 24; with_reducible refine (above (HN.out _)).mono ?_; rintro x _ ⟨rfl, y, rfl⟩))
      refine bodyPost_ret (v := .tuple #[.string ⟨#[]⟩, .bool false, .int .i64 23]) (by simp [results, Tryd.results16, go_sem]) rfl ⟨rfl, (by (repeat (first | exact Below.refl _ _ | refine up_onto ?_ _ | refine up_alloc ?_ _)))⟩
end Go.Proofs.YtngdmkhinebbdaaDoor

namespace Go.Proofs.YtngdmkhinebbdaaDoor
open Go.ChangeShapes Go.WideShapes Go.ChangeAt Go.RowKit
set_option linter.unusedVariables false
set_option linter.unusedSimpArgs false

def itsB : ByteArray := ⟨#[105, 116, 39, 115]⟩
def itsQ : ByteArray := ⟨#[39, 105, 116, 39, 39, 115, 39]⟩
theorem its_unq : unqO 44 39 itsQ = (itsB, 1, 0) := by kernel_rfl
theorem its_quo : quoO 39 itsB = itsQ := by kernel_rfl
set_option maxRecDepth 100000 in
theorem awake9_any : AwakeSays9 := by
  intro w hm
  have HU := Lib.hid (show ∀ w : World, MaxInt w → Calls Tryd.prog 16 #[.agg #[.int .u8 44, .int .u8 39, .int .i64 1], .string ⟨#[39, 105, 116, 39, 39, 115, 39]⟩] w fun x w' => x = .returned (.tuple #[.string ⟨#[105, 116, 39, 115]⟩, .bool true, .int .i64 0]) ∧ Below w.heap.size w w' from fun w h =>
    unquote_any 44 39 1 itsQ itsB 1 0 w (by omega) (by omega) (by omega) (by omega) (by kernel_rfl) (by decide) its_unq h)
  have HQ := Lib.hid (show ∀ w : World, Calls Tryd.prog 12 #[.agg #[.int .u8 44, .int .u8 39, .int .i64 1], .string ⟨#[105, 116, 39, 115]⟩] w fun x w' => x = .returned (.string ⟨#[39, 105, 116, 39, 39, 115, 39]⟩) ∧ Below w.heap.size w w' from fun w => by
    have := quoted_any 44 39 1 itsB w (by omega) (by omega) (by omega) (by omega) (by kernel_rfl) (by decide)
    rw [its_quo] at this
    exact this)
  have HW := Lib.hid hm
  clear hm
  go_enter Tryd.func9, Tryd.ntmps9
  go_wp2_with (first
    | (go_at_call 16; with_reducible refine (above (HU.out _ (HW.out.up (by (repeat (first | exact Below.refl _ _ | refine up_onto ?_ _ | refine up_alloc ?_ _)))))).mono ?_; rintro x _ ⟨rfl, y, rfl⟩)
    | (go_at_call 12; with_reducible refine (above (HQ.out _)).mono ?_; rintro x _ ⟨rfl, y, rfl⟩))
  go_ret
  exact ⟨rfl, (by (repeat (first | exact Below.refl _ _ | refine up_onto ?_ _ | refine up_alloc ?_ _)))⟩
end Go.Proofs.YtngdmkhinebbdaaDoor

/- Layer 1, as far as layer 8 asks the document: Right, End, Ref. Layer 3: contracts of the document's own answers: Has, Strip. Layer 8: contracts of the document's own answers (Has, Why) and of the statements' helpers (one, few). Layer 1: the document's End. Layer 2: contracts of the document's own answers: the bytes of a code point, the length of a text's first sequence. Layer 2: contracts of the document's own answers: which texts are a beginning of a sequence. Layer 2: contracts of the document's own answers: Goes, State, Begin, Whole, Bad. Layer 2: contracts of the document's own answers: Whole, Bad. Layer 1: the program's Check. Layer 1, as far as layer 6 calls it: Check, CheckLimits, Wide; the document's own Right, Fits and how they are asked. -/
import Derived.Test.YtoeanbfemgmgnaaGreatDoorRows
import Derived.Test.YtoeanbfemgmgnaaGreatDoorZk
import Derived.Test.YtoeanbfemgmgnaaGreatDoorZp
import Derived.LoopTactic
namespace Go.Proofs.YtoeanbfemgmgnaaGreatDoor
open Go.ChangeShapes Go.WideShapes Go.ChangeAt Go.RowKit
set_option linter.unusedVariables false
def okB (b : Int) : Bool := decide (b < 128) && (b != 13 && b != 10)
def endB (e : Int) : Bool := e == 1 || (e == 2 || e == 3)
def rightB (d q e : Int) : Bool := okB d && (okB q && (d != q && endB e))
def okR (b : Int) : Bool := !(decide (b < 0) || (decide (127 < b) || (b == 10 || b == 13)))
def rightR (d q e : Int) : Bool := okR d && (okR q && (d != q && endB e))
theorem right_eq (d q e : Int) (d0 : 0 ≤ d) (q0 : 0 ≤ q) : rightR d q e = rightB d q e := by
  have h : ∀ b : Int, 0 ≤ b → okR b = okB b := by
    intro b hb
    rw [Bool.eq_iff_iff]
    simp [okR, okB]
    omega
  simp [rightR, rightB, h d d0, h q q0]

set_option maxHeartbeats 400000 in
theorem ref_any (d q e : Int) (d0 : 0 ≤ d) (d1 : d ≤ 255) (q0 : 0 ≤ q) (q1 : q ≤ 255) (w : World) :
    Calls Tryz.prog 6 #[.agg #[.int .u8 d, .int .u8 q, .int .i64 e]] w fun x w' => x = .returned (.agg #[.int .i64 d, .int .i64 q, .int .i64 e]) ∧ Below w.heap.size w w' := by
  go_enter Tryz.func6, Tryz.ntmps6
  go_wp2
  refine bodyPost_ret (v := .agg #[.int .i64 d, .int .i64 q, .int .i64 e]) (by simp [results, Tryz.results6, go_sem]) rfl ⟨rfl, ((Below.refl _ _).alloc (Nat.le_refl _) _).alloc (by simp) _⟩

set_option maxHeartbeats 400000 in
theorem refRight_any (d q e : Int) (w : World) :
    Calls Tryz.prog 5 #[.agg #[.int .i64 d, .int .i64 q, .int .i64 e]] w fun x w' => x = .returned (.bool (rightR d q e)) ∧ Below w.heap.size w w' := by
  have i0 : ∀ w, (Instr.index 54 (.agg #[.int .i64 d, .int .i64 q]) (.int .i64 0)).run Tryz.prog w = .ok (.int .i64 d) w := fun _ => by kernel_rfl
  have i1 : ∀ w, (Instr.index 54 (.agg #[.int .i64 d, .int .i64 q]) (.int .i64 1)).run Tryz.prog w = .ok (.int .i64 q) w := fun _ => by kernel_rfl
  go_enter Tryz.func5, Tryz.ntmps5
  go_wp2
  go_rounds 3
  all_goals go_ret
  all_goals refine ⟨ret_bool ?_, (Below.refl _ _).alloc (Nat.le_refl _) _⟩
  all_goals go_light
  all_goals clear i0 i1
  all_goals (rw [Bool.eq_iff_iff]; simp [rightR, okR, endB] at *; try omega)
theorem right_ends {d q e : Int} (h : rightB d q e = true) : e = 1 ∨ e = 2 ∨ e = 3 := by
  simp only [rightB, Bool.and_eq_true] at h
  simpa [endB] using h.2.2.2
theorem right_bytes {d q e : Int} (h : rightB d q e = true) : d < 128 ∧ q < 128 := by
  simp [rightB, okB] at h
  omega

theorem refRight_is (d q e : Int) (v : Bool) (hv : Hid (rightR d q e = v)) (w : World) :
    Calls Tryz.prog 5 #[.agg #[.int .i64 d, .int .i64 q, .int .i64 e]] w fun x w' => x = .returned (.bool v) ∧ Below w.heap.size w w' := by
  rw [← hv.out]; exact refRight_any d q e w

end Go.Proofs.YtoeanbfemgmgnaaGreatDoor

namespace Go.Proofs.YtoeanbfemgmgnaaGreatDoor
open Go.ChangeShapes Go.WideShapes Go.ChangeAt Go.RowKit
set_option linter.unusedVariables false

def bomM : ByteArray := ⟨#[239, 187, 191]⟩
theorem bl_bomM : bl bomM = bomMk := rfl

theorem pre_take (p l : List Int) : decide (l.take p.length = p) = p.isPrefixOf l := by
  rw [Bool.eq_iff_iff, decide_eq_true_eq, List.isPrefixOf_iff_prefix]
  exact ⟨fun e => ⟨l.drop p.length, by rw (occs := .pos [1]) [← e]; exact List.take_append_drop _ _⟩, fun ⟨r, hr⟩ => by rw [← hr]; simp⟩
theorem pre_short {p l : List Int} (h : l.length < p.length) : p.isPrefixOf l = false := by
  cases e : p.isPrefixOf l
  · rfl
  · rw [List.isPrefixOf_iff_prefix] at e; have := e.length_le; omega

def cutO (s p : ByteArray) : ByteArray := if (bl p).isPrefixOf (bl s) = true then s.extract p.size s.size else s
def bomO (s : ByteArray) : ByteArray := cutO s bomM
theorem bl_bomO (s : ByteArray) : bl (bomO s) = bomStrip (bl s) := by
  unfold bomO cutO bomStrip
  show _ = if bomHad (bl s) = true then _ else _
  unfold bomHad
  rw [bl_bomM]
  split
  · rw [bl_from]; rfl
  · rfl
/-! ### The document's -/
def mkB (k : Nat) : Int := if k = 0 then 239 else if k = 1 then 187 else 191
theorem has_step {l : List Int} {k : Nat} {x : Int} (hk : k < 3) (hl : l[k]? = some x) (h : (bomMk.take k).isPrefixOf l = true) : (bomMk.take (k + 1)).isPrefixOf l = decide (x = mkB k) := by
  have : k = 0 ∨ k = 1 ∨ k = 2 := by omega
  rcases this with rfl | rfl | rfl
  · match l, hl with
    | a :: r, hl => simp at hl; subst hl; by_cases e : a = 239 <;> simp [bomMk, List.isPrefixOf, mkB, e]; exact Ne.symm e
  · match l, hl with
    | a :: b :: r, hl => simp at hl; subst hl; simp [bomMk, List.isPrefixOf] at h; by_cases e : b = 187 <;> simp [bomMk, List.isPrefixOf, mkB, h, e]; exact Ne.symm e
  · match l, hl with
    | a :: b :: c :: r, hl => simp at hl; subst hl; simp [bomMk, List.isPrefixOf] at h; by_cases e : c = 191 <;> simp [bomMk, List.isPrefixOf, mkB, h, e]; exact Ne.symm e
theorem has_no {l : List Int} {k n : Nat} (hkn : k ≤ n) (h : (bomMk.take k).isPrefixOf l = false) : (bomMk.take n).isPrefixOf l = false := by
  cases e : (bomMk.take n).isPrefixOf l
  · rfl
  · rw [List.isPrefixOf_iff_prefix] at e
    have : bomMk.take k <+: l := (List.take_prefix_take_left hkn).trans e
    rw [← List.isPrefixOf_iff_prefix, h] at this; cases this
theorem bl_at (s : ByteArray) (k : Nat) (h : k < s.size) : (bl s)[k]? = some ((s[k].toNat : Nat) : Int) := by
  have h' : k < (bl s).length := by rw [bl_length]; exact h
  rw [List.getElem?_eq_getElem h']
  simp [bl]
  rfl
theorem mk_index (k : Nat) (hk : k < 3) (w : World) : (Instr.index 167 (.agg #[.int .u8 239, .int .u8 187, .int .u8 191]) (.int .i64 k)).run Tryz.prog w = .ok (.int .u8 (mkB k)) w := by
  have h0 : ∀ w, (Instr.index 167 (.agg #[.int .u8 239, .int .u8 187, .int .u8 191]) (.int .i64 0)).run Tryz.prog w = .ok (.int .u8 239) w := fun _ => by kernel_rfl
  have h1 : ∀ w, (Instr.index 167 (.agg #[.int .u8 239, .int .u8 187, .int .u8 191]) (.int .i64 1)).run Tryz.prog w = .ok (.int .u8 187) w := fun _ => by kernel_rfl
  have h2 : ∀ w, (Instr.index 167 (.agg #[.int .u8 239, .int .u8 187, .int .u8 191]) (.int .i64 2)).run Tryz.prog w = .ok (.int .u8 191) w := fun _ => by kernel_rfl
  have : k = 0 ∨ k = 1 ∨ k = 2 := by omega
  rcases this with rfl | rfl | rfl
  · exact h0 w
  · exact h1 w
  · exact h2 w
set_option maxHeartbeats 800000 in
theorem refHas_any (s : ByteArray) (n : Nat) (hn : n ≤ 3) (hs : s.size ≤ maxLen) (w : World) :
    Calls Tryz.prog 83 #[.string s, .int .i64 n] w fun e w' => e = .returned (.bool ((bomMk.take n).isPrefixOf (bl s))) ∧ Below w.heap.size w w' := by
  have hs' : s.size ≤ 9223372036854775807 := hs
  by_cases hsh : s.size < n
  · have hk := pre_short (p := bomMk.take n) (l := bl s) (by rw [bl_length, List.length_take]; simp [bomMk]; omega)
    have HK := Lib.hid hk
    clear hk
    go_enter Tryz.func83, Tryz.ntmps83
    go_wp2_with fail
    go_ret
    rw [HK.out]
    exact ⟨rfl, Below.refl _ _⟩
  · go_enter Tryz.func83, Tryz.ntmps83
    go_wp2_with fail
    go_loopw [5] (fun i wr => ∃ k : Nat, k ≤ n ∧ i = .int .i64 k ∧ Hid ((bomMk.take k).isPrefixOf (bl s) = true) ∧ ∃ y, wr = onto w y) (fun i _ => n - (intOf i).toNat)
    case atStart => exact ⟨0, by omega, rfl, Lib.hid rfl, onto_self w⟩
    case round =>
      obtain ⟨k, hk, rfl, HK, y, rfl⟩ := hrel
      by_cases hlt : k < n
      · have hks : k < s.size := by omega
        have hks' : (k : Int) < s.size := by omega
        have hst := has_step (by omega) (bl_at s k hks) HK.out
        have hix := mk_index k (by omega)
        obtain ⟨x, hx⟩ : ∃ x : Int, mkB k = x := ⟨_, rfl⟩
        rw [hx] at hst hix
        clear hx
        have hkn : decide ((k : Int) < n) = true := decide_eq_true (by omega)
        by_cases he : ((s[k].toNat : Nat) : Int) = x
        · have ht : (bomMk.take (k + 1)).isPrefixOf (bl s) = true := by rw [hst, decide_eq_true he]
          have HT := Lib.hid ht
          have hne : (((s[k].toNat : Nat) : Int) != x) = false := by simp [he]
          clear ht hst he HK
          go_wp2_with fail
          refine wp_region_onto (by kernel_rfl) (by kernel_rfl) ?_
          repeat (go_big_quiet_step (fail))
          refine wpQuiet_nil ?_
          intro _ hw'
          obtain ⟨zz, hw''⟩ := hw'
          subst hw''
          go_wp2_with fail
          go_roundw
          case rel => exact ⟨k + 1, by omega, by go_num, HT, _, rfl⟩
          case measure => simp [intOf]; omega
        · have ht : (bomMk.take n).isPrefixOf (bl s) = false := has_no (k := k + 1) (by omega) (by rw [hst, decide_eq_false he])
          have HT := Lib.hid ht
          have hne : (((s[k].toNat : Nat) : Int) != x) = true := by simp [he]
          clear ht hst he HK
          go_wp2_with fail
          refine wp_region_onto (by kernel_rfl) (by kernel_rfl) ?_
          repeat (go_big_quiet_step (fail))
          refine wpQuiet_nil ?_
          intro _ hw'
          obtain ⟨zz, hw''⟩ := hw'
          subst hw''
          go_wp2_with fail
          go_ret
          rw [HT.out]
          exact ⟨rfl, (by (repeat (first | exact Below.refl _ _ | refine up_alloc ?_ _ | refine up_onto ?_ _)))⟩
      · obtain rfl : k = n := by omega
        go_wp2_with fail
        go_ret
        rw [HK.out]
        exact ⟨rfl, (by (repeat (first | exact Below.refl _ _ | refine up_alloc ?_ _ | refine up_onto ?_ _)))⟩
theorem refHas_is (s : ByteArray) (n : Nat) (hn : n ≤ 3) (hs : s.size ≤ maxLen) (b : Bool) (hb : Hid ((bomMk.take n).isPrefixOf (bl s) = b)) (w : World) :
    Calls Tryz.prog 83 #[.string s, .int .i64 n] w fun e w' => e = .returned (.bool b) ∧ Below w.heap.size w w' := by
  rw [← hb.out]; exact refHas_any s n hn hs w
end Go.Proofs.YtoeanbfemgmgnaaGreatDoor

namespace Go.Proofs.YtoeanbfemgmgnaaGreatDoor
open Go.ChangeShapes Go.WideShapes Go.ChangeAt Go.RowKit
set_option linter.unusedVariables false

end Go.Proofs.YtoeanbfemgmgnaaGreatDoor

namespace Go.Proofs.YtoeanbfemgmgnaaGreatDoor
open Go.ChangeShapes Go.WideShapes Go.ChangeAt Go.RowKit
set_option linter.unusedVariables false
set_option linter.unusedSimpArgs false

set_option maxHeartbeats 800000 in
theorem ref8Has_any (s : ByteArray) (b : Int) (hs : s.size ≤ maxLen) (w : World) :
    Calls Tryz.prog 82 #[.string s, .int .i64 b] w fun x w' => x = .returned (.bool (hasL (bl s) b)) ∧ Below w.heap.size w w' := by
  have hs' : s.size ≤ 9223372036854775807 := hs
  go_enter Tryz.func82, Tryz.ntmps82
  go_wp2_with fail
  go_loopw [5] (fun i wr => ∃ k : Nat, k ≤ s.size ∧ i = .int .i64 k ∧ Hid (b ∉ (bl s).take k) ∧ Hid (∃ y, wr = onto w y)) (fun i _ => s.size - (intOf i).toNat)
  case atStart => exact ⟨0, by omega, rfl, Lib.hid (by simp), Lib.hid (onto_self w)⟩
  case round =>
    obtain ⟨k, hk, rfl, HK, HY⟩ := hrel
    obtain ⟨y, rfl⟩ := HY.out
    clear HY
    by_cases hlt : k < s.size
    · have hlt' : (k : Int) < s.size := by omega
      have hw64 : wrap64 ((s[k].toNat : Nat) : Int) = ((s[k].toNat : Nat) : Int) := IntWalk.wrap64_in _ ⟨by have := s[k].toNat_lt; omega, by have := s[k].toNat_lt; omega⟩
      have ht : (bl s).take (k + 1) = (bl s).take k ++ [((s[k].toNat : Nat) : Int)] := by rw [List.take_add_one, bl_at s k hlt]; rfl
      by_cases he : ((s[k].toNat : Nat) : Int) = b
      · have hb : (((s[k].toNat : Nat) : Int) == b) = true := by simp [he]
        have HV := Lib.hid (show hasL (bl s) b = true by
          unfold hasL
          rw [decide_eq_true_eq, ← he]
          exact List.mem_of_getElem? (bl_at s k hlt))
        clear ht he
        go_wp2_with fail
        go_ret
        exact ⟨by rw [HV.out]; rfl, onto_below w y⟩
      · have hb : (((s[k].toNat : Nat) : Int) == b) = false := by simp [he]
        have HT := Lib.hid (show b ∉ (bl s).take (k + 1) by rw [ht]; simp; exact ⟨fun h => HK.out h, fun h => he h.symm⟩)
        clear ht he
        go_wp2_with fail
        go_roundw
        case rel => exact ⟨k + 1, by omega, by go_num, HT, Lib.hid ⟨_, rfl⟩⟩
        case measure => simp [intOf]; omega
    · obtain rfl : k = s.size := by omega
      have HV := Lib.hid (show hasL (bl s) b = false by
        have h1 := HK.out
        rw [List.take_of_length_le (by rw [bl_length]; exact Nat.le_refl _)] at h1
        simpa [hasL] using h1)
      clear hlt
      go_wp2_with fail
      go_ret
      exact ⟨by rw [HV.out]; rfl, onto_below w y⟩
theorem ref8Has_is (s : ByteArray) (b : Int) (hs : s.size ≤ maxLen) (v : Bool) (hv : Hid (hasL (bl s) b = v)) (w : World) :
    Calls Tryz.prog 82 #[.string s, .int .i64 b] w fun x w' => x = .returned (.bool v) ∧ Below w.heap.size w w' := by
  rw [← hv.out]; exact ref8Has_any s b hs w
theorem ref3Has_is (s : ByteArray) (hs : s.size ≤ maxLen) (b : Bool) (hb : Hid ((bomMk.take 3).isPrefixOf (bl s) = b)) (w : World) :
    Calls Tryz.prog 83 #[.string s, .int .i64 3] w fun e w' => e = .returned (.bool b) ∧ Below w.heap.size w w' := refHas_is s 3 (by omega) hs b hb w
set_option maxRecDepth 100000 in
set_option maxHeartbeats 1600000 in
theorem ref8Why_any (d q e : Int) (s : ByteArray) (al fi : Bool) (hs : s.size ≤ maxLen) (W : Int) (hW : Hid (whyN d q (bl s) al fi = W)) (w : World) :
    Calls Tryz.prog 67 #[.agg #[.int .i64 d, .int .i64 q, .int .i64 e], .string s, .int .i64 (numB al), .int .i64 (numB fi)] w fun x w' => x = .returned (.int .i64 W) ∧ Below w.heap.size w w' := by
  have hs' : s.size ≤ 9223372036854775807 := hs
  obtain ⟨v1, h1⟩ : ∃ v, hasL (bl s) d = v := ⟨_, rfl⟩
  obtain ⟨v2, h2⟩ : ∃ v, hasL (bl s) q = v := ⟨_, rfl⟩
  obtain ⟨v3, h3⟩ : ∃ v, hasL (bl s) 13 = v := ⟨_, rfl⟩
  obtain ⟨v4, h4⟩ : ∃ v, hasL (bl s) 10 = v := ⟨_, rfl⟩
  obtain ⟨v5, h5⟩ : ∃ v, (bomMk.take 3).isPrefixOf (bl s) = v := ⟨_, rfl⟩
  have H1 := Lib.hid h1
  have H2 := Lib.hid h2
  have H3 := Lib.hid h3
  have H4 := Lib.hid h4
  have H5 := Lib.hid h5
  obtain ⟨v6, h6⟩ : ∃ v, ((s.size : Int) == 0) = v := ⟨_, rfl⟩
  have hwhy : W = if v1 = true then 1 else if v2 = true then 2 else if (v3 || v4) = true then 3 else if v6 = true ∧ al = true then 4 else if fi = true ∧ v5 = true then 5 else 0 := by
    rw [← hW.out, whyN, h1, h2, h3, h4]
    have e5 : bomHad (bl s) = v5 := h5
    rw [e5]
    have e6 : bl s = [] ↔ v6 = true := by
      rw [← h6, beq_iff_eq]
      constructor
      · intro h
        have h9 : (bl s).length = 0 := by rw [h]; rfl
        rw [bl_length] at h9; omega
      · intro h; exact List.eq_nil_of_length_eq_zero (by rw [bl_length]; omega)
    simp only [e6]
  have HW := Lib.hid hwhy
  clear h1 h2 h3 h4 h5 hwhy hW
  have n1 : numB true = 1 := rfl
  have n0 : numB false = 0 := rfl
  cases v1
  case true =>
    have HV := Lib.hid (show W = 1 by rw [HW.out]; rfl)
    clear HW
    go_enter Tryz.func67, Tryz.ntmps67
    go_wp2_with (first | (go_at_call 82; with_reducible refine (above (ref8Has_is s d hs _ H1 _)).mono ?_; rintro x _ ⟨rfl, y, rfl⟩))
    all_goals go_ret
    all_goals exact ⟨by rw [HV.out]; rfl, (by (repeat (first | exact Below.refl _ _ | refine up_onto ?_ _ | refine up_alloc ?_ _)))⟩
  case false =>
   cases v2
   case true =>
    have HV := Lib.hid (show W = 2 by rw [HW.out]; rfl)
    clear HW
    go_enter Tryz.func67, Tryz.ntmps67
    go_wp2_with (first | (go_at_call 82; with_reducible refine (above (ref8Has_is s d hs _ H1 _)).mono ?_; rintro x _ ⟨rfl, y, rfl⟩) | (go_at_call 82; with_reducible refine (above (ref8Has_is s q hs _ H2 _)).mono ?_; rintro x _ ⟨rfl, y, rfl⟩))
    all_goals go_ret
    all_goals exact ⟨by rw [HV.out]; rfl, (by (repeat (first | exact Below.refl _ _ | refine up_onto ?_ _ | refine up_alloc ?_ _)))⟩
   case false =>
    cases v3
    case true =>
     have HV := Lib.hid (show W = 3 by rw [HW.out]; rfl)
     clear HW
     go_enter Tryz.func67, Tryz.ntmps67
     go_wp2_with (first | (go_at_call 82; with_reducible refine (above (ref8Has_is s d hs _ H1 _)).mono ?_; rintro x _ ⟨rfl, y, rfl⟩) | (go_at_call 82; with_reducible refine (above (ref8Has_is s q hs _ H2 _)).mono ?_; rintro x _ ⟨rfl, y, rfl⟩) | (go_at_call 82; with_reducible refine (above (ref8Has_is s 13 hs _ H3 _)).mono ?_; rintro x _ ⟨rfl, y, rfl⟩))
     all_goals go_ret
     all_goals exact ⟨by rw [HV.out]; rfl, (by (repeat (first | exact Below.refl _ _ | refine up_onto ?_ _ | refine up_alloc ?_ _)))⟩
    case false =>
     cases v4
     case true =>
      have HV := Lib.hid (show W = 3 by rw [HW.out]; rfl)
      clear HW
      go_enter Tryz.func67, Tryz.ntmps67
      go_wp2_with (first | (go_at_call 82; with_reducible refine (above (ref8Has_is s d hs _ H1 _)).mono ?_; rintro x _ ⟨rfl, y, rfl⟩) | (go_at_call 82; with_reducible refine (above (ref8Has_is s q hs _ H2 _)).mono ?_; rintro x _ ⟨rfl, y, rfl⟩) | (go_at_call 82; with_reducible refine (above (ref8Has_is s 13 hs _ H3 _)).mono ?_; rintro x _ ⟨rfl, y, rfl⟩) | (go_at_call 82; with_reducible refine (above (ref8Has_is s 10 hs _ H4 _)).mono ?_; rintro x _ ⟨rfl, y, rfl⟩))
      all_goals go_ret
      all_goals exact ⟨by rw [HV.out]; rfl, (by (repeat (first | exact Below.refl _ _ | refine up_onto ?_ _ | refine up_alloc ?_ _)))⟩
     case false =>
      cases v6 <;> cases al
      case false.false =>
        rw [n0]
        cases fi
        case false =>
          rw [n0]
          have HV := Lib.hid (show W = 0 by rw [HW.out]; rfl)
          clear HW
          go_enter Tryz.func67, Tryz.ntmps67
          go_wp2_with (first | (go_at_call 82; with_reducible refine (above (ref8Has_is s d hs _ H1 _)).mono ?_; rintro x _ ⟨rfl, y, rfl⟩) | (go_at_call 82; with_reducible refine (above (ref8Has_is s q hs _ H2 _)).mono ?_; rintro x _ ⟨rfl, y, rfl⟩) | (go_at_call 82; with_reducible refine (above (ref8Has_is s 13 hs _ H3 _)).mono ?_; rintro x _ ⟨rfl, y, rfl⟩) | (go_at_call 82; with_reducible refine (above (ref8Has_is s 10 hs _ H4 _)).mono ?_; rintro x _ ⟨rfl, y, rfl⟩) | (go_at_call 83; with_reducible refine (above (ref3Has_is s hs _ H5 _)).mono ?_; rintro x _ ⟨rfl, y, rfl⟩))
          all_goals go_ret
          all_goals exact ⟨by rw [HV.out]; rfl, (by (repeat (first | exact Below.refl _ _ | refine up_onto ?_ _ | refine up_alloc ?_ _)))⟩
        case true =>
          rw [n1]
          cases v5
          case false =>
            have HV := Lib.hid (show W = 0 by rw [HW.out]; rfl)
            clear HW
            go_enter Tryz.func67, Tryz.ntmps67
            go_wp2_with (first | (go_at_call 82; with_reducible refine (above (ref8Has_is s d hs _ H1 _)).mono ?_; rintro x _ ⟨rfl, y, rfl⟩) | (go_at_call 82; with_reducible refine (above (ref8Has_is s q hs _ H2 _)).mono ?_; rintro x _ ⟨rfl, y, rfl⟩) | (go_at_call 82; with_reducible refine (above (ref8Has_is s 13 hs _ H3 _)).mono ?_; rintro x _ ⟨rfl, y, rfl⟩) | (go_at_call 82; with_reducible refine (above (ref8Has_is s 10 hs _ H4 _)).mono ?_; rintro x _ ⟨rfl, y, rfl⟩) | (go_at_call 83; with_reducible refine (above (ref3Has_is s hs _ H5 _)).mono ?_; rintro x _ ⟨rfl, y, rfl⟩))
            all_goals go_ret
            all_goals exact ⟨by rw [HV.out]; rfl, (by (repeat (first | exact Below.refl _ _ | refine up_onto ?_ _ | refine up_alloc ?_ _)))⟩
          case true =>
            have HV := Lib.hid (show W = 5 by rw [HW.out]; rfl)
            clear HW
            go_enter Tryz.func67, Tryz.ntmps67
            go_wp2_with (first | (go_at_call 82; with_reducible refine (above (ref8Has_is s d hs _ H1 _)).mono ?_; rintro x _ ⟨rfl, y, rfl⟩) | (go_at_call 82; with_reducible refine (above (ref8Has_is s q hs _ H2 _)).mono ?_; rintro x _ ⟨rfl, y, rfl⟩) | (go_at_call 82; with_reducible refine (above (ref8Has_is s 13 hs _ H3 _)).mono ?_; rintro x _ ⟨rfl, y, rfl⟩) | (go_at_call 82; with_reducible refine (above (ref8Has_is s 10 hs _ H4 _)).mono ?_; rintro x _ ⟨rfl, y, rfl⟩) | (go_at_call 83; with_reducible refine (above (ref3Has_is s hs _ H5 _)).mono ?_; rintro x _ ⟨rfl, y, rfl⟩))
            all_goals go_ret
            all_goals exact ⟨by rw [HV.out]; rfl, (by (repeat (first | exact Below.refl _ _ | refine up_onto ?_ _ | refine up_alloc ?_ _)))⟩
      case false.true =>
        rw [n1]
        cases fi
        case false =>
          rw [n0]
          have HV := Lib.hid (show W = 0 by rw [HW.out]; rfl)
          clear HW
          go_enter Tryz.func67, Tryz.ntmps67
          go_wp2_with (first | (go_at_call 82; with_reducible refine (above (ref8Has_is s d hs _ H1 _)).mono ?_; rintro x _ ⟨rfl, y, rfl⟩) | (go_at_call 82; with_reducible refine (above (ref8Has_is s q hs _ H2 _)).mono ?_; rintro x _ ⟨rfl, y, rfl⟩) | (go_at_call 82; with_reducible refine (above (ref8Has_is s 13 hs _ H3 _)).mono ?_; rintro x _ ⟨rfl, y, rfl⟩) | (go_at_call 82; with_reducible refine (above (ref8Has_is s 10 hs _ H4 _)).mono ?_; rintro x _ ⟨rfl, y, rfl⟩) | (go_at_call 83; with_reducible refine (above (ref3Has_is s hs _ H5 _)).mono ?_; rintro x _ ⟨rfl, y, rfl⟩))
          all_goals go_ret
          all_goals exact ⟨by rw [HV.out]; rfl, (by (repeat (first | exact Below.refl _ _ | refine up_onto ?_ _ | refine up_alloc ?_ _)))⟩
        case true =>
          rw [n1]
          cases v5
          case false =>
            have HV := Lib.hid (show W = 0 by rw [HW.out]; rfl)
            clear HW
            go_enter Tryz.func67, Tryz.ntmps67
            go_wp2_with (first | (go_at_call 82; with_reducible refine (above (ref8Has_is s d hs _ H1 _)).mono ?_; rintro x _ ⟨rfl, y, rfl⟩) | (go_at_call 82; with_reducible refine (above (ref8Has_is s q hs _ H2 _)).mono ?_; rintro x _ ⟨rfl, y, rfl⟩) | (go_at_call 82; with_reducible refine (above (ref8Has_is s 13 hs _ H3 _)).mono ?_; rintro x _ ⟨rfl, y, rfl⟩) | (go_at_call 82; with_reducible refine (above (ref8Has_is s 10 hs _ H4 _)).mono ?_; rintro x _ ⟨rfl, y, rfl⟩) | (go_at_call 83; with_reducible refine (above (ref3Has_is s hs _ H5 _)).mono ?_; rintro x _ ⟨rfl, y, rfl⟩))
            all_goals go_ret
            all_goals exact ⟨by rw [HV.out]; rfl, (by (repeat (first | exact Below.refl _ _ | refine up_onto ?_ _ | refine up_alloc ?_ _)))⟩
          case true =>
            have HV := Lib.hid (show W = 5 by rw [HW.out]; rfl)
            clear HW
            go_enter Tryz.func67, Tryz.ntmps67
            go_wp2_with (first | (go_at_call 82; with_reducible refine (above (ref8Has_is s d hs _ H1 _)).mono ?_; rintro x _ ⟨rfl, y, rfl⟩) | (go_at_call 82; with_reducible refine (above (ref8Has_is s q hs _ H2 _)).mono ?_; rintro x _ ⟨rfl, y, rfl⟩) | (go_at_call 82; with_reducible refine (above (ref8Has_is s 13 hs _ H3 _)).mono ?_; rintro x _ ⟨rfl, y, rfl⟩) | (go_at_call 82; with_reducible refine (above (ref8Has_is s 10 hs _ H4 _)).mono ?_; rintro x _ ⟨rfl, y, rfl⟩) | (go_at_call 83; with_reducible refine (above (ref3Has_is s hs _ H5 _)).mono ?_; rintro x _ ⟨rfl, y, rfl⟩))
            all_goals go_ret
            all_goals exact ⟨by rw [HV.out]; rfl, (by (repeat (first | exact Below.refl _ _ | refine up_onto ?_ _ | refine up_alloc ?_ _)))⟩
      case true.false =>
        rw [n0]
        cases fi
        case false =>
          rw [n0]
          have HV := Lib.hid (show W = 0 by rw [HW.out]; rfl)
          clear HW
          go_enter Tryz.func67, Tryz.ntmps67
          go_wp2_with (first | (go_at_call 82; with_reducible refine (above (ref8Has_is s d hs _ H1 _)).mono ?_; rintro x _ ⟨rfl, y, rfl⟩) | (go_at_call 82; with_reducible refine (above (ref8Has_is s q hs _ H2 _)).mono ?_; rintro x _ ⟨rfl, y, rfl⟩) | (go_at_call 82; with_reducible refine (above (ref8Has_is s 13 hs _ H3 _)).mono ?_; rintro x _ ⟨rfl, y, rfl⟩) | (go_at_call 82; with_reducible refine (above (ref8Has_is s 10 hs _ H4 _)).mono ?_; rintro x _ ⟨rfl, y, rfl⟩) | (go_at_call 83; with_reducible refine (above (ref3Has_is s hs _ H5 _)).mono ?_; rintro x _ ⟨rfl, y, rfl⟩))
          all_goals go_ret
          all_goals exact ⟨by rw [HV.out]; rfl, (by (repeat (first | exact Below.refl _ _ | refine up_onto ?_ _ | refine up_alloc ?_ _)))⟩
        case true =>
          rw [n1]
          cases v5
          case false =>
            have HV := Lib.hid (show W = 0 by rw [HW.out]; rfl)
            clear HW
            go_enter Tryz.func67, Tryz.ntmps67
            go_wp2_with (first | (go_at_call 82; with_reducible refine (above (ref8Has_is s d hs _ H1 _)).mono ?_; rintro x _ ⟨rfl, y, rfl⟩) | (go_at_call 82; with_reducible refine (above (ref8Has_is s q hs _ H2 _)).mono ?_; rintro x _ ⟨rfl, y, rfl⟩) | (go_at_call 82; with_reducible refine (above (ref8Has_is s 13 hs _ H3 _)).mono ?_; rintro x _ ⟨rfl, y, rfl⟩) | (go_at_call 82; with_reducible refine (above (ref8Has_is s 10 hs _ H4 _)).mono ?_; rintro x _ ⟨rfl, y, rfl⟩) | (go_at_call 83; with_reducible refine (above (ref3Has_is s hs _ H5 _)).mono ?_; rintro x _ ⟨rfl, y, rfl⟩))
            all_goals go_ret
            all_goals exact ⟨by rw [HV.out]; rfl, (by (repeat (first | exact Below.refl _ _ | refine up_onto ?_ _ | refine up_alloc ?_ _)))⟩
          case true =>
            have HV := Lib.hid (show W = 5 by rw [HW.out]; rfl)
            clear HW
            go_enter Tryz.func67, Tryz.ntmps67
            go_wp2_with (first | (go_at_call 82; with_reducible refine (above (ref8Has_is s d hs _ H1 _)).mono ?_; rintro x _ ⟨rfl, y, rfl⟩) | (go_at_call 82; with_reducible refine (above (ref8Has_is s q hs _ H2 _)).mono ?_; rintro x _ ⟨rfl, y, rfl⟩) | (go_at_call 82; with_reducible refine (above (ref8Has_is s 13 hs _ H3 _)).mono ?_; rintro x _ ⟨rfl, y, rfl⟩) | (go_at_call 82; with_reducible refine (above (ref8Has_is s 10 hs _ H4 _)).mono ?_; rintro x _ ⟨rfl, y, rfl⟩) | (go_at_call 83; with_reducible refine (above (ref3Has_is s hs _ H5 _)).mono ?_; rintro x _ ⟨rfl, y, rfl⟩))
            all_goals go_ret
            all_goals exact ⟨by rw [HV.out]; rfl, (by (repeat (first | exact Below.refl _ _ | refine up_onto ?_ _ | refine up_alloc ?_ _)))⟩
      case true.true =>
        rw [n1]
        have HV := Lib.hid (show W = 4 by rw [HW.out]; rfl)
        clear HW
        go_enter Tryz.func67, Tryz.ntmps67
        go_wp2_with (first | (go_at_call 82; with_reducible refine (above (ref8Has_is s d hs _ H1 _)).mono ?_; rintro x _ ⟨rfl, y, rfl⟩) | (go_at_call 82; with_reducible refine (above (ref8Has_is s q hs _ H2 _)).mono ?_; rintro x _ ⟨rfl, y, rfl⟩) | (go_at_call 82; with_reducible refine (above (ref8Has_is s 13 hs _ H3 _)).mono ?_; rintro x _ ⟨rfl, y, rfl⟩) | (go_at_call 82; with_reducible refine (above (ref8Has_is s 10 hs _ H4 _)).mono ?_; rintro x _ ⟨rfl, y, rfl⟩))
        all_goals go_ret
        all_goals exact ⟨by rw [HV.out]; rfl, (by (repeat (first | exact Below.refl _ _ | refine up_onto ?_ _ | refine up_alloc ?_ _)))⟩
end Go.Proofs.YtoeanbfemgmgnaaGreatDoor

namespace Go.Proofs.YtoeanbfemgmgnaaGreatDoor
open Go.ChangeShapes Go.WideShapes Go.ChangeAt Go.RowKit
set_option linter.unusedVariables false
set_option linter.unusedSimpArgs false
def endO (e : Int) : ByteArray := if e = 2 then ⟨#[13, 10]⟩ else ⟨#[10]⟩
theorem refEnd_any (d q e : Int) (w : World) :
    Calls Tryz.prog 47 #[.agg #[.int .i64 d, .int .i64 q, .int .i64 e]] w fun x w' => x = .returned (.string (endO e)) ∧ Below w.heap.size w w' := by
  by_cases h : e = 2
  · have HE := Lib.hid (show endO e = ⟨#[13, 10]⟩ by unfold endO; rw [if_pos h])
    have hb : (e == 2) = true := by simpa using h
    clear h
    go_enter Tryz.func47, Tryz.ntmps47
    go_wp2
    all_goals go_ret
    all_goals exact ⟨by rw [HE.out]; rfl, (by (repeat (first | exact Below.refl _ _ | refine up_alloc ?_ _ | refine up_onto ?_ _)))⟩
  · have HE := Lib.hid (show endO e = ⟨#[10]⟩ by unfold endO; rw [if_neg h])
    have hb : (e == 2) = false := by simpa using h
    clear h
    go_enter Tryz.func47, Tryz.ntmps47
    go_wp2
    all_goals go_ret
    all_goals exact ⟨by rw [HE.out]; rfl, (by (repeat (first | exact Below.refl _ _ | refine up_alloc ?_ _ | refine up_onto ?_ _)))⟩
theorem refEnd_is (d q e : Int) (E : ByteArray) (hE : Hid (endO e = E)) (w : World) :
    Calls Tryz.prog 47 #[.agg #[.int .i64 d, .int .i64 q, .int .i64 e]] w fun x w' => x = .returned (.string E) ∧ Below w.heap.size w w' := by
  rw [← hE.out]; exact refEnd_any d q e w
theorem bl_endO (e : Int) : bl (endO e) = endL e := by
  unfold endO endL; split <;> rfl
end Go.Proofs.YtoeanbfemgmgnaaGreatDoor

namespace Go.Proofs.YtoeanbfemgmgnaaGreatDoor
open Go.ChangeShapes Go.WideShapes Go.ChangeAt Go.RowKit
set_option linter.unusedVariables false

/-- The bytes of a code point. -/
def putL (c : Int) : List Int :=
  if c < 128 then [c] else if c < 2048 then [192 + c / 64, 128 + c % 64] else if c < 65536 then [224 + c / 4096, 128 + c / 64 % 64, 128 + c % 64]
  else [240 + c / 262144, 128 + c / 4096 % 64, 128 + c / 64 % 64, 128 + c % 64]

set_option maxHeartbeats 400000 in
theorem rput02_any (c : Int) (h0 : 0 ≤ c) (h1 : c ≤ 1114111) (w : World) : Calls Tryz.prog 51 #[.int .i64 c] w fun e w' => e = .returned (.string (toBA (putL c))) ∧ Below w.heap.size w w' := by
  have k1 := fun (a : Int) => run_string_list (P := Tryz.prog) w 42 9 5 Tryz.underlying42 Tryz.underlying5 Tryz.underlying9 [a] 5 1 1 rfl
  have k2 := fun (a b : Int) => run_string_list (P := Tryz.prog) w 42 9 5 Tryz.underlying42 Tryz.underlying5 Tryz.underlying9 [a, b] 5 2 2 rfl
  have k3 := fun (a b c : Int) => run_string_list (P := Tryz.prog) w 42 9 5 Tryz.underlying42 Tryz.underlying5 Tryz.underlying9 [a, b, c] 5 3 3 rfl
  have k4 := fun (a b c d : Int) => run_string_list (P := Tryz.prog) w 42 9 5 Tryz.underlying42 Tryz.underlying5 Tryz.underlying9 [a, b, c, d] 5 4 4 rfl
  simp only [List.map_cons, List.map_nil] at k1 k2 k3 k4
  by_cases c1 : c < 128
  · have e : putL c = [c] := by rw [putL, if_pos c1]
    rw [e]; clear e k2 k3 k4
    go_enter Tryz.func51, Tryz.ntmps51
    go_wp2
    go_ret
    exact ⟨rfl, up_alloc (Below.refl _ _) _⟩
  by_cases c2 : c < 2048
  · have e : putL c = [192 + c / 64, 128 + c % 64] := by rw [putL, if_neg c1, if_pos c2]
    rw [e]; clear e k1 k3 k4
    go_enter Tryz.func51, Tryz.ntmps51
    go_wp2
    go_ret
    exact ⟨rfl, up_alloc (Below.refl _ _) _⟩
  by_cases c3 : c < 65536
  · have e : putL c = [224 + c / 4096, 128 + c / 64 % 64, 128 + c % 64] := by rw [putL, if_neg c1, if_neg c2, if_pos c3]
    rw [e]; clear e k1 k2 k4
    go_enter Tryz.func51, Tryz.ntmps51
    go_wp2
    go_ret
    exact ⟨rfl, up_alloc (Below.refl _ _) _⟩
  · have e : putL c = [240 + c / 262144, 128 + c / 4096 % 64, 128 + c / 64 % 64, 128 + c % 64] := by rw [putL, if_neg c1, if_neg c2, if_neg c3]
    rw [e]; clear e k1 k2 k3
    go_enter Tryz.func51, Tryz.ntmps51
    go_wp2
    go_ret
    exact ⟨rfl, up_alloc (Below.refl _ _) _⟩

theorem bl_get (s : ByteArray) (i : Nat) (h : i < s.size) : utB (bl s) i = ((s[i].toNat : Nat) : Int) := by
  unfold utB bl
  rw [List.getElem?_eq_getElem (by rw [List.length_map]; exact h)]
  simp
  rfl

theorem putL_bd (c : Int) (h0 : 0 ≤ c) (h1 : c ≤ 1114111) : ∀ x ∈ putL c, 0 ≤ x ∧ x ≤ 255 := by
  intro x hx
  unfold putL at hx
  (repeat' split at hx) <;> (simp only [List.mem_cons, List.not_mem_nil, or_false] at hx; omega)
theorem put_cmp (c : Int) (h0 : 0 ≤ c) (h1 : c ≤ 1114111) (s : ByteArray) (k : Nat) : ((toBA (putL c)).toList == (s.extract 0 k).toList) = decide (putL c = (bl s).take k) := by
  rw [str_eq, bl_toBA _ (putL_bd c h0 h1), bl_take]
theorem take_1 (l : List Int) (h : 1 ≤ l.length) : l.take 1 = [utB l 0] := by
  rcases l with _ | ⟨a, r⟩
  · simp at h
  · simp [utB]
theorem take_2 (l : List Int) (h : 2 ≤ l.length) : l.take 2 = [utB l 0, utB l 1] := by
  rcases l with _ | ⟨a, _ | ⟨b, r⟩⟩
  · simp at h
  · simp at h
  · simp [utB]
theorem take_3 (l : List Int) (h : 3 ≤ l.length) : l.take 3 = [utB l 0, utB l 1, utB l 2] := by
  rcases l with _ | ⟨a, _ | ⟨b, _ | ⟨c, r⟩⟩⟩
  · simp at h
  · simp at h
  · simp at h
  · simp [utB]
theorem take_4 (l : List Int) (h : 4 ≤ l.length) : l.take 4 = [utB l 0, utB l 1, utB l 2, utB l 3] := by
  rcases l with _ | ⟨a, _ | ⟨b, _ | ⟨c, _ | ⟨d, r⟩⟩⟩⟩
  · simp at h
  · simp at h
  · simp at h
  · simp at h
  · simp [utB]
/-- A code point that may be. -/
def utV (c : Int) : Prop := 0 ≤ c ∧ c ≤ 1114111 ∧ (c < 55296 ∨ 57343 < c)
theorem put_1 (a c : Int) (ha : 0 ≤ a ∧ a ≤ 255) (hc : a = c) : utV c ∧ (putL c = [a] ↔ utS1 a) := by
  subst hc
  refine ⟨by unfold utV; omega, ?_⟩
  unfold putL utS1
  (repeat' split) <;> simp <;> omega
theorem put_2 (a b c : Int) (ha : 0 ≤ a ∧ a ≤ 255) (hb : 0 ≤ b ∧ b ≤ 255) (hc : (a - 192) * 64 + b - 128 = c) : (utV c → (putL c = [a, b] ↔ utS2 a b)) ∧ (¬ utV c → ¬ utS2 a b) := by
  unfold utV utS2 putL
  refine ⟨fun hv => ?_, by omega⟩
  (repeat' split) <;> simp <;> omega
theorem put_3 (a b x c : Int) (ha : 0 ≤ a ∧ a ≤ 255) (hb : 0 ≤ b ∧ b ≤ 255) (hx : 0 ≤ x ∧ x ≤ 255) (hc : (a - 224) * 4096 + (b - 128) * 64 + x - 128 = c) : (utV c → (putL c = [a, b, x] ↔ utS3 a b x)) ∧ (¬ utV c → ¬ utS3 a b x) := by
  unfold utV utS3 utP3 putL
  refine ⟨fun hv => ?_, by omega⟩
  (repeat' split) <;> simp <;> omega
theorem put_4 (a b x y c : Int) (ha : 0 ≤ a ∧ a ≤ 255) (hb : 0 ≤ b ∧ b ≤ 255) (hx : 0 ≤ x ∧ x ≤ 255) (hy : 0 ≤ y ∧ y ≤ 255) (hc : (a - 240) * 262144 + (b - 128) * 4096 + (x - 128) * 64 + y - 128 = c) : (utV c → (putL c = [a, b, x, y] ↔ utS4 a b x y)) ∧ (¬ utV c → ¬ utS4 a b x y) := by
  unfold utV utS4 utP4 putL
  refine ⟨fun hv => ?_, by omega⟩
  (repeat' split) <;> simp <;> omega
/-- What the loop asks at n bytes. -/
theorem utHit_step (s : ByteArray) (n : Nat) (c : Int) (P : Prop) [Decidable P] (hn : n ≤ s.size) (l : List Int) (hl : (bl s).take n = l) (hh : utHit (bl s) n = decide P) (h : (utV c → (putL c = l ↔ P)) ∧ (¬ utV c → ¬ P)) :
    (utV c → ((toBA (putL c)).toList == (s.extract 0 n).toList) = utHit (bl s) n) ∧ (¬ utV c → utHit (bl s) n = false) := by
  refine ⟨fun hv => ?_, fun hv => ?_⟩
  · rw [put_cmp c hv.1 hv.2.1, hh, hl]
    simp only [h.1 hv]
  · rw [hh]; simpa using h.2 hv
theorem utSize_is (l : List Int) (k : Nat) (h1 : 1 ≤ k) (h4 : k ≤ 4) (hn : ∀ j, 1 ≤ j → j < k → utHit l j = false) (hk : utHit l k = true) : utSize l = k := by
  unfold utSize
  have hcase : k = 1 ∨ k = 2 ∨ k = 3 ∨ k = 4 := by omega
  rcases hcase with rfl | rfl | rfl | rfl
  · rw [if_pos hk]
  · rw [if_neg (by simp [hn 1]), if_pos hk]
  · rw [if_neg (by simp [hn 1]), if_neg (by simp [hn 2]), if_pos hk]
  · rw [if_neg (by simp [hn 1]), if_neg (by simp [hn 2]), if_neg (by simp [hn 3]), if_pos hk]
theorem utHit_short (l : List Int) (j : Nat) (h : l.length < j) : utHit l j = false := by simp [utHit]; omega
theorem utSize_none (l : List Int) (k : Nat) (h : k = 5 ∨ l.length < k) (hn : ∀ j, 1 ≤ j → j < k → utHit l j = false) : utSize l = 0 := by
  have : ∀ j, 1 ≤ j → j ≤ 4 → utHit l j = false := by
    intro j h1 h4
    by_cases hj : j < k
    · exact hn j h1 hj
    · exact utHit_short l j (by omega)
  unfold utSize
  rw [if_neg (by simp [this 1]), if_neg (by simp [this 2]), if_neg (by simp [this 3]), if_neg (by simp [this 4])]
theorem hit_succ (l : List Int) (k k' : Nat) (e : k' = k + 1) (hn : ∀ j, 1 ≤ j → j < k → utHit l j = false) (hk : utHit l k = false) : ∀ j, 1 ≤ j → j < k' → utHit l j = false := by
  subst e
  intro j h1 hj
  by_cases e : j = k
  · subst e; exact hk
  · exact hn j h1 (by omega)

set_option maxHeartbeats 3200000 in
set_option maxRecDepth 100000 in
theorem size_any (s : ByteArray) (hs : s.size ≤ maxLen) (w : World) : Calls Tryz.prog 36 #[.string s] w fun e w' => e = .returned (.int .i64 (utSize (bl s))) ∧ Below w.heap.size w w' := by
  unfold maxLen at hs
  go_enter Tryz.func36, Tryz.ntmps36
  go_wp2_with fail
  go_loopw [3] (fun n wr => ∃ k : Nat, 1 ≤ k ∧ k ≤ 5 ∧ k ≤ s.size + 1 ∧ n = .int .i64 k ∧ Hid (∀ j, 1 ≤ j → j < k → utHit (bl s) j = false) ∧ ∃ y, wr = onto w y) (fun n _ => 5 - (intOf n).toNat)
  case atStart => exact ⟨1, by omega, by omega, by omega, rfl, Lib.hid (by intros; omega), onto_self w⟩
  case round =>
    obtain ⟨k, hk1, hk5, hks, rfl, HN, y, rfl⟩ := hrel
    have hcase : k = 1 ∨ k = 2 ∨ k = 3 ∨ k = 4 ∨ k = 5 := by omega
    clear hk1 hk5
    rcases hcase with rfl | rfl | rfl | rfl | rfl
    · by_cases hle : 1 ≤ s.size
      · have e0 : utB (bl s) 0 = ((s[0].toNat : Nat) : Int) := bl_get s 0 (by omega)
        generalize hx0 : ((s[0].toNat : Nat) : Int) = x0 at *
        have l0 : 0 ≤ x0 := by omega
        have u0 : x0 ≤ 255 := by rw [← hx0]; exact byte_hi _
        have HX0 := Lib.hid e0
        clear e0
        have ht : (bl s).take 1 = [x0] := by rw [take_1 _ (by rw [bl_length]; exact hle), HX0.out]
        have hht : utHit (bl s) 1 = decide (utS1 x0) := by unfold utHit; rw [bl_length, decide_eq_true hle, HX0.out]; rfl
        have HT := Lib.hid ht
        have HHT := Lib.hid hht
        clear ht hht
        have hle' : (1 : Int) ≤ s.size := by omega
        go_wp2_with fail
        obtain ⟨c, hc⟩ : ∃ c, x0 = c := ⟨_, rfl⟩
        have hu := utHit_step s 1 c (utS1 x0) hle _ HT.out HHT.out ⟨fun _ => (put_1 x0 c ⟨l0, u0⟩ hc).2, fun h => absurd (put_1 x0 c ⟨l0, u0⟩ hc).1 h⟩
        subst hc
        have HC := trivial
        have HU := Lib.hid hu
        clear hu
        have hc3 : x0 < 55296 := by omega
        have b0 : decide (0 ≤ x0) = true := decide_eq_true (by omega)
        have b1 : decide (x0 ≤ 1114111) = true := decide_eq_true (by omega)
        have b2 : decide (x0 < 55296) = true := decide_eq_true (by omega)
        have hp := HU.out.1 (by unfold utV; omega)
        have p0 : 0 ≤ x0 := by omega
        have p1 : x0 ≤ 1114111 := by omega
        have HP := Lib.hid hp
        clear hp
        cases hh : utHit (bl s) 1
        · have hq := HP.out
          rw [hh] at hq
          have HH := Lib.hid hh
          clear hh HP HU HC
          refine wp_region_onto (by kernel_rfl) (by kernel_rfl) ?_
          repeat (go_big_quiet_step ((go_at_call 51; exact calls_onto (rput02_any _ (by assumption) (by assumption) _))))
          refine wpQuiet_nil ?_
          intro _ hw'
          obtain ⟨y2, hw''⟩ := hw'
          subst hw''
          go_wp2_with fail
          go_roundw
          case rel => exact ⟨2, by omega, by omega, by omega, rfl, Lib.hid (hit_succ _ 1 2 rfl HN.out HH.out), by first | exact onto_ex _ _ _ | exact ⟨_, rfl⟩⟩
          case measure => simp [intOf]
        · have hq := HP.out
          rw [hh] at hq
          have HH := Lib.hid hh
          clear hh HP HU HC
          refine wp_region_onto (by kernel_rfl) (by kernel_rfl) ?_
          repeat (go_big_quiet_step ((go_at_call 51; exact calls_onto (rput02_any _ (by assumption) (by assumption) _))))
          refine wpQuiet_nil ?_
          intro _ hw'
          obtain ⟨y2, hw''⟩ := hw'
          subst hw''
          go_wp2_with fail
          go_ret
          rw [utSize_is _ 1 (by omega) (by omega) HN.out HH.out]
          exact ⟨rfl, by (repeat (first | exact Below.refl _ _ | refine up_onto ?_ _))⟩
      · have hz : utSize (bl s) = 0 := utSize_none _ 1 (.inr (by rw [bl_length]; omega)) HN.out
        have HZ := Lib.hid hz
        clear hz
        go_wp2_with fail
        go_ret
        rw [HZ.out]
        exact ⟨rfl, by (repeat (first | exact Below.refl _ _ | refine up_onto ?_ _))⟩
    · by_cases hle : 2 ≤ s.size
      · have e0 : utB (bl s) 0 = ((s[0].toNat : Nat) : Int) := bl_get s 0 (by omega)
        have e1 : utB (bl s) 1 = ((s[1].toNat : Nat) : Int) := bl_get s 1 (by omega)
        generalize hx0 : ((s[0].toNat : Nat) : Int) = x0 at *
        generalize hx1 : ((s[1].toNat : Nat) : Int) = x1 at *
        have l0 : 0 ≤ x0 := by omega
        have u0 : x0 ≤ 255 := by rw [← hx0]; exact byte_hi _
        have l1 : 0 ≤ x1 := by omega
        have u1 : x1 ≤ 255 := by rw [← hx1]; exact byte_hi _
        have HX0 := Lib.hid e0
        have HX1 := Lib.hid e1
        clear e0 e1
        have ht : (bl s).take 2 = [x0, x1] := by rw [take_2 _ (by rw [bl_length]; exact hle), HX0.out, HX1.out]
        have hht : utHit (bl s) 2 = decide (utS2 x0 x1) := by unfold utHit; rw [bl_length, decide_eq_true hle, HX0.out, HX1.out]; rfl
        have HT := Lib.hid ht
        have HHT := Lib.hid hht
        clear ht hht
        have hle' : (2 : Int) ≤ s.size := by omega
        go_wp2_with fail
        refine wp_region_onto (by kernel_rfl) (by kernel_rfl) ?_
        repeat (go_big_quiet_step (fail))
        refine wpQuiet_nil ?_
        intro _ hw'
        obtain ⟨y1, hw''⟩ := hw'
        subst hw''
        go_wp2_with fail
        generalize hc : (x0 - 192) * 64 + x1 - 128 = c at *
        have hu := utHit_step s 2 c (utS2 x0 x1) hle _ HT.out HHT.out (put_2 x0 x1 c ⟨l0, u0⟩ ⟨l1, u1⟩ hc)
        have HC := Lib.hid hc
        clear hc
        have HU := Lib.hid hu
        clear hu
        by_cases hc1 : c < 0
        · have b0 : decide (0 ≤ c) = false := decide_eq_false (by omega)
          have hh := HU.out.2 (by unfold utV; omega)
          have HH := Lib.hid hh
          clear hh HU HC
          refine wp_region_onto (by kernel_rfl) (by kernel_rfl) ?_
          repeat (go_big_quiet_step (fail))
          refine wpQuiet_nil ?_
          intro _ hw'
          obtain ⟨y2, hw''⟩ := hw'
          subst hw''
          go_wp2_with fail
          go_roundw
          case rel => exact ⟨3, by omega, by omega, by omega, rfl, Lib.hid (hit_succ _ 2 3 rfl HN.out HH.out), by first | exact onto_ex _ _ _ | exact ⟨_, rfl⟩⟩
          case measure => simp [intOf]
        by_cases hc2 : 1114111 < c
        · have b0 : decide (0 ≤ c) = true := decide_eq_true (by omega)
          have b1 : decide (c ≤ 1114111) = false := decide_eq_false (by omega)
          have hh := HU.out.2 (by unfold utV; omega)
          have HH := Lib.hid hh
          clear hh HU HC
          refine wp_region_onto (by kernel_rfl) (by kernel_rfl) ?_
          repeat (go_big_quiet_step (fail))
          refine wpQuiet_nil ?_
          intro _ hw'
          obtain ⟨y2, hw''⟩ := hw'
          subst hw''
          go_wp2_with fail
          go_roundw
          case rel => exact ⟨3, by omega, by omega, by omega, rfl, Lib.hid (hit_succ _ 2 3 rfl HN.out HH.out), by first | exact onto_ex _ _ _ | exact ⟨_, rfl⟩⟩
          case measure => simp [intOf]
        by_cases hc3 : c < 55296
        · have b0 : decide (0 ≤ c) = true := decide_eq_true (by omega)
          have b1 : decide (c ≤ 1114111) = true := decide_eq_true (by omega)
          have b2 : decide (c < 55296) = true := decide_eq_true (by omega)
          have hp := HU.out.1 (by unfold utV; omega)
          have p0 : 0 ≤ c := by omega
          have p1 : c ≤ 1114111 := by omega
          have HP := Lib.hid hp
          clear hp
          cases hh : utHit (bl s) 2
          · have hq := HP.out
            rw [hh] at hq
            have HH := Lib.hid hh
            clear hh HP HU HC
            refine wp_region_onto (by kernel_rfl) (by kernel_rfl) ?_
            repeat (go_big_quiet_step ((go_at_call 51; exact calls_onto (rput02_any _ (by assumption) (by assumption) _))))
            refine wpQuiet_nil ?_
            intro _ hw'
            obtain ⟨y2, hw''⟩ := hw'
            subst hw''
            go_wp2_with fail
            go_roundw
            case rel => exact ⟨3, by omega, by omega, by omega, rfl, Lib.hid (hit_succ _ 2 3 rfl HN.out HH.out), by first | exact onto_ex _ _ _ | exact ⟨_, rfl⟩⟩
            case measure => simp [intOf]
          · have hq := HP.out
            rw [hh] at hq
            have HH := Lib.hid hh
            clear hh HP HU HC
            refine wp_region_onto (by kernel_rfl) (by kernel_rfl) ?_
            repeat (go_big_quiet_step ((go_at_call 51; exact calls_onto (rput02_any _ (by assumption) (by assumption) _))))
            refine wpQuiet_nil ?_
            intro _ hw'
            obtain ⟨y2, hw''⟩ := hw'
            subst hw''
            go_wp2_with fail
            go_ret
            rw [utSize_is _ 2 (by omega) (by omega) HN.out HH.out]
            exact ⟨rfl, by (repeat (first | exact Below.refl _ _ | refine up_onto ?_ _))⟩
        by_cases hc4 : 57343 < c
        · have b0 : decide (0 ≤ c) = true := decide_eq_true (by omega)
          have b1 : decide (c ≤ 1114111) = true := decide_eq_true (by omega)
          have b2 : decide (c < 55296) = false := decide_eq_false (by omega)
          have b3 : decide (57343 < c) = true := decide_eq_true (by omega)
          have hp := HU.out.1 (by unfold utV; omega)
          have p0 : 0 ≤ c := by omega
          have p1 : c ≤ 1114111 := by omega
          have HP := Lib.hid hp
          clear hp
          cases hh : utHit (bl s) 2
          · have hq := HP.out
            rw [hh] at hq
            have HH := Lib.hid hh
            clear hh HP HU HC
            refine wp_region_onto (by kernel_rfl) (by kernel_rfl) ?_
            repeat (go_big_quiet_step ((go_at_call 51; exact calls_onto (rput02_any _ (by assumption) (by assumption) _))))
            refine wpQuiet_nil ?_
            intro _ hw'
            obtain ⟨y2, hw''⟩ := hw'
            subst hw''
            go_wp2_with fail
            go_roundw
            case rel => exact ⟨3, by omega, by omega, by omega, rfl, Lib.hid (hit_succ _ 2 3 rfl HN.out HH.out), by first | exact onto_ex _ _ _ | exact ⟨_, rfl⟩⟩
            case measure => simp [intOf]
          · have hq := HP.out
            rw [hh] at hq
            have HH := Lib.hid hh
            clear hh HP HU HC
            refine wp_region_onto (by kernel_rfl) (by kernel_rfl) ?_
            repeat (go_big_quiet_step ((go_at_call 51; exact calls_onto (rput02_any _ (by assumption) (by assumption) _))))
            refine wpQuiet_nil ?_
            intro _ hw'
            obtain ⟨y2, hw''⟩ := hw'
            subst hw''
            go_wp2_with fail
            go_ret
            rw [utSize_is _ 2 (by omega) (by omega) HN.out HH.out]
            exact ⟨rfl, by (repeat (first | exact Below.refl _ _ | refine up_onto ?_ _))⟩
        · have b0 : decide (0 ≤ c) = true := decide_eq_true (by omega)
          have b1 : decide (c ≤ 1114111) = true := decide_eq_true (by omega)
          have b2 : decide (c < 55296) = false := decide_eq_false (by omega)
          have b3 : decide (57343 < c) = false := decide_eq_false (by omega)
          have hh := HU.out.2 (by unfold utV; omega)
          have HH := Lib.hid hh
          clear hh HU HC
          refine wp_region_onto (by kernel_rfl) (by kernel_rfl) ?_
          repeat (go_big_quiet_step (fail))
          refine wpQuiet_nil ?_
          intro _ hw'
          obtain ⟨y2, hw''⟩ := hw'
          subst hw''
          go_wp2_with fail
          go_roundw
          case rel => exact ⟨3, by omega, by omega, by omega, rfl, Lib.hid (hit_succ _ 2 3 rfl HN.out HH.out), by first | exact onto_ex _ _ _ | exact ⟨_, rfl⟩⟩
          case measure => simp [intOf]
      · have hz : utSize (bl s) = 0 := utSize_none _ 2 (.inr (by rw [bl_length]; omega)) HN.out
        have HZ := Lib.hid hz
        clear hz
        go_wp2_with fail
        go_ret
        rw [HZ.out]
        exact ⟨rfl, by (repeat (first | exact Below.refl _ _ | refine up_onto ?_ _))⟩
    · by_cases hle : 3 ≤ s.size
      · have e0 : utB (bl s) 0 = ((s[0].toNat : Nat) : Int) := bl_get s 0 (by omega)
        have e1 : utB (bl s) 1 = ((s[1].toNat : Nat) : Int) := bl_get s 1 (by omega)
        have e2 : utB (bl s) 2 = ((s[2].toNat : Nat) : Int) := bl_get s 2 (by omega)
        generalize hx0 : ((s[0].toNat : Nat) : Int) = x0 at *
        generalize hx1 : ((s[1].toNat : Nat) : Int) = x1 at *
        generalize hx2 : ((s[2].toNat : Nat) : Int) = x2 at *
        have l0 : 0 ≤ x0 := by omega
        have u0 : x0 ≤ 255 := by rw [← hx0]; exact byte_hi _
        have l1 : 0 ≤ x1 := by omega
        have u1 : x1 ≤ 255 := by rw [← hx1]; exact byte_hi _
        have l2 : 0 ≤ x2 := by omega
        have u2 : x2 ≤ 255 := by rw [← hx2]; exact byte_hi _
        have HX0 := Lib.hid e0
        have HX1 := Lib.hid e1
        have HX2 := Lib.hid e2
        clear e0 e1 e2
        have ht : (bl s).take 3 = [x0, x1, x2] := by rw [take_3 _ (by rw [bl_length]; exact hle), HX0.out, HX1.out, HX2.out]
        have hht : utHit (bl s) 3 = decide (utS3 x0 x1 x2) := by unfold utHit; rw [bl_length, decide_eq_true hle, HX0.out, HX1.out, HX2.out]; rfl
        have HT := Lib.hid ht
        have HHT := Lib.hid hht
        clear ht hht
        have hle' : (3 : Int) ≤ s.size := by omega
        go_wp2_with fail
        refine wp_region_onto (by kernel_rfl) (by kernel_rfl) ?_
        repeat (go_big_quiet_step (fail))
        refine wpQuiet_nil ?_
        intro _ hw'
        obtain ⟨y1, hw''⟩ := hw'
        subst hw''
        go_wp2_with fail
        generalize hc : (x0 - 224) * 4096 + (x1 - 128) * 64 + x2 - 128 = c at *
        have hu := utHit_step s 3 c (utS3 x0 x1 x2) hle _ HT.out HHT.out (put_3 x0 x1 x2 c ⟨l0, u0⟩ ⟨l1, u1⟩ ⟨l2, u2⟩ hc)
        have HC := Lib.hid hc
        clear hc
        have HU := Lib.hid hu
        clear hu
        by_cases hc1 : c < 0
        · have b0 : decide (0 ≤ c) = false := decide_eq_false (by omega)
          have hh := HU.out.2 (by unfold utV; omega)
          have HH := Lib.hid hh
          clear hh HU HC
          refine wp_region_onto (by kernel_rfl) (by kernel_rfl) ?_
          repeat (go_big_quiet_step (fail))
          refine wpQuiet_nil ?_
          intro _ hw'
          obtain ⟨y2, hw''⟩ := hw'
          subst hw''
          go_wp2_with fail
          go_roundw
          case rel => exact ⟨4, by omega, by omega, by omega, rfl, Lib.hid (hit_succ _ 3 4 rfl HN.out HH.out), by first | exact onto_ex _ _ _ | exact ⟨_, rfl⟩⟩
          case measure => simp [intOf]
        by_cases hc2 : 1114111 < c
        · have b0 : decide (0 ≤ c) = true := decide_eq_true (by omega)
          have b1 : decide (c ≤ 1114111) = false := decide_eq_false (by omega)
          have hh := HU.out.2 (by unfold utV; omega)
          have HH := Lib.hid hh
          clear hh HU HC
          refine wp_region_onto (by kernel_rfl) (by kernel_rfl) ?_
          repeat (go_big_quiet_step (fail))
          refine wpQuiet_nil ?_
          intro _ hw'
          obtain ⟨y2, hw''⟩ := hw'
          subst hw''
          go_wp2_with fail
          go_roundw
          case rel => exact ⟨4, by omega, by omega, by omega, rfl, Lib.hid (hit_succ _ 3 4 rfl HN.out HH.out), by first | exact onto_ex _ _ _ | exact ⟨_, rfl⟩⟩
          case measure => simp [intOf]
        by_cases hc3 : c < 55296
        · have b0 : decide (0 ≤ c) = true := decide_eq_true (by omega)
          have b1 : decide (c ≤ 1114111) = true := decide_eq_true (by omega)
          have b2 : decide (c < 55296) = true := decide_eq_true (by omega)
          have hp := HU.out.1 (by unfold utV; omega)
          have p0 : 0 ≤ c := by omega
          have p1 : c ≤ 1114111 := by omega
          have HP := Lib.hid hp
          clear hp
          cases hh : utHit (bl s) 3
          · have hq := HP.out
            rw [hh] at hq
            have HH := Lib.hid hh
            clear hh HP HU HC
            refine wp_region_onto (by kernel_rfl) (by kernel_rfl) ?_
            repeat (go_big_quiet_step ((go_at_call 51; exact calls_onto (rput02_any _ (by assumption) (by assumption) _))))
            refine wpQuiet_nil ?_
            intro _ hw'
            obtain ⟨y2, hw''⟩ := hw'
            subst hw''
            go_wp2_with fail
            go_roundw
            case rel => exact ⟨4, by omega, by omega, by omega, rfl, Lib.hid (hit_succ _ 3 4 rfl HN.out HH.out), by first | exact onto_ex _ _ _ | exact ⟨_, rfl⟩⟩
            case measure => simp [intOf]
          · have hq := HP.out
            rw [hh] at hq
            have HH := Lib.hid hh
            clear hh HP HU HC
            refine wp_region_onto (by kernel_rfl) (by kernel_rfl) ?_
            repeat (go_big_quiet_step ((go_at_call 51; exact calls_onto (rput02_any _ (by assumption) (by assumption) _))))
            refine wpQuiet_nil ?_
            intro _ hw'
            obtain ⟨y2, hw''⟩ := hw'
            subst hw''
            go_wp2_with fail
            go_ret
            rw [utSize_is _ 3 (by omega) (by omega) HN.out HH.out]
            exact ⟨rfl, by (repeat (first | exact Below.refl _ _ | refine up_onto ?_ _))⟩
        by_cases hc4 : 57343 < c
        · have b0 : decide (0 ≤ c) = true := decide_eq_true (by omega)
          have b1 : decide (c ≤ 1114111) = true := decide_eq_true (by omega)
          have b2 : decide (c < 55296) = false := decide_eq_false (by omega)
          have b3 : decide (57343 < c) = true := decide_eq_true (by omega)
          have hp := HU.out.1 (by unfold utV; omega)
          have p0 : 0 ≤ c := by omega
          have p1 : c ≤ 1114111 := by omega
          have HP := Lib.hid hp
          clear hp
          cases hh : utHit (bl s) 3
          · have hq := HP.out
            rw [hh] at hq
            have HH := Lib.hid hh
            clear hh HP HU HC
            refine wp_region_onto (by kernel_rfl) (by kernel_rfl) ?_
            repeat (go_big_quiet_step ((go_at_call 51; exact calls_onto (rput02_any _ (by assumption) (by assumption) _))))
            refine wpQuiet_nil ?_
            intro _ hw'
            obtain ⟨y2, hw''⟩ := hw'
            subst hw''
            go_wp2_with fail
            go_roundw
            case rel => exact ⟨4, by omega, by omega, by omega, rfl, Lib.hid (hit_succ _ 3 4 rfl HN.out HH.out), by first | exact onto_ex _ _ _ | exact ⟨_, rfl⟩⟩
            case measure => simp [intOf]
          · have hq := HP.out
            rw [hh] at hq
            have HH := Lib.hid hh
            clear hh HP HU HC
            refine wp_region_onto (by kernel_rfl) (by kernel_rfl) ?_
            repeat (go_big_quiet_step ((go_at_call 51; exact calls_onto (rput02_any _ (by assumption) (by assumption) _))))
            refine wpQuiet_nil ?_
            intro _ hw'
            obtain ⟨y2, hw''⟩ := hw'
            subst hw''
            go_wp2_with fail
            go_ret
            rw [utSize_is _ 3 (by omega) (by omega) HN.out HH.out]
            exact ⟨rfl, by (repeat (first | exact Below.refl _ _ | refine up_onto ?_ _))⟩
        · have b0 : decide (0 ≤ c) = true := decide_eq_true (by omega)
          have b1 : decide (c ≤ 1114111) = true := decide_eq_true (by omega)
          have b2 : decide (c < 55296) = false := decide_eq_false (by omega)
          have b3 : decide (57343 < c) = false := decide_eq_false (by omega)
          have hh := HU.out.2 (by unfold utV; omega)
          have HH := Lib.hid hh
          clear hh HU HC
          refine wp_region_onto (by kernel_rfl) (by kernel_rfl) ?_
          repeat (go_big_quiet_step (fail))
          refine wpQuiet_nil ?_
          intro _ hw'
          obtain ⟨y2, hw''⟩ := hw'
          subst hw''
          go_wp2_with fail
          go_roundw
          case rel => exact ⟨4, by omega, by omega, by omega, rfl, Lib.hid (hit_succ _ 3 4 rfl HN.out HH.out), by first | exact onto_ex _ _ _ | exact ⟨_, rfl⟩⟩
          case measure => simp [intOf]
      · have hz : utSize (bl s) = 0 := utSize_none _ 3 (.inr (by rw [bl_length]; omega)) HN.out
        have HZ := Lib.hid hz
        clear hz
        go_wp2_with fail
        go_ret
        rw [HZ.out]
        exact ⟨rfl, by (repeat (first | exact Below.refl _ _ | refine up_onto ?_ _))⟩
    · by_cases hle : 4 ≤ s.size
      · have e0 : utB (bl s) 0 = ((s[0].toNat : Nat) : Int) := bl_get s 0 (by omega)
        have e1 : utB (bl s) 1 = ((s[1].toNat : Nat) : Int) := bl_get s 1 (by omega)
        have e2 : utB (bl s) 2 = ((s[2].toNat : Nat) : Int) := bl_get s 2 (by omega)
        have e3 : utB (bl s) 3 = ((s[3].toNat : Nat) : Int) := bl_get s 3 (by omega)
        generalize hx0 : ((s[0].toNat : Nat) : Int) = x0 at *
        generalize hx1 : ((s[1].toNat : Nat) : Int) = x1 at *
        generalize hx2 : ((s[2].toNat : Nat) : Int) = x2 at *
        generalize hx3 : ((s[3].toNat : Nat) : Int) = x3 at *
        have l0 : 0 ≤ x0 := by omega
        have u0 : x0 ≤ 255 := by rw [← hx0]; exact byte_hi _
        have l1 : 0 ≤ x1 := by omega
        have u1 : x1 ≤ 255 := by rw [← hx1]; exact byte_hi _
        have l2 : 0 ≤ x2 := by omega
        have u2 : x2 ≤ 255 := by rw [← hx2]; exact byte_hi _
        have l3 : 0 ≤ x3 := by omega
        have u3 : x3 ≤ 255 := by rw [← hx3]; exact byte_hi _
        have HX0 := Lib.hid e0
        have HX1 := Lib.hid e1
        have HX2 := Lib.hid e2
        have HX3 := Lib.hid e3
        clear e0 e1 e2 e3
        have ht : (bl s).take 4 = [x0, x1, x2, x3] := by rw [take_4 _ (by rw [bl_length]; exact hle), HX0.out, HX1.out, HX2.out, HX3.out]
        have hht : utHit (bl s) 4 = decide (utS4 x0 x1 x2 x3) := by unfold utHit; rw [bl_length, decide_eq_true hle, HX0.out, HX1.out, HX2.out, HX3.out]; rfl
        have HT := Lib.hid ht
        have HHT := Lib.hid hht
        clear ht hht
        have hle' : (4 : Int) ≤ s.size := by omega
        go_wp2_with fail
        refine wp_region_onto (by kernel_rfl) (by kernel_rfl) ?_
        repeat (go_big_quiet_step (fail))
        refine wpQuiet_nil ?_
        intro _ hw'
        obtain ⟨y1, hw''⟩ := hw'
        subst hw''
        go_wp2_with fail
        generalize hc : (x0 - 240) * 262144 + (x1 - 128) * 4096 + (x2 - 128) * 64 + x3 - 128 = c at *
        have hu := utHit_step s 4 c (utS4 x0 x1 x2 x3) hle _ HT.out HHT.out (put_4 x0 x1 x2 x3 c ⟨l0, u0⟩ ⟨l1, u1⟩ ⟨l2, u2⟩ ⟨l3, u3⟩ hc)
        have HC := Lib.hid hc
        clear hc
        have HU := Lib.hid hu
        clear hu
        by_cases hc1 : c < 0
        · have b0 : decide (0 ≤ c) = false := decide_eq_false (by omega)
          have hh := HU.out.2 (by unfold utV; omega)
          have HH := Lib.hid hh
          clear hh HU HC
          refine wp_region_onto (by kernel_rfl) (by kernel_rfl) ?_
          repeat (go_big_quiet_step (fail))
          refine wpQuiet_nil ?_
          intro _ hw'
          obtain ⟨y2, hw''⟩ := hw'
          subst hw''
          go_wp2_with fail
          go_roundw
          case rel => exact ⟨5, by omega, by omega, by omega, rfl, Lib.hid (hit_succ _ 4 5 rfl HN.out HH.out), by first | exact onto_ex _ _ _ | exact ⟨_, rfl⟩⟩
          case measure => simp [intOf]
        by_cases hc2 : 1114111 < c
        · have b0 : decide (0 ≤ c) = true := decide_eq_true (by omega)
          have b1 : decide (c ≤ 1114111) = false := decide_eq_false (by omega)
          have hh := HU.out.2 (by unfold utV; omega)
          have HH := Lib.hid hh
          clear hh HU HC
          refine wp_region_onto (by kernel_rfl) (by kernel_rfl) ?_
          repeat (go_big_quiet_step (fail))
          refine wpQuiet_nil ?_
          intro _ hw'
          obtain ⟨y2, hw''⟩ := hw'
          subst hw''
          go_wp2_with fail
          go_roundw
          case rel => exact ⟨5, by omega, by omega, by omega, rfl, Lib.hid (hit_succ _ 4 5 rfl HN.out HH.out), by first | exact onto_ex _ _ _ | exact ⟨_, rfl⟩⟩
          case measure => simp [intOf]
        by_cases hc3 : c < 55296
        · have b0 : decide (0 ≤ c) = true := decide_eq_true (by omega)
          have b1 : decide (c ≤ 1114111) = true := decide_eq_true (by omega)
          have b2 : decide (c < 55296) = true := decide_eq_true (by omega)
          have hp := HU.out.1 (by unfold utV; omega)
          have p0 : 0 ≤ c := by omega
          have p1 : c ≤ 1114111 := by omega
          have HP := Lib.hid hp
          clear hp
          cases hh : utHit (bl s) 4
          · have hq := HP.out
            rw [hh] at hq
            have HH := Lib.hid hh
            clear hh HP HU HC
            refine wp_region_onto (by kernel_rfl) (by kernel_rfl) ?_
            repeat (go_big_quiet_step ((go_at_call 51; exact calls_onto (rput02_any _ (by assumption) (by assumption) _))))
            refine wpQuiet_nil ?_
            intro _ hw'
            obtain ⟨y2, hw''⟩ := hw'
            subst hw''
            go_wp2_with fail
            go_roundw
            case rel => exact ⟨5, by omega, by omega, by omega, rfl, Lib.hid (hit_succ _ 4 5 rfl HN.out HH.out), by first | exact onto_ex _ _ _ | exact ⟨_, rfl⟩⟩
            case measure => simp [intOf]
          · have hq := HP.out
            rw [hh] at hq
            have HH := Lib.hid hh
            clear hh HP HU HC
            refine wp_region_onto (by kernel_rfl) (by kernel_rfl) ?_
            repeat (go_big_quiet_step ((go_at_call 51; exact calls_onto (rput02_any _ (by assumption) (by assumption) _))))
            refine wpQuiet_nil ?_
            intro _ hw'
            obtain ⟨y2, hw''⟩ := hw'
            subst hw''
            go_wp2_with fail
            go_ret
            rw [utSize_is _ 4 (by omega) (by omega) HN.out HH.out]
            exact ⟨rfl, by (repeat (first | exact Below.refl _ _ | refine up_onto ?_ _))⟩
        by_cases hc4 : 57343 < c
        · have b0 : decide (0 ≤ c) = true := decide_eq_true (by omega)
          have b1 : decide (c ≤ 1114111) = true := decide_eq_true (by omega)
          have b2 : decide (c < 55296) = false := decide_eq_false (by omega)
          have b3 : decide (57343 < c) = true := decide_eq_true (by omega)
          have hp := HU.out.1 (by unfold utV; omega)
          have p0 : 0 ≤ c := by omega
          have p1 : c ≤ 1114111 := by omega
          have HP := Lib.hid hp
          clear hp
          cases hh : utHit (bl s) 4
          · have hq := HP.out
            rw [hh] at hq
            have HH := Lib.hid hh
            clear hh HP HU HC
            refine wp_region_onto (by kernel_rfl) (by kernel_rfl) ?_
            repeat (go_big_quiet_step ((go_at_call 51; exact calls_onto (rput02_any _ (by assumption) (by assumption) _))))
            refine wpQuiet_nil ?_
            intro _ hw'
            obtain ⟨y2, hw''⟩ := hw'
            subst hw''
            go_wp2_with fail
            go_roundw
            case rel => exact ⟨5, by omega, by omega, by omega, rfl, Lib.hid (hit_succ _ 4 5 rfl HN.out HH.out), by first | exact onto_ex _ _ _ | exact ⟨_, rfl⟩⟩
            case measure => simp [intOf]
          · have hq := HP.out
            rw [hh] at hq
            have HH := Lib.hid hh
            clear hh HP HU HC
            refine wp_region_onto (by kernel_rfl) (by kernel_rfl) ?_
            repeat (go_big_quiet_step ((go_at_call 51; exact calls_onto (rput02_any _ (by assumption) (by assumption) _))))
            refine wpQuiet_nil ?_
            intro _ hw'
            obtain ⟨y2, hw''⟩ := hw'
            subst hw''
            go_wp2_with fail
            go_ret
            rw [utSize_is _ 4 (by omega) (by omega) HN.out HH.out]
            exact ⟨rfl, by (repeat (first | exact Below.refl _ _ | refine up_onto ?_ _))⟩
        · have b0 : decide (0 ≤ c) = true := decide_eq_true (by omega)
          have b1 : decide (c ≤ 1114111) = true := decide_eq_true (by omega)
          have b2 : decide (c < 55296) = false := decide_eq_false (by omega)
          have b3 : decide (57343 < c) = false := decide_eq_false (by omega)
          have hh := HU.out.2 (by unfold utV; omega)
          have HH := Lib.hid hh
          clear hh HU HC
          refine wp_region_onto (by kernel_rfl) (by kernel_rfl) ?_
          repeat (go_big_quiet_step (fail))
          refine wpQuiet_nil ?_
          intro _ hw'
          obtain ⟨y2, hw''⟩ := hw'
          subst hw''
          go_wp2_with fail
          go_roundw
          case rel => exact ⟨5, by omega, by omega, by omega, rfl, Lib.hid (hit_succ _ 4 5 rfl HN.out HH.out), by first | exact onto_ex _ _ _ | exact ⟨_, rfl⟩⟩
          case measure => simp [intOf]
      · have hz : utSize (bl s) = 0 := utSize_none _ 4 (.inr (by rw [bl_length]; omega)) HN.out
        have HZ := Lib.hid hz
        clear hz
        go_wp2_with fail
        go_ret
        rw [HZ.out]
        exact ⟨rfl, by (repeat (first | exact Below.refl _ _ | refine up_onto ?_ _))⟩
    · have hz : utSize (bl s) = 0 := utSize_none _ 5 (.inl rfl) HN.out
      have HZ := Lib.hid hz
      clear hz
      go_wp2_with fail
      go_ret
      rw [HZ.out]
      exact ⟨rfl, by (repeat (first | exact Below.refl _ _ | refine up_onto ?_ _))⟩
end Go.Proofs.YtoeanbfemgmgnaaGreatDoor

namespace Go.Proofs.YtoeanbfemgmgnaaGreatDoor
open Go.ChangeShapes Go.WideShapes Go.ChangeAt Go.RowKit
set_option linter.unusedVariables false

end Go.Proofs.YtoeanbfemgmgnaaGreatDoor

namespace Go.Proofs.YtoeanbfemgmgnaaGreatDoor
open Go.ChangeShapes Go.WideShapes Go.ChangeAt Go.RowKit
set_option linter.unusedVariables false

/-! ### Begin -/
end Go.Proofs.YtoeanbfemgmgnaaGreatDoor

namespace Go.Proofs.YtoeanbfemgmgnaaGreatDoor
open Go.ChangeShapes Go.WideShapes Go.ChangeAt Go.RowKit
set_option linter.unusedVariables false

set_option maxHeartbeats 1600000 in
theorem refWhole_any (s : ByteArray) (hs : s.size ≤ maxLen) (w : World) : Calls Tryz.prog 20 #[.string s] w fun e w' => e = .returned (.int .i64 (utWhole (bl s))) ∧ Below w.heap.size w w' := by
  have hs' : s.size ≤ 9223372036854775807 := hs
  have hl := bl_length s
  have HL := Lib.hid hl
  clear hl
  go_enter Tryz.func20, Tryz.ntmps20
  go_wp2_with fail
  go_loopw [3] (fun a wr => ∃ k : Nat, k ≤ s.size ∧ a = .int .i64 k ∧ Hid (utWhole (bl s) = k + utWhole ((bl s).drop k)) ∧ ∃ y, wr = onto w y) (fun a _ => s.size - (intOf a).toNat)
  case atStart => exact ⟨0, by omega, rfl, Lib.hid (by simp), onto_self w⟩
  case round =>
    obtain ⟨k, hk, rfl, HK, y, rfl⟩ := hrel
    by_cases hlt : k < s.size
    · have hd := bl_from s k
      have hle := utSize_le ((bl s).drop k)
      rw [List.length_drop, HL.out] at hle
      have hsz : (s.extract k s.size).size ≤ maxLen := by
        rw [ByteArray.size_extract]; unfold maxLen; omega
      obtain ⟨n, hn⟩ : ∃ n, utSize ((bl s).drop k) = n := ⟨_, rfl⟩
      rw [hn] at hle
      obtain ⟨hle1, hle2⟩ := hle
      have hv : utSize (bl (s.extract k s.size)) = n := by rw [hd, hn]
      have HN := Lib.hid hn
      have HV := Lib.hid hv
      clear hd hn hv
      by_cases hz : n = 0
      · have hw : utWhole (bl s) = k := by rw [HK.out, utWhole_0 (by rw [HN.out, hz])]; rfl
        have HW := Lib.hid hw
        subst hz
        clear hw HK HN
        go_wp2_with ((go_at_call 36; ((with_reducible refine (above (size_any _ hsz _)).mono ?_); rw [HV.out]; rintro e _ ⟨rfl, v, rfl⟩)))
        go_ret
        rw [HW.out]
        exact ⟨rfl, (by (repeat (first | exact Below.refl _ _ | refine up_alloc ?_ _ | refine up_onto ?_ _)))⟩
      · have hw : utWhole (bl s) = (k + n : Nat) + utWhole ((bl s).drop (k + n)) := by
          rw [HK.out, utWhole_pos (by rw [HN.out]; exact hz), HN.out, List.drop_drop]; omega
        have HW := Lib.hid hw
        have hz' : 0 < n := by omega
        have hz2 : decide (0 < n) = true := decide_eq_true hz'
        have hz3 : decide ((0 : Int) < (n : Int)) = true := decide_eq_true (by omega)
        clear hw HK HN hz
        go_wp2_with ((go_at_call 36; ((with_reducible refine (above (size_any _ hsz _)).mono ?_); rw [HV.out]; rintro e _ ⟨rfl, v, rfl⟩)))
        go_roundw
        case rel => exact ⟨k + n, by omega, by go_num, HW, onto_of (by (repeat (first | exact Below.refl _ _ | refine up_alloc ?_ _ | refine up_onto ?_ _)))⟩
        case measure => simp [intOf]; omega
    · have hw : utWhole (bl s) = k := by
        rw [HK.out, bl_end s k (by omega), utWhole_0 utSize_nil]; rfl
      have HW := Lib.hid hw
      clear hw HK
      go_wp2_with fail
      go_ret
      rw [HW.out]
      exact ⟨rfl, (by (repeat (first | exact Below.refl _ _ | refine up_alloc ?_ _ | refine up_onto ?_ _)))⟩

theorem refWhole_is (s : ByteArray) (hs : s.size ≤ maxLen) (n : Nat) (hn : Hid (utWhole (bl s) = n)) (w : World) : Calls Tryz.prog 20 #[.string s] w fun e w' => e = .returned (.int .i64 n) ∧ Below w.heap.size w w' := by
  rw [← hn.out]; exact refWhole_any s hs w
end Go.Proofs.YtoeanbfemgmgnaaGreatDoor

namespace Go.Proofs.YtoeanbfemgmgnaaGreatDoor
open Go.ChangeShapes Go.WideShapes Go.ChangeAt Go.RowKit
set_option linter.unusedVariables false
set_option linter.unusedSimpArgs false

def wordS (e : Int) : ByteArray := if e = 1 then ⟨#[108, 102]⟩ else if e = 2 then ⟨#[99, 114, 108, 102]⟩ else if e = 3 then ⟨#[101, 105, 116, 104, 101, 114]⟩ else ⟨#[]⟩
set_option maxHeartbeats 400000 in
theorem usable_any (b : Int) (h0 : 0 ≤ b) (h1 : b ≤ 255) (w : World) : Calls Tryz.prog 34 #[.int .u8 b] w fun e w' => e = .returned (.bool (okB b)) ∧ w = w' := by
  go_enter Tryz.func34, Tryz.ntmps34
  go_wp2
  all_goals go_ret
  all_goals exact ⟨ret_bool (by simp [okB]; try omega), rfl⟩

set_option maxHeartbeats 400000 in
theorem word_any (b : Int) (w : World) : Calls Tryz.prog 35 #[.int .i64 b] w fun e w' => e = .returned (.string (wordS b)) ∧ w = w' := by
  go_enter Tryz.func35, Tryz.ntmps35
  go_wp2
  all_goals go_ret
  all_goals exact ⟨ret_string (by simp_all [wordS]), rfl⟩

set_option maxHeartbeats 400000 in
theorem check_yes (d q e : Int) (d0 : 0 ≤ d) (d1 : d ≤ 255) (q0 : 0 ≤ q) (q1 : q ≤ 255) (h : rightB d q e = true) (w : World) :
    Calls Tryz.prog 19 #[.agg #[.int .u8 d, .int .u8 q, .int .i64 e]] w fun x w' => x = .returned (.int .i64 0) ∧ Below w.heap.size w w' := by
  simp only [rightB, Bool.and_eq_true] at h
  obtain ⟨a, b, c, f⟩ := h
  have c' : (d == q) = false := by simpa using c
  have f' : e = 1 ∨ e = 2 ∨ e = 3 := by simpa [endB] using f
  rcases f' with rfl | rfl | rfl
  all_goals
    clear c f
    go_enter Tryz.func19, Tryz.ntmps19
    go_wp2_with (first | (go_at_call 34; refine (usable_any _ (by assumption) (by assumption) _).mono ?_; rintro e w' ⟨rfl, rfl⟩) | (go_at_call 35; refine (word_any _ _).mono ?_; rintro e w' ⟨rfl, rfl⟩; simp only [wordS]))
    go_ret
    exact ⟨rfl, (Below.refl _ _).alloc (Nat.le_refl _) _⟩
set_option maxHeartbeats 400000 in
theorem check_no (d q e : Int) (d0 : 0 ≤ d) (d1 : d ≤ 255) (q0 : 0 ≤ q) (q1 : q ≤ 255) (h : rightB d q e = false) (w : World) :
    Calls Tryz.prog 19 #[.agg #[.int .u8 d, .int .u8 q, .int .i64 e]] w fun x w' => x = .returned (.int .i64 1) ∧ Below w.heap.size w w' := by
  have H := Lib.hid h
  clear h
  by_cases a : okB d = true
  · by_cases b : okB q = true
    · by_cases c : (d == q) = true
      · clear H
        go_enter Tryz.func19, Tryz.ntmps19
        go_wp2_with (first | (go_at_call 34; refine (usable_any _ (by assumption) (by assumption) _).mono ?_; rintro e w' ⟨rfl, rfl⟩) | (go_at_call 35; refine (word_any _ _).mono ?_; rintro e w' ⟨rfl, rfl⟩; simp only [wordS]))
        go_ret
        exact ⟨rfl, (Below.refl _ _).alloc (Nat.le_refl _) _⟩
      · have c' : (d == q) = false := by simpa using c
        have f : endB e = false := by
          have := H.out
          simp only [rightB, a, b, bne, c', Bool.true_and, Bool.not_false] at this
          exact this
        have n : wordS e = ⟨#[]⟩ := by simp [endB] at f; simp [wordS, f]
        have N := Lib.hid n
        clear n f c H
        go_enter Tryz.func19, Tryz.ntmps19
        go_wp2_with (first | (go_at_call 34; refine (usable_any _ (by assumption) (by assumption) _).mono ?_; rintro e w' ⟨rfl, rfl⟩) | (go_at_call 35; refine (word_any _ _).mono ?_; rintro e w' ⟨rfl, rfl⟩; rw [N.out]))
        go_ret
        exact ⟨rfl, (Below.refl _ _).alloc (Nat.le_refl _) _⟩
    · have b' : okB q = false := by simpa using b
      clear b H
      go_enter Tryz.func19, Tryz.ntmps19
      go_wp2_with (first | (go_at_call 34; refine (usable_any _ (by assumption) (by assumption) _).mono ?_; rintro e w' ⟨rfl, rfl⟩))
      go_ret
      exact ⟨rfl, (Below.refl _ _).alloc (Nat.le_refl _) _⟩
  · have a' : okB d = false := by simpa using a
    clear a H
    go_enter Tryz.func19, Tryz.ntmps19
    go_wp2_with (first | (go_at_call 34; refine (usable_any _ (by assumption) (by assumption) _).mono ?_; rintro e w' ⟨rfl, rfl⟩))
    go_ret
    exact ⟨rfl, (Below.refl _ _).alloc (Nat.le_refl _) _⟩
end Go.Proofs.YtoeanbfemgmgnaaGreatDoor

namespace Go.Proofs.YtoeanbfemgmgnaaGreatDoor
open Go.ChangeShapes Go.WideShapes Go.ChangeAt Go.RowKit
set_option linter.unusedVariables false
set_option maxHeartbeats 400000 in
theorem within_any (n : Int) (w : World) : Calls Tryz.prog 91 #[.int .i64 n] w fun e w' => e = .returned (.bool (withinB n)) ∧ w = w' := by
  go_enter Tryz.func91, Tryz.ntmps91
  go_wp2
  all_goals go_ret
  all_goals exact ⟨ret_bool (by simp [withinB]; try omega), rfl⟩

theorem checkLimits_yes (a b c : Int) (u : Bool) (h : (withinB a && (withinB b && withinB c)) = true) (w : World) :
    Calls Tryz.prog 76 #[.agg #[.int .i64 a, .int .i64 b, .int .i64 c, .bool u]] w fun x w' => x = .returned (.int .i64 0) ∧ Below w.heap.size w w' := by
  simp only [Bool.and_eq_true] at h
  obtain ⟨ha, hb, hc⟩ := h
  go_enter Tryz.func76, Tryz.ntmps76
  go_wp2_with (go_at_call 91; refine (within_any _ _).mono ?_; rintro e w' ⟨rfl, rfl⟩)
  go_ret
  exact ⟨rfl, (Below.refl _ _).alloc (Nat.le_refl _) _⟩
theorem checkLimits_no (a b c : Int) (u : Bool) (h : (withinB a && (withinB b && withinB c)) = false) (w : World) :
    Calls Tryz.prog 76 #[.agg #[.int .i64 a, .int .i64 b, .int .i64 c, .bool u]] w fun x w' => x = .returned (.int .i64 2) ∧ Below w.heap.size w w' := by
  have hh : withinB a = false ∨ (withinB a = true ∧ withinB b = false) ∨ (withinB a = true ∧ withinB b = true ∧ withinB c = false) := by
    cases ha : withinB a <;> cases hb : withinB b <;> cases hc : withinB c <;> simp_all
  clear h
  rcases hh with ha | ⟨ha, hb⟩ | ⟨ha, hb, hc⟩
  all_goals
    go_enter Tryz.func76, Tryz.ntmps76
    go_wp2_with (go_at_call 91; refine (within_any _ _).mono ?_; rintro e w' ⟨rfl, rfl⟩)
    go_ret
    exact ⟨rfl, (Below.refl _ _).alloc (Nat.le_refl _) _⟩
end Go.Proofs.YtoeanbfemgmgnaaGreatDoor

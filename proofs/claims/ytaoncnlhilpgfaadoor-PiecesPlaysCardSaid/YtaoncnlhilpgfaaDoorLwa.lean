/- Layer 2 and layer 10: the program's utf.Run, Bad, Valid; its dialect.End; its writable. -/
import Derived.Test.YtaoncnlhilpgfaaDoorCua
import Derived.Test.YtaoncnlhilpgfaaDoorCdc
import Derived.Test.YtaoncnlhilpgfaaDoorQrs
import Derived.Test.YtaoncnlhilpgfaaDoorZp
namespace Go.Proofs.YtaoncnlhilpgfaaDoor
open Go.ChangeShapes Go.WideShapes Go.ChangeAt Go.RowKit
set_option linter.unusedVariables false
set_option linter.unusedSimpArgs false

set_option maxHeartbeats 800000 in
theorem utRun_any (s : Int) (t : ByteArray) (ht : t.size ≤ maxLen) (w : World) : Calls Tryd.prog 58 #[.int .i64 s, .string t] w fun e w' => e = .returned (.tuple #[.int .i64 (utRs s (bl t)), .int .i64 (utRn s (bl t))]) ∧ w = w' := by
  unfold maxLen at ht
  go_enter Tryd.func58, Tryd.ntmps58
  go_wp2_with fail
  go_loop [0, 5] (fun st n => ∃ (k : Nat) (u : Int), k ≤ t.size ∧ n = .int .i64 k ∧ st = .int .i64 u ∧ Hid (utRs s (bl t) = utRs u ((bl t).drop k)) ∧ Hid (utRn s (bl t) = k + utRn u ((bl t).drop k))) (fun _ n => t.size - (intOf n).toNat)
  case atStart => exact ⟨0, s, Nat.zero_le _, rfl, rfl, Lib.hid (by simp), Lib.hid (by simp)⟩
  case round =>
    obtain ⟨k, u, hk, rfl, rfl, H1, H2⟩ := hrel
    by_cases hlt : k < t.size
    · have hd := bl_drop t k hlt
      have HD := Lib.hid hd
      clear hd
      cases ho : utOk u ((t[k].toNat : Nat) : Int)
      · have e1 : utRs s (bl t) = u := by rw [H1.out, HD.out, utRs, if_neg (by simp [ho])]
        have e2 : utRn s (bl t) = k := by rw [H2.out, HD.out, utRn, if_neg (by simp [ho])]; rfl
        have E1 := Lib.hid e1
        have E2 := Lib.hid e2
        clear e1 e2 H1 H2
        go_wp2_with (go_at_call 62; ((with_reducible refine (utStep_any _ _ (byte_lo _) (byte_hi _) _).mono ?_); rintro e w' ⟨rfl, rfl⟩))
        go_ret2
        rw [E1.out, E2.out]
        exact ⟨rfl, rfl⟩
      · have e1 : utRs s (bl t) = utRs (utNx u ((t[k].toNat : Nat) : Int)) ((bl t).drop (k + 1)) := by rw [H1.out, HD.out, utRs, if_pos ho]
        have e2 : utRn s (bl t) = k + 1 + utRn (utNx u ((t[k].toNat : Nat) : Int)) ((bl t).drop (k + 1)) := by rw [H2.out, HD.out, utRn, if_pos ho]; omega
        have E1 := Lib.hid e1
        have E2 := Lib.hid e2
        clear e1 e2 H1 H2
        go_wp2_with (go_at_call 62; ((with_reducible refine (utStep_any _ _ (byte_lo _) (byte_hi _) _).mono ?_); rintro e w' ⟨rfl, rfl⟩))
        go_round
        case rel => exact ⟨k + 1, _, by omega, by go_num, rfl, E1, E2⟩
        case measure => simp [intOf]; omega
    · have e1 : utRs s (bl t) = u := by rw [H1.out, bl_end t k (by omega), utRs]
      have e2 : utRn s (bl t) = k := by rw [H2.out, bl_end t k (by omega), utRn]; rfl
      have E1 := Lib.hid e1
      have E2 := Lib.hid e2
      clear e1 e2 H1 H2
      go_wp2_with fail
      go_ret2
      rw [E1.out, E2.out]
      exact ⟨rfl, rfl⟩

def utBadK (l : List Int) : Int := if utRn 0 l < l.length then 3 else if utRs 0 l = 0 then 0 else 12
def utBadA (l : List Int) : Int := if utRn 0 l < l.length then utRn 0 l else if utRs 0 l = 0 then 0 else utRn 0 l
set_option maxHeartbeats 400000 in
theorem utBad_any (s : ByteArray) (hs : s.size ≤ maxLen) (w : World) : Calls Tryd.prog 53 #[.string s] w fun e w' => e = .returned (.agg #[.int .i64 (utBadK (bl s)), .int .i64 (utBadA (bl s))]) ∧ Below w.heap.size w w' := by
  have hl := bl_length s
  have hr := utRn_le 0 (bl s)
  rw [hl] at hr
  by_cases h : utRn 0 (bl s) < s.size
  · have e1 : utBadK (bl s) = 3 := by rw [utBadK, hl, if_pos h]
    have e2 : utBadA (bl s) = utRn 0 (bl s) := by rw [utBadA, hl, if_pos h]
    rw [e1, e2]
    clear e1 e2 hl
    go_enter Tryd.func53, Tryd.ntmps53
    go_wp2_with (go_at_call 58; ((with_reducible refine (utRun_any _ _ hs _).mono ?_); rintro e w' ⟨rfl, rfl⟩))
    exact bodyPost_ret (v := .agg #[.int .i64 3, .int .i64 (utRn 0 (bl s))]) (by simp [results, Tryd.results53, go_sem]) rfl ⟨rfl, up_alloc (Below.refl _ _) _⟩
  · by_cases h0 : utRs 0 (bl s) = 0
    · have e1 : utBadK (bl s) = 0 := by rw [utBadK, hl, if_neg h, if_pos h0]
      have e2 : utBadA (bl s) = 0 := by rw [utBadA, hl, if_neg h, if_pos h0]
      have h0' : (utRs 0 (bl s) != 0) = false := by simpa using h0
      rw [e1, e2]
      clear e1 e2 hl h0
      go_enter Tryd.func53, Tryd.ntmps53
      go_wp2_with (go_at_call 58; ((with_reducible refine (utRun_any _ _ hs _).mono ?_); rintro e w' ⟨rfl, rfl⟩))
      exact bodyPost_ret (v := .agg #[.int .i64 0, .int .i64 0]) (by simp [results, Tryd.results53, go_sem]) rfl ⟨rfl, up_alloc (Below.refl _ _) _⟩
    · have e1 : utBadK (bl s) = 12 := by rw [utBadK, hl, if_neg h, if_neg h0]
      have e2 : utBadA (bl s) = utRn 0 (bl s) := by rw [utBadA, hl, if_neg h, if_neg h0]
      have h0' : (utRs 0 (bl s) != 0) = true := by simpa using h0
      rw [e1, e2]
      clear e1 e2 hl h0
      go_enter Tryd.func53, Tryd.ntmps53
      go_wp2_with (go_at_call 58; ((with_reducible refine (utRun_any _ _ hs _).mono ?_); rintro e w' ⟨rfl, rfl⟩))
      exact bodyPost_ret (v := .agg #[.int .i64 12, .int .i64 (utRn 0 (bl s))]) (by simp [results, Tryd.results53, go_sem]) rfl ⟨rfl, up_alloc (Below.refl _ _) _⟩

theorem utf_kind (s : ByteArray) : (utBadK (bl s) == 0) = utfB s := by
  unfold utfB utBadK
  rw [Bool.eq_iff_iff, decide_eq_true_eq, beq_iff_eq]
  have hle := utRn_le 0 (bl s)
  have hwl := utWhole_le (bl s)
  have hbl := bl_length s
  constructor
  · intro h
    by_cases h1 : utRn 0 (bl s) < (bl s).length
    · rw [if_pos h1] at h; cases h
    · rw [if_neg h1] at h
      by_cases h2 : utRs 0 (bl s) = 0
      · have := utAll_whole (l := bl s) (by omega) h2
        omega
      · rw [if_neg h2] at h; cases h
  · intro h
    obtain ⟨h1, h2⟩ := utWhole_all (l := bl s) (by omega)
    rw [if_neg (by omega), if_pos h2]

theorem utfValid_any (s : ByteArray) (hs : s.size ≤ maxLen) (v : Bool) (hv : Hid (utfB s = v)) (w : World) : Calls Tryd.prog 43 #[.string s] w fun e w' => e = .returned (.bool v) ∧ Below w.heap.size w w' := by
  have hfld : ∀ (x y : Value) w, (Instr.field 93 (.agg #[x, y]) 0).run Tryd.prog w = .ok x w := fun _ _ _ => by kernel_rfl
  have HK := Lib.hid (show (utBadK (bl s) == 0) = v by rw [utf_kind]; exact hv.out)
  go_enter Tryd.func43, Tryd.ntmps43
  go_wp2_with fail
  refine (utBad_any _ hs _).mono ?_
  rintro e w1 ⟨rfl, hb⟩
  go_wp2_with fail
  go_ret
  exact ⟨congrArg (fun b => Ending.returned (.bool b)) HK.out, hb⟩

set_option maxHeartbeats 400000 in
theorem dEnd_any (d q e : Int) (d0 : 0 ≤ d) (d1 : d ≤ 255) (q0 : 0 ≤ q) (q1 : q ≤ 255) (h : rightB d q e = true) (w : World) :
    Calls Tryd.prog 48 #[.agg #[.int .u8 d, .int .u8 q, .int .i64 e]] w fun x w' => x = .returned (.string (endO e)) ∧ Below w.heap.size w w' := by
  have he : e = 1 ∨ e = 2 ∨ e = 3 := by simp [rightB, endB] at h; omega
  rcases he with rfl | rfl | rfl
  all_goals
    have H := Lib.hid h
    clear h
    go_enter Tryd.func48, Tryd.ntmps48
    go_wp2_with fail
    refine (check_yes _ _ _ d0 d1 q0 q1 H.out _).mono ?_
    rintro x w1 ⟨rfl, hb⟩
    obtain ⟨hc, hf⟩ := bcell hb
    go_wp2_with fail
    go_ret
    exact ⟨rfl, ((Below.refl _ _).alloc (Nat.le_refl _) _).trans (hb.mono (by simp))⟩

theorem mayN_ok {r : List ByteArray} (h0 : r ≠ []) (h : r.all utfB = true) : mayN r = 0 := by unfold mayN; rw [if_neg h0, if_pos h]
theorem mayN_bad {r : List ByteArray} (h0 : r ≠ []) {s : ByteArray} {k : Nat} (h : r[k]? = some s) (hs : utfB s = false) : mayN r = 14 := by
  unfold mayN
  rw [if_neg h0, if_neg]
  intro hall
  have := List.all_eq_true.1 hall s (List.mem_of_getElem? h)
  rw [hs] at this
  cases this

set_option maxHeartbeats 1600000 in
theorem writable_any (A : Option Addr) (n c : Nat) (r : List ByteArray) (hn : n ≤ 1000) (v : Int) (hv : Hid (mayN r = v)) (w : World) (hr : Hid (SlIn w A n (strs r))) (hok : Hid (∀ s ∈ r, s.size ≤ maxLen)) :
    Calls Tryd.prog 38 #[.slice A n c] w fun x w' => x = .returned (.int .i64 v) ∧ Below w.heap.size w w' := by
  have HL := Lib.hid hr.out.lenS
  by_cases h0 : n = 0
  · have HV := Lib.hid (show v = 13 by rw [← hv.out]; have := HL.out; unfold mayN; rw [if_pos (List.length_eq_zero_iff.1 (by omega))])
    subst h0
    go_enter Tryd.func38, Tryd.ntmps38
    go_wp2_with fail
    go_ret
    exact ⟨by rw [HV.out]; rfl, Below.refl _ _⟩
  · have h0' : ((n : Int) == 0) = false := by rw [beq_eq_false_iff_ne]; omega
    have HNE := Lib.hid (show r ≠ [] by intro h; have := HL.out; rw [h] at this; simp at this; omega)
    go_enter Tryd.func38, Tryd.ntmps38
    go_wp2_with fail
    go_loopw [10] (fun i wr => ∃ k : Nat, k ≤ n ∧ i = .int .i64 k ∧ Hid ((r.take k).all utfB = true) ∧ Hid (∃ y, wr = onto w y)) (fun i _ => n - (intOf i).toNat)
    case atStart => exact ⟨0, Nat.zero_le _, rfl, Lib.hid (by simp), Lib.hid (onto_self w)⟩
    case round =>
      obtain ⟨k, hk, rfl, HA, HY⟩ := hrel
      obtain ⟨y, rfl⟩ := HY.out
      clear HY
      by_cases hlt : k < n
      · obtain ⟨s, hs⟩ : ∃ s, r[k]? = some s := ⟨_, List.getElem?_eq_getElem (by rw [HL.out]; exact hlt)⟩
        obtain ⟨a, rfl, hca⟩ := hr.out.at_ (strs_get hs)
        have za : ∀ z, (onto w z).cell? (a.add k) = some (.string s) := fun z => mem_cell (onto_below w z) hca
        have hsz : s.size ≤ maxLen := hok.out s (List.mem_of_getElem? hs)
        have HS := Lib.hid hs
        obtain ⟨u, hu⟩ : ∃ u, utfB s = u := ⟨_, rfl⟩
        have HU := Lib.hid hu
        clear hs hca hu
        cases u
        · have HV := Lib.hid (show v = 14 by rw [← hv.out]; exact mayN_bad HNE.out HS.out HU.out)
          go_wp2_with (go_at_call 43; with_reducible refine (above (utfValid_any s hsz _ HU _)).mono ?_; rintro x _ ⟨rfl, y1, rfl⟩)
          go_ret
          exact ⟨by rw [HV.out]; rfl, up_onto (onto_below w _) _⟩
        · go_wp2_with (go_at_call 43; with_reducible refine (above (utfValid_any s hsz _ HU _)).mono ?_; rintro x _ ⟨rfl, y1, rfl⟩)
          go_roundw
          case rel => exact ⟨k + 1, by omega, by go_num, Lib.hid (by rw [List.take_add_one, HS.out, List.all_append, HA.out]; simpa using HU.out), Lib.hid ⟨_, rfl⟩⟩
          case measure => simp [intOf]; omega
      · obtain rfl : k = n := by omega
        have HV := Lib.hid (show v = 0 by rw [← hv.out]; have := HA.out; rw [List.take_of_length_le (by rw [HL.out]; omega)] at this; exact mayN_ok HNE.out this)
        go_wp2_with fail
        go_ret
        exact ⟨by rw [HV.out]; rfl, onto_below w _⟩
end Go.Proofs.YtaoncnlhilpgfaaDoor

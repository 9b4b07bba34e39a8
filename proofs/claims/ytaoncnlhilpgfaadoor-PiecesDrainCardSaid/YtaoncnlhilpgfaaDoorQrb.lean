/- Layer 10: the document's May, Front, one. -/
import Derived.Test.YtaoncnlhilpgfaaDoorQra
import Derived.Test.YtaoncnlhilpgfaaDoorNdu
import Derived.Test.YtaoncnlhilpgfaaDoorZp
namespace Go.Proofs.YtaoncnlhilpgfaaDoor
open Go.ChangeShapes Go.WideShapes Go.ChangeAt Go.RowKit
set_option linter.unusedVariables false
set_option linter.unusedSimpArgs false

/-- A field is UTF-8. -/
def utfB (s : ByteArray) : Bool := decide (utWhole (bl s) = s.size)
/-- What bars a record. -/
def mayN (r : List ByteArray) : Int := if r = [] then 13 else if r.all utfB = true then 0 else 14
theorem utWhole_le (l : List Int) : utWhole l ≤ l.length := (utWhole_spec l.length l (Nat.le_refl _)).1
/-- How many records may be written. -/
def frontN : List (List ByteArray) → Nat
  | [] => 0
  | r :: t => if mayN r = 0 then frontN t + 1 else 0
theorem one10_b (v : Bool) (w : World) : Calls Tryd.prog 32 #[.bool v] w fun x w' => x = .returned (.int .i64 (numB v)) ∧ Below w.heap.size w w' := by
  cases v
  · go_enter Tryd.func32, Tryd.ntmps32
    go_wp2_with fail
    go_ret
    exact ⟨rfl, Below.refl _ _⟩
  · go_enter Tryd.func32, Tryd.ntmps32
    go_wp2_with fail
    go_ret
    exact ⟨rfl, Below.refl _ _⟩
set_option maxHeartbeats 1600000 in
theorem may_any (A : Option Addr) (n c : Nat) (r : List ByteArray) (hn : n ≤ 9223372036854775807) (w : World) (hr : Hid (SlIn w A n (strs r))) (hok : Hid (∀ s ∈ r, s.size ≤ 140737488351232)) :
    Calls Tryd.prog 22 #[.slice A n c] w fun x w' => x = .returned (.int .i64 (mayN r)) ∧ Below w.heap.size w w' := by
  have HL := Lib.hid hr.out.lenS
  by_cases h0 : n = 0
  · have HV := Lib.hid (show mayN r = 13 by have := HL.out; unfold mayN; rw [if_pos (List.length_eq_zero_iff.1 (by omega))])
    subst h0
    go_enter Tryd.func22, Tryd.ntmps22
    go_wp2_with fail
    go_ret
    exact ⟨by rw [HV.out]; rfl, Below.refl _ _⟩
  · have h0' : ((n : Int) == 0) = false := by rw [beq_eq_false_iff_ne]; omega
    have HNE := Lib.hid (show r ≠ [] by intro h; have := HL.out; rw [h] at this; simp at this; omega)
    go_enter Tryd.func22, Tryd.ntmps22
    go_wp2_with fail
    go_loopw [10] (fun i wr => ∃ k : Nat, k ≤ n ∧ i = .int .i64 k ∧ Hid ((r.take k).all utfB = true) ∧ Hid (∃ y, wr = onto w y)) (fun i _ => n - (intOf i).toNat)
    case atStart => exact ⟨0, Nat.zero_le _, rfl, Lib.hid (by simp), Lib.hid (onto_self w)⟩
    case round =>
      obtain ⟨k, hk, rfl, HA, HY⟩ := hrel
      obtain ⟨y, rfl⟩ := HY.out
      clear HY
      by_cases hlt : k < n
      · obtain ⟨s, hs⟩ : ∃ s, r[k]? = some s := ⟨_, List.getElem?_eq_getElem (by rw [HL.out]; exact hlt)⟩
        obtain ⟨a, rfl, hca⟩ := hr.out.at_ (strs_get hs)
        have za : ∀ z, (onto w z).cell? (a.add k) = some (.string s) := fun z => mem_cell (onto_below w z) hca
        have hsz : s.size ≤ maxLen := by have := hok.out s (List.mem_of_getElem? hs); unfold maxLen; omega
        obtain ⟨u, hu⟩ : ∃ u, utWhole (bl s) = u := ⟨_, rfl⟩
        have HU := Lib.hid hu
        have hle : u ≤ s.size := by have := utWhole_le (bl s); rw [hu, bl_length] at this; exact this
        have HS := Lib.hid hs
        clear hs hca hu
        by_cases hus : u = s.size
        · have HA' := Lib.hid (show (r.take (k + 1)).all utfB = true by
            rw [List.take_add_one, HS.out, List.all_append, HA.out]
            simp [utfB, HU.out, hus])
          have hd : ¬ ((u : Int) < (s.size : Int)) := by omega
          clear hus
          go_wp2_with (go_at_call 31; with_reducible refine (above (refWhole_is s hsz u HU _)).mono ?_; rintro x _ ⟨rfl, y2, rfl⟩)
          go_roundw
          case rel => exact ⟨k + 1, by omega, by go_num, HA', Lib.hid ⟨_, rfl⟩⟩
          case measure => simp [intOf]; omega
        · have HV := Lib.hid (show mayN r = 14 by
            unfold mayN
            rw [if_neg HNE.out, if_neg]
            intro h
            have h1 := List.all_eq_true.1 h s (List.mem_of_getElem? HS.out)
            unfold utfB at h1
            rw [HU.out] at h1
            exact hus (of_decide_eq_true h1))
          have hd : (u : Int) < (s.size : Int) := by omega
          clear hus
          go_wp2_with (go_at_call 31; with_reducible refine (above (refWhole_is s hsz u HU _)).mono ?_; rintro x _ ⟨rfl, y2, rfl⟩)
          go_ret
          exact ⟨by rw [HV.out]; rfl, onto_below w _⟩
      · obtain rfl : k = n := by omega
        have HV := Lib.hid (show mayN r = 0 by
          have h1 := HA.out
          rw [List.take_of_length_le (by rw [HL.out]; omega)] at h1
          unfold mayN
          rw [if_neg HNE.out, if_pos h1])
        clear hlt
        go_wp2_with fail
        go_ret
        exact ⟨by rw [HV.out]; rfl, onto_below w y⟩
theorem may_is (A : Option Addr) (n c : Nat) (r : List ByteArray) (hn : n ≤ 9223372036854775807) (v : Int) (hv : Hid (mayN r = v)) (w : World) (hr : Hid (SlIn w A n (strs r))) (hok : Hid (∀ s ∈ r, s.size ≤ 140737488351232)) :
    Calls Tryd.prog 22 #[.slice A n c] w fun x w' => x = .returned (.int .i64 v) ∧ Below w.heap.size w w' := by
  rw [← hv.out]; exact may_any A n c r hn w hr hok
theorem frontN_le : ∀ t : List (List ByteArray), frontN t ≤ t.length
  | [] => Nat.le_refl _
  | r :: t => by
    unfold frontN; split
    · have := frontN_le t; simp; omega
    · simp
theorem frontN_at : ∀ (t : List (List ByteArray)) (k : Nat), (∀ j r, j < k → t[j]? = some r → mayN r = 0) → k ≤ t.length → (k = t.length ∨ ∃ r, t[k]? = some r ∧ mayN r ≠ 0) → frontN t = k
  | [], k, _, hk, _ => by simp at hk; subst hk; rfl
  | r :: t, 0, _, _, h => by
    rcases h with h | ⟨x, hx, h⟩
    · simp at h
    · simp at hx; subst hx; unfold frontN; rw [if_neg h]
  | r :: t, k + 1, h1, hk, h => by
    have h0 := h1 0 r (by omega) rfl
    unfold frontN
    rw [if_pos h0, frontN_at t k (fun j x hj hx => h1 (j + 1) x (by omega) (by simpa using hx)) (by simpa using hk) (by
      rcases h with h | ⟨x, hx, h⟩
      · exact .inl (by simpa using h)
      · exact .inr ⟨x, by simpa using hx, h⟩)]
theorem frontN_ok : ∀ (t : List (List ByteArray)) (j : Nat) (r : List ByteArray), j < frontN t → t[j]? = some r → mayN r = 0
  | [], j, r, h, _ => by simp [frontN] at h
  | x :: t, j, r, h, hr => by
    unfold frontN at h
    split at h
    · rename_i h0
      cases j with
      | zero => simp at hr; subst hr; exact h0
      | succ j => exact frontN_ok t j r (by omega) (by simpa using hr)
    · omega
set_option maxHeartbeats 1600000 in
theorem front_any (A : Option Addr) (n c : Nat) (V : List Value) (t : List (List ByteArray)) (hn : n ≤ 9223372036854775807) (w : World) (ht : Hid (TabIn w A n V t)) (hok : Hid (Sizes t)) :
    Calls Tryd.prog 24 #[.slice A n c] w fun x w' => x = .returned (.int .i64 (frontN t)) ∧ Below w.heap.size w w' := by
  have HL := Lib.hid ht.out.len
  go_enter Tryd.func24, Tryd.ntmps24
  go_wp2_with fail
  go_loopw [7] (fun i wr => ∃ k : Nat, k ≤ n ∧ i = .int .i64 k ∧ Hid (∀ j r, j < k → t[j]? = some r → mayN r = 0) ∧ Hid (∃ y, wr = onto w y)) (fun i _ => n - (intOf i).toNat)
  case atStart => exact ⟨0, Nat.zero_le _, rfl, Lib.hid (fun j r hj => by omega), Lib.hid (onto_self w)⟩
  case round =>
    obtain ⟨k, hk, rfl, HA, HY⟩ := hrel
    obtain ⟨y, rfl⟩ := HY.out
    clear HY
    by_cases hlt : k < n
    · obtain ⟨r, hr'⟩ : ∃ r, t[k]? = some r := ⟨_, List.getElem?_eq_getElem (by rw [HL.out]; exact hlt)⟩
      obtain ⟨a, D, b, rfl, hca, hD⟩ := ht.out.row hr'
      have za : ∀ z, (onto w z).cell? (a.add k) = some (.slice D r.length b) := fun z => mem_cell (onto_below w z) hca
      have HOK := hok.out r (List.mem_of_getElem? hr')
      have HSZ := Lib.hid HOK.2
      have HD := Lib.hid (hD.below (onto_below w y))
      have HR := Lib.hid hr'
      obtain ⟨m, hm⟩ : ∃ m, m = r.length := ⟨_, rfl⟩
      have hm9 : m ≤ 9223372036854775807 := by have := HOK.1; unfold maxLen at this; omega
      rw [← hm] at za HD
      obtain ⟨v, hv⟩ : ∃ v, mayN r = v := ⟨_, rfl⟩
      have HV := Lib.hid hv
      have hmay := Lib.hid (may_is D m b r hm9 v HV (onto w y) HD HSZ)
      clear hr' hca hD HOK hm
      by_cases h0 : v = 0
      · subst h0
        have HA' := Lib.hid (show ∀ j x, j < k + 1 → t[j]? = some x → mayN x = 0 from fun j x hj hx => by
          by_cases h : j < k
          · exact HA.out j x h hx
          · obtain rfl : j = k := by omega
            rw [HR.out] at hx; cases hx; exact HV.out)
        clear hv
        go_wp2_with (go_at_call 22; with_reducible refine (above hmay.out).mono ?_; rintro x _ ⟨rfl, y2, rfl⟩)
        go_roundw
        case rel => exact ⟨k + 1, by omega, by go_num, HA', Lib.hid ⟨_, rfl⟩⟩
        case measure => simp [intOf]; omega
      · have hne : (v != 0) = true := by simpa using h0
        have HF := Lib.hid (frontN_at t k HA.out (by rw [HL.out]; omega) (.inr ⟨r, HR.out, by rw [HV.out]; exact h0⟩))
        clear hv h0
        go_wp2_with (go_at_call 22; with_reducible refine (above hmay.out).mono ?_; rintro x _ ⟨rfl, y2, rfl⟩)
        go_ret
        exact ⟨by rw [HF.out]; rfl, onto_below w _⟩
    · obtain rfl : k = n := by omega
      have HF := Lib.hid (frontN_at t k HA.out (by rw [HL.out]; omega) (.inl HL.out.symm))
      clear hlt
      go_wp2_with fail
      go_ret
      exact ⟨by rw [HF.out]; rfl, onto_below w y⟩
theorem front_is (A : Option Addr) (n c : Nat) (V : List Value) (t : List (List ByteArray)) (hn : n ≤ 9223372036854775807) (m : Nat) (hm : Hid (frontN t = m)) (w : World) (ht : Hid (TabIn w A n V t)) (hok : Hid (Sizes t)) :
    Calls Tryd.prog 24 #[.slice A n c] w fun x w' => x = .returned (.int .i64 m) ∧ Below w.heap.size w w' := by
  rw [← hm.out]; exact front_any A n c V t hn w ht hok
end Go.Proofs.YtaoncnlhilpgfaaDoor

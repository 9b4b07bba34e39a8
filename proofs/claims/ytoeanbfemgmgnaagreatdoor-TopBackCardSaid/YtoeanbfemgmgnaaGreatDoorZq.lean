/- Layer 10: how great a table is (lenL, fldN, bytN); the document's Great, May, Front. Layer 10: the document's May, Front, one. Layer 9: the document's Quoted and Written. Layer 10: the document's Line. Layer 10: the document's Text. Layer 10: what a table comes to, in plain words. -/
import Derived.Test.YtoeanbfemgmgnaaGreatDoorRows
import Derived.Test.YtoeanbfemgmgnaaGreatDoorZk
import Derived.Test.YtoeanbfemgmgnaaGreatDoorZp
import Derived.LoopTactic
import Derived.Test.YtoeanbfemgmgnaaGreatDoorZn
namespace Go.Proofs.YtoeanbfemgmgnaaGreatDoor
open Go.ChangeShapes Go.WideShapes Go.ChangeAt Go.RowKit
set_option linter.unusedVariables false
set_option linter.unusedSimpArgs false

def lenL : List ByteArray → Nat
  | [] => 0
  | x :: r => x.size + lenL r
theorem lenL_append : ∀ a b, lenL (a ++ b) = lenL a + lenL b
  | [], b => by simp [lenL]
  | x :: r, b => by simp [lenL, lenL_append r b]; omega
theorem lenL_take_le (l : List ByteArray) (k : Nat) : lenL (l.take k) ≤ lenL l := by
  have h := lenL_append (l.take k) (l.drop k)
  rw [List.take_append_drop] at h; omega
theorem lenL_at {l : List ByteArray} {k : Nat} {x : ByteArray} (h : l[k]? = some x) : lenL (l.take (k + 1)) = lenL (l.take k) + x.size := by
  rw [List.take_add_one, h, lenL_append]; simp [lenL]
theorem lenL_mem {l : List ByteArray} {x : ByteArray} (h : x ∈ l) : x.size ≤ lenL l := by
  induction l with
  | nil => cases h
  | cons y r ih =>
    rcases List.mem_cons.1 h with rfl | h
    · simp [lenL]
    · have := ih h; simp [lenL]; omega
def fldN : List (List ByteArray) → Nat
  | [] => 0
  | x :: r => x.length + fldN r
def bytN : List (List ByteArray) → Nat
  | [] => 0
  | x :: r => lenL x + bytN r
theorem fldN_append : ∀ a b, fldN (a ++ b) = fldN a + fldN b
  | [], b => by simp [fldN]
  | x :: r, b => by simp [fldN, fldN_append r b]; omega
theorem bytN_append : ∀ a b, bytN (a ++ b) = bytN a + bytN b
  | [], b => by simp [bytN]
  | x :: r, b => by simp [bytN, bytN_append r b]; omega
theorem fldN_take_le (l : List (List ByteArray)) (k : Nat) : fldN (l.take k) ≤ fldN l := by
  have h := fldN_append (l.take k) (l.drop k)
  rw [List.take_append_drop] at h; omega
theorem bytN_take_le (l : List (List ByteArray)) (k : Nat) : bytN (l.take k) ≤ bytN l := by
  have h := bytN_append (l.take k) (l.drop k)
  rw [List.take_append_drop] at h; omega
theorem fldN_at {l : List (List ByteArray)} {k : Nat} {x : List ByteArray} (h : l[k]? = some x) : fldN (l.take (k + 1)) = fldN (l.take k) + x.length := by
  rw [List.take_add_one, h, fldN_append]; simp [fldN]
theorem bytN_at {l : List (List ByteArray)} {k : Nat} {x : List ByteArray} (h : l[k]? = some x) : bytN (l.take (k + 1)) = bytN (l.take k) + lenL x := by
  rw [List.take_add_one, h, bytN_append]; simp [bytN]
theorem bytN_mem {l : List (List ByteArray)} {x : List ByteArray} (h : x ∈ l) : lenL x ≤ bytN l := by
  induction l with
  | nil => cases h
  | cons y r ih =>
    rcases List.mem_cons.1 h with rfl | h
    · simp [bytN]
    · have := ih h; simp [bytN]; omega
theorem fldN_mem {l : List (List ByteArray)} {x : List ByteArray} (h : x ∈ l) : x.length ≤ fldN l := by
  induction l with
  | nil => cases h
  | cons y r ih =>
    rcases List.mem_cons.1 h with rfl | h
    · simp [fldN]
    · have := ih h; simp [fldN]; omega
/-- Has a table more than so many records, fields or bytes? -/
def greatB (R F B : Nat) (t : List (List ByteArray)) : Bool := decide (R < t.length) || (decide (F < fldN t) || decide (B < bytN t))
theorem great_no {R F B : Nat} {t : List (List ByteArray)} (h : greatB R F B t = false) : t.length ≤ R ∧ fldN t ≤ F ∧ bytN t ≤ B := by
  unfold greatB at h
  simp only [Bool.or_eq_false_iff, decide_eq_false_iff_not] at h
  omega
/-- What all texts of a table are no longer than. -/
def Sizes (t : List (List ByteArray)) : Prop := ∀ x ∈ t, x.length ≤ maxLen ∧ ∀ s ∈ x, s.size ≤ 140737488351232

set_option maxRecDepth 100000 in
set_option maxHeartbeats 1600000 in
theorem great_any (A : Option Addr) (n c : Nat) (V : List Value) (t : List (List ByteArray)) (R F B : Nat) (hF : F ≤ 100000) (hB : B ≤ 100000) (hR : R ≤ 100000) (w : World) (ht : Hid (TabIn w A n V t)) (hok : Hid (Sizes t)) (hn : n ≤ 9223372036854775807) :
    Calls Tryz.prog 17 #[.slice A n c, .int .i64 R, .int .i64 F, .int .i64 B] w fun x w' => x = .returned (.bool (greatB R F B t)) ∧ Below w.heap.size w w' := by
  have HL := Lib.hid ht.out.len
  by_cases hr : n ≤ R
  · go_enter Tryz.func17, Tryz.ntmps17
    go_wp2_with fail
    go_loopw [2, 3, 19] (fun f b i wr => ∃ k f' b' : Nat, k ≤ n ∧ i = .int .i64 k ∧ f = .int .i64 f' ∧ b = .int .i64 b' ∧ f' ≤ 100000 ∧ b' ≤ 100000 ∧ Hid (fldN (t.take k) + f' = F) ∧ Hid (bytN (t.take k) + b' = B) ∧ Hid (∃ y, wr = onto w y)) (fun _ _ i _ => n - (intOf i).toNat)
    case atStart => exact ⟨0, F, B, Nat.zero_le _, rfl, rfl, rfl, hF, hB, Lib.hid (by simp [fldN]), Lib.hid (by simp [bytN]), Lib.hid (onto_self w)⟩
    case round =>
      obtain ⟨k, f', b', hk, rfl, rfl, rfl, hf1, hb1, HF, HB, HY⟩ := hrel
      obtain ⟨y, rfl⟩ := HY.out
      clear HY
      by_cases hlt : k < n
      · obtain ⟨r, hr'⟩ : ∃ r, t[k]? = some r := ⟨_, List.getElem?_eq_getElem (by rw [HL.out]; exact hlt)⟩
        obtain ⟨a, D, b, rfl, hca, hD⟩ := ht.out.row hr'
        have za : ∀ z, (onto w z).cell? (a.add k) = some (.slice D r.length b) := fun z => mem_cell (onto_below w z) hca
        have HOK := hok.out r (List.mem_of_getElem? hr')
        have HD := Lib.hid hD
        have HFK := Lib.hid (fldN_at hr')
        have HBK := Lib.hid (bytN_at hr')
        have HFT := Lib.hid (fldN_take_le t (k + 1))
        have HBT := Lib.hid (bytN_take_le t (k + 1))
        obtain ⟨m, hm⟩ : ∃ m, m = r.length := ⟨_, rfl⟩
        have hm9 : m ≤ 9223372036854775807 := by have := HOK.1; unfold maxLen at this; omega
        have HM := Lib.hid hm
        have HSZ := Lib.hid HOK.2
        rw [← hm] at za
        rw [← hm] at HD
        clear hr' hca hD HOK hm
        by_cases hfm : m ≤ f'
        · go_wp2_with fail
          go_loopw [3, 33] (fun b2 j wr => ∃ j' b'' : Nat, j' ≤ m ∧ j = .int .i64 j' ∧ b2 = .int .i64 b'' ∧ b'' ≤ 100000 ∧ Hid (bytN (t.take k) + lenL (r.take j') + b'' = B) ∧ Hid (∃ y, wr = onto w y)) (fun _ j _ => m - (intOf j).toNat)
          case atStart => exact ⟨0, b', Nat.zero_le _, rfl, rfl, hb1, Lib.hid (by have := HB.out; simp [lenL]; exact this), Lib.hid ⟨_, rfl⟩⟩
          case round =>
            obtain ⟨j', b'', hj, rfl, rfl, hb2, HB2, HY⟩ := hrel
            obtain ⟨y2, rfl⟩ := HY.out
            clear HY
            by_cases hjm : j' < m
            · obtain ⟨s, hs⟩ : ∃ s, r[j']? = some s := ⟨_, List.getElem?_eq_getElem (by rw [← HM.out]; exact hjm)⟩
              obtain ⟨d, rfl, hcd⟩ := HD.out.at_ (strs_get hs)
              have zd : ∀ z, (onto w z).cell? (d.add j') = some (.string s) := fun z => mem_cell (onto_below w z) hcd
              have hsz := HSZ.out s (List.mem_of_getElem? hs)
              have HS := Lib.hid (lenL_at hs)
              have HS2 := Lib.hid (lenL_take_le r (j' + 1))
              clear hs hcd
              by_cases hsb : s.size ≤ b''
              · go_wp2_with fail
                go_roundw
                case rel => exact ⟨j' + 1, b'' - s.size, by omega, by go_num, by (congr 1; omega), by omega, Lib.hid (by have := HB2.out; have := HS.out; omega), Lib.hid ⟨_, rfl⟩⟩
                case measure => simp [intOf]; omega
              · have HV := Lib.hid (show greatB R F B t = true by
                  have h1 := HB2.out; have h2 := HS.out; have h3 := HS2.out; have h4 := HBK.out; have h5 := HBT.out
                  have : B < bytN t := by omega
                  simp [greatB, this])
                go_wp2_with fail
                go_ret
                exact ⟨by rw [HV.out]; rfl, onto_below w y2⟩
            · obtain rfl : j' = m := by omega
              clear hjm
              go_wp2_with fail
              go_roundw
              case rel => exact ⟨k + 1, f' - j', b'', by omega, by go_num, by (congr 1; omega), rfl, by omega, hb2, Lib.hid (by have := HF.out; have := HFK.out; have := HM.out; omega), Lib.hid (by have h1 := HB2.out; have h2 := HBK.out; rw [List.take_of_length_le (l := r) (by have := HM.out; omega)] at h1; omega), Lib.hid ⟨_, rfl⟩⟩
              case measure => simp [intOf]; omega
        · have HV := Lib.hid (show greatB R F B t = true by
            have h1 := HF.out; have h2 := HFK.out; have h3 := HFT.out; have h4 := HM.out
            have : F < fldN t := by omega
            simp [greatB, this])
          go_wp2_with fail
          go_ret
          exact ⟨by rw [HV.out]; rfl, onto_below w y⟩
      · obtain rfl : k = n := by omega
        have HV := Lib.hid (show greatB R F B t = false by
          have h1 := HF.out; have h2 := HB.out
          rw [List.take_of_length_le (by rw [HL.out]; omega)] at h1 h2
          have hl := HL.out
          unfold greatB
          simp only [Bool.or_eq_false_iff, decide_eq_false_iff_not]
          omega)
        clear hlt
        go_wp2_with fail
        go_ret
        exact ⟨by rw [HV.out]; rfl, onto_below w y⟩
  · have HV := Lib.hid (show greatB R F B t = true by
      have hl := HL.out
      have : R < t.length := by omega
      simp [greatB, this])
    go_enter Tryz.func17, Tryz.ntmps17
    go_wp2_with fail
    go_ret
    exact ⟨by rw [HV.out]; rfl, Below.refl _ _⟩
theorem great_is (A : Option Addr) (n c : Nat) (V : List Value) (t : List (List ByteArray)) (R F B : Nat) (hF : F ≤ 100000) (hB : B ≤ 100000) (hR : R ≤ 100000) (v : Bool) (hv : Hid (greatB R F B t = v)) (w : World) (ht : Hid (TabIn w A n V t)) (hok : Hid (Sizes t)) (hn : n ≤ 9223372036854775807) :
    Calls Tryz.prog 17 #[.slice A n c, .int .i64 R, .int .i64 F, .int .i64 B] w fun x w' => x = .returned (.bool v) ∧ Below w.heap.size w w' := by
  rw [← hv.out]; exact great_any A n c V t R F B hF hB hR w ht hok hn
end Go.Proofs.YtoeanbfemgmgnaaGreatDoor

namespace Go.Proofs.YtoeanbfemgmgnaaGreatDoor
open Go.ChangeShapes Go.WideShapes Go.ChangeAt Go.RowKit
set_option linter.unusedVariables false
set_option linter.unusedSimpArgs false

/-- A field is UTF-8. -/
def utfB (s : ByteArray) : Bool := decide (utWhole (bl s) = s.size)
/-- What bars a record. -/
def mayN (r : List ByteArray) : Int := if r = [] then 13 else if r.all utfB = true then 0 else 14
theorem mayN_zero {r : List ByteArray} (h : mayN r = 0) : r ≠ [] ∧ ∀ x ∈ r, utWhole (bl x) = (bl x).length := by
  unfold mayN at h
  by_cases h0 : r = []
  · rw [if_pos h0] at h; cases h
  · rw [if_neg h0] at h
    by_cases h1 : r.all utfB = true
    · refine ⟨h0, fun x hx => ?_⟩
      have := List.all_eq_true.1 h1 x hx
      unfold utfB at this
      rw [bl_length]
      exact of_decide_eq_true this
    · rw [if_neg h1] at h; cases h
theorem utWhole_le (l : List Int) : utWhole l ≤ l.length := (utWhole_spec l.length l (Nat.le_refl _)).1
/-- How many records may be written. -/
def frontN : List (List ByteArray) → Nat
  | [] => 0
  | r :: t => if mayN r = 0 then frontN t + 1 else 0
theorem one10_b (v : Bool) (w : World) : Calls Tryz.prog 32 #[.bool v] w fun x w' => x = .returned (.int .i64 (numB v)) ∧ Below w.heap.size w w' := by
  cases v
  · go_enter Tryz.func32, Tryz.ntmps32
    go_wp2_with fail
    go_ret
    exact ⟨rfl, Below.refl _ _⟩
  · go_enter Tryz.func32, Tryz.ntmps32
    go_wp2_with fail
    go_ret
    exact ⟨rfl, Below.refl _ _⟩
set_option maxHeartbeats 1600000 in
theorem may_any (A : Option Addr) (n c : Nat) (r : List ByteArray) (hn : n ≤ 9223372036854775807) (w : World) (hr : Hid (SlIn w A n (strs r))) (hok : Hid (∀ s ∈ r, s.size ≤ 140737488351232)) :
    Calls Tryz.prog 9 #[.slice A n c] w fun x w' => x = .returned (.int .i64 (mayN r)) ∧ Below w.heap.size w w' := by
  have HL := Lib.hid hr.out.lenS
  by_cases h0 : n = 0
  · have HV := Lib.hid (show mayN r = 13 by have := HL.out; unfold mayN; rw [if_pos (List.length_eq_zero_iff.1 (by omega))])
    subst h0
    go_enter Tryz.func9, Tryz.ntmps9
    go_wp2_with fail
    go_ret
    exact ⟨by rw [HV.out]; rfl, Below.refl _ _⟩
  · have h0' : ((n : Int) == 0) = false := by rw [beq_eq_false_iff_ne]; omega
    have HNE := Lib.hid (show r ≠ [] by intro h; have := HL.out; rw [h] at this; simp at this; omega)
    go_enter Tryz.func9, Tryz.ntmps9
    go_wp2_with fail
    go_loopw [10] (fun i wr => ∃ k : Nat, k ≤ n ∧ i = .int .i64 k ∧ Hid ((r.take k).all utfB = true) ∧ Hid (∃ y, wr = onto w y)) (fun i _ => n - (intOf i).toNat)
    case atStart => exact ⟨0, Nat.zero_le _, rfl, Lib.hid (by simp), Lib.hid (onto_self w)⟩
    case round =>
      obtain ⟨k, hk, rfl, HA, HY⟩ := hrel
      obtain ⟨y, rfl⟩ := HY.out
      clear HY
      by_cases hlt : k < n
      · obtain ⟨s, hs⟩ : ∃ s, r[k]? = some s := ⟨_, List.getElem?_eq_getElem (by rw [HL.out]; exact hlt)⟩
        obtain ⟨a, rfl, hca⟩ := hr.out.at_ (strs_get hs)
        have za : ∀ z, (onto w z).cell? (a.add k) = some (.string s) := fun z => mem_cell (onto_below w z) hca
        have hsz : s.size ≤ maxLen := by have := hok.out s (List.mem_of_getElem? hs); unfold maxLen; omega
        obtain ⟨u, hu⟩ : ∃ u, utWhole (bl s) = u := ⟨_, rfl⟩
        have HU := Lib.hid hu
        have hle : u ≤ s.size := by have := utWhole_le (bl s); rw [hu, bl_length] at this; exact this
        have HS := Lib.hid hs
        clear hs hca hu
        by_cases hus : u = s.size
        · have HA' := Lib.hid (show (r.take (k + 1)).all utfB = true by
            rw [List.take_add_one, HS.out, List.all_append, HA.out]
            simp [utfB, HU.out, hus])
          have hd : ¬ ((u : Int) < (s.size : Int)) := by omega
          clear hus
          go_wp2_with (go_at_call 20; with_reducible refine (above (refWhole_is s hsz u HU _)).mono ?_; rintro x _ ⟨rfl, y2, rfl⟩)
          go_roundw
          case rel => exact ⟨k + 1, by omega, by go_num, HA', Lib.hid ⟨_, rfl⟩⟩
          case measure => simp [intOf]; omega
        · have HV := Lib.hid (show mayN r = 14 by
            unfold mayN
            rw [if_neg HNE.out, if_neg]
            intro h
            have h1 := List.all_eq_true.1 h s (List.mem_of_getElem? HS.out)
            unfold utfB at h1
            rw [HU.out] at h1
            exact hus (of_decide_eq_true h1))
          have hd : (u : Int) < (s.size : Int) := by omega
          clear hus
          go_wp2_with (go_at_call 20; with_reducible refine (above (refWhole_is s hsz u HU _)).mono ?_; rintro x _ ⟨rfl, y2, rfl⟩)
          go_ret
          exact ⟨by rw [HV.out]; rfl, onto_below w _⟩
      · obtain rfl : k = n := by omega
        have HV := Lib.hid (show mayN r = 0 by
          have h1 := HA.out
          rw [List.take_of_length_le (by rw [HL.out]; omega)] at h1
          unfold mayN
          rw [if_neg HNE.out, if_pos h1])
        clear hlt
        go_wp2_with fail
        go_ret
        exact ⟨by rw [HV.out]; rfl, onto_below w y⟩
theorem may_is (A : Option Addr) (n c : Nat) (r : List ByteArray) (hn : n ≤ 9223372036854775807) (v : Int) (hv : Hid (mayN r = v)) (w : World) (hr : Hid (SlIn w A n (strs r))) (hok : Hid (∀ s ∈ r, s.size ≤ 140737488351232)) :
    Calls Tryz.prog 9 #[.slice A n c] w fun x w' => x = .returned (.int .i64 v) ∧ Below w.heap.size w w' := by
  rw [← hv.out]; exact may_any A n c r hn w hr hok
theorem frontN_le : ∀ t : List (List ByteArray), frontN t ≤ t.length
  | [] => Nat.le_refl _
  | r :: t => by
    unfold frontN; split
    · have := frontN_le t; simp; omega
    · simp
theorem frontN_at : ∀ (t : List (List ByteArray)) (k : Nat), (∀ j r, j < k → t[j]? = some r → mayN r = 0) → k ≤ t.length → (k = t.length ∨ ∃ r, t[k]? = some r ∧ mayN r ≠ 0) → frontN t = k
  | [], k, _, hk, _ => by simp at hk; subst hk; rfl
  | r :: t, 0, _, _, h => by
    rcases h with h | ⟨x, hx, h⟩
    · simp at h
    · simp at hx; subst hx; unfold frontN; rw [if_neg h]
  | r :: t, k + 1, h1, hk, h => by
    have h0 := h1 0 r (by omega) rfl
    unfold frontN
    rw [if_pos h0, frontN_at t k (fun j x hj hx => h1 (j + 1) x (by omega) (by simpa using hx)) (by simpa using hk) (by
      rcases h with h | ⟨x, hx, h⟩
      · exact .inl (by simpa using h)
      · exact .inr ⟨x, by simpa using hx, h⟩)]
set_option maxHeartbeats 1600000 in
theorem front_any (A : Option Addr) (n c : Nat) (V : List Value) (t : List (List ByteArray)) (hn : n ≤ 9223372036854775807) (w : World) (ht : Hid (TabIn w A n V t)) (hok : Hid (Sizes t)) :
    Calls Tryz.prog 30 #[.slice A n c] w fun x w' => x = .returned (.int .i64 (frontN t)) ∧ Below w.heap.size w w' := by
  have HL := Lib.hid ht.out.len
  go_enter Tryz.func30, Tryz.ntmps30
  go_wp2_with fail
  go_loopw [7] (fun i wr => ∃ k : Nat, k ≤ n ∧ i = .int .i64 k ∧ Hid (∀ j r, j < k → t[j]? = some r → mayN r = 0) ∧ Hid (∃ y, wr = onto w y)) (fun i _ => n - (intOf i).toNat)
  case atStart => exact ⟨0, Nat.zero_le _, rfl, Lib.hid (fun j r hj => by omega), Lib.hid (onto_self w)⟩
  case round =>
    obtain ⟨k, hk, rfl, HA, HY⟩ := hrel
    obtain ⟨y, rfl⟩ := HY.out
    clear HY
    by_cases hlt : k < n
    · obtain ⟨r, hr'⟩ : ∃ r, t[k]? = some r := ⟨_, List.getElem?_eq_getElem (by rw [HL.out]; exact hlt)⟩
      obtain ⟨a, D, b, rfl, hca, hD⟩ := ht.out.row hr'
      have za : ∀ z, (onto w z).cell? (a.add k) = some (.slice D r.length b) := fun z => mem_cell (onto_below w z) hca
      have HOK := hok.out r (List.mem_of_getElem? hr')
      have HSZ := Lib.hid HOK.2
      have HD := Lib.hid (hD.below (onto_below w y))
      have HR := Lib.hid hr'
      obtain ⟨m, hm⟩ : ∃ m, m = r.length := ⟨_, rfl⟩
      have hm9 : m ≤ 9223372036854775807 := by have := HOK.1; unfold maxLen at this; omega
      rw [← hm] at za HD
      obtain ⟨v, hv⟩ : ∃ v, mayN r = v := ⟨_, rfl⟩
      have HV := Lib.hid hv
      have hmay := Lib.hid (may_is D m b r hm9 v HV (onto w y) HD HSZ)
      clear hr' hca hD HOK hm
      by_cases h0 : v = 0
      · subst h0
        have HA' := Lib.hid (show ∀ j x, j < k + 1 → t[j]? = some x → mayN x = 0 from fun j x hj hx => by
          by_cases h : j < k
          · exact HA.out j x h hx
          · obtain rfl : j = k := by omega
            rw [HR.out] at hx; cases hx; exact HV.out)
        clear hv
        go_wp2_with (go_at_call 9; with_reducible refine (above hmay.out).mono ?_; rintro x _ ⟨rfl, y2, rfl⟩)
        go_roundw
        case rel => exact ⟨k + 1, by omega, by go_num, HA', Lib.hid ⟨_, rfl⟩⟩
        case measure => simp [intOf]; omega
      · have hne : (v != 0) = true := by simpa using h0
        have HF := Lib.hid (frontN_at t k HA.out (by rw [HL.out]; omega) (.inr ⟨r, HR.out, by rw [HV.out]; exact h0⟩))
        clear hv h0
        go_wp2_with (go_at_call 9; with_reducible refine (above hmay.out).mono ?_; rintro x _ ⟨rfl, y2, rfl⟩)
        go_ret
        exact ⟨by rw [HF.out]; rfl, onto_below w _⟩
    · obtain rfl : k = n := by omega
      have HF := Lib.hid (frontN_at t k HA.out (by rw [HL.out]; omega) (.inl HL.out.symm))
      clear hlt
      go_wp2_with fail
      go_ret
      exact ⟨by rw [HF.out]; rfl, onto_below w y⟩
theorem front_is (A : Option Addr) (n c : Nat) (V : List Value) (t : List (List ByteArray)) (hn : n ≤ 9223372036854775807) (m : Nat) (hm : Hid (frontN t = m)) (w : World) (ht : Hid (TabIn w A n V t)) (hok : Hid (Sizes t)) :
    Calls Tryz.prog 30 #[.slice A n c] w fun x w' => x = .returned (.int .i64 m) ∧ Below w.heap.size w w' := by
  rw [← hm.out]; exact front_any A n c V t hn w ht hok
end Go.Proofs.YtoeanbfemgmgnaaGreatDoor

namespace Go.Proofs.YtoeanbfemgmgnaaGreatDoor
open Go.ChangeShapes Go.WideShapes Go.ChangeAt Go.RowKit
set_option linter.unusedVariables false
set_option linter.unusedSimpArgs false

/-- A field quoted, as a text. -/
def quoO (q : Int) (s : ByteArray) : ByteArray := toBA (quoL q (bl s))
theorem bl_bytes (s : ByteArray) : ∀ x ∈ bl s, 0 ≤ x ∧ x ≤ 255 := fun x hx => by
  unfold bl at hx
  obtain ⟨c, _, rfl⟩ := List.mem_map.1 hx
  exact ⟨byte_lo c, byte_hi c⟩
theorem dbl_bytes {q : Int} (q0 : 0 ≤ q) (q1 : q ≤ 255) : ∀ l : List Int, (∀ x ∈ l, 0 ≤ x ∧ x ≤ 255) → ∀ x ∈ dbl q l, 0 ≤ x ∧ x ≤ 255
  | [], _, x, hx => by simp [dbl] at hx
  | b :: r, h, x, hx => by
    rw [dbl] at hx
    split at hx
    · simp only [List.mem_cons] at hx
      rcases hx with rfl | rfl | hx
      · exact ⟨q0, q1⟩
      · exact ⟨q0, q1⟩
      · exact dbl_bytes q0 q1 r (fun y hy => h y (List.mem_cons_of_mem _ hy)) x hx
    · simp only [List.mem_cons] at hx
      rcases hx with rfl | hx
      · exact h x (List.mem_cons_self ..)
      · exact dbl_bytes q0 q1 r (fun y hy => h y (List.mem_cons_of_mem _ hy)) x hx
theorem bl_quoO {q : Int} (q0 : 0 ≤ q) (q1 : q ≤ 255) (s : ByteArray) : bl (quoO q s) = quoL q (bl s) := bl_toBA _ fun x hx => by
  simp only [quoL, List.mem_cons, List.mem_append, List.not_mem_nil, or_false] at hx
  rcases hx with rfl | hx | rfl
  · exact ⟨q0, q1⟩
  · exact dbl_bytes q0 q1 _ (bl_bytes s) x hx
  · exact ⟨q0, q1⟩
theorem quoO_size {q : Int} (q0 : 0 ≤ q) (q1 : q ≤ 255) (s : ByteArray) : (quoO q s).size ≤ 2 * s.size + 2 := by
  rw [← bl_length, bl_quoO q0 q1, quoL_len]
  have := (dbl_len q (bl s)).2
  rw [bl_length] at this
  omega
theorem bl_one {s : ByteArray} {k : Nat} (h : k < s.size) : bl (s.extract k (k + 1)) = [((s[k].toNat : Nat) : Int)] := by
  obtain ⟨hl, hx⟩ := List.getElem?_eq_some_iff.1 (bl_at s k h)
  rw [bl_mid, List.drop_eq_getElem_cons hl, hx, show k + 1 - k = 1 by omega]
  rfl
theorem quoO_end {q : Int} (q0 : 0 ≤ q) (q1 : q ≤ 255) {s S Q : ByteArray} {k : Nat} (hk : ¬ k < s.size) (hQ : bl Q = [q]) (hS : bl S = q :: dbl q ((bl s).take k)) : S ++ Q = quoO q s := bl_inj (by
  rw [bl_append, hS, hQ, bl_quoO q0 q1, List.take_of_length_le (by rw [bl_length]; omega)]
  rfl)
set_option maxRecDepth 100000 in
set_option maxHeartbeats 1600000 in
theorem ref9Quoted_any (d q e : Int) (q0 : 0 ≤ q) (q1 : q ≤ 255) (s : ByteArray) (hs : s.size ≤ 1000001) (w : World) :
    Calls Tryz.prog 68 #[.agg #[.int .i64 d, .int .i64 q, .int .i64 e], .string s] w fun x w' => x = .returned (.string (quoO q s)) ∧ Below w.heap.size w w' := by
  obtain ⟨Q, hQ⟩ : ∃ Q : ByteArray, (⟨#[UInt8.ofNat q.toNat]⟩ : ByteArray) = Q := ⟨_, rfl⟩
  have HQ := Lib.hid (show bl Q = [q] by rw [← hQ]; exact bl_toBA [q] (by simp; omega))
  have hQs : Q.size = 1 := by have := HQ.out; rw [← bl_length, this]; rfl
  have hQ1 : Q.size ≤ 1 := by omega
  have HQS := Lib.hid hQs
  obtain ⟨W0, hW0⟩ : ∃ W0, w.alloc (.cells #[.int .i64 d, .int .i64 q, .int .i64 e] 31) = W0 := ⟨_, rfl⟩
  have hcv : (convert 42 9 (.slice (some ⟨W0.heap.size, 0, none⟩) 1 1)).run Tryz.prog (W0.alloc (.cells #[.int .u8 q] 5)) = .ok (.string Q) (W0.alloc (.cells #[.int .u8 q] 5)) := by
    rw [← hQ]; exact run_string_one' W0 _ _ 5 rfl rfl rfl q _ 1
  have m0 : W0.cell? ⟨w.heap.size, 0, none⟩ = some (.int .i64 d) := by rw [← hW0]; exact (StB.made w rfl _ _).cell 0
  have m1 : W0.cell? ⟨w.heap.size, 1, none⟩ = some (.int .i64 q) := by rw [← hW0]; exact (StB.made w rfl _ _).cell 1
  have ml : w.heap.size < W0.heap.size := by rw [← hW0]; simp
  have HB0 := Lib.hid (show Below w.heap.size w W0 by rw [← hW0]; exact up_alloc (Below.refl _ w) _)
  clear hQ hQs
  go_enter Tryz.func68, Tryz.ntmps68
  go_upto_region 1 with fail
  clear hW0
  go_wp2_with fail
  go_loopw [7, 6] (fun i s6 wr => ∃ (k : Nat) (S : ByteArray), k ≤ s.size ∧ i = .int .i64 k ∧ s6 = .string S ∧ Hid (bl S = q :: dbl q ((bl s).take k)) ∧ S.size ≤ 2 * k + 1 ∧ Hid (∃ y, wr = onto W0 y)) (fun i _ _ => s.size - (intOf i).toNat)
  case atStart => exact ⟨0, Q, Nat.zero_le _, rfl, rfl, Lib.hid (by rw [HQ.out]; rfl), by omega, Lib.hid (onto_of (by (repeat (first | exact Below.refl _ _ | refine up_onto ?_ _ | refine up_alloc ?_ _))))⟩
  case round =>
    obtain ⟨k, S, hk, rfl, rfl, HS, hsz, HY⟩ := hrel
    obtain ⟨y, rfl⟩ := HY.out
    clear HY
    by_cases hlt : k < s.size
    · have hlt' : (k : Int) < s.size := by omega
      have hw64 : wrap64 ((s[k].toNat : Nat) : Int) = ((s[k].toNat : Nat) : Int) := IntWalk.wrap64_in _ ⟨by have := s[k].toNat_lt; omega, by have := s[k].toNat_lt; omega⟩
      have ht : (bl s).take (k + 1) = (bl s).take k ++ [((s[k].toNat : Nat) : Int)] := by rw [List.take_add_one, bl_at s k hlt]; rfl
      have hone := bl_one hlt
      have hsub := fun z => run_sub (P := Tryz.prog) z 9 s k (k + 1) (k : Int) ((k : Int) + 1) rfl (by omega) (by omega) (by omega) rfl
      obtain ⟨C, hC⟩ : ∃ C, s.extract k (k + 1) = C := ⟨_, rfl⟩
      rw [hC] at hone hsub
      have hCs : C.size ≤ 1 := by rw [← bl_length, hone]; simp
      have z1 : ∀ z, (onto W0 z).cell? ⟨w.heap.size, 1, none⟩ = some (.int .i64 q) := fun z => mem_cell (onto_below W0 z) m1
      have HONE := Lib.hid hone
      have HT := Lib.hid ht
      clear hC hone ht
      by_cases he : ((s[k].toNat : Nat) : Int) = q
      · have hb : (((s[k].toNat : Nat) : Int) == q) = true := by simp [he]
        have HX := Lib.hid (show bl (S ++ Q ++ C) = q :: dbl q ((bl s).take (k + 1)) by
          rw [bl_append, bl_append, HS.out, HQ.out, HONE.out, HT.out, dbl_append, he]
          simp [dbl])
        clear he
        go_wp2_with fail
        refine wp_region_onto (by kernel_rfl) (by kernel_rfl) ?_
        repeat (go_big_quiet_step (fail))
        refine wpQuiet_nil ?_
        intro _ hw'
        obtain ⟨x1, hw''⟩ := hw'
        subst hw''
        go_wp2_with fail
        go_roundw
        case rel => exact ⟨k + 1, S ++ Q ++ C, by omega, by go_num, rfl, HX, by rw [ByteArray.size_append, ByteArray.size_append]; omega, Lib.hid ⟨_, rfl⟩⟩
        case measure => simp [intOf]; omega
      · have hb : (((s[k].toNat : Nat) : Int) == q) = false := by simp [he]
        have HX := Lib.hid (show bl (S ++ C) = q :: dbl q ((bl s).take (k + 1)) by
          rw [bl_append, HS.out, HONE.out, HT.out, dbl_append]
          simp [dbl, he])
        clear he
        go_wp2_with fail
        refine wp_region_onto (by kernel_rfl) (by kernel_rfl) ?_
        repeat (go_big_quiet_step (fail))
        refine wpQuiet_nil ?_
        intro _ hw'
        obtain ⟨x1, hw''⟩ := hw'
        subst hw''
        go_wp2_with fail
        go_roundw
        case rel => exact ⟨k + 1, S ++ C, by omega, by go_num, rfl, HX, by rw [ByteArray.size_append]; omega, Lib.hid ⟨_, rfl⟩⟩
        case measure => simp [intOf]; omega
    · have HV := Lib.hid (quoO_end q0 q1 hlt HQ.out HS.out)
      have hkk : k = s.size := by omega
      have hS2 : S.size ≤ 2000003 := by omega
      clear hkk
      go_wp2_with fail
      go_ret
      exact ⟨by rw [← HV.out]; rfl, up_onto HB0.out _⟩
theorem ref9Quoted_is (d q e : Int) (q0 : 0 ≤ q) (q1 : q ≤ 255) (s : ByteArray) (hs : s.size ≤ 1000001) (O : ByteArray) (hO : Hid (quoO q s = O)) (w : World) :
    Calls Tryz.prog 68 #[.agg #[.int .i64 d, .int .i64 q, .int .i64 e], .string s] w fun x w' => x = .returned (.string O) ∧ Below w.heap.size w w' := by
  rw [← hO.out]; exact ref9Quoted_any d q e q0 q1 s hs w
/-- A field as written. -/
def wriO (d q : Int) (s : ByteArray) (al fi : Bool) : ByteArray := if whyN d q (bl s) al fi = 0 then s else quoO q s
theorem whyN_cases (d q : Int) (f : List Int) (al fi : Bool) : 0 ≤ whyN d q f al fi := by
  unfold whyN; repeat' split
  all_goals omega
set_option maxRecDepth 100000 in
set_option maxHeartbeats 1600000 in
theorem ref9Written_is (d q e : Int) (q0 : 0 ≤ q) (q1 : q ≤ 255) (s : ByteArray) (al fi : Bool) (hs : s.size ≤ 1000001) (O : ByteArray) (hO : Hid (wriO d q s al fi = O)) (w : World) :
    Calls Tryz.prog 46 #[.agg #[.int .i64 d, .int .i64 q, .int .i64 e], .string s, .int .i64 (numB al), .int .i64 (numB fi)] w fun x w' => x = .returned (.string O) ∧ Below w.heap.size w w' := by
  obtain ⟨W, hW⟩ : ∃ W, whyN d q (bl s) al fi = W := ⟨_, rfl⟩
  have HW := Lib.hid hW
  have h0 : 0 ≤ W := by rw [← hW]; exact whyN_cases ..
  have hsm : s.size ≤ maxLen := by unfold maxLen; omega
  obtain ⟨na, hna⟩ : ∃ na, numB al = na := ⟨_, rfl⟩
  obtain ⟨nf, hnf⟩ : ∃ nf, numB fi = nf := ⟨_, rfl⟩
  have HWHY := Lib.hid (fun w => ref8Why_any d q e s al fi hsm W HW w)
  rw [hna, hnf] at HWHY
  rw [hna, hnf]
  clear hna hnf
  by_cases hz : W = 0
  · have HO := Lib.hid (show s = O by rw [← hO.out]; unfold wriO; rw [hW, if_pos hz])
    have hg : decide (0 < W) = false := decide_eq_false (by omega)
    clear hW hz
    go_enter Tryz.func46, Tryz.ntmps46
    go_wp2_with (go_at_call 67; with_reducible refine (above (HWHY.out _)).mono ?_; rintro x _ ⟨rfl, y, rfl⟩)
    go_ret
    exact ⟨by rw [← HO.out]; rfl, (by (repeat (first | exact Below.refl _ _ | refine up_onto ?_ _ | refine up_alloc ?_ _)))⟩
  · have HO := Lib.hid (show quoO q s = O by rw [← hO.out]; unfold wriO; rw [hW, if_neg hz])
    have hp : 0 < W := by omega
    have hg : decide (0 < W) = true := decide_eq_true hp
    clear hW hz
    go_enter Tryz.func46, Tryz.ntmps46
    go_wp2_with (first
      | (go_at_call 67; with_reducible refine (above (HWHY.out _)).mono ?_; rintro x _ ⟨rfl, y, rfl⟩)
      | (go_at_call 68; with_reducible refine (above (ref9Quoted_is d q e q0 q1 s hs O HO _)).mono ?_; rintro x _ ⟨rfl, y, rfl⟩))
    go_ret
    exact ⟨rfl, (by (repeat (first | exact Below.refl _ _ | refine up_onto ?_ _ | refine up_alloc ?_ _)))⟩
end Go.Proofs.YtoeanbfemgmgnaaGreatDoor

namespace Go.Proofs.YtoeanbfemgmgnaaGreatDoor
open Go.ChangeShapes Go.WideShapes Go.ChangeAt Go.RowKit
set_option linter.unusedVariables false
set_option linter.unusedSimpArgs false

theorem layL_put (d : Int) : ∀ (xs : List (List Int)) (f : List Int), layL d (xs ++ [f]) = if xs = [] then f else layL d xs ++ d :: f
  | [], f => rfl
  | [x], f => by simp [layL]
  | x :: y :: r, f => by
    have h := layL_put d (y :: r) f
    rw [if_neg (by simp)] at h
    rw [if_neg (by simp)]
    show layL d (x :: y :: (r ++ [f])) = _
    rw [layL]
    show x ++ d :: layL d ((y :: r) ++ [f]) = _
    rw [h, layL]
    simp
theorem canR_snoc (d q : Int) (al : Bool) : ∀ (l : List (List Int)) (f : List Int) (fi : Bool), canR d q al fi (l ++ [f]) = canR d q al fi l ++ [(f, wriL d q f al (fi && decide (l = [])))]
  | [], f, fi => by simp [canR]
  | x :: l, f, fi => by
    show canR d q al fi (x :: (l ++ [f])) = _
    rw [canR, canR_snoc d q al l f false, canR]
    simp
/-- The line of the first k fields, its end left out. -/
def preL (d q : Int) (al fi : Bool) (r : List ByteArray) (k : Nat) : List Int := layL d ((canR d q al fi ((r.take k).map bl)).map (·.2))
theorem preL_zero (d q : Int) (al fi : Bool) (r : List ByteArray) : preL d q al fi r 0 = [] := rfl
theorem preL_succ {d q : Int} {al fi : Bool} {r : List ByteArray} {k : Nat} {s : ByteArray} (h : r[k]? = some s) :
    preL d q al fi r (k + 1) = if k = 0 then wriL d q (bl s) al fi else preL d q al fi r k ++ d :: wriL d q (bl s) al false := by
  have hlt : k < r.length := (List.getElem?_eq_some_iff.1 h).1
  unfold preL
  rw [List.take_add_one, h]
  simp only [Option.toList, List.map_append, List.map_cons, List.map_nil]
  rw [canR_snoc, List.map_append, List.map_cons, List.map_nil, layL_put]
  have hn : ((canR d q al fi ((r.take k).map bl)).map (·.2) = []) ↔ k = 0 := by
    rw [canR_nil, List.map_eq_nil_iff, List.take_eq_nil_iff]
    constructor
    · rintro (h1 | h1)
      · exact h1
      · rw [h1] at hlt; simp at hlt
    · intro h1; exact .inl h1
  have hn2 : ((r.take k).map bl = []) ↔ k = 0 := by
    rw [List.map_eq_nil_iff, List.take_eq_nil_iff]
    constructor
    · rintro (h1 | h1)
      · exact h1
      · rw [h1] at hlt; simp at hlt
    · intro h1; exact .inl h1
  rw [decide_eq_decide.2 hn2]
  by_cases hk : k = 0
  · rw [if_pos (hn.2 hk), if_pos hk, decide_eq_true hk, Bool.and_true]
  · rw [if_neg (fun e => hk (hn.1 e)), if_neg hk, decide_eq_false hk, Bool.and_false]
/-- A record's line. -/
def lineN (d q e : Int) (fi : Bool) (r : List ByteArray) : List Int := lineL d e (canR d q (decide (r.length = 1)) fi (r.map bl))
theorem lineN_pre (d q e : Int) (fi : Bool) (r : List ByteArray) : lineN d q e fi r = preL d q (decide (r.length = 1)) fi r r.length ++ endL e := by
  unfold lineN lineL preL
  rw [List.take_length]
theorem bl_wriO {q : Int} (q0 : 0 ≤ q) (q1 : q ≤ 255) (d : Int) (s : ByteArray) (al fi : Bool) : bl (wriO d q s al fi) = wriL d q (bl s) al fi := by
  unfold wriO wriL
  split
  · rfl
  · exact bl_quoO q0 q1 s
theorem wriO_size {q : Int} (q0 : 0 ≤ q) (q1 : q ≤ 255) (d : Int) (s : ByteArray) (al fi : Bool) : (wriO d q s al fi).size ≤ 2 * s.size + 2 := by
  unfold wriO
  split
  · omega
  · exact quoO_size q0 q1 s
theorem endO_size (e : Int) : (endO e).size ≤ 2 := by unfold endO; split <;> decide

set_option maxRecDepth 100000 in
set_option maxHeartbeats 3200000 in
theorem line_any (d q e : Int) (d0 : 0 ≤ d) (d1 : d ≤ 255) (q0 : 0 ≤ q) (q1 : q ≤ 255) (A : Option Addr) (n c : Nat) (r : List ByteArray) (fi : Bool) (hn : n ≤ 1000) (hsz : lenL r ≤ 1000) (w : World) (hr : Hid (SlIn w A n (strs r))) (O : ByteArray) (hO : Hid (bl O = lineN d q e fi r)) :
    Calls Tryz.prog 31 #[.agg #[.int .i64 d, .int .i64 q, .int .i64 e], .slice A n c, .int .i64 (numB fi)] w fun x w' => x = .returned (.string O) ∧ Below w.heap.size w w' := by
  have HL := Lib.hid hr.out.lenS
  obtain ⟨al, hal⟩ : ∃ al, ((n : Int) == 1) = al := ⟨_, rfl⟩
  have HAL := Lib.hid (show decide (r.length = 1) = al by rw [HL.out, ← hal, Bool.eq_iff_iff]; simp; omega)
  obtain ⟨D, hD⟩ : ∃ D : ByteArray, (⟨#[UInt8.ofNat d.toNat]⟩ : ByteArray) = D := ⟨_, rfl⟩
  have HD := Lib.hid (show bl D = [d] by rw [← hD]; exact bl_toBA [d] (by simp; omega))
  have hDs : D.size = 1 := by have := HD.out; rw [← bl_length, this]; rfl
  have hcv : ∀ V : World, (convert 42 9 (.slice (some ⟨V.heap.size, 0, none⟩) 1 1)).run Tryz.prog (V.alloc (.cells #[.int .u8 d] 5)) = .ok (.string D) (V.alloc (.cells #[.int .u8 d] 5)) := fun V => by
    rw [← hD]; exact run_string_one' V _ _ 5 rfl rfl rfl d _ 1
  obtain ⟨nf, hnf⟩ : ∃ nf, numB fi = nf := ⟨_, rfl⟩
  have hnf1 : (nf == 1) = fi := by rw [← hnf]; cases fi <;> rfl
  obtain ⟨E, hE⟩ : ∃ E, endO e = E := ⟨_, rfl⟩
  have HE := Lib.hid hE
  have HEB := Lib.hid (show bl E = endL e by rw [← hE]; exact bl_endO e)
  have hEs : E.size ≤ 2 := by rw [← hE]; exact endO_size e
  obtain ⟨W0, hW0⟩ : ∃ W0, w.alloc (.cells #[.int .i64 d, .int .i64 q, .int .i64 e] 31) = W0 := ⟨_, rfl⟩
  have m0 : W0.cell? ⟨w.heap.size, 0, none⟩ = some (.int .i64 d) := by rw [← hW0]; exact (StB.made w rfl _ _).cell 0
  have m1 : W0.cell? ⟨w.heap.size, 1, none⟩ = some (.int .i64 q) := by rw [← hW0]; exact (StB.made w rfl _ _).cell 1
  have m2 : W0.cell? ⟨w.heap.size, 2, none⟩ = some (.int .i64 e) := by rw [← hW0]; exact (StB.made w rfl _ _).cell 2
  have ml : w.heap.size < W0.heap.size := by rw [← hW0]; simp
  have HB0 := Lib.hid (show Below w.heap.size w W0 by rw [← hW0]; exact up_alloc (Below.refl _ w) _)
  have hr0 := Lib.hid (hr.out.below HB0.out)
  rw [hnf]
  clear hD hE hnf
  go_enter Tryz.func31, Tryz.ntmps31
  go_upto_region 1 with fail
  clear hW0
  go_wp2_with fail
  go_loopw [7, 12] (fun s7 i wr => ∃ (k : Nat) (S : ByteArray), k ≤ n ∧ i = .int .i64 k ∧ s7 = .string S ∧ Hid (bl S = preL d q al fi r k) ∧ S.size ≤ 2 * lenL (r.take k) + 3 * k ∧ Hid (∃ y, wr = onto W0 y)) (fun _ i _ => n - (intOf i).toNat)
  case atStart => exact ⟨0, ⟨#[]⟩, Nat.zero_le _, rfl, rfl, Lib.hid rfl, Nat.zero_le _, Lib.hid (onto_self W0)⟩
  case round =>
    obtain ⟨k, S, hk, rfl, rfl, HS, hSs, HY⟩ := hrel
    obtain ⟨y, rfl⟩ := HY.out
    clear HY
    by_cases hlt : k < n
    · obtain ⟨s, hs⟩ : ∃ s, r[k]? = some s := ⟨_, List.getElem?_eq_getElem (by rw [HL.out]; exact hlt)⟩
      obtain ⟨a, rfl, hca⟩ := hr0.out.at_ (strs_get hs)
      have hss : s.size ≤ 1000001 := by have := lenL_mem (List.mem_of_getElem? hs); omega
      have hlen := lenL_at hs
      have hle := lenL_take_le r (k + 1)
      obtain ⟨N, hN⟩ : ∃ N, N = lenL (r.take k) := ⟨_, rfl⟩
      have HN := Lib.hid (show lenL (r.take (k + 1)) = N + s.size by rw [hlen, hN])
      have hN1 : N + s.size ≤ 1000 := by rw [hN]; omega
      rw [← hN] at hSs
      have HP := Lib.hid (preL_succ (d := d) (q := q) (al := al) (fi := fi) hs)
      obtain ⟨W, hW⟩ : ∃ W, W = onto W0 y := ⟨_, rfl⟩
      have HBW := Lib.hid (show Below W0.heap.size W0 W by rw [hW]; exact onto_below W0 y)
      rw [← hW]
      clear hW
      have ya : W.cell? (a.add k) = some (.string s) := mem_cell HBW.out hca
      have HCA := Lib.hid hca
      have y0 : W.cell? ⟨w.heap.size, 0, none⟩ = some (.int .i64 d) := mem_cell HBW.out m0
      have ylt : w.heap.size < W.heap.size := Nat.lt_of_lt_of_le ml HBW.out.size
      clear hs hca hlen hle hN
      by_cases hk0 : k = 0
      · have hkz : ((k : Int) == 0) = true := by simp [hk0]
        have hgt : ¬ ((0 : Int) < (k : Int)) := by omega
        obtain ⟨T, hT⟩ : ∃ T, wriO d q s al fi = T := ⟨_, rfl⟩
        have hTs : T.size ≤ 2 * s.size + 2 := by rw [← hT]; exact wriO_size q0 q1 d s al fi
        have HX := Lib.hid (show bl (S ++ T) = preL d q al fi r (k + 1) by
          have h1 := HS.out
          rw [hk0, preL_zero] at h1
          rw [HP.out, if_pos hk0, bl_append, h1, ← hT, bl_wriO q0 q1, List.nil_append])
        have HT := Lib.hid hT
        have z0 : ∀ z, (onto W z).cell? ⟨w.heap.size, 0, none⟩ = some (.int .i64 d) := fun z => mem_cell (HBW.out.trans ((onto_below W z).mono HBW.out.size)) m0
        have z1 : ∀ z, (onto W z).cell? ⟨w.heap.size, 1, none⟩ = some (.int .i64 q) := fun z => mem_cell (HBW.out.trans ((onto_below W z).mono HBW.out.size)) m1
        have z2 : ∀ z, (onto W z).cell? ⟨w.heap.size, 2, none⟩ = some (.int .i64 e) := fun z => mem_cell (HBW.out.trans ((onto_below W z).mono HBW.out.size)) m2
        have hone := fun (v : Bool) (z : Above W) => calls_onto (one10_b v (onto W z))
        have hwri := fun (z : Above W) => calls_onto (ref9Written_is d q e q0 q1 s al fi hss T HT (onto W z))
        clear hT hk0
        cases fi
        all_goals
          go_wp2_with fail
          refine wp_region_onto (by kernel_rfl) (by kernel_rfl) ?_
          repeat (go_big_quiet_step (first | (go_at_call 32; with_reducible exact hone _ _) | (go_at_call 46; with_reducible exact hwri _)))
          refine wpQuiet_nil ?_
          intro _ hw'
          obtain ⟨x1, hw''⟩ := hw'
          subst hw''
          go_wp2_with fail
          go_roundw
          case rel => exact ⟨k + 1, S ++ T, by omega, by go_num, rfl, HX, by rw [HN.out, ByteArray.size_append]; omega, Lib.hid (onto_of (HBW.out.trans ((onto_below W x1).mono HBW.out.size)))⟩
          case measure => simp [intOf]; omega
      · have hkz : ((k : Int) == 0) = false := by rw [beq_eq_false_iff_ne]; omega
        have hgt : (0 : Int) < (k : Int) := by omega
        obtain ⟨T, hT⟩ : ∃ T, wriO d q s al false = T := ⟨_, rfl⟩
        have hTs : T.size ≤ 2 * s.size + 2 := by rw [← hT]; exact wriO_size q0 q1 d s al false
        have HX := Lib.hid (show bl (S ++ D ++ T) = preL d q al fi r (k + 1) by
          rw [HP.out, if_neg hk0, bl_append, bl_append, HS.out, HD.out, ← hT, bl_wriO q0 q1, List.append_assoc]; rfl)
        have HT := Lib.hid hT
        have hcvW := hcv W
        clear hT hk0
        go_wp2_with fail
        obtain ⟨W2, hW2⟩ : ∃ W2, W2 = W.alloc (.cells #[.int .u8 d] 5) := ⟨_, rfl⟩
        have HBX := Lib.hid (show Below W0.heap.size W0 W2 by rw [hW2]; exact HBW.out.alloc HBW.out.size _)
        rw [← hW2]
        clear hW2 hcvW ya y0 ylt
        have z0 : ∀ z, (onto W2 z).cell? ⟨w.heap.size, 0, none⟩ = some (.int .i64 d) := fun z => mem_cell (HBX.out.trans ((onto_below W2 z).mono HBX.out.size)) m0
        have z1 : ∀ z, (onto W2 z).cell? ⟨w.heap.size, 1, none⟩ = some (.int .i64 q) := fun z => mem_cell (HBX.out.trans ((onto_below W2 z).mono HBX.out.size)) m1
        have z2 : ∀ z, (onto W2 z).cell? ⟨w.heap.size, 2, none⟩ = some (.int .i64 e) := fun z => mem_cell (HBX.out.trans ((onto_below W2 z).mono HBX.out.size)) m2
        have hone := fun (v : Bool) (z : Above W2) => calls_onto (one10_b v (onto W2 z))
        have hwri := fun (z : Above W2) => calls_onto (ref9Written_is d q e q0 q1 s al false hss T HT (onto W2 z))
        have hSD : (S ++ D).size ≤ 10000 := by rw [ByteArray.size_append]; omega
        cases fi
        all_goals
          refine wp_region_onto (by kernel_rfl) (by kernel_rfl) ?_
          repeat (go_big_quiet_step (first | (go_at_call 32; with_reducible exact hone _ _) | (go_at_call 46; with_reducible exact hwri _)))
          refine wpQuiet_nil ?_
          intro _ hw'
          obtain ⟨x1, hw''⟩ := hw'
          subst hw''
          go_wp2_with fail
          go_roundw
          case rel => exact ⟨k + 1, S ++ D ++ T, by omega, by go_num, rfl, HX, by rw [HN.out, ByteArray.size_append, ByteArray.size_append]; omega, Lib.hid (onto_of (HBX.out.trans ((onto_below W2 x1).mono HBX.out.size)))⟩
          case measure => simp [intOf]; omega
    · obtain rfl : k = n := by omega
      have HR := Lib.hid (show O = S ++ E by
        refine bl_inj ?_
        rw [hO.out, bl_append, HS.out, HEB.out, lineN_pre, HAL.out, HL.out])
      have hle := lenL_take_le r k
      have hS9 : S.size ≤ 10000 := by omega
      obtain ⟨W, hW⟩ : ∃ W, W = onto W0 y := ⟨_, rfl⟩
      have HBW := Lib.hid (show Below W0.heap.size W0 W by rw [hW]; exact onto_below W0 y)
      rw [← hW]
      clear hW hlt hle
      have y0 : W.cell? ⟨w.heap.size, 0, none⟩ = some (.int .i64 d) := mem_cell HBW.out m0
      have y1 : W.cell? ⟨w.heap.size, 1, none⟩ = some (.int .i64 q) := mem_cell HBW.out m1
      have y2 : W.cell? ⟨w.heap.size, 2, none⟩ = some (.int .i64 e) := mem_cell HBW.out m2
      have ylt : w.heap.size < W.heap.size := Nat.lt_of_lt_of_le ml HBW.out.size
      go_wp2_with (go_at_call 47; with_reducible refine (above (refEnd_is d q e E HE _)).mono ?_; rintro x _ ⟨rfl, y3, rfl⟩)
      go_ret
      exact ⟨by rw [HR.out]; rfl, HB0.out.trans ((HBW.out.trans ((onto_below W y3).mono HBW.out.size)).mono HB0.out.size)⟩
end Go.Proofs.YtoeanbfemgmgnaaGreatDoor

namespace Go.Proofs.YtoeanbfemgmgnaaGreatDoor
open Go.ChangeShapes Go.WideShapes Go.ChangeAt Go.RowKit
set_option linter.unusedVariables false
set_option linter.unusedSimpArgs false

/-- Lines one behind the other. -/
def rowsL (d q e : Int) : Bool → List (List ByteArray) → List Int
  | _, [] => []
  | fi, r :: t => lineN d q e fi r ++ rowsL d q e false t
theorem rowsL_tab (d q e : Int) : ∀ (t : List (List ByteArray)) (fi : Bool), rowsL d q e fi t = tabL d e (canT d q fi (t.map fun r => r.map bl))
  | [], fi => by simp [rowsL, canT, tabL]
  | r :: t, fi => by
    rw [rowsL, rowsL_tab d q e t false, List.map_cons, canT, tabL, List.length_map]
    rfl
theorem rowsL_snoc (d q e : Int) : ∀ (t : List (List ByteArray)) (r : List ByteArray) (fi : Bool), rowsL d q e fi (t ++ [r]) = rowsL d q e fi t ++ lineN d q e (fi && decide (t = [])) r
  | [], r, fi => by simp [rowsL]
  | x :: t, r, fi => by
    show rowsL d q e fi (x :: (t ++ [r])) = _
    rw [rowsL, rowsL_snoc d q e t r false, rowsL]
    simp
theorem rowsL_at {d q e : Int} {t : List (List ByteArray)} {k : Nat} {r : List ByteArray} (h : t[k]? = some r) : rowsL d q e true (t.take (k + 1)) = rowsL d q e true (t.take k) ++ lineN d q e (decide (k = 0)) r := by
  have hlt : k < t.length := (List.getElem?_eq_some_iff.1 h).1
  rw [List.take_add_one, h]
  show rowsL d q e true (t.take k ++ [r]) = _
  rw [rowsL_snoc, Bool.true_and]
  congr 2
  refine decide_eq_decide.2 ?_
  rw [List.take_eq_nil_iff]
  constructor
  · rintro (h1 | h1)
    · exact h1
    · rw [h1] at hlt; simp at hlt
  · intro h1; exact .inl h1
theorem wriL_len2 (d q : Int) (f : List Int) (al fi : Bool) : (wriL d q f al fi).length ≤ 2 * f.length + 2 := by
  unfold wriL
  split
  · omega
  · rw [quoL_len]; have := (dbl_len q f).2; omega
theorem preL_len (d q : Int) (al fi : Bool) (r : List ByteArray) : ∀ k, k ≤ r.length → (preL d q al fi r k).length ≤ 2 * lenL (r.take k) + 3 * k
  | 0, _ => by simp [preL_zero]
  | k + 1, hk => by
    obtain ⟨s, hs⟩ : ∃ s, r[k]? = some s := ⟨_, List.getElem?_eq_getElem (by omega)⟩
    have ih := preL_len d q al fi r k (by omega)
    rw [preL_succ hs, lenL_at hs]
    split
    · have := wriL_len2 d q (bl s) al fi
      rw [bl_length] at this; omega
    · have := wriL_len2 d q (bl s) al false
      rw [bl_length] at this
      rw [List.length_append, List.length_cons]; omega
theorem lineN_len (d q e : Int) (fi : Bool) (r : List ByteArray) : (lineN d q e fi r).length ≤ 2 * lenL r + 3 * r.length + 2 := by
  have h := preL_len d q (decide (r.length = 1)) fi r r.length (Nat.le_refl _)
  rw [List.take_length] at h
  have he : (endL e).length ≤ 2 := by unfold endL; split <;> decide
  rw [lineN_pre, List.length_append]; omega
theorem endL_bytes (e : Int) : ∀ x ∈ endL e, 0 ≤ x ∧ x ≤ 255 := by
  unfold endL; split <;> simp
theorem wriL_bytes {d q : Int} (q0 : 0 ≤ q) (q1 : q ≤ 255) (s : ByteArray) (al fi : Bool) : ∀ x ∈ wriL d q (bl s) al fi, 0 ≤ x ∧ x ≤ 255 := by
  rw [← bl_wriO q0 q1]; exact bl_bytes _
theorem preL_bytes {d q : Int} (d0 : 0 ≤ d) (d1 : d ≤ 255) (q0 : 0 ≤ q) (q1 : q ≤ 255) (al fi : Bool) (r : List ByteArray) : ∀ k, k ≤ r.length → ∀ x ∈ preL d q al fi r k, 0 ≤ x ∧ x ≤ 255
  | 0, _, x, hx => by simp [preL_zero] at hx
  | k + 1, hk, x, hx => by
    obtain ⟨s, hs⟩ : ∃ s, r[k]? = some s := ⟨_, List.getElem?_eq_getElem (by omega)⟩
    rw [preL_succ hs] at hx
    split at hx
    · exact wriL_bytes q0 q1 s al fi x hx
    · rcases List.mem_append.1 hx with h | h
      · exact preL_bytes d0 d1 q0 q1 al fi r k (by omega) x h
      · rcases List.mem_cons.1 h with rfl | h
        · exact ⟨d0, d1⟩
        · exact wriL_bytes q0 q1 s al false x h
theorem lineN_bytes {d q : Int} (d0 : 0 ≤ d) (d1 : d ≤ 255) (q0 : 0 ≤ q) (q1 : q ≤ 255) (e : Int) (fi : Bool) (r : List ByteArray) : ∀ x ∈ lineN d q e fi r, 0 ≤ x ∧ x ≤ 255 := by
  intro x hx
  rw [lineN_pre] at hx
  rcases List.mem_append.1 hx with h | h
  · exact preL_bytes d0 d1 q0 q1 _ fi r _ (Nat.le_refl _) x h
  · exact endL_bytes e x h
theorem rowsL_bytes {d q : Int} (d0 : 0 ≤ d) (d1 : d ≤ 255) (q0 : 0 ≤ q) (q1 : q ≤ 255) (e : Int) : ∀ (t : List (List ByteArray)) (fi : Bool), ∀ x ∈ rowsL d q e fi t, 0 ≤ x ∧ x ≤ 255
  | [], fi, x, hx => by simp [rowsL] at hx
  | r :: t, fi, x, hx => by
    rw [rowsL] at hx
    rcases List.mem_append.1 hx with h | h
    · exact lineN_bytes d0 d1 q0 q1 e fi r x h
    · exact rowsL_bytes d0 d1 q0 q1 e t false x h
theorem rowsL_len (d q e : Int) : ∀ (t : List (List ByteArray)) (fi : Bool), (rowsL d q e fi t).length ≤ 2 * bytN t + 3 * fldN t + 2 * t.length
  | [], fi => by simp [rowsL]
  | r :: t, fi => by
    have h1 := lineN_len d q e fi r
    have h2 := rowsL_len d q e t false
    rw [rowsL, List.length_append]
    simp only [bytN, fldN, List.length_cons]
    omega
/-- A line, as a text. -/
def lineO (d q e : Int) (fi : Bool) (r : List ByteArray) : ByteArray := toBA (lineN d q e fi r)
theorem bl_lineO {d q : Int} (d0 : 0 ≤ d) (d1 : d ≤ 255) (q0 : 0 ≤ q) (q1 : q ≤ 255) (e : Int) (fi : Bool) (r : List ByteArray) : bl (lineO d q e fi r) = lineN d q e fi r := bl_toBA _ (lineN_bytes d0 d1 q0 q1 e fi r)
/-- The text of the first k records. -/
def textN (d q e : Int) (t : List (List ByteArray)) (k : Nat) : List Int := rowsL d q e true (t.take k)

set_option maxRecDepth 100000 in
set_option maxHeartbeats 3200000 in
theorem text_any (d q e : Int) (d0 : 0 ≤ d) (d1 : d ≤ 255) (q0 : 0 ≤ q) (q1 : q ≤ 255) (A : Option Addr) (n c : Nat) (V : List Value) (t : List (List ByteArray)) (hn : n ≤ 1000) (hf : fldN t ≤ 1000) (hb : bytN t ≤ 1000) (w : World) (ht : Hid (TabIn w A n V t)) (hok : Hid (Sizes t)) (O : ByteArray) (hO : Hid (bl O = textN d q e t (frontN t))) :
    Calls Tryz.prog 16 #[.agg #[.int .i64 d, .int .i64 q, .int .i64 e], .slice A n c] w fun x w' => x = .returned (.string O) ∧ Below w.heap.size w w' := by
  have HL := Lib.hid ht.out.len
  obtain ⟨F, hF⟩ : ∃ F, frontN t = F := ⟨_, rfl⟩
  have HF := Lib.hid hF
  have hFn : F ≤ n := by have := frontN_le t; rw [hF, HL.out] at this; exact this
  obtain ⟨W0, hW0⟩ : ∃ W0, w.alloc (.cells #[.int .i64 d, .int .i64 q, .int .i64 e] 31) = W0 := ⟨_, rfl⟩
  have m0 : W0.cell? ⟨w.heap.size, 0, none⟩ = some (.int .i64 d) := by rw [← hW0]; exact (StB.made w rfl _ _).cell 0
  have m1 : W0.cell? ⟨w.heap.size, 1, none⟩ = some (.int .i64 q) := by rw [← hW0]; exact (StB.made w rfl _ _).cell 1
  have m2 : W0.cell? ⟨w.heap.size, 2, none⟩ = some (.int .i64 e) := by rw [← hW0]; exact (StB.made w rfl _ _).cell 2
  have ml : w.heap.size < W0.heap.size := by rw [← hW0]; simp
  have HB0 := Lib.hid (show Below w.heap.size w W0 by rw [← hW0]; exact up_alloc (Below.refl _ w) _)
  have ht0 := Lib.hid (ht.out.below HB0.out)
  have hfront := Lib.hid (fun W (hb : Below W0.heap.size W0 W) => front_is A n c V t (by omega) F HF W (Lib.hid (ht0.out.below hb)) hok)
  clear hF
  go_enter Tryz.func16, Tryz.ntmps16
  go_upto_region 1 with fail
  clear hW0
  go_wp2_with fail
  go_loopw [5, 6] (fun s5 i wr => ∃ (k : Nat) (S : ByteArray), k ≤ F ∧ i = .int .i64 k ∧ s5 = .string S ∧ Hid (bl S = textN d q e t k) ∧ S.size ≤ 10000 ∧ Hid (∃ y, wr = onto W0 y)) (fun _ i _ => F - (intOf i).toNat)
  case atStart => exact ⟨0, ⟨#[]⟩, Nat.zero_le _, rfl, rfl, Lib.hid rfl, Nat.zero_le _, Lib.hid (onto_self W0)⟩
  case round =>
    obtain ⟨k, S, hk, rfl, rfl, HS, hSs, HY⟩ := hrel
    obtain ⟨y, rfl⟩ := HY.out
    clear HY
    obtain ⟨W, hW⟩ : ∃ W, W = onto W0 y := ⟨_, rfl⟩
    have HBW := Lib.hid (show Below W0.heap.size W0 W by rw [hW]; exact onto_below W0 y)
    rw [← hW]
    clear hW
    have hfr := Lib.hid (hfront.out W HBW.out)
    by_cases hlt : k < F
    · obtain ⟨r, hr'⟩ : ∃ r, t[k]? = some r := ⟨_, List.getElem?_eq_getElem (by rw [HL.out]; omega)⟩
      obtain ⟨a, D, b, rfl, hca, hD⟩ := ht0.out.row hr'
      obtain ⟨m, hm⟩ : ∃ m, m = r.length := ⟨_, rfl⟩
      have hm1 : m ≤ 1000 := by have := fldN_mem (List.mem_of_getElem? hr'); omega
      have hlr : lenL r ≤ 1000 := by have := bytN_mem (List.mem_of_getElem? hr'); omega
      rw [← hm] at hca hD
      have HCA := Lib.hid hca
      have HD := Lib.hid hD
      obtain ⟨T, hT⟩ : ∃ T, lineO d q e (decide (k = 0)) r = T := ⟨_, rfl⟩
      have HTB := Lib.hid (show bl T = lineN d q e (decide (k = 0)) r by rw [← hT]; exact bl_lineO d0 d1 q0 q1 e _ r)
      have hX : bl (S ++ T) = textN d q e t (k + 1) := by rw [bl_append, HS.out, HTB.out]; exact (rowsL_at hr').symm
      have HX := Lib.hid hX
      have hXs : (S ++ T).size ≤ 10000 := by
        have h1 := rowsL_len d q e (t.take (k + 1)) true
        have h2 := fldN_take_le t (k + 1)
        have h3 := bytN_take_le t (k + 1)
        have h4 : (t.take (k + 1)).length ≤ 1000 := by rw [List.length_take, HL.out]; omega
        rw [← bl_length, hX]
        unfold textN
        omega
      have hTs : T.size ≤ 10000 := by rw [ByteArray.size_append] at hXs; omega
      obtain ⟨kz, hkz⟩ : ∃ kz, ((k : Int) == 0) = kz := ⟨_, rfl⟩
      have hkd : decide (k = 0) = kz := by rw [← hkz, Bool.eq_iff_iff]; simp
      rw [hkd] at HTB
      have hnk : (k : Int) < (n : Int) := by omega
      clear hr' hca hD hm hT hX hkd
      go_wp2_with (go_at_call 30; with_reducible refine (above hfr.out).mono ?_; rintro x _ ⟨rfl, y2, rfl⟩)
      obtain ⟨W2, hW2⟩ : ∃ W2, W2 = onto W y2 := ⟨_, rfl⟩
      have HBX := Lib.hid (show Below W0.heap.size W0 W2 by rw [hW2]; exact HBW.out.trans ((onto_below W y2).mono HBW.out.size))
      rw [← hW2]
      clear hW2 hfr
      have za : ∀ z, (onto W2 z).cell? (a.add k) = some (.slice D m b) := fun z => mem_cell (HBX.out.trans ((onto_below W2 z).mono HBX.out.size)) HCA.out
      have z0 : ∀ z, (onto W2 z).cell? ⟨w.heap.size, 0, none⟩ = some (.int .i64 d) := fun z => mem_cell (HBX.out.trans ((onto_below W2 z).mono HBX.out.size)) m0
      have z1 : ∀ z, (onto W2 z).cell? ⟨w.heap.size, 1, none⟩ = some (.int .i64 q) := fun z => mem_cell (HBX.out.trans ((onto_below W2 z).mono HBX.out.size)) m1
      have z2 : ∀ z, (onto W2 z).cell? ⟨w.heap.size, 2, none⟩ = some (.int .i64 e) := fun z => mem_cell (HBX.out.trans ((onto_below W2 z).mono HBX.out.size)) m2
      have hone := fun (v : Bool) (z : Above W2) => calls_onto (one10_b v (onto W2 z))
      have hline := fun (z : Above W2) => calls_onto (line_any d q e d0 d1 q0 q1 D m b r kz hm1 hlr (onto W2 z) (Lib.hid (HD.out.below (HBX.out.trans ((onto_below W2 z).mono HBX.out.size)))) T HTB)
      refine wp_region_onto (by kernel_rfl) (by kernel_rfl) ?_
      repeat (go_big_quiet_step (first | (go_at_call 32; with_reducible exact hone _ _) | (go_at_call 31; with_reducible exact hline _)))
      refine wpQuiet_nil ?_
      intro _ hw'
      obtain ⟨x1, hw''⟩ := hw'
      subst hw''
      go_wp2_with fail
      go_roundw
      case rel => exact ⟨k + 1, S ++ T, by omega, by go_num, rfl, HX, hXs, Lib.hid (onto_of (HBX.out.trans ((onto_below W2 x1).mono HBX.out.size)))⟩
      case measure => simp [intOf]; omega
    · obtain rfl : k = F := by omega
      have HR := Lib.hid (show O = S from bl_inj (by rw [hO.out, HS.out, HF.out]))
      clear hlt
      go_wp2_with (go_at_call 30; with_reducible refine (above hfr.out).mono ?_; rintro x _ ⟨rfl, y2, rfl⟩)
      go_ret
      exact ⟨by rw [HR.out]; rfl, HB0.out.trans ((HBW.out.trans ((onto_below W y2).mono HBW.out.size)).mono HB0.out.size)⟩
end Go.Proofs.YtoeanbfemgmgnaaGreatDoor

namespace Go.Proofs.YtoeanbfemgmgnaaGreatDoor
open Go.ChangeShapes Go.WideShapes Go.ChangeAt Go.RowKit
set_option linter.unusedVariables false
set_option linter.unusedSimpArgs false

def lineE (d q e : Int) (r : List ByteArray) : Int := if rightB d q e = true then mayN r else 1
def lineS (d q e : Int) (fi : Bool) (r : List ByteArray) : ByteArray := if lineE d q e r = 0 then lineO d q e fi r else ⟨#[]⟩
/-- The text of the records that may be written, as a text. -/
def textO (d q e : Int) (t : List (List ByteArray)) : ByteArray := toBA (textN d q e t (frontN t))
theorem bl_textO {d q : Int} (d0 : 0 ≤ d) (d1 : d ≤ 255) (q0 : 0 ≤ q) (q1 : q ≤ 255) (e : Int) (t : List (List ByteArray)) : bl (textO d q e t) = textN d q e t (frontN t) := bl_toBA _ (rowsL_bytes d0 d1 q0 q1 e _ true)
theorem dia3' {w : World} {g : Nat} {t : TypeId} {a b c : Value} (h : StB w g t #[a, b, c]) : w.cell? ⟨g, 0, none⟩ = some a ∧ w.cell? ⟨g, 1, none⟩ = some b ∧ w.cell? ⟨g, 2, none⟩ = some c ∧ g < w.heap.size :=
  ⟨h.cell 0, h.cell 1, h.cell 2, h.lt⟩
theorem up_onto' {w v : World} (h : Below w.heap.size w v) (x : Above v) : Below w.heap.size w (onto v x) := up_onto h x
end Go.Proofs.YtoeanbfemgmgnaaGreatDoor

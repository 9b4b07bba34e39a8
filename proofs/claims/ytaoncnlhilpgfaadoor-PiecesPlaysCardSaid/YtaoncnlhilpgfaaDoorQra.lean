/- Layer 10: how great a table is (lenL, fldN, bytN); the document's Great, May, Front. -/
import Derived.Test.YtaoncnlhilpgfaaDoorRows
import Derived.Test.YtaoncnlhilpgfaaDoorZk
import Derived.Test.YtaoncnlhilpgfaaDoorZp
import Derived.LoopTactic
namespace Go.Proofs.YtaoncnlhilpgfaaDoor
open Go.ChangeShapes Go.WideShapes Go.ChangeAt Go.RowKit
set_option linter.unusedVariables false
set_option linter.unusedSimpArgs false

def lenL : List ByteArray → Nat
  | [] => 0
  | x :: r => x.size + lenL r
theorem lenL_append : ∀ a b, lenL (a ++ b) = lenL a + lenL b
  | [], b => by simp [lenL]
  | x :: r, b => by simp [lenL, lenL_append r b]; omega
theorem lenL_take_le (l : List ByteArray) (k : Nat) : lenL (l.take k) ≤ lenL l := by
  have h := lenL_append (l.take k) (l.drop k)
  rw [List.take_append_drop] at h; omega
theorem lenL_at {l : List ByteArray} {k : Nat} {x : ByteArray} (h : l[k]? = some x) : lenL (l.take (k + 1)) = lenL (l.take k) + x.size := by
  rw [List.take_add_one, h, lenL_append]; simp [lenL]
theorem lenL_mem {l : List ByteArray} {x : ByteArray} (h : x ∈ l) : x.size ≤ lenL l := by
  induction l with
  | nil => cases h
  | cons y r ih =>
    rcases List.mem_cons.1 h with rfl | h
    · simp [lenL]
    · have := ih h; simp [lenL]; omega
def fldN : List (List ByteArray) → Nat
  | [] => 0
  | x :: r => x.length + fldN r
def bytN : List (List ByteArray) → Nat
  | [] => 0
  | x :: r => lenL x + bytN r
theorem fldN_append : ∀ a b, fldN (a ++ b) = fldN a + fldN b
  | [], b => by simp [fldN]
  | x :: r, b => by simp [fldN, fldN_append r b]; omega
theorem bytN_append : ∀ a b, bytN (a ++ b) = bytN a + bytN b
  | [], b => by simp [bytN]
  | x :: r, b => by simp [bytN, bytN_append r b]; omega
theorem fldN_take_le (l : List (List ByteArray)) (k : Nat) : fldN (l.take k) ≤ fldN l := by
  have h := fldN_append (l.take k) (l.drop k)
  rw [List.take_append_drop] at h; omega
theorem bytN_take_le (l : List (List ByteArray)) (k : Nat) : bytN (l.take k) ≤ bytN l := by
  have h := bytN_append (l.take k) (l.drop k)
  rw [List.take_append_drop] at h; omega
theorem fldN_at {l : List (List ByteArray)} {k : Nat} {x : List ByteArray} (h : l[k]? = some x) : fldN (l.take (k + 1)) = fldN (l.take k) + x.length := by
  rw [List.take_add_one, h, fldN_append]; simp [fldN]
theorem bytN_at {l : List (List ByteArray)} {k : Nat} {x : List ByteArray} (h : l[k]? = some x) : bytN (l.take (k + 1)) = bytN (l.take k) + lenL x := by
  rw [List.take_add_one, h, bytN_append]; simp [bytN]
theorem bytN_mem {l : List (List ByteArray)} {x : List ByteArray} (h : x ∈ l) : lenL x ≤ bytN l := by
  induction l with
  | nil => cases h
  | cons y r ih =>
    rcases List.mem_cons.1 h with rfl | h
    · simp [bytN]
    · have := ih h; simp [bytN]; omega
theorem fldN_mem {l : List (List ByteArray)} {x : List ByteArray} (h : x ∈ l) : x.length ≤ fldN l := by
  induction l with
  | nil => cases h
  | cons y r ih =>
    rcases List.mem_cons.1 h with rfl | h
    · simp [fldN]
    · have := ih h; simp [fldN]; omega
/-- Has a table more than so many records, fields or bytes? -/
def greatB (R F B : Nat) (t : List (List ByteArray)) : Bool := decide (R < t.length) || (decide (F < fldN t) || decide (B < bytN t))
theorem great_no {R F B : Nat} {t : List (List ByteArray)} (h : greatB R F B t = false) : t.length ≤ R ∧ fldN t ≤ F ∧ bytN t ≤ B := by
  unfold greatB at h
  simp only [Bool.or_eq_false_iff, decide_eq_false_iff_not] at h
  omega
/-- What all texts of a table are no longer than. -/
def Sizes (t : List (List ByteArray)) : Prop := ∀ x ∈ t, x.length ≤ maxLen ∧ ∀ s ∈ x, s.size ≤ 140737488351232

set_option maxRecDepth 100000 in
set_option maxHeartbeats 1600000 in
theorem great_any (A : Option Addr) (n c : Nat) (V : List Value) (t : List (List ByteArray)) (R F B : Nat) (hF : F ≤ 100000) (hB : B ≤ 100000) (hR : R ≤ 100000) (w : World) (ht : Hid (TabIn w A n V t)) (hok : Hid (Sizes t)) (hn : n ≤ 9223372036854775807) :
    Calls Tryd.prog 21 #[.slice A n c, .int .i64 R, .int .i64 F, .int .i64 B] w fun x w' => x = .returned (.bool (greatB R F B t)) ∧ Below w.heap.size w w' := by
  have HL := Lib.hid ht.out.len
  by_cases hr : n ≤ R
  · go_enter Tryd.func21, Tryd.ntmps21
    go_wp2_with fail
    go_loopw [2, 3, 19] (fun f b i wr => ∃ k f' b' : Nat, k ≤ n ∧ i = .int .i64 k ∧ f = .int .i64 f' ∧ b = .int .i64 b' ∧ f' ≤ 100000 ∧ b' ≤ 100000 ∧ Hid (fldN (t.take k) + f' = F) ∧ Hid (bytN (t.take k) + b' = B) ∧ Hid (∃ y, wr = onto w y)) (fun _ _ i _ => n - (intOf i).toNat)
    case atStart => exact ⟨0, F, B, Nat.zero_le _, rfl, rfl, rfl, hF, hB, Lib.hid (by simp [fldN]), Lib.hid (by simp [bytN]), Lib.hid (onto_self w)⟩
    case round =>
      obtain ⟨k, f', b', hk, rfl, rfl, rfl, hf1, hb1, HF, HB, HY⟩ := hrel
      obtain ⟨y, rfl⟩ := HY.out
      clear HY
      by_cases hlt : k < n
      · obtain ⟨r, hr'⟩ : ∃ r, t[k]? = some r := ⟨_, List.getElem?_eq_getElem (by rw [HL.out]; exact hlt)⟩
        obtain ⟨a, D, b, rfl, hca, hD⟩ := ht.out.row hr'
        have za : ∀ z, (onto w z).cell? (a.add k) = some (.slice D r.length b) := fun z => mem_cell (onto_below w z) hca
        have HOK := hok.out r (List.mem_of_getElem? hr')
        have HD := Lib.hid hD
        have HFK := Lib.hid (fldN_at hr')
        have HBK := Lib.hid (bytN_at hr')
        have HFT := Lib.hid (fldN_take_le t (k + 1))
        have HBT := Lib.hid (bytN_take_le t (k + 1))
        obtain ⟨m, hm⟩ : ∃ m, m = r.length := ⟨_, rfl⟩
        have hm9 : m ≤ 9223372036854775807 := by have := HOK.1; unfold maxLen at this; omega
        have HM := Lib.hid hm
        have HSZ := Lib.hid HOK.2
        rw [← hm] at za
        rw [← hm] at HD
        clear hr' hca hD HOK hm
        by_cases hfm : m ≤ f'
        · go_wp2_with fail
          go_loopw [3, 33] (fun b2 j wr => ∃ j' b'' : Nat, j' ≤ m ∧ j = .int .i64 j' ∧ b2 = .int .i64 b'' ∧ b'' ≤ 100000 ∧ Hid (bytN (t.take k) + lenL (r.take j') + b'' = B) ∧ Hid (∃ y, wr = onto w y)) (fun _ j _ => m - (intOf j).toNat)
          case atStart => exact ⟨0, b', Nat.zero_le _, rfl, rfl, hb1, Lib.hid (by have := HB.out; simp [lenL]; exact this), Lib.hid ⟨_, rfl⟩⟩
          case round =>
            obtain ⟨j', b'', hj, rfl, rfl, hb2, HB2, HY⟩ := hrel
            obtain ⟨y2, rfl⟩ := HY.out
            clear HY
            by_cases hjm : j' < m
            · obtain ⟨s, hs⟩ : ∃ s, r[j']? = some s := ⟨_, List.getElem?_eq_getElem (by rw [← HM.out]; exact hjm)⟩
              obtain ⟨d, rfl, hcd⟩ := HD.out.at_ (strs_get hs)
              have zd : ∀ z, (onto w z).cell? (d.add j') = some (.string s) := fun z => mem_cell (onto_below w z) hcd
              have hsz := HSZ.out s (List.mem_of_getElem? hs)
              have HS := Lib.hid (lenL_at hs)
              have HS2 := Lib.hid (lenL_take_le r (j' + 1))
              clear hs hcd
              by_cases hsb : s.size ≤ b''
              · go_wp2_with fail
                go_roundw
                case rel => exact ⟨j' + 1, b'' - s.size, by omega, by go_num, by (congr 1; omega), by omega, Lib.hid (by have := HB2.out; have := HS.out; omega), Lib.hid ⟨_, rfl⟩⟩
                case measure => simp [intOf]; omega
              · have HV := Lib.hid (show greatB R F B t = true by
                  have h1 := HB2.out; have h2 := HS.out; have h3 := HS2.out; have h4 := HBK.out; have h5 := HBT.out
                  have : B < bytN t := by omega
                  simp [greatB, this])
                go_wp2_with fail
                go_ret
                exact ⟨by rw [HV.out]; rfl, onto_below w y2⟩
            · obtain rfl : j' = m := by omega
              clear hjm
              go_wp2_with fail
              go_roundw
              case rel => exact ⟨k + 1, f' - j', b'', by omega, by go_num, by (congr 1; omega), rfl, by omega, hb2, Lib.hid (by have := HF.out; have := HFK.out; have := HM.out; omega), Lib.hid (by have h1 := HB2.out; have h2 := HBK.out; rw [List.take_of_length_le (l := r) (by have := HM.out; omega)] at h1; omega), Lib.hid ⟨_, rfl⟩⟩
              case measure => simp [intOf]; omega
        · have HV := Lib.hid (show greatB R F B t = true by
            have h1 := HF.out; have h2 := HFK.out; have h3 := HFT.out; have h4 := HM.out
            have : F < fldN t := by omega
            simp [greatB, this])
          go_wp2_with fail
          go_ret
          exact ⟨by rw [HV.out]; rfl, onto_below w y⟩
      · obtain rfl : k = n := by omega
        have HV := Lib.hid (show greatB R F B t = false by
          have h1 := HF.out; have h2 := HB.out
          rw [List.take_of_length_le (by rw [HL.out]; omega)] at h1 h2
          have hl := HL.out
          unfold greatB
          simp only [Bool.or_eq_false_iff, decide_eq_false_iff_not]
          omega)
        clear hlt
        go_wp2_with fail
        go_ret
        exact ⟨by rw [HV.out]; rfl, onto_below w y⟩
  · have HV := Lib.hid (show greatB R F B t = true by
      have hl := HL.out
      have : R < t.length := by omega
      simp [greatB, this])
    go_enter Tryd.func21, Tryd.ntmps21
    go_wp2_with fail
    go_ret
    exact ⟨by rw [HV.out]; rfl, Below.refl _ _⟩
theorem great_is (A : Option Addr) (n c : Nat) (V : List Value) (t : List (List ByteArray)) (R F B : Nat) (hF : F ≤ 100000) (hB : B ≤ 100000) (hR : R ≤ 100000) (v : Bool) (hv : Hid (greatB R F B t = v)) (w : World) (ht : Hid (TabIn w A n V t)) (hok : Hid (Sizes t)) (hn : n ≤ 9223372036854775807) :
    Calls Tryd.prog 21 #[.slice A n c, .int .i64 R, .int .i64 F, .int .i64 B] w fun x w' => x = .returned (.bool v) ∧ Below w.heap.size w w' := by
  rw [← hv.out]; exact great_any A n c V t R F B hF hB hR w ht hok hn
end Go.Proofs.YtaoncnlhilpgfaaDoor

/- Layer 8: what the program's Why, Need answer (premises). Layer 8: which of a record's fields must be quoted; what the program's Fields answers (premise). strings.ContainsAny(s, "\r\n") at whatever text, UTF-8 or not: whether one of the two bytes stands in it. Plain facts of the decoding, IndexRune at what is no ASCII, then IndexAny. strings.IndexRune("\r\n", r) at a rune that is no ASCII; strings.IndexAny, ContainsAny(s, "\r\n") at whatever text. Layer 8: the program's Why, Need. Layer 8: the program's Fields. Layer 10: what the program's Line answers (premise). -/
import Derived.Test.YtoeanbfemgmgnaaGreatDoorZn
import Derived.Test.YtoeanbfemgmgnaaGreatDoorRows
import Derived.Test.YtoeanbfemgmgnaaGreatDoorZk
import Derived.Test.YtoeanbfemgmgnaaGreatDoorZp
import Derived.Test.YtoeanbfemgmgnaaGreatDoorShelf
import Derived.Laws.RangeAny
import Derived.Lib.DecodeN
import Derived.Deep.LoopGhost
import Derived.LoopTactic
import Derived.Lib.Hide
import Derived.Laws.Runes
import Derived.WalkMore
import Derived.Lib.OthersKept
import Derived.Test.YtoeanbfemgmgnaaGreatDoorZq
namespace Go.Proofs.YtoeanbfemgmgnaaGreatDoor
open Go.ChangeShapes Go.WideShapes Go.ChangeAt Go.RowKit
set_option linter.unusedVariables false
set_option linter.unusedSimpArgs false

def WhySays : Prop := ∀ (d q e : Int) (f : ByteArray) (al fi : Bool) (w : World), 0 ≤ d → d ≤ 255 → 0 ≤ q → q ≤ 255 → rightB d q e = true → f.size ≤ 1000000 →
  Calls Tryz.prog 88 #[.agg #[.int .u8 d, .int .u8 q, .int .i64 e], .string f, .bool al, .bool fi] w fun x w' => x = .returned (.int .i64 (whyN d q (bl f) al fi)) ∧ Below w.heap.size w w'
def needB (d q : Int) (f : ByteArray) (al fi : Bool) : Bool := decide (whyN d q (bl f) al fi ≠ 0)
def NeedSays : Prop := ∀ (d q e : Int) (f : ByteArray) (al fi : Bool) (w : World), 0 ≤ d → d ≤ 255 → 0 ≤ q → q ≤ 255 → rightB d q e = true → f.size ≤ 1000000 →
  Calls Tryz.prog 72 #[.agg #[.int .u8 d, .int .u8 q, .int .i64 e], .string f, .bool al, .bool fi] w fun x w' => x = .returned (.bool (needB d q f al fi)) ∧ Below w.heap.size w w'
end Go.Proofs.YtoeanbfemgmgnaaGreatDoor

namespace Go.Proofs.YtoeanbfemgmgnaaGreatDoor
open Go.ChangeShapes Go.WideShapes Go.ChangeAt Go.RowKit
set_option linter.unusedVariables false
set_option linter.unusedSimpArgs false

/-- Truths as cells. -/
def bools (l : List Bool) : List Value := l.map Value.bool
/-- Which fields must be quoted: from field k on, of n. -/
def needL (d q : Int) (fi : Bool) (n : Nat) : Nat → List ByteArray → List Bool
  | _, [] => []
  | k, f :: r => needB d q f (decide (n = 1)) (fi && decide (k = 0)) :: needL d q fi n (k + 1) r
theorem needL_length (d q : Int) (fi : Bool) (n : Nat) : ∀ (r : List ByteArray) (k : Nat), (needL d q fi n k r).length = r.length
  | [], _ => rfl
  | f :: r, k => by rw [needL, List.length_cons, List.length_cons, needL_length d q fi n r]
theorem needL_at (d q : Int) (fi : Bool) (n : Nat) : ∀ (r : List ByteArray) (k j : Nat) (f : ByteArray), r[j]? = some f → (needL d q fi n k r)[j]? = some (needB d q f (decide (n = 1)) (fi && decide (k + j = 0)))
  | [], _, _, _, h => by simp at h
  | g :: r, k, 0, f, h => by simp at h; subst h; simp [needL]
  | g :: r, k, j + 1, f, h => by
    have := needL_at d q fi n r (k + 1) j f (by simpa using h)
    rw [needL, List.getElem?_cons_succ, this, show k + 1 + j = k + (j + 1) by omega]
end Go.Proofs.YtoeanbfemgmgnaaGreatDoor

namespace Go.Proofs.YtoeanbfemgmgnaaGreatDoor
open Go.ChangeShapes Go.WideShapes Go.ChangeAt Go.RowKit
set_option linter.unusedVariables false
set_option linter.unusedSimpArgs false

/-- Each byte of a rune that is no ASCII is 80 or above. -/
theorem decode_span (s : ByteArray) (pos : Nat) (h : pos < s.size) (ha : 128 ≤ (s[pos]'h).toNat) (j : Nat) (hj : j < (Utf8.decode s pos).2) : pos + j < s.size ∧ 128 ≤ (s.get! (pos + j)).toNat := by
  have e0 : s.get! pos = s[pos]'h := get_at s pos h
  rw [Lib.decode_at, e0] at hj
  unfold Lib.decodeN at hj
  have d3 : j = 0 ∨ j = 1 ∨ j = 2 ∨ j = 3 ∨ 4 ≤ j := by omega
  split at hj
  · exact absurd ha (by omega)
  · repeat' split at hj
    all_goals
      simp only at hj
      rcases d3 with rfl | rfl | rfl | rfl | hj4
      all_goals first
        | (exfalso; omega)
        | (refine ⟨by omega, ?_⟩; rw [Nat.add_zero, e0]; exact ha)
        | exact ⟨by omega, by omega⟩

def crlfL : List UInt8 := [13, 10]
theorem not_crlf {x : UInt8} (h : 128 ≤ x.toNat) : crlfL.contains x = false := by
  unfold crlfL
  simp only [List.contains_cons, List.contains_nil, Bool.or_false, Bool.or_eq_false_iff, beq_eq_false_iff_ne]
  exact ⟨fun e => by rw [e] at h; exact absurd h (by decide), fun e => by rw [e] at h; exact absurd h (by decide)⟩
theorem get_data (s : ByteArray) (k : Nat) (x : UInt8) (h : s.data.toList[k]? = some x) : s.get! k = x := by
  have hk : k < s.size := by
    rcases List.getElem?_eq_some_iff.1 h with ⟨h1, _⟩
    exact h1
  have e := get_at s k hk
  have e2 := Lib.data_getElem? s k hk
  rw [h] at e2
  have e3 : s.get! k = s.get! (k + 0) := rfl
  rw [e3, e]
  exact (Option.some.inj e2).symm
/-- Over a rune that is no ASCII none of the two stands. -/
theorem noAny_span {s : ByteArray} {i : Nat} (hn : Lib.NoAny s.data.toList crlfL i) (h : i < s.size) (ha : 128 ≤ (s[i]'h).toNat) : Lib.NoAny s.data.toList crlfL (i + (Utf8.decode s i).2) := by
  intro j b hj hb
  by_cases hji : j < i
  · exact hn j b hji hb
  · have := decode_span s i h ha (j - i) (by omega)
    rw [show i + (j - i) = j by omega, get_data s j b hb] at this
    exact not_crlf this.2
theorem decode_fits (s : ByteArray) (i : Nat) (h : i < s.size) (ha : 128 ≤ (s[i]'h).toNat) : i + (Utf8.decode s i).2 ≤ s.size := by
  have h1 := (decode_high s i h ha).2
  have := (decode_span s i h ha ((Utf8.decode s i).2 - 1) (by omega)).1
  omega

/-- The bytes of a rune that is no ASCII: two to four, the last one 80 or above. -/
theorem encode_high (r : Int) (h : 128 ≤ r) (hr : r ≤ 2147483647) : ∃ (E : ByteArray) (n : Nat) (hn : n - 1 < E.size), Utf8.encode r = E ∧ E.size = n ∧ 2 ≤ n ∧ n ≤ 4 ∧ 128 ≤ (E[n - 1]'hn).toNat := by
  have hlast : ∀ c : Nat, 128 ≤ (UInt8.ofNat (128 + c % 64)).toNat := by
    intro c
    rw [UInt8.toNat_ofNat']
    omega
  unfold Utf8.encode
  generalize hc : (if Utf8.valid r = true then r.toNat else Utf8.runeError) = c
  have c128 : ¬ c < 128 := by
    rw [← hc]; split
    · omega
    · decide
  simp only [c128, if_false]
  by_cases h2 : c < 2048
  · simp only [h2, if_true]
    exact ⟨_, 2, (by show (1 : Nat) < 2; decide), rfl, rfl, by omega, by omega, hlast c⟩
  · simp only [h2, if_false]
    by_cases h3 : c < 65536
    · simp only [h3, if_true]
      exact ⟨_, 3, (by show (2 : Nat) < 3; decide), rfl, rfl, by omega, by omega, hlast c⟩
    · simp only [h3, if_false]
      exact ⟨_, 4, (by show (3 : Nat) < 4; decide), rfl, rfl, by omega, by omega, hlast c⟩

set_option maxHeartbeats 1000000 in
theorem validRune_any (r : Int) (w : World) : Calls Tryz.prog 133 #[.int .i32 r] w fun e w' => e = .returned (.bool ((decide (0 ≤ r) && decide (r < 55296)) || (decide (57343 < r) && decide (r ≤ 1114111)))) ∧ w' = w := by
  by_cases h0 : 0 ≤ r
  · by_cases h1 : r < 55296
    · go_enter Tryz.func133, Tryz.ntmps133
      go_wp2_with fail
      go_ret
      (first | (simp_all; done) | (simp_all; omega))
    · by_cases h2 : 57343 < r
      · go_enter Tryz.func133, Tryz.ntmps133
        go_wp2_with fail
        all_goals go_ret
        all_goals (first | (simp_all; done) | (simp_all; omega))
      · go_enter Tryz.func133, Tryz.ntmps133
        go_wp2_with fail
        all_goals go_ret
        all_goals (first | (simp_all; done) | (simp_all; omega))
  · by_cases h2 : 57343 < r
    · exfalso; omega
    · go_enter Tryz.func133, Tryz.ntmps133
      go_wp2_with fail
      all_goals go_ret
      all_goals (first | (simp_all; done) | (simp_all; omega))
end Go.Proofs.YtoeanbfemgmgnaaGreatDoor

namespace Go.Proofs.YtoeanbfemgmgnaaGreatDoor
open Go.ChangeShapes Go.WideShapes Go.ChangeAt Go.RowKit
set_option linter.unusedVariables false
set_option linter.unusedSimpArgs false

def crlfB : ByteArray := ⟨#[13, 10]⟩
theorem iter_next_any (w : World) (s : ByteArray) (pos : Nat) (ty : TypeId) (h : pos < s.size) (r : Int) (k : Nat) (hr : r = ((Utf8.decode s pos).1 : Int)) (hk : k = (Utf8.decode s pos).2) :
    (Instr.next (.pointer (some ⟨w.heap.size, 0, none⟩)) true ty).run Tryz.prog (w.iter s pos) = .ok (.tuple #[.bool true, .int .i64 pos, .int .i32 r]) (w.iter s (pos + k)) := by
  subst hr hk; exact run_next_any w s pos ty h

set_option maxRecDepth 100000 in
set_option maxHeartbeats 2000000 in
/-- The replacement rune. -/
theorem indexRune_error (w : World) : Calls Tryz.prog 125 #[.string crlfB, .int .i32 65533] w fun e w' => e = .returned (.int .i64 (-1)) ∧ Below w.heap.size w w' := by
  have hsz : crlfB.size = 2 := rfl
  have h0 := fun ty => iter_next_any w crlfB 0 ty (by decide) 13 1 (by decide) (by decide)
  have h1 := fun ty => iter_next_any w crlfB 1 ty (by decide) 10 1 (by decide) (by decide)
  have h2 := fun ty => run_next_end (P := Tryz.prog) w crlfB 2 ty (by decide)
  generalize crlfB = s at *
  go_enter Tryz.func125, Tryz.ntmps125
  go_wp2_with fail
  go_loopg [5, 6] 2 (fun g _ _ wx => ∃ i : Nat, i + g = 2 ∧ wx = w.iter s i)
  case atStart => exact ⟨0, rfl, rfl⟩
  case round =>
    obtain ⟨i, hig, rfl⟩ := hrel
    have hi : i = 0 ∨ i = 1 ∨ i = 2 := by omega
    rcases hi with rfl | rfl | rfl
    · obtain ⟨g, rfl⟩ : ∃ g, gk = g + 1 := ⟨1, by omega⟩
      go_wp2_with fail
      go_roundg g
      case measure => omega
      case rel => exact ⟨1, by omega, rfl⟩
    · obtain ⟨g, rfl⟩ : ∃ g, gk = g + 1 := ⟨0, by omega⟩
      go_wp2_with fail
      go_roundg g
      case measure => omega
      case rel => exact ⟨2, by omega, rfl⟩
    · go_wp2_with fail
      go_ret
      exact ⟨rfl, (Below.refl _ _).alloc (Nat.le_refl _) _⟩
theorem run_index_nat {P : Program} (t : TypeId) (s : ByteArray) (j : Nat) (n : Int) (hn : n = j) (hj : j < s.size) (h : P.underlying t = some .string) (V : World) : (Instr.index t (.string s) (.int .i64 n)).run P V = .ok (.int .u8 ((s[j].toNat : Nat) : Int)) V := by
  subst hn
  have := run_index_string (P := P) V t s .i64 (j : Int) h
  simpa [hj] using this
set_option maxRecDepth 100000 in
set_option maxHeartbeats 4000000 in
/-- Any other rune that is no ASCII. -/
theorem indexRune_other (r : Int) (h0 : 128 ≤ r) (h1 : r ≤ 2147483647) (hne : r ≠ 65533) (w : World) : Calls Tryz.prog 125 #[.string crlfB, .int .i32 r] w fun e w' => e = .returned (.int .i64 (-1)) ∧ Below w.heap.size w w' := by
  obtain ⟨v, hv⟩ : ∃ v, ((decide (0 ≤ r) && decide (r < 55296)) || (decide (57343 < r) && decide (r ≤ 1114111))) = v := ⟨_, rfl⟩
  have hV := Lib.hid (fun w => by have := validRune_any r w; rw [hv] at this; exact this)
  have n128 : ¬ (r < 128) := by omega
  have g0 : 0 ≤ r := by omega
  clear hv
  obtain ⟨E, n, hn, hE, hEs, hn2, hn4, hlast⟩ := encode_high r h0 h1
  obtain ⟨c, hc⟩ : ∃ c : Int, c = ((E[n - 1]'hn).toNat : Int) := ⟨_, rfl⟩
  have hc128 : 128 ≤ c := by omega
  have hcc : ¬ (10 = c) := by omega
  have hc255 : c ≤ 255 := by rw [hc]; have := (E[n-1]'hn).toNat_lt; omega
  have hix := fun V => run_index_nat (P := Tryz.prog) 9 E (n - 1) ((n : Int) - 1) (by omega) hn Tryz.underlying9 V
  rw [← hc] at hix
  have hi1 : ∀ V : World, (Instr.index 9 (.string crlfB) (.int .i64 1)).run Tryz.prog V = .ok (.int .u8 10) V := fun V => run_index_nat (P := Tryz.prog) 9 crlfB 1 1 rfl (by decide) Tryz.underlying9 V
  have hsub : ∀ V : World, (Instr.slice 9 (.string crlfB) (some (.int .i64 2)) none none).run Tryz.prog V = .ok (.string ⟨#[]⟩) V := fun V => by
    have := run_slice_string_from_if (P := Tryz.prog) V 9 crlfB .i64 2 Tryz.underlying9
    rw [this]
    rfl
  have hz : ∀ w : World, Calls Tryz.prog 104 #[.string ⟨#[]⟩, .int .u8 c] w fun e w' => e = .returned (.int .i64 (-1)) ∧ w' = w := fun w => Tryz.strings_IndexByte ⟨#[]⟩ c w
  have hsz : crlfB.size = 2 := rfl
  have hcv : ∀ V : World, (convert 21 9 (.int .i32 r)).run Tryz.prog V = .ok (.string E) V := fun V => by rw [← hE]; exact run_convert_int_string V _ _ _ _ (by kernel_rfl) Tryz.underlying9
  clear hc hlast hE
  generalize crlfB = s at *
  cases v
  · go_enter Tryz.func125, Tryz.ntmps125
    go_wp2_with (go_at_call 133; refine (hV.out _).mono ?_; rintro e w' ⟨rfl, hw⟩; rw [hw])
    go_ret
    exact ⟨rfl, Below.refl _ _⟩
  · go_enter Tryz.func125, Tryz.ntmps125
    go_wp2_with (go_at_call 133; refine (hV.out _).mono ?_; rintro e w' ⟨rfl, hw⟩; rw [hw])
    apply wp_scope_straight
    go_wp2_with fail
    go_loopw [9, 10] (fun i f wr => i = .int .i64 ((n : Int) - 1) ∧ f = .int .i64 0 ∧ wr = w) (fun _ _ _ => 0)
    case atStart => exact ⟨rfl, rfl, rfl⟩
    case round =>
      obtain ⟨rfl, rfl, rfl⟩ := hrel
      by_cases h2 : n = 2
      · subst h2
        have e1 : ((2 : Nat) : Int) - 1 = 1 := rfl
        rw [e1] at hix ⊢
        go_wp2_with fail
        apply wp_scope_straight
        go_wp2_with fail
        go_region
        go_wp2_with fail
        go_region_with (go_at_call 104; refine (hz _).mono ?_; rintro e w' ⟨rfl, hw⟩; rw [hw])
        go_wp2_with fail
        all_goals simp (config := { zetaDelta := true }) only [Exit.noGoto_ret, Exit.inBlock, Exit.then]
        all_goals go_ret
        all_goals exact ⟨rfl, up_drew (up_drew (Below.refl _ _))⟩
      · have h3 : ¬ ((n : Int) - 1 < 2) := by omega
        go_wp2_with fail
        go_ret
        exact ⟨rfl, Below.refl _ _⟩
theorem indexRune_high (r : Int) (h0 : 128 ≤ r) (h1 : r ≤ 2147483647) (w : World) : Calls Tryz.prog 125 #[.string crlfB, .int .i32 r] w fun e w' => e = .returned (.int .i64 (-1)) ∧ Below w.heap.size w w' := by
  by_cases h : r = 65533
  · subst h; exact indexRune_error w
  · exact indexRune_other r h0 h1 h w
theorem crlf_ascii (r : Nat) (h1 : r < 128) (w : World) : Calls Tryz.prog 125 #[.string crlfB, .int .i32 r] w fun e w' => e = .returned (.int .i64 (Lib.indexByte crlfL r.toUInt8)) ∧ w' = w :=
  Tryz.strings_IndexRune_ascii crlfB r w (by omega) (by omega)
/-- The iterator over s stands in block h, at place i; below h all is as it was. -/
def ItAt (w : World) (h : Nat) (s : ByteArray) (i : Nat) (V : World) : Prop := V.heap[h]? = some (.stringIter s i) ∧ Below h w V
theorem ItAt.start (w : World) (s : ByteArray) : ItAt w w.heap.size s 0 (w.iter s 0) := ⟨World.iter_heap w s 0, (Below.refl _ _).alloc (Nat.le_refl _) _⟩
theorem ItAt.next {w : World} {h : Nat} {s : ByteArray} {i : Nat} {V : World} (H : ItAt w h s i V) (k : Nat) : ItAt w h s k (V.iterAt h s k) := by
  have hlt : h < V.heap.size := (Array.getElem?_eq_some_iff.1 H.1).1
  refine ⟨Lib.iterAt_heap V h s i k H.1, H.2.trans ⟨rfl, rfl, rfl, ?_, fun j hj => Lib.iterAt_other V h j s k (by omega)⟩⟩
  simp [World.iterAt]
theorem ItAt.later {w : World} {h : Nat} {s : ByteArray} {i : Nat} {V V' : World} (H : ItAt w h s i V) (hb : Below V.heap.size V V') : ItAt w h s i V' := by
  have hlt : h < V.heap.size := (Array.getElem?_eq_some_iff.1 H.1).1
  exact ⟨by rw [hb.block h hlt]; exact H.1, H.2.trans (hb.mono (by omega))⟩
set_option maxRecDepth 100000 in
set_option maxHeartbeats 4000000 in
/-- A text of at most 8 bytes. -/
theorem indexAny_small (s : ByteArray) (w : World) (h8 : s.size ≤ 8) : Calls Tryz.prog 116 #[.string s, .string crlfB] w fun e w' => e = .returned (.int .i64 (Lib.indexAny s.data.toList crlfL)) ∧ Below w.heap.size w w' := by
  have hsh := Lib.hid (fun w => by have := Tryz.strings_shouldUseASCIISet (s.size : Int) w; rw [decide_eq_false (by omega)] at this; exact this)
  have hH := Lib.hid indexRune_high
  have hA := Lib.hid crlf_ascii
  have hsz : crlfB.size = 2 := rfl
  have hemp : crlfB.toList.isEmpty = false := str_ne (by decide)
  have HB := Lib.hid (ItAt.start w s)
  generalize crlfB = t at *
  go_enter Tryz.func116, Tryz.ntmps116
  go_wp2_with (go_at_call 126; refine (hsh.out _).mono ?_; rintro e w' ⟨rfl, hw⟩; rw [hw])
  go_loopg [9, 10] s.size (fun g _ _ wx => ∃ i : Nat, i + g = s.size ∧ Hid (ItAt w w.heap.size s i wx) ∧ Hid (Lib.NoAny s.data.toList crlfL i))
  case atStart => exact ⟨0, by omega, HB, Lib.hid (Lib.NoAny.zero _ _)⟩
  case round =>
    obtain ⟨i, hig, HI, HN⟩ := hrel
    clear HB
    by_cases hend : i = s.size
    · obtain rfl : gk = 0 := by omega
      have hnx := fun ty => Lib.run_next_end_at (P := Tryz.prog) wr w.heap.size s i ty HI.out.1 (by omega)
      have HV := Lib.hid (Lib.indexAny_none (by rw [← Lib.size_eq, ← hend]; exact HN.out) : Lib.indexAny s.data.toList crlfL = -1)
      clear hend
      go_wp2_with fail
      go_ret
      exact ⟨by rw [HV.out]; rfl, HI.out.2⟩
    · have hi : i < s.size := by omega
      obtain ⟨x, hx⟩ : ∃ x : UInt8, s[i]'hi = x := ⟨_, rfl⟩
      have Hx := Lib.hid (show s.data.toList[i]? = some x by rw [← hx]; exact Lib.data_getElem? s i hi)
      obtain ⟨r, hr⟩ : ∃ r : Nat, r = (Utf8.decode s i).1 := ⟨_, rfl⟩
      obtain ⟨k, hk⟩ : ∃ k : Nat, k = (Utf8.decode s i).2 := ⟨_, rfl⟩
      obtain ⟨V, hV⟩ : ∃ V : World, V = wr.iterAt w.heap.size s (i + k) := ⟨_, rfl⟩
      have hnx := fun ty => Lib.run_next_any_at (P := Tryz.prog) wr w.heap.size s i ty HI.out.1 hi
      rw [← hr, ← hk, ← hV] at hnx
      have HV := Lib.hid (show ItAt w w.heap.size s (i + k) V by rw [hV]; exact HI.out.next (i + k))
      by_cases hx128 : x.toNat < 128
      · have hd := decode_ascii s i hi (by rw [hx]; exact hx128)
        rw [hx] at hd
        obtain rfl : r = x.toNat := by rw [hr, hd]
        obtain rfl : k = 1 := by rw [hk, hd]
        have HA := Lib.hid (fun w => by have := hA.out x.toNat hx128 w; rw [show x.toNat.toUInt8 = x by simp] at this; exact this)
        have hcon := Lib.contains_iff_indexByte crlfL x
        clear hd hr hk hV hx hA hH
        cases hin : crlfL.contains x
        · rw [hin] at hcon
          have hlt : ¬ ((0 : Int) ≤ Lib.indexByte crlfL x) := of_decide_eq_false hcon.symm
          have HN' := Lib.hid (HN.out.succ Hx.out hin)
          clear hcon
          go_wp2_with (go_at_call 125; refine (HA.out _).mono ?_; rintro e w' ⟨rfl, hw⟩; rw [hw])
          go_roundg (gk - 1)
          case measure => omega
          case rel => exact ⟨i + 1, by omega, HV, HN'⟩
        · rw [hin] at hcon
          have hge : (0 : Int) ≤ Lib.indexByte crlfL x := of_decide_eq_true hcon.symm
          have HR := Lib.hid (Lib.indexAny_hit HN.out Hx.out hin)
          clear hcon
          go_wp2_with (go_at_call 125; refine (HA.out _).mono ?_; rintro e w' ⟨rfl, hw⟩; rw [hw])
          go_ret
          exact ⟨by rw [HR.out]; rfl, HV.out.2⟩
      · have ha : 128 ≤ (s[i]'hi).toNat := by rw [hx]; omega
        have hr0 : 128 ≤ (r : Int) := by have := (decode_high s i hi ha).1; omega
        have hr1 : (r : Int) ≤ 2147483647 := by have := decode_le s i; omega
        have hk0 : 1 ≤ k := by have := (decode_high s i hi ha).2; omega
        have hk1 : i + k ≤ s.size := by have := decode_fits s i hi ha; omega
        have HN' := Lib.hid (show Lib.NoAny s.data.toList crlfL (i + k) by rw [hk]; exact noAny_span HN.out hi ha)
        have HH := Lib.hid (fun w => hH.out r hr0 hr1 w)
        clear hr hk hV hx hA hH ha
        go_wp2_with (go_at_call 125; refine (HH.out _).mono ?_; rintro e w' ⟨rfl, hw⟩)
        have HV' := Lib.hid (HV.out.later hw)
        go_roundg (s.size - (i + k))
        case measure => omega
        case rel => exact ⟨i + k, by omega, HV', HN'⟩
theorem indexAny_all (s : ByteArray) (w : World) (hs : s.size ≤ 1000000) : Calls Tryz.prog 116 #[.string s, .string crlfB] w fun e w' => e = .returned (.int .i64 (Lib.indexAny s.data.toList crlfL)) ∧ Below w.heap.size w w' := by
  by_cases h8 : s.size ≤ 8
  · exact indexAny_small s w h8
  · refine (Tryz.strings_IndexAny_long (zero_of_info (show (Tryz.prog.info? 178).map (fun i => (i.zero, i.size)) = some (some (.agg (Array.replicate 256 (.bool false))), 256) by kernel_rfl)).1 s crlfB w (by decide) (by omega) (by omega) (by decide) ?_).mono ?_
    · intro j b hb
      have : crlfB.data.toList = [13, 10] := rfl
      rw [this] at hb
      match j, hb with
      | 0, hb => simp at hb; subst hb; decide
      | 1, hb => simp at hb; subst hb; decide
    · rintro e w' ⟨rfl, rfl⟩
      exact ⟨rfl, up_alloc (up_alloc (Below.refl _ _) _) _⟩
theorem containsAny_all (s : ByteArray) (w : World) (hs : s.size ≤ 1000000) : Calls Tryz.prog 105 #[.string s, .string ⟨#[13, 10]⟩] w fun e w' => e = .returned (.bool (decide (0 ≤ Lib.indexAny s.data.toList crlfL))) ∧ Below w.heap.size w w' := by
  have hI := Lib.hid (fun w => indexAny_all s w hs)
  obtain ⟨n, hn⟩ : ∃ n, Lib.indexAny s.data.toList crlfL = n := ⟨_, rfl⟩
  rw [hn] at hI ⊢
  show Calls _ _ #[.string s, .string crlfB] _ _
  generalize crlfB = t at *
  go_enter Tryz.func105, Tryz.ntmps105
  go_wp2_with (go_at_call 116; refine (hI.out _).mono ?_; rintro e w' ⟨rfl, hw⟩)
  go_ret
  exact ⟨rfl, hw⟩
end Go.Proofs.YtoeanbfemgmgnaaGreatDoor

namespace Go.Proofs.YtoeanbfemgmgnaaGreatDoor
open Go.ChangeShapes Go.WideShapes Go.ChangeAt Go.RowKit
set_option linter.unusedVariables false
set_option linter.unusedSimpArgs false

theorem indexAny_has (chars : List UInt8) : ∀ l : List UInt8, decide (0 ≤ Lib.indexAny l chars) = l.any fun b => chars.contains b
  | [] => rfl
  | b :: l => by
    have ih := indexAny_has chars l
    have hge := Lib.indexAny_ge chars l
    rw [List.any_cons, ← ih, Lib.indexAny]
    cases h : chars.contains b
    · simp only [Bool.false_eq_true, if_false, Bool.false_or]
      by_cases h1 : Lib.indexAny l chars = -1
      · rw [h1]; rfl
      · rw [if_neg (by simpa using h1)]
        exact decide_eq_decide.2 (by omega)
    · simp
theorem any_bl (s : ByteArray) (p : UInt8 → Bool) (q : Int → Bool) (h : ∀ b : UInt8, p b = q (b.toNat : Int)) : s.data.toList.any p = (bl s).any q := by
  unfold bl
  rw [List.any_map]
  congr 1
  funext b
  exact h b
theorem hasL_any (l : List Int) (d : Int) : hasL l d = l.any fun x => decide (x = d) := by
  unfold hasL
  rw [Bool.eq_iff_iff, decide_eq_true_eq, List.any_eq_true]
  constructor
  · intro h; exact ⟨d, h, by simp⟩
  · rintro ⟨x, hx, e⟩; rw [of_decide_eq_true e] at hx; exact hx
theorem byte_has (s : ByteArray) (d : Int) (d0 : 0 ≤ d) (d1 : d ≤ 255) : decide (0 ≤ Lib.indexByte s.data.toList d.toNat.toUInt8) = hasL (bl s) d := by
  rw [← Lib.indexAny_one, indexAny_has, hasL_any]
  refine any_bl s _ _ fun b => ?_
  rw [Bool.eq_iff_iff]
  simp only [List.contains_cons, List.contains_nil, Bool.or_false, beq_iff_eq, decide_eq_true_eq]
  have hb := b.toNat_lt
  constructor
  · intro h; rw [h]
    show ((UInt8.ofNat d.toNat).toNat : Int) = d
    rw [UInt8.toNat_ofNat']; omega
  · intro h; rw [← h]; simp
theorem ends_has (s : ByteArray) : decide (0 ≤ Lib.indexAny s.data.toList crlfL) = (hasL (bl s) 13 || hasL (bl s) 10) := by
  rw [indexAny_has, hasL_any, hasL_any]
  have : ∀ l : List Int, (l.any (fun x => decide (x = 13)) || l.any (fun x => decide (x = 10))) = l.any fun x => decide (x = 13) || decide (x = 10) := by
    intro l
    induction l with
    | nil => rfl
    | cons a r ih => simp only [List.any_cons]; rw [← ih]; simp only [Bool.or_assoc, Bool.or_left_comm]
  rw [this]
  refine any_bl s _ _ fun b => ?_
  rw [Bool.eq_iff_iff]
  have hb := b.toNat_lt
  unfold crlfL
  simp only [List.contains_cons, List.contains_nil, Bool.or_false, Bool.or_eq_true, beq_iff_eq, decide_eq_true_eq]
  constructor
  · rintro (h | h)
    · left; rw [h]; rfl
    · right; rw [h]; rfl
  · rintro (h | h)
    · left; exact UInt8.toNat_inj.1 (by show b.toNat = 13; omega)
    · right; exact UInt8.toNat_inj.1 (by show b.toNat = 10; omega)
theorem prefix_mark (s : ByteArray) : Lib.hasPrefix s.data.toList [239, 187, 191] = bomHad (bl s) := by
  have : ∀ (p l : List UInt8), p.isPrefixOf l = (p.map fun c => (c.toNat : Int)).isPrefixOf (l.map fun c => (c.toNat : Int)) := by
    intro p
    induction p with
    | nil => intro l; rfl
    | cons a r ih =>
      intro l
      cases l with
      | nil => rfl
      | cons b l =>
        simp only [List.map_cons, List.isPrefixOf_cons_cons]
        rw [← ih l]
        congr 1
        rw [Bool.eq_iff_iff, beq_iff_eq, beq_iff_eq]
        exact ⟨fun h => by rw [h], fun h => UInt8.toNat_inj.1 (by omega)⟩
  show List.isPrefixOf _ _ = _
  rw [this]
  rfl
theorem byte_is (s : ByteArray) (d : Int) (d0 : 0 ≤ d) (d1 : d ≤ 255) (v : Bool) (hv : Hid (hasL (bl s) d = v)) (w : World) :
    Calls Tryz.prog 104 #[.string s, .int .u8 d] w fun x w' => (∃ n, x = .returned (.int .i64 n) ∧ decide (0 ≤ n) = v) ∧ w' = w :=
  (Tryz.strings_IndexByte s d w).mono fun x w' ⟨h1, h2⟩ => ⟨⟨_, h1, by rw [byte_has s d d0 d1]; exact hv.out⟩, h2⟩
theorem ends_is (s : ByteArray) (hs : s.size ≤ 1000000) (v : Bool) (hv : Hid ((hasL (bl s) 13 || hasL (bl s) 10) = v)) (w : World) :
    Calls Tryz.prog 105 #[.string s, .string ⟨#[13, 10]⟩] w fun x w' => x = .returned (.bool v) ∧ Below w.heap.size w w' :=
  (containsAny_all s w hs).mono fun x w' ⟨h1, h2⟩ => ⟨by rw [h1, ends_has, hv.out], h2⟩
theorem mark_is (s : ByteArray) (v : Bool) (hv : Hid (bomHad (bl s) = v)) (w : World) :
    Calls Tryz.prog 106 #[.string s, .string ⟨#[239, 187, 191]⟩] w fun x w' => x = .returned (.bool v) ∧ w' = w :=
  (Tryz.strings_HasPrefix s ⟨#[239, 187, 191]⟩ w).mono fun x w' ⟨h1, h2⟩ => ⟨by rw [h1, ← hv.out, ← prefix_mark s], h2⟩

set_option maxHeartbeats 1600000 in
theorem why_any : WhySays := by
  intro d q e s al fi w d0 d1 q0 q1 _ hs
  have hs' : s.size ≤ 9223372036854775807 := by omega
  obtain ⟨v1, h1⟩ : ∃ v, hasL (bl s) d = v := ⟨_, rfl⟩
  obtain ⟨v2, h2⟩ : ∃ v, hasL (bl s) q = v := ⟨_, rfl⟩
  obtain ⟨v3, h3⟩ : ∃ v, (hasL (bl s) 13 || hasL (bl s) 10) = v := ⟨_, rfl⟩
  obtain ⟨v5, h5⟩ : ∃ v, bomHad (bl s) = v := ⟨_, rfl⟩
  have H1 := Lib.hid h1
  have H2 := Lib.hid h2
  have H3 := Lib.hid h3
  have H5 := Lib.hid h5
  obtain ⟨v4, h4⟩ : ∃ v, decide (bl s = []) = v := ⟨_, rfl⟩
  have he : s.toList.isEmpty = v4 := by
    rw [← h4, ByteArray.toList_eq, Bool.eq_iff_iff]
    unfold bl
    simp
  obtain ⟨W, hW⟩ : ∃ W, W = whyN d q (bl s) al fi := ⟨_, rfl⟩
  have hW2 := hW
  unfold whyN at hW2
  have e4 : (bl s = [] ∧ al = true) ↔ (v4 && al) = true := by rw [← h4]; simp
  rw [h1, h2, h3, h5] at hW2
  simp only [e4] at hW2
  have HW := Lib.hid hW2
  rw [← hW]
  clear h1 h2 h3 h4 h5 hW hW2 e4
  cases v1
  case true =>
    have HV := Lib.hid (show W = 1 by rw [HW.out]; rfl)
    clear HW
    go_enter Tryz.func88, Tryz.ntmps88
    go_wp2_with (first
      | (go_at_call 104; with_reducible refine (byte_is s d d0 d1 _ H1 _).mono ?_; rintro x w' ⟨⟨n, rfl, hn⟩, hw⟩; rw [hw])
      | (go_at_call 104; with_reducible refine (byte_is s q q0 q1 _ H2 _).mono ?_; rintro x w' ⟨⟨m, rfl, hm⟩, hw⟩; rw [hw])
      | (go_at_call 105; with_reducible refine (above (ends_is s hs _ H3 _)).mono ?_; rintro x _ ⟨rfl, y, rfl⟩)
      | (go_at_call 106; with_reducible refine (mark_is s _ H5 _).mono ?_; rintro x w' ⟨rfl, hw⟩; rw [hw]))
    all_goals go_ret
    all_goals exact ⟨by rw [HV.out]; rfl, (by (repeat (first | exact Below.refl _ _ | refine up_onto ?_ _ | refine up_alloc ?_ _)))⟩
  case false =>
    cases v2
    case true =>
      have HV := Lib.hid (show W = 2 by rw [HW.out]; rfl)
      clear HW
      go_enter Tryz.func88, Tryz.ntmps88
      go_wp2_with (first
      | (go_at_call 104; with_reducible refine (byte_is s d d0 d1 _ H1 _).mono ?_; rintro x w' ⟨⟨n, rfl, hn⟩, hw⟩; rw [hw])
      | (go_at_call 104; with_reducible refine (byte_is s q q0 q1 _ H2 _).mono ?_; rintro x w' ⟨⟨m, rfl, hm⟩, hw⟩; rw [hw])
      | (go_at_call 105; with_reducible refine (above (ends_is s hs _ H3 _)).mono ?_; rintro x _ ⟨rfl, y, rfl⟩)
      | (go_at_call 106; with_reducible refine (mark_is s _ H5 _).mono ?_; rintro x w' ⟨rfl, hw⟩; rw [hw]))
      all_goals go_ret
      all_goals exact ⟨by rw [HV.out]; rfl, (by (repeat (first | exact Below.refl _ _ | refine up_onto ?_ _ | refine up_alloc ?_ _)))⟩
    case false =>
      cases v3
      case true =>
        have HV := Lib.hid (show W = 3 by rw [HW.out]; rfl)
        clear HW
        go_enter Tryz.func88, Tryz.ntmps88
        go_wp2_with (first
      | (go_at_call 104; with_reducible refine (byte_is s d d0 d1 _ H1 _).mono ?_; rintro x w' ⟨⟨n, rfl, hn⟩, hw⟩; rw [hw])
      | (go_at_call 104; with_reducible refine (byte_is s q q0 q1 _ H2 _).mono ?_; rintro x w' ⟨⟨m, rfl, hm⟩, hw⟩; rw [hw])
      | (go_at_call 105; with_reducible refine (above (ends_is s hs _ H3 _)).mono ?_; rintro x _ ⟨rfl, y, rfl⟩)
      | (go_at_call 106; with_reducible refine (mark_is s _ H5 _).mono ?_; rintro x w' ⟨rfl, hw⟩; rw [hw]))
        all_goals go_ret
        all_goals exact ⟨by rw [HV.out]; rfl, (by (repeat (first | exact Below.refl _ _ | refine up_onto ?_ _ | refine up_alloc ?_ _)))⟩
      case false =>
        cases v4
        case true =>
          cases al
          case true =>
            have HV := Lib.hid (show W = 4 by rw [HW.out]; rfl)
            clear HW
            go_enter Tryz.func88, Tryz.ntmps88
            go_wp2_with (first
      | (go_at_call 104; with_reducible refine (byte_is s d d0 d1 _ H1 _).mono ?_; rintro x w' ⟨⟨n, rfl, hn⟩, hw⟩; rw [hw])
      | (go_at_call 104; with_reducible refine (byte_is s q q0 q1 _ H2 _).mono ?_; rintro x w' ⟨⟨m, rfl, hm⟩, hw⟩; rw [hw])
      | (go_at_call 105; with_reducible refine (above (ends_is s hs _ H3 _)).mono ?_; rintro x _ ⟨rfl, y, rfl⟩)
      | (go_at_call 106; with_reducible refine (mark_is s _ H5 _).mono ?_; rintro x w' ⟨rfl, hw⟩; rw [hw]))
            all_goals go_ret
            all_goals exact ⟨by rw [HV.out]; rfl, (by (repeat (first | exact Below.refl _ _ | refine up_onto ?_ _ | refine up_alloc ?_ _)))⟩
          case false =>
            cases fi
            case false =>
              have HV := Lib.hid (show W = 0 by rw [HW.out]; rfl)
              clear HW
              go_enter Tryz.func88, Tryz.ntmps88
              go_wp2_with (first
      | (go_at_call 104; with_reducible refine (byte_is s d d0 d1 _ H1 _).mono ?_; rintro x w' ⟨⟨n, rfl, hn⟩, hw⟩; rw [hw])
      | (go_at_call 104; with_reducible refine (byte_is s q q0 q1 _ H2 _).mono ?_; rintro x w' ⟨⟨m, rfl, hm⟩, hw⟩; rw [hw])
      | (go_at_call 105; with_reducible refine (above (ends_is s hs _ H3 _)).mono ?_; rintro x _ ⟨rfl, y, rfl⟩)
      | (go_at_call 106; with_reducible refine (mark_is s _ H5 _).mono ?_; rintro x w' ⟨rfl, hw⟩; rw [hw]))
              all_goals go_ret
              all_goals exact ⟨by rw [HV.out]; rfl, (by (repeat (first | exact Below.refl _ _ | refine up_onto ?_ _ | refine up_alloc ?_ _)))⟩
            case true =>
              cases v5
              case false =>
                have HV := Lib.hid (show W = 0 by rw [HW.out]; rfl)
                clear HW
                go_enter Tryz.func88, Tryz.ntmps88
                go_wp2_with (first
      | (go_at_call 104; with_reducible refine (byte_is s d d0 d1 _ H1 _).mono ?_; rintro x w' ⟨⟨n, rfl, hn⟩, hw⟩; rw [hw])
      | (go_at_call 104; with_reducible refine (byte_is s q q0 q1 _ H2 _).mono ?_; rintro x w' ⟨⟨m, rfl, hm⟩, hw⟩; rw [hw])
      | (go_at_call 105; with_reducible refine (above (ends_is s hs _ H3 _)).mono ?_; rintro x _ ⟨rfl, y, rfl⟩)
      | (go_at_call 106; with_reducible refine (mark_is s _ H5 _).mono ?_; rintro x w' ⟨rfl, hw⟩; rw [hw]))
                all_goals go_ret
                all_goals exact ⟨by rw [HV.out]; rfl, (by (repeat (first | exact Below.refl _ _ | refine up_onto ?_ _ | refine up_alloc ?_ _)))⟩
              case true =>
                have HV := Lib.hid (show W = 5 by rw [HW.out]; rfl)
                clear HW
                go_enter Tryz.func88, Tryz.ntmps88
                go_wp2_with (first
      | (go_at_call 104; with_reducible refine (byte_is s d d0 d1 _ H1 _).mono ?_; rintro x w' ⟨⟨n, rfl, hn⟩, hw⟩; rw [hw])
      | (go_at_call 104; with_reducible refine (byte_is s q q0 q1 _ H2 _).mono ?_; rintro x w' ⟨⟨m, rfl, hm⟩, hw⟩; rw [hw])
      | (go_at_call 105; with_reducible refine (above (ends_is s hs _ H3 _)).mono ?_; rintro x _ ⟨rfl, y, rfl⟩)
      | (go_at_call 106; with_reducible refine (mark_is s _ H5 _).mono ?_; rintro x w' ⟨rfl, hw⟩; rw [hw]))
                all_goals go_ret
                all_goals exact ⟨by rw [HV.out]; rfl, (by (repeat (first | exact Below.refl _ _ | refine up_onto ?_ _ | refine up_alloc ?_ _)))⟩
        case false =>
          cases al <;> skip
          case false =>
            cases fi
            case false =>
              have HV := Lib.hid (show W = 0 by rw [HW.out]; rfl)
              clear HW
              go_enter Tryz.func88, Tryz.ntmps88
              go_wp2_with (first
      | (go_at_call 104; with_reducible refine (byte_is s d d0 d1 _ H1 _).mono ?_; rintro x w' ⟨⟨n, rfl, hn⟩, hw⟩; rw [hw])
      | (go_at_call 104; with_reducible refine (byte_is s q q0 q1 _ H2 _).mono ?_; rintro x w' ⟨⟨m, rfl, hm⟩, hw⟩; rw [hw])
      | (go_at_call 105; with_reducible refine (above (ends_is s hs _ H3 _)).mono ?_; rintro x _ ⟨rfl, y, rfl⟩)
      | (go_at_call 106; with_reducible refine (mark_is s _ H5 _).mono ?_; rintro x w' ⟨rfl, hw⟩; rw [hw]))
              all_goals go_ret
              all_goals exact ⟨by rw [HV.out]; rfl, (by (repeat (first | exact Below.refl _ _ | refine up_onto ?_ _ | refine up_alloc ?_ _)))⟩
            case true =>
              cases v5
              case false =>
                have HV := Lib.hid (show W = 0 by rw [HW.out]; rfl)
                clear HW
                go_enter Tryz.func88, Tryz.ntmps88
                go_wp2_with (first
      | (go_at_call 104; with_reducible refine (byte_is s d d0 d1 _ H1 _).mono ?_; rintro x w' ⟨⟨n, rfl, hn⟩, hw⟩; rw [hw])
      | (go_at_call 104; with_reducible refine (byte_is s q q0 q1 _ H2 _).mono ?_; rintro x w' ⟨⟨m, rfl, hm⟩, hw⟩; rw [hw])
      | (go_at_call 105; with_reducible refine (above (ends_is s hs _ H3 _)).mono ?_; rintro x _ ⟨rfl, y, rfl⟩)
      | (go_at_call 106; with_reducible refine (mark_is s _ H5 _).mono ?_; rintro x w' ⟨rfl, hw⟩; rw [hw]))
                all_goals go_ret
                all_goals exact ⟨by rw [HV.out]; rfl, (by (repeat (first | exact Below.refl _ _ | refine up_onto ?_ _ | refine up_alloc ?_ _)))⟩
              case true =>
                have HV := Lib.hid (show W = 5 by rw [HW.out]; rfl)
                clear HW
                go_enter Tryz.func88, Tryz.ntmps88
                go_wp2_with (first
      | (go_at_call 104; with_reducible refine (byte_is s d d0 d1 _ H1 _).mono ?_; rintro x w' ⟨⟨n, rfl, hn⟩, hw⟩; rw [hw])
      | (go_at_call 104; with_reducible refine (byte_is s q q0 q1 _ H2 _).mono ?_; rintro x w' ⟨⟨m, rfl, hm⟩, hw⟩; rw [hw])
      | (go_at_call 105; with_reducible refine (above (ends_is s hs _ H3 _)).mono ?_; rintro x _ ⟨rfl, y, rfl⟩)
      | (go_at_call 106; with_reducible refine (mark_is s _ H5 _).mono ?_; rintro x w' ⟨rfl, hw⟩; rw [hw]))
                all_goals go_ret
                all_goals exact ⟨by rw [HV.out]; rfl, (by (repeat (first | exact Below.refl _ _ | refine up_onto ?_ _ | refine up_alloc ?_ _)))⟩
          case true =>
            cases fi
            case false =>
              have HV := Lib.hid (show W = 0 by rw [HW.out]; rfl)
              clear HW
              go_enter Tryz.func88, Tryz.ntmps88
              go_wp2_with (first
      | (go_at_call 104; with_reducible refine (byte_is s d d0 d1 _ H1 _).mono ?_; rintro x w' ⟨⟨n, rfl, hn⟩, hw⟩; rw [hw])
      | (go_at_call 104; with_reducible refine (byte_is s q q0 q1 _ H2 _).mono ?_; rintro x w' ⟨⟨m, rfl, hm⟩, hw⟩; rw [hw])
      | (go_at_call 105; with_reducible refine (above (ends_is s hs _ H3 _)).mono ?_; rintro x _ ⟨rfl, y, rfl⟩)
      | (go_at_call 106; with_reducible refine (mark_is s _ H5 _).mono ?_; rintro x w' ⟨rfl, hw⟩; rw [hw]))
              all_goals go_ret
              all_goals exact ⟨by rw [HV.out]; rfl, (by (repeat (first | exact Below.refl _ _ | refine up_onto ?_ _ | refine up_alloc ?_ _)))⟩
            case true =>
              cases v5
              case false =>
                have HV := Lib.hid (show W = 0 by rw [HW.out]; rfl)
                clear HW
                go_enter Tryz.func88, Tryz.ntmps88
                go_wp2_with (first
      | (go_at_call 104; with_reducible refine (byte_is s d d0 d1 _ H1 _).mono ?_; rintro x w' ⟨⟨n, rfl, hn⟩, hw⟩; rw [hw])
      | (go_at_call 104; with_reducible refine (byte_is s q q0 q1 _ H2 _).mono ?_; rintro x w' ⟨⟨m, rfl, hm⟩, hw⟩; rw [hw])
      | (go_at_call 105; with_reducible refine (above (ends_is s hs _ H3 _)).mono ?_; rintro x _ ⟨rfl, y, rfl⟩)
      | (go_at_call 106; with_reducible refine (mark_is s _ H5 _).mono ?_; rintro x w' ⟨rfl, hw⟩; rw [hw]))
                all_goals go_ret
                all_goals exact ⟨by rw [HV.out]; rfl, (by (repeat (first | exact Below.refl _ _ | refine up_onto ?_ _ | refine up_alloc ?_ _)))⟩
              case true =>
                have HV := Lib.hid (show W = 5 by rw [HW.out]; rfl)
                clear HW
                go_enter Tryz.func88, Tryz.ntmps88
                go_wp2_with (first
      | (go_at_call 104; with_reducible refine (byte_is s d d0 d1 _ H1 _).mono ?_; rintro x w' ⟨⟨n, rfl, hn⟩, hw⟩; rw [hw])
      | (go_at_call 104; with_reducible refine (byte_is s q q0 q1 _ H2 _).mono ?_; rintro x w' ⟨⟨m, rfl, hm⟩, hw⟩; rw [hw])
      | (go_at_call 105; with_reducible refine (above (ends_is s hs _ H3 _)).mono ?_; rintro x _ ⟨rfl, y, rfl⟩)
      | (go_at_call 106; with_reducible refine (mark_is s _ H5 _).mono ?_; rintro x w' ⟨rfl, hw⟩; rw [hw]))
                all_goals go_ret
                all_goals exact ⟨by rw [HV.out]; rfl, (by (repeat (first | exact Below.refl _ _ | refine up_onto ?_ _ | refine up_alloc ?_ _)))⟩

theorem need_any : NeedSays := by
  intro d q e s al fi w d0 d1 q0 q1 hr hs
  have HY := Lib.hid (fun w => why_any d q e s al fi w d0 d1 q0 q1 hr hs)
  obtain ⟨W, hW⟩ : ∃ W, whyN d q (bl s) al fi = W := ⟨_, rfl⟩
  obtain ⟨V, hV⟩ : ∃ V, (W != 0) = V := ⟨_, rfl⟩
  have hnv : needB d q s al fi = V := by unfold needB; rw [hW, ← hV]; rw [Bool.eq_iff_iff]; simp
  rw [hW] at HY
  rw [hnv]
  clear hW hnv
  go_enter Tryz.func72, Tryz.ntmps72
  go_wp2_with (go_at_call 88; with_reducible refine (above (HY.out _)).mono ?_; rintro x _ ⟨rfl, y, rfl⟩)
  go_ret
  exact ⟨rfl, (by (repeat (first | exact Below.refl _ _ | refine up_onto ?_ _ | refine up_alloc ?_ _)))⟩

end Go.Proofs.YtoeanbfemgmgnaaGreatDoor

namespace Go.Proofs.YtoeanbfemgmgnaaGreatDoor
open Go.ChangeShapes Go.WideShapes Go.ChangeAt Go.RowKit
set_option linter.unusedVariables false
set_option linter.unusedSimpArgs false

theorem infoBool8 : (Tryz.prog.info? 4).map (fun i => (i.zero, i.size, i.bytes)) = some (some (.bool false), 1, 1) := by kernel_rfl
theorem bools_append (a b : List Bool) : bools (a ++ b) = bools a ++ bools b := by unfold bools; rw [List.map_append]
theorem bools_length (a : List Bool) : (bools a).length = a.length := by unfold bools; rw [List.length_map]
set_option maxRecDepth 100000 in
set_option maxHeartbeats 1600000 in
theorem fields_own (d q e : Int) (l : List ByteArray) (A : Option Addr) (n c : Nat) (fi : Bool) (w : World) (d0 : 0 ≤ d) (d1 : d ≤ 255) (q0 : 0 ≤ q) (q1 : q ≤ 255) (hr : rightB d q e = true) (hl : Hid (SlIn w A n (strs l))) (hn : n ≤ 1000) (hok : Hid (∀ x ∈ l, x.size ≤ 1000000)) :
    Calls Tryz.prog 53 #[.agg #[.int .u8 d, .int .u8 q, .int .i64 e], .slice A n c, .bool fi] w fun x w' => ∃ O co, x = .returned (.slice O n co) ∧ Hid (SlOwn w' w.heap.size 4 O n co (bools (needL d q fi n 0 l))) ∧ Hid (Below w.heap.size w w') := by
  obtain ⟨j0, hj, hy0, hy1, hy2⟩ := info_parts infoBool8
  have Hj := Lib.hid hj
  have Hy0 := Lib.hid hy0
  have Hy1 := Lib.hid hy1
  have Hy2 := Lib.hid hy2
  have HLN := Lib.hid hl.out.lenS
  obtain ⟨L, hL⟩ : ∃ L, L = needL d q fi n 0 l := ⟨_, rfl⟩
  have HLL := Lib.hid (show L.length = n by rw [hL, needL_length]; exact HLN.out)
  have HLA := Lib.hid (fun k s (h : l[k]? = some s) => by have := needL_at d q fi n l 0 k s h; rw [← hL, Nat.zero_add] at this; exact this)
  rw [← hL]
  have HR := Lib.hid hr
  obtain ⟨al, hal⟩ : ∃ al, ((n : Int) == 1) = al := ⟨_, rfl⟩
  have HAL := Lib.hid (show decide (n = 1) = al by rw [← hal, Bool.eq_iff_iff]; simp; omega)
  have HX0 := Lib.hid (StB.new w 23 #[.int .u8 d, .int .u8 q, .int .i64 e])
  have HB0 := Lib.hid (up_alloc (Below.refl _ w) (.cells #[.int .u8 d, .int .u8 q, .int .i64 e] 23))
  have HU : w.heap.size ≤ (w.alloc (.cells #[.int .u8 d, .int .u8 q, .int .i64 e] 23)).heap.size := HB0.out.size
  clear hj hy0 hy1 hy2 hL hr
  go_enter Tryz.func53, Tryz.ntmps53
  go_wp2_with (at_make; refine wpList_make_sl _ rfl (.tmp 11) (.tmp 11) 106 rfl w.heap.size 4 j0 (.bool false) 1 Tryz.underlying106 Hj.out Hy0.out Hy1.out Hy2.out rfl .i64 .i64 (n : Int) (n : Int) n n rfl rfl rfl rfl (Nat.le_refl _) (by omega) (by unfold maxLen; omega) HU ?_; intro w1 hown hb1; have HO1 := Lib.hid hown; have HB1 := Lib.hid hb1; clear hown hb1)
  obtain ⟨g, hg⟩ : ∃ g, g = w.heap.size + 1 := ⟨_, rfl⟩
  have hgw : w.heap.size < g := by omega
  have HX1 := Lib.hid (HX0.out.below HB1.out)
  have HB2 := Lib.hid (HB0.out.trans (HB1.out.mono HU))
  rw [show (w.alloc (.cells #[.int .u8 d, .int .u8 q, .int .i64 e] 23)).heap.size = g by rw [hg]; simp] at HO1
  rw [← hg]
  clear HX0 HB0 HU HB1 hg
  go_loopw [15] (fun i wr => ∃ k : Nat, k ≤ n ∧ i = .int .i64 k ∧ Hid (SlOwn wr w.heap.size 4 (some ⟨g, 0, none⟩) n n (bools (L.take k) ++ List.replicate (n - k) (.bool false))) ∧ Hid (StB wr w.heap.size 23 #[.int .u8 d, .int .u8 q, .int .i64 e]) ∧ Hid (Below w.heap.size w wr)) (fun i _ => n - (intOf i).toNat)
  case atStart => exact ⟨0, Nat.zero_le _, rfl, Lib.hid (by simpa [bools] using HO1.out), HX1, HB2⟩
  case round =>
    obtain ⟨k, hk, rfl, HO, HX, HB⟩ := hrel
    obtain ⟨W, hW⟩ : ∃ W, W = wr := ⟨_, rfl⟩
    subst hW
    clear HO1 HX1 HB2
    by_cases hlt : k < n
    · obtain ⟨s, hs⟩ : ∃ s, l[k]? = some s := ⟨_, List.getElem?_eq_getElem (by rw [HLN.out]; exact hlt)⟩
      obtain ⟨a, rfl, hca⟩ := hl.out.at_ (strs_get hs)
      have ya : W.cell? (a.add k) = some (.string s) := mem_cell HB.out hca
      have hsz : s.size ≤ 1000000 := hok.out s (List.mem_of_getElem? hs)
      obtain ⟨kz, hkz⟩ : ∃ kz, ((k : Int) == 0) = kz := ⟨_, rfl⟩
      have hkd : decide (k = 0) = kz := by rw [← hkz, Bool.eq_iff_iff]; simp
      have hat := HLA.out k s hs
      rw [HAL.out, hkd] at hat
      obtain ⟨V, hV⟩ : ∃ V, needB d q s al (fi && kz) = V := ⟨_, rfl⟩
      rw [hV] at hat
      have HAT := Lib.hid hat
      have HN := Lib.hid (fun w => by have := need_any d q e s al (fi && kz) w d0 d1 q0 q1 HR.out hsz; rw [hV] at this; exact this)
      obtain ⟨g', u, hg', hgb, hgs, hxu, hcu, hfu⟩ := HO.out.cellAt hlt
      obtain rfl : g = g' := by injection hg' with hg'; injection hg'
      have k0 : W.cell? ⟨w.heap.size, 0, none⟩ = some (.int .u8 d) := HX.out.cell 0
      have k1 : W.cell? ⟨w.heap.size, 1, none⟩ = some (.int .u8 q) := HX.out.cell 1
      have k2 : W.cell? ⟨w.heap.size, 2, none⟩ = some (.int .i64 e) := HX.out.cell 2
      have k3 := HX.out.lt
      clear hs hca hat hV hkd hg' hgb hxu
      cases fi <;> cases kz
      all_goals
        simp only [Bool.false_and, Bool.true_and, Bool.and_false, Bool.and_true] at HN
        go_wp2_with (go_at_call 72; with_reducible refine (above (HN.out _)).mono ?_; rintro x _ ⟨rfl, y, rfl⟩)
        go_roundw
        case measure => simp [intOf]; omega
        case rel =>
          have hby := onto_below W y
          refine ⟨k + 1, by omega, by go_num, Lib.hid ?_, Lib.hid ((HX.out.below hby).far (by show _ ≠ g; omega) _), Lib.hid ((HB.out.trans (hby.mono HB.out.size)).setCell (by show _ ≤ g; omega) _)⟩
          have h1 := (HO.out.below hby).store k (.bool V) hlt
          have hlen : (bools (L.take k)).length = k := by rw [bools_length, List.length_take, HLL.out]; omega
          have h2 : n - k = (n - (k + 1)) + 1 := by omega
          rw [List.set_append_right _ _ (Nat.le_of_eq hlen), hlen, Nat.sub_self, h2, List.replicate_succ, List.set_cons_zero] at h1
          rw [List.take_add_one, HAT.out, bools_append, List.append_assoc]
          exact h1
    · obtain rfl : k = n := by omega
      have HO2 := Lib.hid (show SlOwn W w.heap.size 4 (some ⟨g, 0, none⟩) k k (bools L) by have := HO.out; rw [List.take_of_length_le (by rw [HLL.out]; omega), Nat.sub_self, List.replicate_zero, List.append_nil] at this; exact this)
      clear HO hlt
      go_wp2_with fail
      go_ret
      exact ⟨_, _, rfl, HO2, HB⟩
end Go.Proofs.YtoeanbfemgmgnaaGreatDoor

namespace Go.Proofs.YtoeanbfemgmgnaaGreatDoor
open Go.ChangeShapes Go.WideShapes Go.ChangeAt Go.RowKit
set_option linter.unusedVariables false
set_option linter.unusedSimpArgs false

def LineSays : Prop := ∀ (d q e : Int) (r : List ByteArray) (A : Option Addr) (n c : Nat) (fi : Bool) (w : World), 0 ≤ d → d ≤ 255 → 0 ≤ q → q ≤ 255 → n ≤ 1000 → lenL r ≤ 1000 → Hid (SlIn w A n (strs r)) →
  Calls Tryz.prog 21 #[.agg #[.int .u8 d, .int .u8 q, .int .i64 e], .slice A n c, .bool fi] w fun x w' => x = .returned (.tuple #[.string (lineS d q e fi r), .int .i64 (lineE d q e r)]) ∧ Below w.heap.size w w'
end Go.Proofs.YtoeanbfemgmgnaaGreatDoor

/- strings.IndexRune("\r\n", r) at a rune that is no ASCII; strings.IndexAny, ContainsAny(s, "\r\n") at whatever text. -/
import Derived.Test.YtaoncnlhilpgfaaDoorNwa
import Derived.Lib.Hide
import Derived.Laws.Runes
import Derived.WalkMore
import Derived.Lib.OthersKept
namespace Go.Proofs.YtaoncnlhilpgfaaDoor
open Go.ChangeShapes Go.WideShapes Go.ChangeAt Go.RowKit
set_option linter.unusedVariables false
set_option linter.unusedSimpArgs false

def crlfB : ByteArray := ⟨#[13, 10]⟩
theorem iter_next_any (w : World) (s : ByteArray) (pos : Nat) (ty : TypeId) (h : pos < s.size) (r : Int) (k : Nat) (hr : r = ((Utf8.decode s pos).1 : Int)) (hk : k = (Utf8.decode s pos).2) :
    (Instr.next (.pointer (some ⟨w.heap.size, 0, none⟩)) true ty).run Tryd.prog (w.iter s pos) = .ok (.tuple #[.bool true, .int .i64 pos, .int .i32 r]) (w.iter s (pos + k)) := by
  subst hr hk; exact run_next_any w s pos ty h

set_option maxRecDepth 100000 in
set_option maxHeartbeats 2000000 in
/-- The replacement rune. -/
theorem indexRune_error (w : World) : Calls Tryd.prog 81 #[.string crlfB, .int .i32 65533] w fun e w' => e = .returned (.int .i64 (-1)) ∧ Below w.heap.size w w' := by
  have hsz : crlfB.size = 2 := rfl
  have h0 := fun ty => iter_next_any w crlfB 0 ty (by decide) 13 1 (by decide) (by decide)
  have h1 := fun ty => iter_next_any w crlfB 1 ty (by decide) 10 1 (by decide) (by decide)
  have h2 := fun ty => run_next_end (P := Tryd.prog) w crlfB 2 ty (by decide)
  generalize crlfB = s at *
  go_enter Tryd.func81, Tryd.ntmps81
  go_wp2_with fail
  go_loopg [5, 6] 2 (fun g _ _ wx => ∃ i : Nat, i + g = 2 ∧ wx = w.iter s i)
  case atStart => exact ⟨0, rfl, rfl⟩
  case round =>
    obtain ⟨i, hig, rfl⟩ := hrel
    have hi : i = 0 ∨ i = 1 ∨ i = 2 := by omega
    rcases hi with rfl | rfl | rfl
    · obtain ⟨g, rfl⟩ : ∃ g, gk = g + 1 := ⟨1, by omega⟩
      go_wp2_with fail
      go_roundg g
      case measure => omega
      case rel => exact ⟨1, by omega, rfl⟩
    · obtain ⟨g, rfl⟩ : ∃ g, gk = g + 1 := ⟨0, by omega⟩
      go_wp2_with fail
      go_roundg g
      case measure => omega
      case rel => exact ⟨2, by omega, rfl⟩
    · go_wp2_with fail
      go_ret
      exact ⟨rfl, (Below.refl _ _).alloc (Nat.le_refl _) _⟩
theorem run_index_nat {P : Program} (t : TypeId) (s : ByteArray) (j : Nat) (n : Int) (hn : n = j) (hj : j < s.size) (h : P.underlying t = some .string) (V : World) : (Instr.index t (.string s) (.int .i64 n)).run P V = .ok (.int .u8 ((s[j].toNat : Nat) : Int)) V := by
  subst hn
  have := run_index_string (P := P) V t s .i64 (j : Int) h
  simpa [hj] using this
set_option maxRecDepth 100000 in
set_option maxHeartbeats 4000000 in
/-- Any other rune that is no ASCII. -/
theorem indexRune_other (r : Int) (h0 : 128 ≤ r) (h1 : r ≤ 2147483647) (hne : r ≠ 65533) (w : World) : Calls Tryd.prog 81 #[.string crlfB, .int .i32 r] w fun e w' => e = .returned (.int .i64 (-1)) ∧ Below w.heap.size w w' := by
  obtain ⟨v, hv⟩ : ∃ v, ((decide (0 ≤ r) && decide (r < 55296)) || (decide (57343 < r) && decide (r ≤ 1114111))) = v := ⟨_, rfl⟩
  have hV := Lib.hid (fun w => by have := validRune_any r w; rw [hv] at this; exact this)
  have n128 : ¬ (r < 128) := by omega
  have g0 : 0 ≤ r := by omega
  clear hv
  obtain ⟨E, n, hn, hE, hEs, hn2, hn4, hlast⟩ := encode_high r h0 h1
  obtain ⟨c, hc⟩ : ∃ c : Int, c = ((E[n - 1]'hn).toNat : Int) := ⟨_, rfl⟩
  have hc128 : 128 ≤ c := by omega
  have hcc : ¬ (10 = c) := by omega
  have hc255 : c ≤ 255 := by rw [hc]; have := (E[n-1]'hn).toNat_lt; omega
  have hix := fun V => run_index_nat (P := Tryd.prog) 9 E (n - 1) ((n : Int) - 1) (by omega) hn Tryd.underlying9 V
  rw [← hc] at hix
  have hi1 : ∀ V : World, (Instr.index 9 (.string crlfB) (.int .i64 1)).run Tryd.prog V = .ok (.int .u8 10) V := fun V => run_index_nat (P := Tryd.prog) 9 crlfB 1 1 rfl (by decide) Tryd.underlying9 V
  have hsub : ∀ V : World, (Instr.slice 9 (.string crlfB) (some (.int .i64 2)) none none).run Tryd.prog V = .ok (.string ⟨#[]⟩) V := fun V => by
    have := run_slice_string_from_if (P := Tryd.prog) V 9 crlfB .i64 2 Tryd.underlying9
    rw [this]
    rfl
  have hz : ∀ w : World, Calls Tryd.prog 63 #[.string ⟨#[]⟩, .int .u8 c] w fun e w' => e = .returned (.int .i64 (-1)) ∧ w' = w := fun w => Tryd.strings_IndexByte ⟨#[]⟩ c w
  have hsz : crlfB.size = 2 := rfl
  have hcv : ∀ V : World, (convert 21 9 (.int .i32 r)).run Tryd.prog V = .ok (.string E) V := fun V => by rw [← hE]; exact run_convert_int_string V _ _ _ _ (by kernel_rfl) Tryd.underlying9
  clear hc hlast hE
  generalize crlfB = s at *
  cases v
  · go_enter Tryd.func81, Tryd.ntmps81
    go_wp2_with (go_at_call 89; refine (hV.out _).mono ?_; rintro e w' ⟨rfl, hw⟩; rw [hw])
    go_ret
    exact ⟨rfl, Below.refl _ _⟩
  · go_enter Tryd.func81, Tryd.ntmps81
    go_wp2_with (go_at_call 89; refine (hV.out _).mono ?_; rintro e w' ⟨rfl, hw⟩; rw [hw])
    apply wp_scope_straight
    go_wp2_with fail
    go_loopw [9, 10] (fun i f wr => i = .int .i64 ((n : Int) - 1) ∧ f = .int .i64 0 ∧ wr = w) (fun _ _ _ => 0)
    case atStart => exact ⟨rfl, rfl, rfl⟩
    case round =>
      obtain ⟨rfl, rfl, rfl⟩ := hrel
      by_cases h2 : n = 2
      · subst h2
        have e1 : ((2 : Nat) : Int) - 1 = 1 := rfl
        rw [e1] at hix ⊢
        go_wp2_with fail
        apply wp_scope_straight
        go_wp2_with fail
        go_region
        go_wp2_with fail
        go_region_with (go_at_call 63; refine (hz _).mono ?_; rintro e w' ⟨rfl, hw⟩; rw [hw])
        go_wp2_with fail
        all_goals simp (config := { zetaDelta := true }) only [Exit.noGoto_ret, Exit.inBlock, Exit.then]
        all_goals go_ret
        all_goals exact ⟨rfl, up_drew (up_drew (Below.refl _ _))⟩
      · have h3 : ¬ ((n : Int) - 1 < 2) := by omega
        go_wp2_with fail
        go_ret
        exact ⟨rfl, Below.refl _ _⟩
theorem indexRune_high (r : Int) (h0 : 128 ≤ r) (h1 : r ≤ 2147483647) (w : World) : Calls Tryd.prog 81 #[.string crlfB, .int .i32 r] w fun e w' => e = .returned (.int .i64 (-1)) ∧ Below w.heap.size w w' := by
  by_cases h : r = 65533
  · subst h; exact indexRune_error w
  · exact indexRune_other r h0 h1 h w
theorem crlf_ascii (r : Nat) (h1 : r < 128) (w : World) : Calls Tryd.prog 81 #[.string crlfB, .int .i32 r] w fun e w' => e = .returned (.int .i64 (Lib.indexByte crlfL r.toUInt8)) ∧ w' = w :=
  Tryd.strings_IndexRune_ascii crlfB r w (by omega) (by omega)
/-- The iterator over s stands in block h, at place i; below h all is as it was. -/
def ItAt (w : World) (h : Nat) (s : ByteArray) (i : Nat) (V : World) : Prop := V.heap[h]? = some (.stringIter s i) ∧ Below h w V
theorem ItAt.start (w : World) (s : ByteArray) : ItAt w w.heap.size s 0 (w.iter s 0) := ⟨World.iter_heap w s 0, (Below.refl _ _).alloc (Nat.le_refl _) _⟩
theorem ItAt.next {w : World} {h : Nat} {s : ByteArray} {i : Nat} {V : World} (H : ItAt w h s i V) (k : Nat) : ItAt w h s k (V.iterAt h s k) := by
  have hlt : h < V.heap.size := (Array.getElem?_eq_some_iff.1 H.1).1
  refine ⟨Lib.iterAt_heap V h s i k H.1, H.2.trans ⟨rfl, rfl, rfl, ?_, fun j hj => Lib.iterAt_other V h j s k (by omega)⟩⟩
  simp [World.iterAt]
theorem ItAt.later {w : World} {h : Nat} {s : ByteArray} {i : Nat} {V V' : World} (H : ItAt w h s i V) (hb : Below V.heap.size V V') : ItAt w h s i V' := by
  have hlt : h < V.heap.size := (Array.getElem?_eq_some_iff.1 H.1).1
  exact ⟨by rw [hb.block h hlt]; exact H.1, H.2.trans (hb.mono (by omega))⟩
set_option maxRecDepth 100000 in
set_option maxHeartbeats 4000000 in
/-- A text of at most 8 bytes. -/
theorem indexAny_small (s : ByteArray) (w : World) (h8 : s.size ≤ 8) : Calls Tryd.prog 73 #[.string s, .string crlfB] w fun e w' => e = .returned (.int .i64 (Lib.indexAny s.data.toList crlfL)) ∧ Below w.heap.size w w' := by
  have hsh := Lib.hid (fun w => by have := Tryd.strings_shouldUseASCIISet (s.size : Int) w; rw [decide_eq_false (by omega)] at this; exact this)
  have hH := Lib.hid indexRune_high
  have hA := Lib.hid crlf_ascii
  have hsz : crlfB.size = 2 := rfl
  have hemp : crlfB.toList.isEmpty = false := str_ne (by decide)
  have HB := Lib.hid (ItAt.start w s)
  generalize crlfB = t at *
  go_enter Tryd.func73, Tryd.ntmps73
  go_wp2_with (go_at_call 82; refine (hsh.out _).mono ?_; rintro e w' ⟨rfl, hw⟩; rw [hw])
  go_loopg [9, 10] s.size (fun g _ _ wx => ∃ i : Nat, i + g = s.size ∧ Hid (ItAt w w.heap.size s i wx) ∧ Hid (Lib.NoAny s.data.toList crlfL i))
  case atStart => exact ⟨0, by omega, HB, Lib.hid (Lib.NoAny.zero _ _)⟩
  case round =>
    obtain ⟨i, hig, HI, HN⟩ := hrel
    clear HB
    by_cases hend : i = s.size
    · obtain rfl : gk = 0 := by omega
      have hnx := fun ty => Lib.run_next_end_at (P := Tryd.prog) wr w.heap.size s i ty HI.out.1 (by omega)
      have HV := Lib.hid (Lib.indexAny_none (by rw [← Lib.size_eq, ← hend]; exact HN.out) : Lib.indexAny s.data.toList crlfL = -1)
      clear hend
      go_wp2_with fail
      go_ret
      exact ⟨by rw [HV.out]; rfl, HI.out.2⟩
    · have hi : i < s.size := by omega
      obtain ⟨x, hx⟩ : ∃ x : UInt8, s[i]'hi = x := ⟨_, rfl⟩
      have Hx := Lib.hid (show s.data.toList[i]? = some x by rw [← hx]; exact Lib.data_getElem? s i hi)
      obtain ⟨r, hr⟩ : ∃ r : Nat, r = (Utf8.decode s i).1 := ⟨_, rfl⟩
      obtain ⟨k, hk⟩ : ∃ k : Nat, k = (Utf8.decode s i).2 := ⟨_, rfl⟩
      obtain ⟨V, hV⟩ : ∃ V : World, V = wr.iterAt w.heap.size s (i + k) := ⟨_, rfl⟩
      have hnx := fun ty => Lib.run_next_any_at (P := Tryd.prog) wr w.heap.size s i ty HI.out.1 hi
      rw [← hr, ← hk, ← hV] at hnx
      have HV := Lib.hid (show ItAt w w.heap.size s (i + k) V by rw [hV]; exact HI.out.next (i + k))
      by_cases hx128 : x.toNat < 128
      · have hd := decode_ascii s i hi (by rw [hx]; exact hx128)
        rw [hx] at hd
        obtain rfl : r = x.toNat := by rw [hr, hd]
        obtain rfl : k = 1 := by rw [hk, hd]
        have HA := Lib.hid (fun w => by have := hA.out x.toNat hx128 w; rw [show x.toNat.toUInt8 = x by simp] at this; exact this)
        have hcon := Lib.contains_iff_indexByte crlfL x
        clear hd hr hk hV hx hA hH
        cases hin : crlfL.contains x
        · rw [hin] at hcon
          have hlt : ¬ ((0 : Int) ≤ Lib.indexByte crlfL x) := of_decide_eq_false hcon.symm
          have HN' := Lib.hid (HN.out.succ Hx.out hin)
          clear hcon
          go_wp2_with (go_at_call 81; refine (HA.out _).mono ?_; rintro e w' ⟨rfl, hw⟩; rw [hw])
          go_roundg (gk - 1)
          case measure => omega
          case rel => exact ⟨i + 1, by omega, HV, HN'⟩
        · rw [hin] at hcon
          have hge : (0 : Int) ≤ Lib.indexByte crlfL x := of_decide_eq_true hcon.symm
          have HR := Lib.hid (Lib.indexAny_hit HN.out Hx.out hin)
          clear hcon
          go_wp2_with (go_at_call 81; refine (HA.out _).mono ?_; rintro e w' ⟨rfl, hw⟩; rw [hw])
          go_ret
          exact ⟨by rw [HR.out]; rfl, HV.out.2⟩
      · have ha : 128 ≤ (s[i]'hi).toNat := by rw [hx]; omega
        have hr0 : 128 ≤ (r : Int) := by have := (decode_high s i hi ha).1; omega
        have hr1 : (r : Int) ≤ 2147483647 := by have := decode_le s i; omega
        have hk0 : 1 ≤ k := by have := (decode_high s i hi ha).2; omega
        have hk1 : i + k ≤ s.size := by have := decode_fits s i hi ha; omega
        have HN' := Lib.hid (show Lib.NoAny s.data.toList crlfL (i + k) by rw [hk]; exact noAny_span HN.out hi ha)
        have HH := Lib.hid (fun w => hH.out r hr0 hr1 w)
        clear hr hk hV hx hA hH ha
        go_wp2_with (go_at_call 81; refine (HH.out _).mono ?_; rintro e w' ⟨rfl, hw⟩)
        have HV' := Lib.hid (HV.out.later hw)
        go_roundg (s.size - (i + k))
        case measure => omega
        case rel => exact ⟨i + k, by omega, HV', HN'⟩
theorem indexAny_all (s : ByteArray) (w : World) (hs : s.size ≤ 1000000) : Calls Tryd.prog 73 #[.string s, .string crlfB] w fun e w' => e = .returned (.int .i64 (Lib.indexAny s.data.toList crlfL)) ∧ Below w.heap.size w w' := by
  by_cases h8 : s.size ≤ 8
  · exact indexAny_small s w h8
  · refine (Tryd.strings_IndexAny_long (zero_of_info (show (Tryd.prog.info? 117).map (fun i => (i.zero, i.size)) = some (some (.agg (Array.replicate 256 (.bool false))), 256) by kernel_rfl)).1 s crlfB w (by decide) (by omega) (by omega) (by decide) ?_).mono ?_
    · intro j b hb
      have : crlfB.data.toList = [13, 10] := rfl
      rw [this] at hb
      match j, hb with
      | 0, hb => simp at hb; subst hb; decide
      | 1, hb => simp at hb; subst hb; decide
    · rintro e w' ⟨rfl, rfl⟩
      exact ⟨rfl, up_alloc (up_alloc (Below.refl _ _) _) _⟩
theorem containsAny_all (s : ByteArray) (w : World) (hs : s.size ≤ 1000000) : Calls Tryd.prog 64 #[.string s, .string ⟨#[13, 10]⟩] w fun e w' => e = .returned (.bool (decide (0 ≤ Lib.indexAny s.data.toList crlfL))) ∧ Below w.heap.size w w' := by
  have hI := Lib.hid (fun w => indexAny_all s w hs)
  obtain ⟨n, hn⟩ : ∃ n, Lib.indexAny s.data.toList crlfL = n := ⟨_, rfl⟩
  rw [hn] at hI ⊢
  show Calls _ _ #[.string s, .string crlfB] _ _
  generalize crlfB = t at *
  go_enter Tryd.func64, Tryd.ntmps64
  go_wp2_with (go_at_call 73; refine (hI.out _).mono ?_; rintro e w' ⟨rfl, hw⟩)
  go_ret
  exact ⟨rfl, hw⟩
end Go.Proofs.YtaoncnlhilpgfaaDoor

/- Layer 2: contracts of the document's own answers: the bytes of a code point, the length of a text's first sequence. Layer 2: contracts of the document's own answers: which texts are a beginning of a sequence. Layer 2: contracts of the document's own answers: Goes, State, Begin, Whole, Bad. Layer 2: contracts of the document's own answers: Whole, Bad. -/
import Derived.Test.YtigoonokiihdgaaDoorRows
import Derived.Test.YtigoonokiihdgaaDoorZk
import Derived.Test.YtigoonokiihdgaaDoorZp
import Derived.LoopTactic
namespace Go.Proofs.YtigoonokiihdgaaDoor
open Go.ChangeShapes Go.WideShapes Go.ChangeAt Go.RowKit
set_option linter.unusedVariables false

/-- The bytes of a code point. -/
def putL (c : Int) : List Int :=
  if c < 128 then [c] else if c < 2048 then [192 + c / 64, 128 + c % 64] else if c < 65536 then [224 + c / 4096, 128 + c / 64 % 64, 128 + c % 64]
  else [240 + c / 262144, 128 + c / 4096 % 64, 128 + c / 64 % 64, 128 + c % 64]

set_option maxHeartbeats 400000 in
theorem rput02_any (c : Int) (h0 : 0 ≤ c) (h1 : c ≤ 1114111) (w : World) : Calls Tryd.prog 58 #[.int .i64 c] w fun e w' => e = .returned (.string (toBA (putL c))) ∧ Below w.heap.size w w' := by
  have k1 := fun (a : Int) => run_string_list (P := Tryd.prog) w 61 9 5 Tryd.underlying61 Tryd.underlying5 Tryd.underlying9 [a] 5 1 1 rfl
  have k2 := fun (a b : Int) => run_string_list (P := Tryd.prog) w 61 9 5 Tryd.underlying61 Tryd.underlying5 Tryd.underlying9 [a, b] 5 2 2 rfl
  have k3 := fun (a b c : Int) => run_string_list (P := Tryd.prog) w 61 9 5 Tryd.underlying61 Tryd.underlying5 Tryd.underlying9 [a, b, c] 5 3 3 rfl
  have k4 := fun (a b c d : Int) => run_string_list (P := Tryd.prog) w 61 9 5 Tryd.underlying61 Tryd.underlying5 Tryd.underlying9 [a, b, c, d] 5 4 4 rfl
  simp only [List.map_cons, List.map_nil] at k1 k2 k3 k4
  by_cases c1 : c < 128
  · have e : putL c = [c] := by rw [putL, if_pos c1]
    rw [e]; clear e k2 k3 k4
    go_enter Tryd.func58, Tryd.ntmps58
    go_wp2
    go_ret
    exact ⟨rfl, up_alloc (Below.refl _ _) _⟩
  by_cases c2 : c < 2048
  · have e : putL c = [192 + c / 64, 128 + c % 64] := by rw [putL, if_neg c1, if_pos c2]
    rw [e]; clear e k1 k3 k4
    go_enter Tryd.func58, Tryd.ntmps58
    go_wp2
    go_ret
    exact ⟨rfl, up_alloc (Below.refl _ _) _⟩
  by_cases c3 : c < 65536
  · have e : putL c = [224 + c / 4096, 128 + c / 64 % 64, 128 + c % 64] := by rw [putL, if_neg c1, if_neg c2, if_pos c3]
    rw [e]; clear e k1 k2 k4
    go_enter Tryd.func58, Tryd.ntmps58
    go_wp2
    go_ret
    exact ⟨rfl, up_alloc (Below.refl _ _) _⟩
  · have e : putL c = [240 + c / 262144, 128 + c / 4096 % 64, 128 + c / 64 % 64, 128 + c % 64] := by rw [putL, if_neg c1, if_neg c2, if_neg c3]
    rw [e]; clear e k1 k2 k3
    go_enter Tryd.func58, Tryd.ntmps58
    go_wp2
    go_ret
    exact ⟨rfl, up_alloc (Below.refl _ _) _⟩

theorem bl_get (s : ByteArray) (i : Nat) (h : i < s.size) : utB (bl s) i = ((s[i].toNat : Nat) : Int) := by
  unfold utB bl
  rw [List.getElem?_eq_getElem (by rw [List.length_map]; exact h)]
  simp
  rfl

theorem putL_bd (c : Int) (h0 : 0 ≤ c) (h1 : c ≤ 1114111) : ∀ x ∈ putL c, 0 ≤ x ∧ x ≤ 255 := by
  intro x hx
  unfold putL at hx
  (repeat' split at hx) <;> (simp only [List.mem_cons, List.not_mem_nil, or_false] at hx; omega)
theorem put_cmp (c : Int) (h0 : 0 ≤ c) (h1 : c ≤ 1114111) (s : ByteArray) (k : Nat) : ((toBA (putL c)).toList == (s.extract 0 k).toList) = decide (putL c = (bl s).take k) := by
  rw [str_eq, bl_toBA _ (putL_bd c h0 h1), bl_take]
theorem take_1 (l : List Int) (h : 1 ≤ l.length) : l.take 1 = [utB l 0] := by
  rcases l with _ | ⟨a, r⟩
  · simp at h
  · simp [utB]
theorem take_2 (l : List Int) (h : 2 ≤ l.length) : l.take 2 = [utB l 0, utB l 1] := by
  rcases l with _ | ⟨a, _ | ⟨b, r⟩⟩
  · simp at h
  · simp at h
  · simp [utB]
theorem take_3 (l : List Int) (h : 3 ≤ l.length) : l.take 3 = [utB l 0, utB l 1, utB l 2] := by
  rcases l with _ | ⟨a, _ | ⟨b, _ | ⟨c, r⟩⟩⟩
  · simp at h
  · simp at h
  · simp at h
  · simp [utB]
theorem take_4 (l : List Int) (h : 4 ≤ l.length) : l.take 4 = [utB l 0, utB l 1, utB l 2, utB l 3] := by
  rcases l with _ | ⟨a, _ | ⟨b, _ | ⟨c, _ | ⟨d, r⟩⟩⟩⟩
  · simp at h
  · simp at h
  · simp at h
  · simp at h
  · simp [utB]
/-- A code point that may be. -/
def utV (c : Int) : Prop := 0 ≤ c ∧ c ≤ 1114111 ∧ (c < 55296 ∨ 57343 < c)
theorem put_1 (a c : Int) (ha : 0 ≤ a ∧ a ≤ 255) (hc : a = c) : utV c ∧ (putL c = [a] ↔ utS1 a) := by
  subst hc
  refine ⟨by unfold utV; omega, ?_⟩
  unfold putL utS1
  (repeat' split) <;> simp <;> omega
theorem put_2 (a b c : Int) (ha : 0 ≤ a ∧ a ≤ 255) (hb : 0 ≤ b ∧ b ≤ 255) (hc : (a - 192) * 64 + b - 128 = c) : (utV c → (putL c = [a, b] ↔ utS2 a b)) ∧ (¬ utV c → ¬ utS2 a b) := by
  unfold utV utS2 putL
  refine ⟨fun hv => ?_, by omega⟩
  (repeat' split) <;> simp <;> omega
theorem put_3 (a b x c : Int) (ha : 0 ≤ a ∧ a ≤ 255) (hb : 0 ≤ b ∧ b ≤ 255) (hx : 0 ≤ x ∧ x ≤ 255) (hc : (a - 224) * 4096 + (b - 128) * 64 + x - 128 = c) : (utV c → (putL c = [a, b, x] ↔ utS3 a b x)) ∧ (¬ utV c → ¬ utS3 a b x) := by
  unfold utV utS3 utP3 putL
  refine ⟨fun hv => ?_, by omega⟩
  (repeat' split) <;> simp <;> omega
theorem put_4 (a b x y c : Int) (ha : 0 ≤ a ∧ a ≤ 255) (hb : 0 ≤ b ∧ b ≤ 255) (hx : 0 ≤ x ∧ x ≤ 255) (hy : 0 ≤ y ∧ y ≤ 255) (hc : (a - 240) * 262144 + (b - 128) * 4096 + (x - 128) * 64 + y - 128 = c) : (utV c → (putL c = [a, b, x, y] ↔ utS4 a b x y)) ∧ (¬ utV c → ¬ utS4 a b x y) := by
  unfold utV utS4 utP4 putL
  refine ⟨fun hv => ?_, by omega⟩
  (repeat' split) <;> simp <;> omega
/-- What the loop asks at n bytes. -/
theorem utHit_step (s : ByteArray) (n : Nat) (c : Int) (P : Prop) [Decidable P] (hn : n ≤ s.size) (l : List Int) (hl : (bl s).take n = l) (hh : utHit (bl s) n = decide P) (h : (utV c → (putL c = l ↔ P)) ∧ (¬ utV c → ¬ P)) :
    (utV c → ((toBA (putL c)).toList == (s.extract 0 n).toList) = utHit (bl s) n) ∧ (¬ utV c → utHit (bl s) n = false) := by
  refine ⟨fun hv => ?_, fun hv => ?_⟩
  · rw [put_cmp c hv.1 hv.2.1, hh, hl]
    simp only [h.1 hv]
  · rw [hh]; simpa using h.2 hv
theorem utSize_is (l : List Int) (k : Nat) (h1 : 1 ≤ k) (h4 : k ≤ 4) (hn : ∀ j, 1 ≤ j → j < k → utHit l j = false) (hk : utHit l k = true) : utSize l = k := by
  unfold utSize
  have hcase : k = 1 ∨ k = 2 ∨ k = 3 ∨ k = 4 := by omega
  rcases hcase with rfl | rfl | rfl | rfl
  · rw [if_pos hk]
  · rw [if_neg (by simp [hn 1]), if_pos hk]
  · rw [if_neg (by simp [hn 1]), if_neg (by simp [hn 2]), if_pos hk]
  · rw [if_neg (by simp [hn 1]), if_neg (by simp [hn 2]), if_neg (by simp [hn 3]), if_pos hk]
theorem utHit_short (l : List Int) (j : Nat) (h : l.length < j) : utHit l j = false := by simp [utHit]; omega
theorem utSize_none (l : List Int) (k : Nat) (h : k = 5 ∨ l.length < k) (hn : ∀ j, 1 ≤ j → j < k → utHit l j = false) : utSize l = 0 := by
  have : ∀ j, 1 ≤ j → j ≤ 4 → utHit l j = false := by
    intro j h1 h4
    by_cases hj : j < k
    · exact hn j h1 hj
    · exact utHit_short l j (by omega)
  unfold utSize
  rw [if_neg (by simp [this 1]), if_neg (by simp [this 2]), if_neg (by simp [this 3]), if_neg (by simp [this 4])]
theorem hit_succ (l : List Int) (k k' : Nat) (e : k' = k + 1) (hn : ∀ j, 1 ≤ j → j < k → utHit l j = false) (hk : utHit l k = false) : ∀ j, 1 ≤ j → j < k' → utHit l j = false := by
  subst e
  intro j h1 hj
  by_cases e : j = k
  · subst e; exact hk
  · exact hn j h1 (by omega)

set_option maxHeartbeats 3200000 in
set_option maxRecDepth 100000 in
theorem size_any (s : ByteArray) (hs : s.size ≤ maxLen) (w : World) : Calls Tryd.prog 44 #[.string s] w fun e w' => e = .returned (.int .i64 (utSize (bl s))) ∧ Below w.heap.size w w' := by
  unfold maxLen at hs
  go_enter Tryd.func44, Tryd.ntmps44
  go_wp2_with fail
  go_loopw [3] (fun n wr => ∃ k : Nat, 1 ≤ k ∧ k ≤ 5 ∧ k ≤ s.size + 1 ∧ n = .int .i64 k ∧ Hid (∀ j, 1 ≤ j → j < k → utHit (bl s) j = false) ∧ ∃ y, wr = onto w y) (fun n _ => 5 - (intOf n).toNat)
  case atStart => exact ⟨1, by omega, by omega, by omega, rfl, Lib.hid (by intros; omega), onto_self w⟩
  case round =>
    obtain ⟨k, hk1, hk5, hks, rfl, HN, y, rfl⟩ := hrel
    have hcase : k = 1 ∨ k = 2 ∨ k = 3 ∨ k = 4 ∨ k = 5 := by omega
    clear hk1 hk5
    rcases hcase with rfl | rfl | rfl | rfl | rfl
    · by_cases hle : 1 ≤ s.size
      · have e0 : utB (bl s) 0 = ((s[0].toNat : Nat) : Int) := bl_get s 0 (by omega)
        generalize hx0 : ((s[0].toNat : Nat) : Int) = x0 at *
        have l0 : 0 ≤ x0 := by omega
        have u0 : x0 ≤ 255 := by rw [← hx0]; exact byte_hi _
        have HX0 := Lib.hid e0
        clear e0
        have ht : (bl s).take 1 = [x0] := by rw [take_1 _ (by rw [bl_length]; exact hle), HX0.out]
        have hht : utHit (bl s) 1 = decide (utS1 x0) := by unfold utHit; rw [bl_length, decide_eq_true hle, HX0.out]; rfl
        have HT := Lib.hid ht
        have HHT := Lib.hid hht
        clear ht hht
        have hle' : (1 : Int) ≤ s.size := by omega
        go_wp2_with fail
        obtain ⟨c, hc⟩ : ∃ c, x0 = c := ⟨_, rfl⟩
        have hu := utHit_step s 1 c (utS1 x0) hle _ HT.out HHT.out ⟨fun _ => (put_1 x0 c ⟨l0, u0⟩ hc).2, fun h => absurd (put_1 x0 c ⟨l0, u0⟩ hc).1 h⟩
        subst hc
        have HC := trivial
        have HU := Lib.hid hu
        clear hu
        have hc3 : x0 < 55296 := by omega
        have b0 : decide (0 ≤ x0) = true := decide_eq_true (by omega)
        have b1 : decide (x0 ≤ 1114111) = true := decide_eq_true (by omega)
        have b2 : decide (x0 < 55296) = true := decide_eq_true (by omega)
        have hp := HU.out.1 (by unfold utV; omega)
        have p0 : 0 ≤ x0 := by omega
        have p1 : x0 ≤ 1114111 := by omega
        have HP := Lib.hid hp
        clear hp
        cases hh : utHit (bl s) 1
        · have hq := HP.out
          rw [hh] at hq
          have HH := Lib.hid hh
          clear hh HP HU HC
          refine wp_region_onto (by kernel_rfl) (by kernel_rfl) ?_
          repeat (go_big_quiet_step ((go_at_call 58; exact calls_onto (rput02_any _ (by assumption) (by assumption) _))))
          refine wpQuiet_nil ?_
          intro _ hw'
          obtain ⟨y2, hw''⟩ := hw'
          subst hw''
          go_wp2_with fail
          go_roundw
          case rel => exact ⟨2, by omega, by omega, by omega, rfl, Lib.hid (hit_succ _ 1 2 rfl HN.out HH.out), by first | exact onto_ex _ _ _ | exact ⟨_, rfl⟩⟩
          case measure => simp [intOf]
        · have hq := HP.out
          rw [hh] at hq
          have HH := Lib.hid hh
          clear hh HP HU HC
          refine wp_region_onto (by kernel_rfl) (by kernel_rfl) ?_
          repeat (go_big_quiet_step ((go_at_call 58; exact calls_onto (rput02_any _ (by assumption) (by assumption) _))))
          refine wpQuiet_nil ?_
          intro _ hw'
          obtain ⟨y2, hw''⟩ := hw'
          subst hw''
          go_wp2_with fail
          go_ret
          rw [utSize_is _ 1 (by omega) (by omega) HN.out HH.out]
          exact ⟨rfl, by (repeat (first | exact Below.refl _ _ | refine up_onto ?_ _))⟩
      · have hz : utSize (bl s) = 0 := utSize_none _ 1 (.inr (by rw [bl_length]; omega)) HN.out
        have HZ := Lib.hid hz
        clear hz
        go_wp2_with fail
        go_ret
        rw [HZ.out]
        exact ⟨rfl, by (repeat (first | exact Below.refl _ _ | refine up_onto ?_ _))⟩
    · by_cases hle : 2 ≤ s.size
      · have e0 : utB (bl s) 0 = ((s[0].toNat : Nat) : Int) := bl_get s 0 (by omega)
        have e1 : utB (bl s) 1 = ((s[1].toNat : Nat) : Int) := bl_get s 1 (by omega)
        generalize hx0 : ((s[0].toNat : Nat) : Int) = x0 at *
        generalize hx1 : ((s[1].toNat : Nat) : Int) = x1 at *
        have l0 : 0 ≤ x0 := by omega
        have u0 : x0 ≤ 255 := by rw [← hx0]; exact byte_hi _
        have l1 : 0 ≤ x1 := by omega
        have u1 : x1 ≤ 255 := by rw [← hx1]; exact byte_hi _
        have HX0 := Lib.hid e0
        have HX1 := Lib.hid e1
        clear e0 e1
        have ht : (bl s).take 2 = [x0, x1] := by rw [take_2 _ (by rw [bl_length]; exact hle), HX0.out, HX1.out]
        have hht : utHit (bl s) 2 = decide (utS2 x0 x1) := by unfold utHit; rw [bl_length, decide_eq_true hle, HX0.out, HX1.out]; rfl
        have HT := Lib.hid ht
        have HHT := Lib.hid hht
        clear ht hht
        have hle' : (2 : Int) ≤ s.size := by omega
        go_wp2_with fail
        refine wp_region_onto (by kernel_rfl) (by kernel_rfl) ?_
        repeat (go_big_quiet_step (fail))
        refine wpQuiet_nil ?_
        intro _ hw'
        obtain ⟨y1, hw''⟩ := hw'
        subst hw''
        go_wp2_with fail
        generalize hc : (x0 - 192) * 64 + x1 - 128 = c at *
        have hu := utHit_step s 2 c (utS2 x0 x1) hle _ HT.out HHT.out (put_2 x0 x1 c ⟨l0, u0⟩ ⟨l1, u1⟩ hc)
        have HC := Lib.hid hc
        clear hc
        have HU := Lib.hid hu
        clear hu
        by_cases hc1 : c < 0
        · have b0 : decide (0 ≤ c) = false := decide_eq_false (by omega)
          have hh := HU.out.2 (by unfold utV; omega)
          have HH := Lib.hid hh
          clear hh HU HC
          refine wp_region_onto (by kernel_rfl) (by kernel_rfl) ?_
          repeat (go_big_quiet_step (fail))
          refine wpQuiet_nil ?_
          intro _ hw'
          obtain ⟨y2, hw''⟩ := hw'
          subst hw''
          go_wp2_with fail
          go_roundw
          case rel => exact ⟨3, by omega, by omega, by omega, rfl, Lib.hid (hit_succ _ 2 3 rfl HN.out HH.out), by first | exact onto_ex _ _ _ | exact ⟨_, rfl⟩⟩
          case measure => simp [intOf]
        by_cases hc2 : 1114111 < c
        · have b0 : decide (0 ≤ c) = true := decide_eq_true (by omega)
          have b1 : decide (c ≤ 1114111) = false := decide_eq_false (by omega)
          have hh := HU.out.2 (by unfold utV; omega)
          have HH := Lib.hid hh
          clear hh HU HC
          refine wp_region_onto (by kernel_rfl) (by kernel_rfl) ?_
          repeat (go_big_quiet_step (fail))
          refine wpQuiet_nil ?_
          intro _ hw'
          obtain ⟨y2, hw''⟩ := hw'
          subst hw''
          go_wp2_with fail
          go_roundw
          case rel => exact ⟨3, by omega, by omega, by omega, rfl, Lib.hid (hit_succ _ 2 3 rfl HN.out HH.out), by first | exact onto_ex _ _ _ | exact ⟨_, rfl⟩⟩
          case measure => simp [intOf]
        by_cases hc3 : c < 55296
        · have b0 : decide (0 ≤ c) = true := decide_eq_true (by omega)
          have b1 : decide (c ≤ 1114111) = true := decide_eq_true (by omega)
          have b2 : decide (c < 55296) = true := decide_eq_true (by omega)
          have hp := HU.out.1 (by unfold utV; omega)
          have p0 : 0 ≤ c := by omega
          have p1 : c ≤ 1114111 := by omega
          have HP := Lib.hid hp
          clear hp
          cases hh : utHit (bl s) 2
          · have hq := HP.out
            rw [hh] at hq
            have HH := Lib.hid hh
            clear hh HP HU HC
            refine wp_region_onto (by kernel_rfl) (by kernel_rfl) ?_
            repeat (go_big_quiet_step ((go_at_call 58; exact calls_onto (rput02_any _ (by assumption) (by assumption) _))))
            refine wpQuiet_nil ?_
            intro _ hw'
            obtain ⟨y2, hw''⟩ := hw'
            subst hw''
            go_wp2_with fail
            go_roundw
            case rel => exact ⟨3, by omega, by omega, by omega, rfl, Lib.hid (hit_succ _ 2 3 rfl HN.out HH.out), by first | exact onto_ex _ _ _ | exact ⟨_, rfl⟩⟩
            case measure => simp [intOf]
          · have hq := HP.out
            rw [hh] at hq
            have HH := Lib.hid hh
            clear hh HP HU HC
            refine wp_region_onto (by kernel_rfl) (by kernel_rfl) ?_
            repeat (go_big_quiet_step ((go_at_call 58; exact calls_onto (rput02_any _ (by assumption) (by assumption) _))))
            refine wpQuiet_nil ?_
            intro _ hw'
            obtain ⟨y2, hw''⟩ := hw'
            subst hw''
            go_wp2_with fail
            go_ret
            rw [utSize_is _ 2 (by omega) (by omega) HN.out HH.out]
            exact ⟨rfl, by (repeat (first | exact Below.refl _ _ | refine up_onto ?_ _))⟩
        by_cases hc4 : 57343 < c
        · have b0 : decide (0 ≤ c) = true := decide_eq_true (by omega)
          have b1 : decide (c ≤ 1114111) = true := decide_eq_true (by omega)
          have b2 : decide (c < 55296) = false := decide_eq_false (by omega)
          have b3 : decide (57343 < c) = true := decide_eq_true (by omega)
          have hp := HU.out.1 (by unfold utV; omega)
          have p0 : 0 ≤ c := by omega
          have p1 : c ≤ 1114111 := by omega
          have HP := Lib.hid hp
          clear hp
          cases hh : utHit (bl s) 2
          · have hq := HP.out
            rw [hh] at hq
            have HH := Lib.hid hh
            clear hh HP HU HC
            refine wp_region_onto (by kernel_rfl) (by kernel_rfl) ?_
            repeat (go_big_quiet_step ((go_at_call 58; exact calls_onto (rput02_any _ (by assumption) (by assumption) _))))
            refine wpQuiet_nil ?_
            intro _ hw'
            obtain ⟨y2, hw''⟩ := hw'
            subst hw''
            go_wp2_with fail
            go_roundw
            case rel => exact ⟨3, by omega, by omega, by omega, rfl, Lib.hid (hit_succ _ 2 3 rfl HN.out HH.out), by first | exact onto_ex _ _ _ | exact ⟨_, rfl⟩⟩
            case measure => simp [intOf]
          · have hq := HP.out
            rw [hh] at hq
            have HH := Lib.hid hh
            clear hh HP HU HC
            refine wp_region_onto (by kernel_rfl) (by kernel_rfl) ?_
            repeat (go_big_quiet_step ((go_at_call 58; exact calls_onto (rput02_any _ (by assumption) (by assumption) _))))
            refine wpQuiet_nil ?_
            intro _ hw'
            obtain ⟨y2, hw''⟩ := hw'
            subst hw''
            go_wp2_with fail
            go_ret
            rw [utSize_is _ 2 (by omega) (by omega) HN.out HH.out]
            exact ⟨rfl, by (repeat (first | exact Below.refl _ _ | refine up_onto ?_ _))⟩
        · have b0 : decide (0 ≤ c) = true := decide_eq_true (by omega)
          have b1 : decide (c ≤ 1114111) = true := decide_eq_true (by omega)
          have b2 : decide (c < 55296) = false := decide_eq_false (by omega)
          have b3 : decide (57343 < c) = false := decide_eq_false (by omega)
          have hh := HU.out.2 (by unfold utV; omega)
          have HH := Lib.hid hh
          clear hh HU HC
          refine wp_region_onto (by kernel_rfl) (by kernel_rfl) ?_
          repeat (go_big_quiet_step (fail))
          refine wpQuiet_nil ?_
          intro _ hw'
          obtain ⟨y2, hw''⟩ := hw'
          subst hw''
          go_wp2_with fail
          go_roundw
          case rel => exact ⟨3, by omega, by omega, by omega, rfl, Lib.hid (hit_succ _ 2 3 rfl HN.out HH.out), by first | exact onto_ex _ _ _ | exact ⟨_, rfl⟩⟩
          case measure => simp [intOf]
      · have hz : utSize (bl s) = 0 := utSize_none _ 2 (.inr (by rw [bl_length]; omega)) HN.out
        have HZ := Lib.hid hz
        clear hz
        go_wp2_with fail
        go_ret
        rw [HZ.out]
        exact ⟨rfl, by (repeat (first | exact Below.refl _ _ | refine up_onto ?_ _))⟩
    · by_cases hle : 3 ≤ s.size
      · have e0 : utB (bl s) 0 = ((s[0].toNat : Nat) : Int) := bl_get s 0 (by omega)
        have e1 : utB (bl s) 1 = ((s[1].toNat : Nat) : Int) := bl_get s 1 (by omega)
        have e2 : utB (bl s) 2 = ((s[2].toNat : Nat) : Int) := bl_get s 2 (by omega)
        generalize hx0 : ((s[0].toNat : Nat) : Int) = x0 at *
        generalize hx1 : ((s[1].toNat : Nat) : Int) = x1 at *
        generalize hx2 : ((s[2].toNat : Nat) : Int) = x2 at *
        have l0 : 0 ≤ x0 := by omega
        have u0 : x0 ≤ 255 := by rw [← hx0]; exact byte_hi _
        have l1 : 0 ≤ x1 := by omega
        have u1 : x1 ≤ 255 := by rw [← hx1]; exact byte_hi _
        have l2 : 0 ≤ x2 := by omega
        have u2 : x2 ≤ 255 := by rw [← hx2]; exact byte_hi _
        have HX0 := Lib.hid e0
        have HX1 := Lib.hid e1
        have HX2 := Lib.hid e2
        clear e0 e1 e2
        have ht : (bl s).take 3 = [x0, x1, x2] := by rw [take_3 _ (by rw [bl_length]; exact hle), HX0.out, HX1.out, HX2.out]
        have hht : utHit (bl s) 3 = decide (utS3 x0 x1 x2) := by unfold utHit; rw [bl_length, decide_eq_true hle, HX0.out, HX1.out, HX2.out]; rfl
        have HT := Lib.hid ht
        have HHT := Lib.hid hht
        clear ht hht
        have hle' : (3 : Int) ≤ s.size := by omega
        go_wp2_with fail
        refine wp_region_onto (by kernel_rfl) (by kernel_rfl) ?_
        repeat (go_big_quiet_step (fail))
        refine wpQuiet_nil ?_
        intro _ hw'
        obtain ⟨y1, hw''⟩ := hw'
        subst hw''
        go_wp2_with fail
        generalize hc : (x0 - 224) * 4096 + (x1 - 128) * 64 + x2 - 128 = c at *
        have hu := utHit_step s 3 c (utS3 x0 x1 x2) hle _ HT.out HHT.out (put_3 x0 x1 x2 c ⟨l0, u0⟩ ⟨l1, u1⟩ ⟨l2, u2⟩ hc)
        have HC := Lib.hid hc
        clear hc
        have HU := Lib.hid hu
        clear hu
        by_cases hc1 : c < 0
        · have b0 : decide (0 ≤ c) = false := decide_eq_false (by omega)
          have hh := HU.out.2 (by unfold utV; omega)
          have HH := Lib.hid hh
          clear hh HU HC
          refine wp_region_onto (by kernel_rfl) (by kernel_rfl) ?_
          repeat (go_big_quiet_step (fail))
          refine wpQuiet_nil ?_
          intro _ hw'
          obtain ⟨y2, hw''⟩ := hw'
          subst hw''
          go_wp2_with fail
          go_roundw
          case rel => exact ⟨4, by omega, by omega, by omega, rfl, Lib.hid (hit_succ _ 3 4 rfl HN.out HH.out), by first | exact onto_ex _ _ _ | exact ⟨_, rfl⟩⟩
          case measure => simp [intOf]
        by_cases hc2 : 1114111 < c
        · have b0 : decide (0 ≤ c) = true := decide_eq_true (by omega)
          have b1 : decide (c ≤ 1114111) = false := decide_eq_false (by omega)
          have hh := HU.out.2 (by unfold utV; omega)
          have HH := Lib.hid hh
          clear hh HU HC
          refine wp_region_onto (by kernel_rfl) (by kernel_rfl) ?_
          repeat (go_big_quiet_step (fail))
          refine wpQuiet_nil ?_
          intro _ hw'
          obtain ⟨y2, hw''⟩ := hw'
          subst hw''
          go_wp2_with fail
          go_roundw
          case rel => exact ⟨4, by omega, by omega, by omega, rfl, Lib.hid (hit_succ _ 3 4 rfl HN.out HH.out), by first | exact onto_ex _ _ _ | exact ⟨_, rfl⟩⟩
          case measure => simp [intOf]
        by_cases hc3 : c < 55296
        · have b0 : decide (0 ≤ c) = true := decide_eq_true (by omega)
          have b1 : decide (c ≤ 1114111) = true := decide_eq_true (by omega)
          have b2 : decide (c < 55296) = true := decide_eq_true (by omega)
          have hp := HU.out.1 (by unfold utV; omega)
          have p0 : 0 ≤ c := by omega
          have p1 : c ≤ 1114111 := by omega
          have HP := Lib.hid hp
          clear hp
          cases hh : utHit (bl s) 3
          · have hq := HP.out
            rw [hh] at hq
            have HH := Lib.hid hh
            clear hh HP HU HC
            refine wp_region_onto (by kernel_rfl) (by kernel_rfl) ?_
            repeat (go_big_quiet_step ((go_at_call 58; exact calls_onto (rput02_any _ (by assumption) (by assumption) _))))
            refine wpQuiet_nil ?_
            intro _ hw'
            obtain ⟨y2, hw''⟩ := hw'
            subst hw''
            go_wp2_with fail
            go_roundw
            case rel => exact ⟨4, by omega, by omega, by omega, rfl, Lib.hid (hit_succ _ 3 4 rfl HN.out HH.out), by first | exact onto_ex _ _ _ | exact ⟨_, rfl⟩⟩
            case measure => simp [intOf]
          · have hq := HP.out
            rw [hh] at hq
            have HH := Lib.hid hh
            clear hh HP HU HC
            refine wp_region_onto (by kernel_rfl) (by kernel_rfl) ?_
            repeat (go_big_quiet_step ((go_at_call 58; exact calls_onto (rput02_any _ (by assumption) (by assumption) _))))
            refine wpQuiet_nil ?_
            intro _ hw'
            obtain ⟨y2, hw''⟩ := hw'
            subst hw''
            go_wp2_with fail
            go_ret
            rw [utSize_is _ 3 (by omega) (by omega) HN.out HH.out]
            exact ⟨rfl, by (repeat (first | exact Below.refl _ _ | refine up_onto ?_ _))⟩
        by_cases hc4 : 57343 < c
        · have b0 : decide (0 ≤ c) = true := decide_eq_true (by omega)
          have b1 : decide (c ≤ 1114111) = true := decide_eq_true (by omega)
          have b2 : decide (c < 55296) = false := decide_eq_false (by omega)
          have b3 : decide (57343 < c) = true := decide_eq_true (by omega)
          have hp := HU.out.1 (by unfold utV; omega)
          have p0 : 0 ≤ c := by omega
          have p1 : c ≤ 1114111 := by omega
          have HP := Lib.hid hp
          clear hp
          cases hh : utHit (bl s) 3
          · have hq := HP.out
            rw [hh] at hq
            have HH := Lib.hid hh
            clear hh HP HU HC
            refine wp_region_onto (by kernel_rfl) (by kernel_rfl) ?_
            repeat (go_big_quiet_step ((go_at_call 58; exact calls_onto (rput02_any _ (by assumption) (by assumption) _))))
            refine wpQuiet_nil ?_
            intro _ hw'
            obtain ⟨y2, hw''⟩ := hw'
            subst hw''
            go_wp2_with fail
            go_roundw
            case rel => exact ⟨4, by omega, by omega, by omega, rfl, Lib.hid (hit_succ _ 3 4 rfl HN.out HH.out), by first | exact onto_ex _ _ _ | exact ⟨_, rfl⟩⟩
            case measure => simp [intOf]
          · have hq := HP.out
            rw [hh] at hq
            have HH := Lib.hid hh
            clear hh HP HU HC
            refine wp_region_onto (by kernel_rfl) (by kernel_rfl) ?_
            repeat (go_big_quiet_step ((go_at_call 58; exact calls_onto (rput02_any _ (by assumption) (by assumption) _))))
            refine wpQuiet_nil ?_
            intro _ hw'
            obtain ⟨y2, hw''⟩ := hw'
            subst hw''
            go_wp2_with fail
            go_ret
            rw [utSize_is _ 3 (by omega) (by omega) HN.out HH.out]
            exact ⟨rfl, by (repeat (first | exact Below.refl _ _ | refine up_onto ?_ _))⟩
        · have b0 : decide (0 ≤ c) = true := decide_eq_true (by omega)
          have b1 : decide (c ≤ 1114111) = true := decide_eq_true (by omega)
          have b2 : decide (c < 55296) = false := decide_eq_false (by omega)
          have b3 : decide (57343 < c) = false := decide_eq_false (by omega)
          have hh := HU.out.2 (by unfold utV; omega)
          have HH := Lib.hid hh
          clear hh HU HC
          refine wp_region_onto (by kernel_rfl) (by kernel_rfl) ?_
          repeat (go_big_quiet_step (fail))
          refine wpQuiet_nil ?_
          intro _ hw'
          obtain ⟨y2, hw''⟩ := hw'
          subst hw''
          go_wp2_with fail
          go_roundw
          case rel => exact ⟨4, by omega, by omega, by omega, rfl, Lib.hid (hit_succ _ 3 4 rfl HN.out HH.out), by first | exact onto_ex _ _ _ | exact ⟨_, rfl⟩⟩
          case measure => simp [intOf]
      · have hz : utSize (bl s) = 0 := utSize_none _ 3 (.inr (by rw [bl_length]; omega)) HN.out
        have HZ := Lib.hid hz
        clear hz
        go_wp2_with fail
        go_ret
        rw [HZ.out]
        exact ⟨rfl, by (repeat (first | exact Below.refl _ _ | refine up_onto ?_ _))⟩
    · by_cases hle : 4 ≤ s.size
      · have e0 : utB (bl s) 0 = ((s[0].toNat : Nat) : Int) := bl_get s 0 (by omega)
        have e1 : utB (bl s) 1 = ((s[1].toNat : Nat) : Int) := bl_get s 1 (by omega)
        have e2 : utB (bl s) 2 = ((s[2].toNat : Nat) : Int) := bl_get s 2 (by omega)
        have e3 : utB (bl s) 3 = ((s[3].toNat : Nat) : Int) := bl_get s 3 (by omega)
        generalize hx0 : ((s[0].toNat : Nat) : Int) = x0 at *
        generalize hx1 : ((s[1].toNat : Nat) : Int) = x1 at *
        generalize hx2 : ((s[2].toNat : Nat) : Int) = x2 at *
        generalize hx3 : ((s[3].toNat : Nat) : Int) = x3 at *
        have l0 : 0 ≤ x0 := by omega
        have u0 : x0 ≤ 255 := by rw [← hx0]; exact byte_hi _
        have l1 : 0 ≤ x1 := by omega
        have u1 : x1 ≤ 255 := by rw [← hx1]; exact byte_hi _
        have l2 : 0 ≤ x2 := by omega
        have u2 : x2 ≤ 255 := by rw [← hx2]; exact byte_hi _
        have l3 : 0 ≤ x3 := by omega
        have u3 : x3 ≤ 255 := by rw [← hx3]; exact byte_hi _
        have HX0 := Lib.hid e0
        have HX1 := Lib.hid e1
        have HX2 := Lib.hid e2
        have HX3 := Lib.hid e3
        clear e0 e1 e2 e3
        have ht : (bl s).take 4 = [x0, x1, x2, x3] := by rw [take_4 _ (by rw [bl_length]; exact hle), HX0.out, HX1.out, HX2.out, HX3.out]
        have hht : utHit (bl s) 4 = decide (utS4 x0 x1 x2 x3) := by unfold utHit; rw [bl_length, decide_eq_true hle, HX0.out, HX1.out, HX2.out, HX3.out]; rfl
        have HT := Lib.hid ht
        have HHT := Lib.hid hht
        clear ht hht
        have hle' : (4 : Int) ≤ s.size := by omega
        go_wp2_with fail
        refine wp_region_onto (by kernel_rfl) (by kernel_rfl) ?_
        repeat (go_big_quiet_step (fail))
        refine wpQuiet_nil ?_
        intro _ hw'
        obtain ⟨y1, hw''⟩ := hw'
        subst hw''
        go_wp2_with fail
        generalize hc : (x0 - 240) * 262144 + (x1 - 128) * 4096 + (x2 - 128) * 64 + x3 - 128 = c at *
        have hu := utHit_step s 4 c (utS4 x0 x1 x2 x3) hle _ HT.out HHT.out (put_4 x0 x1 x2 x3 c ⟨l0, u0⟩ ⟨l1, u1⟩ ⟨l2, u2⟩ ⟨l3, u3⟩ hc)
        have HC := Lib.hid hc
        clear hc
        have HU := Lib.hid hu
        clear hu
        by_cases hc1 : c < 0
        · have b0 : decide (0 ≤ c) = false := decide_eq_false (by omega)
          have hh := HU.out.2 (by unfold utV; omega)
          have HH := Lib.hid hh
          clear hh HU HC
          refine wp_region_onto (by kernel_rfl) (by kernel_rfl) ?_
          repeat (go_big_quiet_step (fail))
          refine wpQuiet_nil ?_
          intro _ hw'
          obtain ⟨y2, hw''⟩ := hw'
          subst hw''
          go_wp2_with fail
          go_roundw
          case rel => exact ⟨5, by omega, by omega, by omega, rfl, Lib.hid (hit_succ _ 4 5 rfl HN.out HH.out), by first | exact onto_ex _ _ _ | exact ⟨_, rfl⟩⟩
          case measure => simp [intOf]
        by_cases hc2 : 1114111 < c
        · have b0 : decide (0 ≤ c) = true := decide_eq_true (by omega)
          have b1 : decide (c ≤ 1114111) = false := decide_eq_false (by omega)
          have hh := HU.out.2 (by unfold utV; omega)
          have HH := Lib.hid hh
          clear hh HU HC
          refine wp_region_onto (by kernel_rfl) (by kernel_rfl) ?_
          repeat (go_big_quiet_step (fail))
          refine wpQuiet_nil ?_
          intro _ hw'
          obtain ⟨y2, hw''⟩ := hw'
          subst hw''
          go_wp2_with fail
          go_roundw
          case rel => exact ⟨5, by omega, by omega, by omega, rfl, Lib.hid (hit_succ _ 4 5 rfl HN.out HH.out), by first | exact onto_ex _ _ _ | exact ⟨_, rfl⟩⟩
          case measure => simp [intOf]
        by_cases hc3 : c < 55296
        · have b0 : decide (0 ≤ c) = true := decide_eq_true (by omega)
          have b1 : decide (c ≤ 1114111) = true := decide_eq_true (by omega)
          have b2 : decide (c < 55296) = true := decide_eq_true (by omega)
          have hp := HU.out.1 (by unfold utV; omega)
          have p0 : 0 ≤ c := by omega
          have p1 : c ≤ 1114111 := by omega
          have HP := Lib.hid hp
          clear hp
          cases hh : utHit (bl s) 4
          · have hq := HP.out
            rw [hh] at hq
            have HH := Lib.hid hh
            clear hh HP HU HC
            refine wp_region_onto (by kernel_rfl) (by kernel_rfl) ?_
            repeat (go_big_quiet_step ((go_at_call 58; exact calls_onto (rput02_any _ (by assumption) (by assumption) _))))
            refine wpQuiet_nil ?_
            intro _ hw'
            obtain ⟨y2, hw''⟩ := hw'
            subst hw''
            go_wp2_with fail
            go_roundw
            case rel => exact ⟨5, by omega, by omega, by omega, rfl, Lib.hid (hit_succ _ 4 5 rfl HN.out HH.out), by first | exact onto_ex _ _ _ | exact ⟨_, rfl⟩⟩
            case measure => simp [intOf]
          · have hq := HP.out
            rw [hh] at hq
            have HH := Lib.hid hh
            clear hh HP HU HC
            refine wp_region_onto (by kernel_rfl) (by kernel_rfl) ?_
            repeat (go_big_quiet_step ((go_at_call 58; exact calls_onto (rput02_any _ (by assumption) (by assumption) _))))
            refine wpQuiet_nil ?_
            intro _ hw'
            obtain ⟨y2, hw''⟩ := hw'
            subst hw''
            go_wp2_with fail
            go_ret
            rw [utSize_is _ 4 (by omega) (by omega) HN.out HH.out]
            exact ⟨rfl, by (repeat (first | exact Below.refl _ _ | refine up_onto ?_ _))⟩
        by_cases hc4 : 57343 < c
        · have b0 : decide (0 ≤ c) = true := decide_eq_true (by omega)
          have b1 : decide (c ≤ 1114111) = true := decide_eq_true (by omega)
          have b2 : decide (c < 55296) = false := decide_eq_false (by omega)
          have b3 : decide (57343 < c) = true := decide_eq_true (by omega)
          have hp := HU.out.1 (by unfold utV; omega)
          have p0 : 0 ≤ c := by omega
          have p1 : c ≤ 1114111 := by omega
          have HP := Lib.hid hp
          clear hp
          cases hh : utHit (bl s) 4
          · have hq := HP.out
            rw [hh] at hq
            have HH := Lib.hid hh
            clear hh HP HU HC
            refine wp_region_onto (by kernel_rfl) (by kernel_rfl) ?_
            repeat (go_big_quiet_step ((go_at_call 58; exact calls_onto (rput02_any _ (by assumption) (by assumption) _))))
            refine wpQuiet_nil ?_
            intro _ hw'
            obtain ⟨y2, hw''⟩ := hw'
            subst hw''
            go_wp2_with fail
            go_roundw
            case rel => exact ⟨5, by omega, by omega, by omega, rfl, Lib.hid (hit_succ _ 4 5 rfl HN.out HH.out), by first | exact onto_ex _ _ _ | exact ⟨_, rfl⟩⟩
            case measure => simp [intOf]
          · have hq := HP.out
            rw [hh] at hq
            have HH := Lib.hid hh
            clear hh HP HU HC
            refine wp_region_onto (by kernel_rfl) (by kernel_rfl) ?_
            repeat (go_big_quiet_step ((go_at_call 58; exact calls_onto (rput02_any _ (by assumption) (by assumption) _))))
            refine wpQuiet_nil ?_
            intro _ hw'
            obtain ⟨y2, hw''⟩ := hw'
            subst hw''
            go_wp2_with fail
            go_ret
            rw [utSize_is _ 4 (by omega) (by omega) HN.out HH.out]
            exact ⟨rfl, by (repeat (first | exact Below.refl _ _ | refine up_onto ?_ _))⟩
        · have b0 : decide (0 ≤ c) = true := decide_eq_true (by omega)
          have b1 : decide (c ≤ 1114111) = true := decide_eq_true (by omega)
          have b2 : decide (c < 55296) = false := decide_eq_false (by omega)
          have b3 : decide (57343 < c) = false := decide_eq_false (by omega)
          have hh := HU.out.2 (by unfold utV; omega)
          have HH := Lib.hid hh
          clear hh HU HC
          refine wp_region_onto (by kernel_rfl) (by kernel_rfl) ?_
          repeat (go_big_quiet_step (fail))
          refine wpQuiet_nil ?_
          intro _ hw'
          obtain ⟨y2, hw''⟩ := hw'
          subst hw''
          go_wp2_with fail
          go_roundw
          case rel => exact ⟨5, by omega, by omega, by omega, rfl, Lib.hid (hit_succ _ 4 5 rfl HN.out HH.out), by first | exact onto_ex _ _ _ | exact ⟨_, rfl⟩⟩
          case measure => simp [intOf]
      · have hz : utSize (bl s) = 0 := utSize_none _ 4 (.inr (by rw [bl_length]; omega)) HN.out
        have HZ := Lib.hid hz
        clear hz
        go_wp2_with fail
        go_ret
        rw [HZ.out]
        exact ⟨rfl, by (repeat (first | exact Below.refl _ _ | refine up_onto ?_ _))⟩
    · have hz : utSize (bl s) = 0 := utSize_none _ 5 (.inl rfl) HN.out
      have HZ := Lib.hid hz
      clear hz
      go_wp2_with fail
      go_ret
      rw [HZ.out]
      exact ⟨rfl, by (repeat (first | exact Below.refl _ _ | refine up_onto ?_ _))⟩
end Go.Proofs.YtigoonokiihdgaaDoor

namespace Go.Proofs.YtigoonokiihdgaaDoor
open Go.ChangeShapes Go.WideShapes Go.ChangeAt Go.RowKit
set_option linter.unusedVariables false

noncomputable def utGoB (l : List Int) : Bool := @decide (utGo l) (Classical.propDecidable _)
noncomputable def utGoesB (l : List Int) : Bool := @decide (utGoes l) (Classical.propDecidable _)
theorem utGoB_iff (l : List Int) : utGoB l = true ↔ utGo l := by unfold utGoB; exact @decide_eq_true_iff _ (Classical.propDecidable _)
theorem utGoesB_iff (l : List Int) : utGoesB l = true ↔ utGoes l := by unfold utGoesB; exact @decide_eq_true_iff _ (Classical.propDecidable _)
theorem utGoAt_no {t : List Int} {a b : Nat} {n : Nat} (hn : utSize (t ++ [128 + (a : Int), 128 + (b : Int), 128]) = n) (h : n < t.length ∨ n = 0) : utGoAt t a b = false := by
  cases e : utGoAt t a b
  · rfl
  · rw [utGoAt_iff, hn] at e; omega

/-- The second number that is tried: any, or 0 alone. -/
def utMay (l : List Int) (b : Nat) : Prop := b < 64 ∧ (1 < l.length → b = 0)
theorem utGo_no {l : List Int} (h : ∀ a b : Nat, a < 64 → utMay l b → utGoAt l a b = false) : utGoB l = false := by
  cases e : utGoB l
  · rfl
  · rw [utGoB_iff] at e
    obtain ⟨a, b, ha, hb, hl, hg⟩ := e
    rw [h a b ha ⟨hb, hl⟩] at hg
    cases hg
theorem utGo_row {l : List Int} {a : Nat} (h : ∀ x b : Nat, x < a → utMay l b → utGoAt l x b = false) (hr : ∀ b, utMay l b → utGoAt l a b = false) : ∀ x b : Nat, x < a + 1 → utMay l b → utGoAt l x b = false := by
  intro x b hx hb
  by_cases e : x = a
  · subst e; exact hr b hb
  · exact h x b (by omega) hb
theorem utGo_cell {l : List Int} {a b : Nat} (h : ∀ y : Nat, y < b → utGoAt l a y = false) (hr : utGoAt l a b = false) : ∀ y : Nat, y < b + 1 → utGoAt l a y = false := by
  intro y hy
  by_cases e : y = b
  · subst e; exact hr
  · exact h y (by omega)

set_option maxHeartbeats 800000 in
theorem goes_any (s : ByteArray) (h1 : 1 ≤ s.size) (h4 : s.size ≤ 4) (w : World) : Calls Tryd.prog 66 #[.string s] w fun e w' => e = .returned (.bool (utGoB (bl s))) ∧ Below w.heap.size w w' := by
  have hl := bl_length s
  have HL := Lib.hid hl
  clear hl
  go_enter Tryd.func66, Tryd.ntmps66
  go_wp2_with fail
  go_loopw [3] (fun a wr => ∃ k : Nat, k ≤ 64 ∧ a = .int .i64 k ∧ Hid (∀ x b : Nat, x < k → utMay (bl s) b → utGoAt (bl s) x b = false) ∧ ∃ y, wr = onto w y) (fun a _ => 64 - (intOf a).toNat)
  case atStart => exact ⟨0, by omega, rfl, Lib.hid (by intros; omega), onto_self w⟩
  case round =>
    obtain ⟨k, hk, rfl, HK, y, rfl⟩ := hrel
    by_cases hlt : k < 64
    · have hk' : decide ((k : Int) < 64) = true := decide_eq_true (by omega)
      go_wp2_with fail
      go_loopw [4, 5, 6] (fun b _ _ wr => ∃ m : Nat, m ≤ 64 ∧ (1 < s.size → m = 0) ∧ b = .int .i64 m ∧ Hid (∀ x : Nat, x < m → utGoAt (bl s) k x = false) ∧ ∃ y, wr = onto w y) (fun b _ _ _ => 64 - (intOf b).toNat)
      case atStart => exact ⟨0, by omega, by omega, rfl, Lib.hid (by intros; omega), y, rfl⟩
      case round =>
        obtain ⟨m, hm, hm0, rfl, HM, z, rfl⟩ := hrel
        by_cases hlm : m < 64
        · have kx := fun (V : World) => run_string_list (P := Tryd.prog) V 61 9 5 Tryd.underlying61 Tryd.underlying5 Tryd.underlying9 [128 + (k : Int), 128 + (m : Int), 128] 5 3 3 rfl
          simp only [List.map_cons, List.map_nil] at kx
          have hnn : utSize (bl (s ++ toBA [128 + (k : Int), 128 + (m : Int), 128])) = utSize (bl s ++ [128 + (k : Int), 128 + (m : Int), 128]) := by
            rw [bl_append, bl_toBA _ (by intro x hx; simp only [List.mem_cons, List.not_mem_nil, or_false] at hx; omega)]
          have hsz : (s ++ toBA [128 + (k : Int), 128 + (m : Int), 128]).size ≤ maxLen := by
            rw [ByteArray.size_append]
            show s.size + 3 ≤ maxLen
            unfold maxLen; omega
          obtain ⟨n, hn⟩ : ∃ n, utSize (bl (s ++ toBA [128 + (k : Int), 128 + (m : Int), 128])) = n := ⟨_, rfl⟩
          rw [hn] at hnn
          have HN := Lib.hid hn
          have HNN := Lib.hid hnn.symm
          clear hn hnn
          by_cases hA : s.size ≤ n ∧ 0 < n
          · have hg : utGoB (bl s) = true := by
              rw [utGoB_iff]
              exact ⟨k, m, hlt, hlm, by rw [HL.out]; exact hm0, by rw [utGoAt_iff, HNN.out, HL.out]; exact hA⟩
            have HG := Lib.hid hg
            clear hg HNN
            obtain ⟨hA1, hA2⟩ := hA
            clear hm0
            have a1 : decide (s.size ≤ n) = true := decide_eq_true hA1
            have a2 : decide (0 < n) = true := decide_eq_true hA2
            go_wp2_with ((go_at_call 44; ((with_reducible refine (above (size_any _ hsz _)).mono ?_); rw [HN.out]; rintro e _ ⟨rfl, v, rfl⟩)))
            go_ret
            rw [HG.out]
            exact ⟨rfl, (by (repeat (first | exact Below.refl _ _ | refine up_alloc ?_ _ | refine up_onto ?_ _)))⟩
          · have hcell := utGoAt_no (t := bl s) (a := k) (b := m) HNN.out (by rw [HL.out]; omega)
            have HC := Lib.hid hcell
            clear hcell HNN
            by_cases hlen : 1 < s.size
            · have hrow := utGo_row HK.out (fun b hb => by obtain rfl : b = m := (hb.2 (by rw [HL.out]; exact hlen)).trans (hm0 hlen).symm; exact HC.out)
              have HR := Lib.hid hrow
              clear hrow HM HK hm0
              by_cases hA1 : s.size ≤ n
              · have hA2 : n = 0 := by omega
                omega
              · clear hA
                go_wp2_with ((go_at_call 44; ((with_reducible refine (above (size_any _ hsz _)).mono ?_); rw [HN.out]; rintro e _ ⟨rfl, v, rfl⟩)))
                go_roundw
                case rel => exact ⟨k + 1, by omega, by go_num, HR, onto_of (by (repeat (first | exact Below.refl _ _ | refine up_alloc ?_ _ | refine up_onto ?_ _)))⟩
                case measure => simp [intOf]; omega
            · have hc2 := utGo_cell HM.out HC.out
              have HC2 := Lib.hid hc2
              have hlen' : s.size ≤ 1 := by omega
              clear hc2 HM HC hm0 hlen
              by_cases hA1 : s.size ≤ n
              · have hA2 : n = 0 := by omega
                omega
              · clear hA
                go_wp2_with ((go_at_call 44; ((with_reducible refine (above (size_any _ hsz _)).mono ?_); rw [HN.out]; rintro e _ ⟨rfl, v, rfl⟩)))
                go_roundw
                case rel => exact ⟨m + 1, by omega, by omega, by go_num, HC2, onto_of (by (repeat (first | exact Below.refl _ _ | refine up_alloc ?_ _ | refine up_onto ?_ _)))⟩
                case measure => simp [intOf]; omega
        · obtain rfl : m = 64 := by omega
          have hrow := utGo_row HK.out (fun b hb => HM.out b hb.1)
          have HR := Lib.hid hrow
          clear hrow HM HK
          go_wp2_with fail
          go_roundw
          case rel => exact ⟨k + 1, by omega, by go_num, HR, z, rfl⟩
          case measure => simp [intOf]; omega
    · obtain rfl : k = 64 := by omega
      have hg : utGoB (bl s) = false := utGo_no HK.out
      have HG := Lib.hid hg
      clear hg
      go_wp2_with fail
      go_ret
      rw [HG.out]
      exact ⟨rfl, (by (repeat (first | exact Below.refl _ _ | refine up_alloc ?_ _ | refine up_onto ?_ _)))⟩
end Go.Proofs.YtigoonokiihdgaaDoor

namespace Go.Proofs.YtigoonokiihdgaaDoor
open Go.ChangeShapes Go.WideShapes Go.ChangeAt Go.RowKit
set_option linter.unusedVariables false

set_option maxHeartbeats 800000 in
theorem Goes_any (s : ByteArray) (h1 : 1 ≤ s.size) (hs : s.size ≤ maxLen) (w : World) : Calls Tryd.prog 53 #[.string s] w fun e w' => e = .returned (.bool (utGoesB (bl s))) ∧ Below w.heap.size w w' := by
  have hl := bl_length s
  have HL := Lib.hid hl
  clear hl
  have hs' : s.size ≤ 9223372036854775807 := hs
  have hne := str_ne h1
  have hne' : (s.toList == ([] : List UInt8)) = false := by
    cases e : s.toList with
    | nil => rw [e] at hne; cases hne
    | cons => rfl
  by_cases h4 : s.size ≤ 4
  · by_cases hz : utSize (bl s) = s.size
    · have hg : utGoesB (bl s) = true := by
        rw [utGoesB_iff]; exact ⟨by rw [HL.out]; exact h4, .inr (.inl (by rw [HL.out]; exact hz))⟩
      have HG := Lib.hid hg
      have HZ := Lib.hid hz
      clear hg hz
      go_enter Tryd.func53, Tryd.ntmps53
      go_wp2_with ((go_at_call 44; ((with_reducible refine (above (size_any _ hs _)).mono ?_); rw [HZ.out]; rintro e _ ⟨rfl, v, rfl⟩)))
      go_ret
      rw [HG.out]
      exact ⟨rfl, (by (repeat (first | exact Below.refl _ _ | refine up_alloc ?_ _ | refine up_onto ?_ _)))⟩
    · have hg : utGoesB (bl s) = utGoB (bl s) := by
        have : utGoes (bl s) ↔ utGo (bl s) := by
          constructor
          · rintro ⟨_, h | h | h⟩
            · have := HL.out; rw [h] at this; simp at this; omega
            · rw [HL.out] at h; exact absurd h hz
            · exact h
          · intro h; exact ⟨by rw [HL.out]; exact h4, .inr (.inr h)⟩
        cases e : utGoB (bl s)
        · cases e' : utGoesB (bl s)
          · rfl
          · rw [utGoesB_iff, this, ← utGoB_iff, e] at e'; cases e'
        · rw [utGoesB_iff, this, ← utGoB_iff, e]
      have HG := Lib.hid hg
      have hz' : (((utSize (bl s) : Nat) : Int) == (s.size : Int)) = false := by
        rw [beq_eq_false_iff_ne]; omega
      have hz2 : (utSize (bl s) == s.size) = false := by
        rw [beq_eq_false_iff_ne]; exact hz
      clear hg hz
      go_enter Tryd.func53, Tryd.ntmps53
      go_wp2_with (first | (go_at_call 44; ((with_reducible refine (above (size_any _ hs _)).mono ?_); rintro e _ ⟨rfl, v, rfl⟩)) | (go_at_call 66; ((with_reducible refine (above (goes_any _ h1 h4 _)).mono ?_); rintro e _ ⟨rfl, v2, rfl⟩)))
      go_ret
      rw [HG.out]
      exact ⟨rfl, (by (repeat (first | exact Below.refl _ _ | refine up_alloc ?_ _ | refine up_onto ?_ _)))⟩
  · have hg : utGoesB (bl s) = false := by
      cases e : utGoesB (bl s)
      · rfl
      · rw [utGoesB_iff] at e; have := e.1; rw [HL.out] at this; omega
    rw [hg]
    clear hg
    have h4' : 4 < s.size := by omega
    go_enter Tryd.func53, Tryd.ntmps53
    go_wp2_with fail
    go_ret
    exact ⟨rfl, Below.refl _ _⟩

/-! ### Begin -/
end Go.Proofs.YtigoonokiihdgaaDoor

namespace Go.Proofs.YtigoonokiihdgaaDoor
open Go.ChangeShapes Go.WideShapes Go.ChangeAt Go.RowKit
set_option linter.unusedVariables false

set_option maxHeartbeats 1600000 in
theorem refWhole_any (s : ByteArray) (hs : s.size ≤ maxLen) (w : World) : Calls Tryd.prog 27 #[.string s] w fun e w' => e = .returned (.int .i64 (utWhole (bl s))) ∧ Below w.heap.size w w' := by
  have hs' : s.size ≤ 9223372036854775807 := hs
  have hl := bl_length s
  have HL := Lib.hid hl
  clear hl
  go_enter Tryd.func27, Tryd.ntmps27
  go_wp2_with fail
  go_loopw [3] (fun a wr => ∃ k : Nat, k ≤ s.size ∧ a = .int .i64 k ∧ Hid (utWhole (bl s) = k + utWhole ((bl s).drop k)) ∧ ∃ y, wr = onto w y) (fun a _ => s.size - (intOf a).toNat)
  case atStart => exact ⟨0, by omega, rfl, Lib.hid (by simp), onto_self w⟩
  case round =>
    obtain ⟨k, hk, rfl, HK, y, rfl⟩ := hrel
    by_cases hlt : k < s.size
    · have hd := bl_from s k
      have hle := utSize_le ((bl s).drop k)
      rw [List.length_drop, HL.out] at hle
      have hsz : (s.extract k s.size).size ≤ maxLen := by
        rw [ByteArray.size_extract]; unfold maxLen; omega
      obtain ⟨n, hn⟩ : ∃ n, utSize ((bl s).drop k) = n := ⟨_, rfl⟩
      rw [hn] at hle
      obtain ⟨hle1, hle2⟩ := hle
      have hv : utSize (bl (s.extract k s.size)) = n := by rw [hd, hn]
      have HN := Lib.hid hn
      have HV := Lib.hid hv
      clear hd hn hv
      by_cases hz : n = 0
      · have hw : utWhole (bl s) = k := by rw [HK.out, utWhole_0 (by rw [HN.out, hz])]; rfl
        have HW := Lib.hid hw
        subst hz
        clear hw HK HN
        go_wp2_with ((go_at_call 44; ((with_reducible refine (above (size_any _ hsz _)).mono ?_); rw [HV.out]; rintro e _ ⟨rfl, v, rfl⟩)))
        go_ret
        rw [HW.out]
        exact ⟨rfl, (by (repeat (first | exact Below.refl _ _ | refine up_alloc ?_ _ | refine up_onto ?_ _)))⟩
      · have hw : utWhole (bl s) = (k + n : Nat) + utWhole ((bl s).drop (k + n)) := by
          rw [HK.out, utWhole_pos (by rw [HN.out]; exact hz), HN.out, List.drop_drop]; omega
        have HW := Lib.hid hw
        have hz' : 0 < n := by omega
        have hz2 : decide (0 < n) = true := decide_eq_true hz'
        have hz3 : decide ((0 : Int) < (n : Int)) = true := decide_eq_true (by omega)
        clear hw HK HN hz
        go_wp2_with ((go_at_call 44; ((with_reducible refine (above (size_any _ hsz _)).mono ?_); rw [HV.out]; rintro e _ ⟨rfl, v, rfl⟩)))
        go_roundw
        case rel => exact ⟨k + n, by omega, by go_num, HW, onto_of (by (repeat (first | exact Below.refl _ _ | refine up_alloc ?_ _ | refine up_onto ?_ _)))⟩
        case measure => simp [intOf]; omega
    · have hw : utWhole (bl s) = k := by
        rw [HK.out, bl_end s k (by omega), utWhole_0 utSize_nil]; rfl
      have HW := Lib.hid hw
      clear hw HK
      go_wp2_with fail
      go_ret
      rw [HW.out]
      exact ⟨rfl, (by (repeat (first | exact Below.refl _ _ | refine up_alloc ?_ _ | refine up_onto ?_ _)))⟩

/-- The place of the first byte that doesn't go on. -/
def utRefBad (l : List Int) : Int := if utRn 0 l < l.length then utRn 0 l else -1

set_option maxHeartbeats 1600000 in
theorem refBad_any (s : ByteArray) (hs : s.size ≤ 1000000) (w : World) : Calls Tryd.prog 35 #[.string s] w fun e w' => e = .returned (.int .i64 (utRefBad (bl s))) ∧ Below w.heap.size w w' := by
  have hs' : s.size ≤ maxLen := by unfold maxLen; omega
  have hl := bl_length s
  obtain ⟨w1, w2, w3, w4, w5⟩ := utWhole_spec _ (bl s) (Nat.le_refl _)
  obtain ⟨m, hm⟩ : ∃ m, utWhole (bl s) = m := ⟨_, rfl⟩
  rw [hm] at w1 w3 w4
  obtain ⟨r, hr⟩ : ∃ r, utRn 0 ((bl s).drop m) = r := ⟨_, rfl⟩
  have hgo : ∀ n, 1 ≤ n → m + n ≤ s.size → (utGoesB (bl (s.extract m (m + n))) = decide (n ≤ r)) := by
    intro n h1 h2
    have h3 := ut_F3 _ w3 n h1 (by rw [List.length_drop, hl]; omega)
    rw [bl_mid, show m + n - m = n from by omega]
    rw [hr] at h3
    cases e : utGoesB (((bl s).drop m).take n)
    · rw [eq_comm, decide_eq_false_iff_not, ← h3, ← utGoesB_iff, e]; simp
    · rw [eq_comm, decide_eq_true_eq, ← h3, ← utGoesB_iff, e]
  have hrb : utRefBad (bl s) = if m + r < s.size then ((m + r : Nat) : Int) else -1 := by
    unfold utRefBad; rw [w4, hr, hl]
  rw [hl] at w1
  have hrl := utRn_le 0 ((bl s).drop m)
  rw [hr, List.length_drop, hl] at hrl
  have HGO := Lib.hid hgo
  have HRB := Lib.hid hrb
  have HM := Lib.hid hm
  clear hgo hrb hm hr hl w2 w3 w4 w5
  go_enter Tryd.func35, Tryd.ntmps35
  go_wp2_with ((go_at_call 27; ((with_reducible refine (above (refWhole_any _ hs' _)).mono ?_); rw [HM.out]; rintro e _ ⟨rfl, v, rfl⟩)))
  go_loopw [4] (fun a wr => ∃ k : Nat, 1 ≤ k ∧ m + k ≤ s.size + 1 ∧ k ≤ r + 1 ∧ a = .int .i64 k ∧ ∃ y, wr = onto w y) (fun a _ => s.size + 1 - (intOf a).toNat)
  case atStart => exact ⟨1, by omega, by omega, by omega, rfl, _, rfl⟩
  case round =>
    obtain ⟨k, hk1, hk2, hk3, rfl, y, rfl⟩ := hrel
    by_cases hlt : m + k ≤ s.size
    · have hsz : (s.extract m (m + k)).size ≤ maxLen := by
        rw [ByteArray.size_extract]; unfold maxLen; omega
      have hs1 : 1 ≤ (s.extract m (m + k)).size := by
        rw [ByteArray.size_extract]; omega
      have hg := HGO.out k hk1 hlt
      have hsl := fun (V : World) => run_sub (P := Tryd.prog) V 9 s m (m + k) (m : Int) ((m : Int) + (k : Int)) rfl (by omega) (by omega) hlt Tryd.underlying9
      by_cases hkr : k ≤ r
      · rw [decide_eq_true hkr] at hg
        have HG := Lib.hid hg
        clear hg
        go_wp2_with ((go_at_call 53; ((with_reducible refine (above (Goes_any _ hs1 hsz _)).mono ?_); rw [HG.out]; rintro e _ ⟨rfl, v, rfl⟩)))
        go_roundw
        case rel => exact ⟨k + 1, by omega, by omega, by omega, by go_num, onto_of (by (repeat (first | exact Below.refl _ _ | refine up_alloc ?_ _ | refine up_onto ?_ _)))⟩
        case measure => simp [intOf]; omega
      · rw [decide_eq_false hkr] at hg
        have hv : utRefBad (bl s) = (m : Int) + (k : Int) - 1 := by rw [HRB.out, if_pos (by omega)]; omega
        have HV := Lib.hid hv
        have HG := Lib.hid hg
        clear hg hv
        go_wp2_with ((go_at_call 53; ((with_reducible refine (above (Goes_any _ hs1 hsz _)).mono ?_); rw [HG.out]; rintro e _ ⟨rfl, v, rfl⟩)))
        go_ret
        rw [HV.out]
        exact ⟨ret_int (by first | rfl | omega), (by (repeat (first | exact Below.refl _ _ | refine up_alloc ?_ _ | refine up_onto ?_ _)))⟩
    · have hv : utRefBad (bl s) = -1 := by rw [HRB.out, if_neg (by omega)]
      have HV := Lib.hid hv
      clear hv
      go_wp2_with fail
      go_ret
      rw [HV.out]
      exact ⟨rfl, (by (repeat (first | exact Below.refl _ _ | refine up_alloc ?_ _ | refine up_onto ?_ _)))⟩
theorem refWhole_is (s : ByteArray) (hs : s.size ≤ maxLen) (n : Nat) (hn : Hid (utWhole (bl s) = n)) (w : World) : Calls Tryd.prog 27 #[.string s] w fun e w' => e = .returned (.int .i64 n) ∧ Below w.heap.size w w' := by
  rw [← hn.out]; exact refWhole_any s hs w
theorem refBad_is (s : ByteArray) (hs : s.size ≤ 1000000) (n : Int) (hn : Hid (utRefBad (bl s) = n)) (w : World) : Calls Tryd.prog 35 #[.string s] w fun e w' => e = .returned (.int .i64 n) ∧ Below w.heap.size w w' := by
  rw [← hn.out]; exact refBad_any s hs w
end Go.Proofs.YtigoonokiihdgaaDoor

/- Layer 2: contracts of the document's own answers: the bytes of a code point, the length of a text's first sequence. Layer 2: contracts of the document's own answers: which texts are a beginning of a sequence. Layer 2: contracts of the document's own answers: Goes, State, Begin, Whole, Bad. Layer 2: contracts of the document's own answers: Whole, Bad. -/
import Derived.Test.YtaoncnlhilpgfaaDoorRows
import Derived.Test.YtaoncnlhilpgfaaDoorZk
import Derived.Test.YtaoncnlhilpgfaaDoorZp
import Derived.LoopTactic
namespace Go.Proofs.YtaoncnlhilpgfaaDoor
open Go.ChangeShapes Go.WideShapes Go.ChangeAt Go.RowKit
set_option linter.unusedVariables false

/-- The bytes of a code point. -/
def putL (c : Int) : List Int :=
  if c < 128 then [c] else if c < 2048 then [192 + c / 64, 128 + c % 64] else if c < 65536 then [224 + c / 4096, 128 + c / 64 % 64, 128 + c % 64]
  else [240 + c / 262144, 128 + c / 4096 % 64, 128 + c / 64 % 64, 128 + c % 64]

set_option maxHeartbeats 400000 in
theorem rput02_any (c : Int) (h0 : 0 ≤ c) (h1 : c ≤ 1114111) (w : World) : Calls Tryd.prog 50 #[.int .i64 c] w fun e w' => e = .returned (.string (toBA (putL c))) ∧ Below w.heap.size w w' := by
  have k1 := fun (a : Int) => run_string_list (P := Tryd.prog) w 43 9 5 Tryd.underlying43 Tryd.underlying5 Tryd.underlying9 [a] 5 1 1 rfl
  have k2 := fun (a b : Int) => run_string_list (P := Tryd.prog) w 43 9 5 Tryd.underlying43 Tryd.underlying5 Tryd.underlying9 [a, b] 5 2 2 rfl
  have k3 := fun (a b c : Int) => run_string_list (P := Tryd.prog) w 43 9 5 Tryd.underlying43 Tryd.underlying5 Tryd.underlying9 [a, b, c] 5 3 3 rfl
  have k4 := fun (a b c d : Int) => run_string_list (P := Tryd.prog) w 43 9 5 Tryd.underlying43 Tryd.underlying5 Tryd.underlying9 [a, b, c, d] 5 4 4 rfl
  simp only [List.map_cons, List.map_nil] at k1 k2 k3 k4
  by_cases c1 : c < 128
  · have e : putL c = [c] := by rw [putL, if_pos c1]
    rw [e]; clear e k2 k3 k4
    go_enter Tryd.func50, Tryd.ntmps50
    go_wp2
    go_ret
    exact ⟨rfl, up_alloc (Below.refl _ _) _⟩
  by_cases c2 : c < 2048
  · have e : putL c = [192 + c / 64, 128 + c % 64] := by rw [putL, if_neg c1, if_pos c2]
    rw [e]; clear e k1 k3 k4
    go_enter Tryd.func50, Tryd.ntmps50
    go_wp2
    go_ret
    exact ⟨rfl, up_alloc (Below.refl _ _) _⟩
  by_cases c3 : c < 65536
  · have e : putL c = [224 + c / 4096, 128 + c / 64 % 64, 128 + c % 64] := by rw [putL, if_neg c1, if_neg c2, if_pos c3]
    rw [e]; clear e k1 k2 k4
    go_enter Tryd.func50, Tryd.ntmps50
    go_wp2
    go_ret
    exact ⟨rfl, up_alloc (Below.refl _ _) _⟩
  · have e : putL c = [240 + c / 262144, 128 + c / 4096 % 64, 128 + c / 64 % 64, 128 + c % 64] := by rw [putL, if_neg c1, if_neg c2, if_neg c3]
    rw [e]; clear e k1 k2 k3
    go_enter Tryd.func50, Tryd.ntmps50
    go_wp2
    go_ret
    exact ⟨rfl, up_alloc (Below.refl _ _) _⟩

theorem bl_get (s : ByteArray) (i : Nat) (h : i < s.size) : utB (bl s) i = ((s[i].toNat : Nat) : Int) := by
  unfold utB bl
  rw [List.getElem?_eq_getElem (by rw [List.length_map]; exact h)]
  simp
  rfl

theorem putL_bd (c : Int) (h0 : 0 ≤ c) (h1 : c ≤ 1114111) : ∀ x ∈ putL c, 0 ≤ x ∧ x ≤ 255 := by
  intro x hx
  unfold putL at hx
  (repeat' split at hx) <;> (simp only [List.mem_cons, List.not_mem_nil, or_false] at hx; omega)
theorem put_cmp (c : Int) (h0 : 0 ≤ c) (h1 : c ≤ 1114111) (s : ByteArray) (k : Nat) : ((toBA (putL c)).toList == (s.extract 0 k).toList) = decide (putL c = (bl s).take k) := by
  rw [str_eq, bl_toBA _ (putL_bd c h0 h1), bl_take]
theorem take_1 (l : List Int) (h : 1 ≤ l.length) : l.take 1 = [utB l 0] := by
  rcases l with _ | ⟨a, r⟩
  · simp at h
  · simp [utB]
theorem take_2 (l : List Int) (h : 2 ≤ l.length) : l.take 2 = [utB l 0, utB l 1] := by
  rcases l with _ | ⟨a, _ | ⟨b, r⟩⟩
  · simp at h
  · simp at h
  · simp [utB]
theorem take_3 (l : List Int) (h : 3 ≤ l.length) : l.take 3 = [utB l 0, utB l 1, utB l 2] := by
  rcases l with _ | ⟨a, _ | ⟨b, _ | ⟨c, r⟩⟩⟩
  · simp at h
  · simp at h
  · simp at h
  · simp [utB]
theorem take_4 (l : List Int) (h : 4 ≤ l.length) : l.take 4 = [utB l 0, utB l 1, utB l 2, utB l 3] := by
  rcases l with _ | ⟨a, _ | ⟨b, _ | ⟨c, _ | ⟨d, r⟩⟩⟩⟩
  · simp at h
  · simp at h
  · simp at h
  · simp at h
  · simp [utB]
/-- A code point that may be. -/
def utV (c : Int) : Prop := 0 ≤ c ∧ c ≤ 1114111 ∧ (c < 55296 ∨ 57343 < c)
theorem put_1 (a c : Int) (ha : 0 ≤ a ∧ a ≤ 255) (hc : a = c) : utV c ∧ (putL c = [a] ↔ utS1 a) := by
  subst hc
  refine ⟨by unfold utV; omega, ?_⟩
  unfold putL utS1
  (repeat' split) <;> simp <;> omega
theorem put_2 (a b c : Int) (ha : 0 ≤ a ∧ a ≤ 255) (hb : 0 ≤ b ∧ b ≤ 255) (hc : (a - 192) * 64 + b - 128 = c) : (utV c → (putL c = [a, b] ↔ utS2 a b)) ∧ (¬ utV c → ¬ utS2 a b) := by
  unfold utV utS2 putL
  refine ⟨fun hv => ?_, by omega⟩
  (repeat' split) <;> simp <;> omega
theorem put_3 (a b x c : Int) (ha : 0 ≤ a ∧ a ≤ 255) (hb : 0 ≤ b ∧ b ≤ 255) (hx : 0 ≤ x ∧ x ≤ 255) (hc : (a - 224) * 4096 + (b - 128) * 64 + x - 128 = c) : (utV c → (putL c = [a, b, x] ↔ utS3 a b x)) ∧ (¬ utV c → ¬ utS3 a b x) := by
  unfold utV utS3 utP3 putL
  refine ⟨fun hv => ?_, by omega⟩
  (repeat' split) <;> simp <;> omega
theorem put_4 (a b x y c : Int) (ha : 0 ≤ a ∧ a ≤ 255) (hb : 0 ≤ b ∧ b ≤ 255) (hx : 0 ≤ x ∧ x ≤ 255) (hy : 0 ≤ y ∧ y ≤ 255) (hc : (a - 240) * 262144 + (b - 128) * 4096 + (x - 128) * 64 + y - 128 = c) : (utV c → (putL c = [a, b, x, y] ↔ utS4 a b x y)) ∧ (¬ utV c → ¬ utS4 a b x y) := by
  unfold utV utS4 utP4 putL
  refine ⟨fun hv => ?_, by omega⟩
  (repeat' split) <;> simp <;> omega
/-- What the loop asks at n bytes. -/
theorem utHit_step (s : ByteArray) (n : Nat) (c : Int) (P : Prop) [Decidable P] (hn : n ≤ s.size) (l : List Int) (hl : (bl s).take n = l) (hh : utHit (bl s) n = decide P) (h : (utV c → (putL c = l ↔ P)) ∧ (¬ utV c → ¬ P)) :
    (utV c → ((toBA (putL c)).toList == (s.extract 0 n).toList) = utHit (bl s) n) ∧ (¬ utV c → utHit (bl s) n = false) := by
  refine ⟨fun hv => ?_, fun hv => ?_⟩
  · rw [put_cmp c hv.1 hv.2.1, hh, hl]
    simp only [h.1 hv]
  · rw [hh]; simpa using h.2 hv
theorem utSize_is (l : List Int) (k : Nat) (h1 : 1 ≤ k) (h4 : k ≤ 4) (hn : ∀ j, 1 ≤ j → j < k → utHit l j = false) (hk : utHit l k = true) : utSize l = k := by
  unfold utSize
  have hcase : k = 1 ∨ k = 2 ∨ k = 3 ∨ k = 4 := by omega
  rcases hcase with rfl | rfl | rfl | rfl
  · rw [if_pos hk]
  · rw [if_neg (by simp [hn 1]), if_pos hk]
  · rw [if_neg (by simp [hn 1]), if_neg (by simp [hn 2]), if_pos hk]
  · rw [if_neg (by simp [hn 1]), if_neg (by simp [hn 2]), if_neg (by simp [hn 3]), if_pos hk]
theorem utHit_short (l : List Int) (j : Nat) (h : l.length < j) : utHit l j = false := by simp [utHit]; omega
theorem utSize_none (l : List Int) (k : Nat) (h : k = 5 ∨ l.length < k) (hn : ∀ j, 1 ≤ j → j < k → utHit l j = false) : utSize l = 0 := by
  have : ∀ j, 1 ≤ j → j ≤ 4 → utHit l j = false := by
    intro j h1 h4
    by_cases hj : j < k
    · exact hn j h1 hj
    · exact utHit_short l j (by omega)
  unfold utSize
  rw [if_neg (by simp [this 1]), if_neg (by simp [this 2]), if_neg (by simp [this 3]), if_neg (by simp [this 4])]
theorem hit_succ (l : List Int) (k k' : Nat) (e : k' = k + 1) (hn : ∀ j, 1 ≤ j → j < k → utHit l j = false) (hk : utHit l k = false) : ∀ j, 1 ≤ j → j < k' → utHit l j = false := by
  subst e
  intro j h1 hj
  by_cases e : j = k
  · subst e; exact hk
  · exact hn j h1 (by omega)

set_option maxHeartbeats 3200000 in
set_option maxRecDepth 100000 in
theorem size_any (s : ByteArray) (hs : s.size ≤ maxLen) (w : World) : Calls Tryd.prog 40 #[.string s] w fun e w' => e = .returned (.int .i64 (utSize (bl s))) ∧ Below w.heap.size w w' := by
  unfold maxLen at hs
  go_enter Tryd.func40, Tryd.ntmps40
  go_wp2_with fail
  go_loopw [3] (fun n wr => ∃ k : Nat, 1 ≤ k ∧ k ≤ 5 ∧ k ≤ s.size + 1 ∧ n = .int .i64 k ∧ Hid (∀ j, 1 ≤ j → j < k → utHit (bl s) j = false) ∧ ∃ y, wr = onto w y) (fun n _ => 5 - (intOf n).toNat)
  case atStart => exact ⟨1, by omega, by omega, by omega, rfl, Lib.hid (by intros; omega), onto_self w⟩
  case round =>
    obtain ⟨k, hk1, hk5, hks, rfl, HN, y, rfl⟩ := hrel
    have hcase : k = 1 ∨ k = 2 ∨ k = 3 ∨ k = 4 ∨ k = 5 := by omega
    clear hk1 hk5
    rcases hcase with rfl | rfl | rfl | rfl | rfl
    · by_cases hle : 1 ≤ s.size
      · have e0 : utB (bl s) 0 = ((s[0].toNat : Nat) : Int) := bl_get s 0 (by omega)
        generalize hx0 : ((s[0].toNat : Nat) : Int) = x0 at *
        have l0 : 0 ≤ x0 := by omega
        have u0 : x0 ≤ 255 := by rw [← hx0]; exact byte_hi _
        have HX0 := Lib.hid e0
        clear e0
        have ht : (bl s).take 1 = [x0] := by rw [take_1 _ (by rw [bl_length]; exact hle), HX0.out]
        have hht : utHit (bl s) 1 = decide (utS1 x0) := by unfold utHit; rw [bl_length, decide_eq_true hle, HX0.out]; rfl
        have HT := Lib.hid ht
        have HHT := Lib.hid hht
        clear ht hht
        have hle' : (1 : Int) ≤ s.size := by omega
        go_wp2_with fail
        obtain ⟨c, hc⟩ : ∃ c, x0 = c := ⟨_, rfl⟩
        have hu := utHit_step s 1 c (utS1 x0) hle _ HT.out HHT.out ⟨fun _ => (put_1 x0 c ⟨l0, u0⟩ hc).2, fun h => absurd (put_1 x0 c ⟨l0, u0⟩ hc).1 h⟩
        subst hc
        have HC := trivial
        have HU := Lib.hid hu
        clear hu
        have hc3 : x0 < 55296 := by omega
        have b0 : decide (0 ≤ x0) = true := decide_eq_true (by omega)
        have b1 : decide (x0 ≤ 1114111) = true := decide_eq_true (by omega)
        have b2 : decide (x0 < 55296) = true := decide_eq_true (by omega)
        have hp := HU.out.1 (by unfold utV; omega)
        have p0 : 0 ≤ x0 := by omega
        have p1 : x0 ≤ 1114111 := by omega
        have HP := Lib.hid hp
        clear hp
        cases hh : utHit (bl s) 1
        · have hq := HP.out
          rw [hh] at hq
          have HH := Lib.hid hh
          clear hh HP HU HC
          refine wp_region_onto (by kernel_rfl) (by kernel_rfl) ?_
          repeat (go_big_quiet_step ((go_at_call 50; exact calls_onto (rput02_any _ (by assumption) (by assumption) _))))
          refine wpQuiet_nil ?_
          intro _ hw'
          obtain ⟨y2, hw''⟩ := hw'
          subst hw''
          go_wp2_with fail
          go_roundw
          case rel => exact ⟨2, by omega, by omega, by omega, rfl, Lib.hid (hit_succ _ 1 2 rfl HN.out HH.out), by first | exact onto_ex _ _ _ | exact ⟨_, rfl⟩⟩
          case measure => simp [intOf]
        · have hq := HP.out
          rw [hh] at hq
          have HH := Lib.hid hh
          clear hh HP HU HC
          refine wp_region_onto (by kernel_rfl) (by kernel_rfl) ?_
          repeat (go_big_quiet_step ((go_at_call 50; exact calls_onto (rput02_any _ (by assumption) (by assumption) _))))
          refine wpQuiet_nil ?_
          intro _ hw'
          obtain ⟨y2, hw''⟩ := hw'
          subst hw''
          go_wp2_with fail
          go_ret
          rw [utSize_is _ 1 (by omega) (by omega) HN.out HH.out]
          exact ⟨rfl, by (repeat (first | exact Below.refl _ _ | refine up_onto ?_ _))⟩
      · have hz : utSize (bl s) = 0 := utSize_none _ 1 (.inr (by rw [bl_length]; omega)) HN.out
        have HZ := Lib.hid hz
        clear hz
        go_wp2_with fail
        go_ret
        rw [HZ.out]
        exact ⟨rfl, by (repeat (first | exact Below.refl _ _ | refine up_onto ?_ _))⟩
    · by_cases hle : 2 ≤ s.size
      · have e0 : utB (bl s) 0 = ((s[0].toNat : Nat) : Int) := bl_get s 0 (by omega)
        have e1 : utB (bl s) 1 = ((s[1].toNat : Nat) : Int) := bl_get s 1 (by omega)
        generalize hx0 : ((s[0].toNat : Nat) : Int) = x0 at *
        generalize hx1 : ((s[1].toNat : Nat) : Int) = x1 at *
        have l0 : 0 ≤ x0 := by omega
        have u0 : x0 ≤ 255 := by rw [← hx0]; exact byte_hi _
        have l1 : 0 ≤ x1 := by omega
        have u1 : x1 ≤ 255 := by rw [← hx1]; exact byte_hi _
        have HX0 := Lib.hid e0
        have HX1 := Lib.hid e1
        clear e0 e1
        have ht : (bl s).take 2 = [x0, x1] := by rw [take_2 _ (by rw [bl_length]; exact hle), HX0.out, HX1.out]
        have hht : utHit (bl s) 2 = decide (utS2 x0 x1) := by unfold utHit; rw [bl_length, decide_eq_true hle, HX0.out, HX1.out]; rfl
        have HT := Lib.hid ht
        have HHT := Lib.hid hht
        clear ht hht
        have hle' : (2 : Int) ≤ s.size := by omega
        go_wp2_with fail
        refine wp_region_onto (by kernel_rfl) (by kernel_rfl) ?_
        repeat (go_big_quiet_step (fail))
        refine wpQuiet_nil ?_
        intro _ hw'
        obtain ⟨y1, hw''⟩ := hw'
        subst hw''
        go_wp2_with fail
        generalize hc : (x0 - 192) * 64 + x1 - 128 = c at *
        have hu := utHit_step s 2 c (utS2 x0 x1) hle _ HT.out HHT.out (put_2 x0 x1 c ⟨l0, u0⟩ ⟨l1, u1⟩ hc)
        have HC := Lib.hid hc
        clear hc
        have HU := Lib.hid hu
        clear hu
        by_cases hc1 : c < 0
        · have b0 : decide (0 ≤ c) = false := decide_eq_false (by omega)
          have hh := HU.out.2 (by unfold utV; omega)
          have HH := Lib.hid hh
          clear hh HU HC
          refine wp_region_onto (by kernel_rfl) (by kernel_rfl) ?_
          repeat (go_big_quiet_step (fail))
          refine wpQuiet_nil ?_
          intro _ hw'
          obtain ⟨y2, hw''⟩ := hw'
          subst hw''
          go_wp2_with fail
          go_roundw
          case rel => exact ⟨3, by omega, by omega, by omega, rfl, Lib.hid (hit_succ _ 2 3 rfl HN.out HH.out), by first | exact onto_ex _ _ _ | exact ⟨_, rfl⟩⟩
          case measure => simp [intOf]
        by_cases hc2 : 1114111 < c
        · have b0 : decide (0 ≤ c) = true := decide_eq_true (by omega)
          have b1 : decide (c ≤ 1114111) = false := decide_eq_false (by omega)
          have hh := HU.out.2 (by unfold utV; omega)
          have HH := Lib.hid hh
          clear hh HU HC
          refine wp_region_onto (by kernel_rfl) (by kernel_rfl) ?_
          repeat (go_big_quiet_step (fail))
          refine wpQuiet_nil ?_
          intro _ hw'
          obtain ⟨y2, hw''⟩ := hw'
          subst hw''
          go_wp2_with fail
          go_roundw
          case rel => exact ⟨3, by omega, by omega, by omega, rfl, Lib.hid (hit_succ _ 2 3 rfl HN.out HH.out), by first | exact onto_ex _ _ _ | exact ⟨_, rfl⟩⟩
          case measure => simp [intOf]
        by_cases hc3 : c < 55296
        · have b0 : decide (0 ≤ c) = true := decide_eq_true (by omega)
          have b1 : decide (c ≤ 1114111) = true := decide_eq_true (by omega)
          have b2 : decide (c < 55296) = true := decide_eq_true (by omega)
          have hp := HU.out.1 (by unfold utV; omega)
          have p0 : 0 ≤ c := by omega
          have p1 : c ≤ 1114111 := by omega
          have HP := Lib.hid hp
          clear hp
          cases hh : utHit (bl s) 2
          · have hq := HP.out
            rw [hh] at hq
            have HH := Lib.hid hh
            clear hh HP HU HC
            refine wp_region_onto (by kernel_rfl) (by kernel_rfl) ?_
            repeat (go_big_quiet_step ((go_at_call 50; exact calls_onto (rput02_any _ (by assumption) (by assumption) _))))
            refine wpQuiet_nil ?_
            intro _ hw'
            obtain ⟨y2, hw''⟩ := hw'
            subst hw''
            go_wp2_with fail
            go_roundw
            case rel => exact ⟨3, by omega, by omega, by omega, rfl, Lib.hid (hit_succ _ 2 3 rfl HN.out HH.out), by first | exact onto_ex _ _ _ | exact ⟨_, rfl⟩⟩
            case measure => simp [intOf]
          · have hq := HP.out
            rw [hh] at hq
            have HH := Lib.hid hh
            clear hh HP HU HC
            refine wp_region_onto (by kernel_rfl) (by kernel_rfl) ?_
            repeat (go_big_quiet_step ((go_at_call 50; exact calls_onto (rput02_any _ (by assumption) (by assumption) _))))
            refine wpQuiet_nil ?_
            intro _ hw'
            obtain ⟨y2, hw''⟩ := hw'
            subst hw''
            go_wp2_with fail
            go_ret
            rw [utSize_is _ 2 (by omega) (by omega) HN.out HH.out]
            exact ⟨rfl, by (repeat (first | exact Below.refl _ _ | refine up_onto ?_ _))⟩
        by_cases hc4 : 57343 < c
        · have b0 : decide (0 ≤ c) = true := decide_eq_true (by omega)
          have b1 : decide (c ≤ 1114111) = true := decide_eq_true (by omega)
          have b2 : decide (c < 55296) = false := decide_eq_false (by omega)
          have b3 : decide (57343 < c) = true := decide_eq_true (by omega)
          have hp := HU.out.1 (by unfold utV; omega)
          have p0 : 0 ≤ c := by omega
          have p1 : c ≤ 1114111 := by omega
          have HP := Lib.hid hp
          clear hp
          cases hh : utHit (bl s) 2
          · have hq := HP.out
            rw [hh] at hq
            have HH := Lib.hid hh
            clear hh HP HU HC
            refine wp_region_onto (by kernel_rfl) (by kernel_rfl) ?_
            repeat (go_big_quiet_step ((go_at_call 50; exact calls_onto (rput02_any _ (by assumption) (by assumption) _))))
            refine wpQuiet_nil ?_
            intro _ hw'
            obtain ⟨y2, hw''⟩ := hw'
            subst hw''
            go_wp2_with fail
            go_roundw
            case rel => exact ⟨3, by omega, by omega, by omega, rfl, Lib.hid (hit_succ _ 2 3 rfl HN.out HH.out), by first | exact onto_ex _ _ _ | exact ⟨_, rfl⟩⟩
            case measure => simp [intOf]
          · have hq := HP.out
            rw [hh] at hq
            have HH := Lib.hid hh
            clear hh HP HU HC
            refine wp_region_onto (by kernel_rfl) (by kernel_rfl) ?_
            repeat (go_big_quiet_step ((go_at_call 50; exact calls_onto (rput02_any _ (by assumption) (by assumption) _))))
            refine wpQuiet_nil ?_
            intro _ hw'
            obtain ⟨y2, hw''⟩ := hw'
            subst hw''
            go_wp2_with fail
            go_ret
            rw [utSize_is _ 2 (by omega) (by omega) HN.out HH.out]
            exact ⟨rfl, by (repeat (first | exact Below.refl _ _ | refine up_onto ?_ _))⟩
        · have b0 : decide (0 ≤ c) = true := decide_eq_true (by omega)
          have b1 : decide (c ≤ 1114111) = true := decide_eq_true (by omega)
          have b2 : decide (c < 55296) = false := decide_eq_false (by omega)
          have b3 : decide (57343 < c) = false := decide_eq_false (by omega)
          have hh := HU.out.2 (by unfold utV; omega)
          have HH := Lib.hid hh
          clear hh HU HC
          refine wp_region_onto (by kernel_rfl) (by kernel_rfl) ?_
          repeat (go_big_quiet_step (fail))
          refine wpQuiet_nil ?_
          intro _ hw'
          obtain ⟨y2, hw''⟩ := hw'
          subst hw''
          go_wp2_with fail
          go_roundw
          case rel => exact ⟨3, by omega, by omega, by omega, rfl, Lib.hid (hit_succ _ 2 3 rfl HN.out HH.out), by first | exact onto_ex _ _ _ | exact ⟨_, rfl⟩⟩
          case measure => simp [intOf]
      · have hz : utSize (bl s) = 0 := utSize_none _ 2 (.inr (by rw [bl_length]; omega)) HN.out
        have HZ := Lib.hid hz
        clear hz
        go_wp2_with fail
        go_ret
        rw [HZ.out]
        exact ⟨rfl, by (repeat (first | exact Below.refl _ _ | refine up_onto ?_ _))⟩
    · by_cases hle : 3 ≤ s.size
      · have e0 : utB (bl s) 0 = ((s[0].toNat : Nat) : Int) := bl_get s 0 (by omega)
        have e1 : utB (bl s) 1 = ((s[1].toNat : Nat) : Int) := bl_get s 1 (by omega)
        have e2 : utB (bl s) 2 = ((s[2].toNat : Nat) : Int) := bl_get s 2 (by omega)
        generalize hx0 : ((s[0].toNat : Nat) : Int) = x0 at *
        generalize hx1 : ((s[1].toNat : Nat) : Int) = x1 at *
        generalize hx2 : ((s[2].toNat : Nat) : Int) = x2 at *
        have l0 : 0 ≤ x0 := by omega
        have u0 : x0 ≤ 255 := by rw [← hx0]; exact byte_hi _
        have l1 : 0 ≤ x1 := by omega
        have u1 : x1 ≤ 255 := by rw [← hx1]; exact byte_hi _
        have l2 : 0 ≤ x2 := by omega
        have u2 : x2 ≤ 255 := by rw [← hx2]; exact byte_hi _
        have HX0 := Lib.hid e0
        have HX1 := Lib.hid e1
        have HX2 := Lib.hid e2
        clear e0 e1 e2
        have ht : (bl s).take 3 = [x0, x1, x2] := by rw [take_3 _ (by rw [bl_length]; exact hle), HX0.out, HX1.out, HX2.out]
        have hht : utHit (bl s) 3 = decide (utS3 x0 x1 x2) := by unfold utHit; rw [bl_length, decide_eq_true hle, HX0.out, HX1.out, HX2.out]; rfl
        have HT := Lib.hid ht
        have HHT := Lib.hid hht
        clear ht hht
        have hle' : (3 : Int) ≤ s.size := by omega
        go_wp2_with fail
        refine wp_region_onto (by kernel_rfl) (by kernel_rfl) ?_
        repeat (go_big_quiet_step (fail))
        refine wpQuiet_nil ?_
        intro _ hw'
        obtain ⟨y1, hw''⟩ := hw'
        subst hw''
        go_wp2_with fail
        generalize hc : (x0 - 224) * 4096 + (x1 - 128) * 64 + x2 - 128 = c at *
        have hu := utHit_step s 3 c (utS3 x0 x1 x2) hle _ HT.out HHT.out (put_3 x0 x1 x2 c ⟨l0, u0⟩ ⟨l1, u1⟩ ⟨l2, u2⟩ hc)
        have HC := Lib.hid hc
        clear hc
        have HU := Lib.hid hu
        clear hu
        by_cases hc1 : c < 0
        · have b0 : decide (0 ≤ c) = false := decide_eq_false (by omega)
          have hh := HU.out.2 (by unfold utV; omega)
          have HH := Lib.hid hh
          clear hh HU HC
          refine wp_region_onto (by kernel_rfl) (by kernel_rfl) ?_
          repeat (go_big_quiet_step (fail))
          refine wpQuiet_nil ?_
          intro _ hw'
          obtain ⟨y2, hw''⟩ := hw'
          subst hw''
          go_wp2_with fail
          go_roundw
          case rel => exact ⟨4, by omega, by omega, by omega, rfl, Lib.hid (hit_succ _ 3 4 rfl HN.out HH.out), by first | exact onto_ex _ _ _ | exact ⟨_, rfl⟩⟩
          case measure => simp [intOf]
        by_cases hc2 : 1114111 < c
        · have b0 : decide (0 ≤ c) = true := decide_eq_true (by omega)
          have b1 : decide (c ≤ 1114111) = false := decide_eq_false (by omega)
          have hh := HU.out.2 (by unfold utV; omega)
          have HH := Lib.hid hh
          clear hh HU HC
          refine wp_region_onto (by kernel_rfl) (by kernel_rfl) ?_
          repeat (go_big_quiet_step (fail))
          refine wpQuiet_nil ?_
          intro _ hw'
          obtain ⟨y2, hw''⟩ := hw'
          subst hw''
          go_wp2_with fail
          go_roundw
          case rel => exact ⟨4, by omega, by omega, by omega, rfl, Lib.hid (hit_succ _ 3 4 rfl HN.out HH.out), by first | exact onto_ex _ _ _ | exact ⟨_, rfl⟩⟩
          case measure => simp [intOf]
        by_cases hc3 : c < 55296
        · have b0 : decide (0 ≤ c) = true := decide_eq_true (by omega)
          have b1 : decide (c ≤ 1114111) = true := decide_eq_true (by omega)
          have b2 : decide (c < 55296) = true := decide_eq_true (by omega)
          have hp := HU.out.1 (by unfold utV; omega)
          have p0 : 0 ≤ c := by omega
          have p1 : c ≤ 1114111 := by omega
          have HP := Lib.hid hp
          clear hp
          cases hh : utHit (bl s) 3
          · have hq := HP.out
            rw [hh] at hq
            have HH := Lib.hid hh
            clear hh HP HU HC
            refine wp_region_onto (by kernel_rfl) (by kernel_rfl) ?_
            repeat (go_big_quiet_step ((go_at_call 50; exact calls_onto (rput02_any _ (by assumption) (by assumption) _))))
            refine wpQuiet_nil ?_
            intro _ hw'
            obtain ⟨y2, hw''⟩ := hw'
            subst hw''
            go_wp2_with fail
            go_roundw
            case rel => exact ⟨4, by omega, by omega, by omega, rfl, Lib.hid (hit_succ _ 3 4 rfl HN.out HH.out), by first | exact onto_ex _ _ _ | exact ⟨_, rfl⟩⟩
            case measure => simp [intOf]
          · have hq := HP.out
            rw [hh] at hq
            have HH := Lib.hid hh
            clear hh HP HU HC
            refine wp_region_onto (by kernel_rfl) (by kernel_rfl) ?_
            repeat (go_big_quiet_step ((go_at_call 50; exact calls_onto (rput02_any _ (by assumption) (by assumption) _))))
            refine wpQuiet_nil ?_
            intro _ hw'
            obtain ⟨y2, hw''⟩ := hw'
            subst hw''
            go_wp2_with fail
            go_ret
            rw [utSize_is _ 3 (by omega) (by omega) HN.out HH.out]
            exact ⟨rfl, by (repeat (first | exact Below.refl _ _ | refine up_onto ?_ _))⟩
        by_cases hc4 : 57343 < c
        · have b0 : decide (0 ≤ c) = true := decide_eq_true (by omega)
          have b1 : decide (c ≤ 1114111) = true := decide_eq_true (by omega)
          have b2 : decide (c < 55296) = false := decide_eq_false (by omega)
          have b3 : decide (57343 < c) = true := decide_eq_true (by omega)
          have hp := HU.out.1 (by unfold utV; omega)
          have p0 : 0 ≤ c := by omega
          have p1 : c ≤ 1114111 := by omega
          have HP := Lib.hid hp
          clear hp
          cases hh : utHit (bl s) 3
          · have hq := HP.out
            rw [hh] at hq
            have HH := Lib.hid hh
            clear hh HP HU HC
            refine wp_region_onto (by kernel_rfl) (by kernel_rfl) ?_
            repeat (go_big_quiet_step ((go_at_call 50; exact calls_onto (rput02_any _ (by assumption) (by assumption) _))))
            refine wpQuiet_nil ?_
            intro _ hw'
            obtain ⟨y2, hw''⟩ := hw'
            subst hw''
            go_wp2_with fail
            go_roundw
            case rel => exact ⟨4, by omega, by omega, by omega, rfl, Lib.hid (hit_succ _ 3 4 rfl HN.out HH.out), by first | exact onto_ex _ _ _ | exact ⟨_, rfl⟩⟩
            case measure => simp [intOf]
          · have hq := HP.out
            rw [hh] at hq
            have HH := Lib.hid hh
            clear hh HP HU HC
            refine wp_region_onto (by kernel_rfl) (by kernel_rfl) ?_
            repeat (go_big_quiet_step ((go_at_call 50; exact calls_onto (rput02_any _ (by assumption) (by assumption) _))))
            refine wpQuiet_nil ?_
            intro _ hw'
            obtain ⟨y2, hw''⟩ := hw'
            subst hw''
            go_wp2_with fail
            go_ret
            rw [utSize_is _ 3 (by omega) (by omega) HN.out HH.out]
            exact ⟨rfl, by (repeat (first | exact Below.refl _ _ | refine up_onto ?_ _))⟩
        · have b0 : decide (0 ≤ c) = true := decide_eq_true (by omega)
          have b1 : decide (c ≤ 1114111) = true := decide_eq_true (by omega)
          have b2 : decide (c < 55296) = false := decide_eq_false (by omega)
          have b3 : decide (57343 < c) = false := decide_eq_false (by omega)
          have hh := HU.out.2 (by unfold utV; omega)
          have HH := Lib.hid hh
          clear hh HU HC
          refine wp_region_onto (by kernel_rfl) (by kernel_rfl) ?_
          repeat (go_big_quiet_step (fail))
          refine wpQuiet_nil ?_
          intro _ hw'
          obtain ⟨y2, hw''⟩ := hw'
          subst hw''
          go_wp2_with fail
          go_roundw
          case rel => exact ⟨4, by omega, by omega, by omega, rfl, Lib.hid (hit_succ _ 3 4 rfl HN.out HH.out), by first | exact onto_ex _ _ _ | exact ⟨_, rfl⟩⟩
          case measure => simp [intOf]
      · have hz : utSize (bl s) = 0 := utSize_none _ 3 (.inr (by rw [bl_length]; omega)) HN.out
        have HZ := Lib.hid hz
        clear hz
        go_wp2_with fail
        go_ret
        rw [HZ.out]
        exact ⟨rfl, by (repeat (first | exact Below.refl _ _ | refine up_onto ?_ _))⟩
    · by_cases hle : 4 ≤ s.size
      · have e0 : utB (bl s) 0 = ((s[0].toNat : Nat) : Int) := bl_get s 0 (by omega)
        have e1 : utB (bl s) 1 = ((s[1].toNat : Nat) : Int) := bl_get s 1 (by omega)
        have e2 : utB (bl s) 2 = ((s[2].toNat : Nat) : Int) := bl_get s 2 (by omega)
        have e3 : utB (bl s) 3 = ((s[3].toNat : Nat) : Int) := bl_get s 3 (by omega)
        generalize hx0 : ((s[0].toNat : Nat) : Int) = x0 at *
        generalize hx1 : ((s[1].toNat : Nat) : Int) = x1 at *
        generalize hx2 : ((s[2].toNat : Nat) : Int) = x2 at *
        generalize hx3 : ((s[3].toNat : Nat) : Int) = x3 at *
        have l0 : 0 ≤ x0 := by omega
        have u0 : x0 ≤ 255 := by rw [← hx0]; exact byte_hi _
        have l1 : 0 ≤ x1 := by omega
        have u1 : x1 ≤ 255 := by rw [← hx1]; exact byte_hi _
        have l2 : 0 ≤ x2 := by omega
        have u2 : x2 ≤ 255 := by rw [← hx2]; exact byte_hi _
        have l3 : 0 ≤ x3 := by omega
        have u3 : x3 ≤ 255 := by rw [← hx3]; exact byte_hi _
        have HX0 := Lib.hid e0
        have HX1 := Lib.hid e1
        have HX2 := Lib.hid e2
        have HX3 := Lib.hid e3
        clear e0 e1 e2 e3
        have ht : (bl s).take 4 = [x0, x1, x2, x3] := by rw [take_4 _ (by rw [bl_length]; exact hle), HX0.out, HX1.out, HX2.out, HX3.out]
        have hht : utHit (bl s) 4 = decide (utS4 x0 x1 x2 x3) := by unfold utHit; rw [bl_length, decide_eq_true hle, HX0.out, HX1.out, HX2.out, HX3.out]; rfl
        have HT := Lib.hid ht
        have HHT := Lib.hid hht
        clear ht hht
        have hle' : (4 : Int) ≤ s.size := by omega
        go_wp2_with fail
        refine wp_region_onto (by kernel_rfl) (by kernel_rfl) ?_
        repeat (go_big_quiet_step (fail))
        refine wpQuiet_nil ?_
        intro _ hw'
        obtain ⟨y1, hw''⟩ := hw'
        subst hw''
        go_wp2_with fail
        generalize hc : (x0 - 240) * 262144 + (x1 - 128) * 4096 + (x2 - 128) * 64 + x3 - 128 = c at *
        have hu := utHit_step s 4 c (utS4 x0 x1 x2 x3) hle _ HT.out HHT.out (put_4 x0 x1 x2 x3 c ⟨l0, u0⟩ ⟨l1, u1⟩ ⟨l2, u2⟩ ⟨l3, u3⟩ hc)
        have HC := Lib.hid hc
        clear hc
        have HU := Lib.hid hu
        clear hu
        by_cases hc1 : c < 0
        · have b0 : decide (0 ≤ c) = false := decide_eq_false (by omega)
          have hh := HU.out.2 (by unfold utV; omega)
          have HH := Lib.hid hh
          clear hh HU HC
          refine wp_region_onto (by kernel_rfl) (by kernel_rfl) ?_
          repeat (go_big_quiet_step (fail))
          refine wpQuiet_nil ?_
          intro _ hw'
          obtain ⟨y2, hw''⟩ := hw'
          subst hw''
          go_wp2_with fail
          go_roundw
          case rel => exact ⟨5, by omega, by omega, by omega, rfl, Lib.hid (hit_succ _ 4 5 rfl HN.out HH.out), by first | exact onto_ex _ _ _ | exact ⟨_, rfl⟩⟩
          case measure => simp [intOf]
        by_cases hc2 : 1114111 < c
        · have b0 : decide (0 ≤ c) = true := decide_eq_true (by omega)
          have b1 : decide (c ≤ 1114111) = false := decide_eq_false (by omega)
          have hh := HU.out.2 (by unfold utV; omega)
          have HH := Lib.hid hh
          clear hh HU HC
          refine wp_region_onto (by kernel_rfl) (by kernel_rfl) ?_
          repeat (go_big_quiet_step (fail))
          refine wpQuiet_nil ?_
          intro _ hw'
          obtain ⟨y2, hw''⟩ := hw'
          subst hw''
          go_wp2_with fail
          go_roundw
          case rel => exact ⟨5, by omega, by omega, by omega, rfl, Lib.hid (hit_succ _ 4 5 rfl HN.out HH.out), by first | exact onto_ex _ _ _ | exact ⟨_, rfl⟩⟩
          case measure => simp [intOf]
        by_cases hc3 : c < 55296
        · have b0 : decide (0 ≤ c) = true := decide_eq_true (by omega)
          have b1 : decide (c ≤ 1114111) = true := decide_eq_true (by omega)
          have b2 : decide (c < 55296) = true := decide_eq_true (by omega)
          have hp := HU.out.1 (by unfold utV; omega)
          have p0 : 0 ≤ c := by omega
          have p1 : c ≤ 1114111 := by omega
          have HP := Lib.hid hp
          clear hp
          cases hh : utHit (bl s) 4
          · have hq := HP.out
            rw [hh] at hq
            have HH := Lib.hid hh
            clear hh HP HU HC
            refine wp_region_onto (by kernel_rfl) (by kernel_rfl) ?_
            repeat (go_big_quiet_step ((go_at_call 50; exact calls_onto (rput02_any _ (by assumption) (by assumption) _))))
            refine wpQuiet_nil ?_
            intro _ hw'
            obtain ⟨y2, hw''⟩ := hw'
            subst hw''
            go_wp2_with fail
            go_roundw
            case rel => exact ⟨5, by omega, by omega, by omega, rfl, Lib.hid (hit_succ _ 4 5 rfl HN.out HH.out), by first | exact onto_ex _ _ _ | exact ⟨_, rfl⟩⟩
            case measure => simp [intOf]
          · have hq := HP.out
            rw [hh] at hq
            have HH := Lib.hid hh
            clear hh HP HU HC
            refine wp_region_onto (by kernel_rfl) (by kernel_rfl) ?_
            repeat (go_big_quiet_step ((go_at_call 50; exact calls_onto (rput02_any _ (by assumption) (by assumption) _))))
            refine wpQuiet_nil ?_
            intro _ hw'
            obtain ⟨y2, hw''⟩ := hw'
            subst hw''
            go_wp2_with fail
            go_ret
            rw [utSize_is _ 4 (by omega) (by omega) HN.out HH.out]
            exact ⟨rfl, by (repeat (first | exact Below.refl _ _ | refine up_onto ?_ _))⟩
        by_cases hc4 : 57343 < c
        · have b0 : decide (0 ≤ c) = true := decide_eq_true (by omega)
          have b1 : decide (c ≤ 1114111) = true := decide_eq_true (by omega)
          have b2 : decide (c < 55296) = false := decide_eq_false (by omega)
          have b3 : decide (57343 < c) = true := decide_eq_true (by omega)
          have hp := HU.out.1 (by unfold utV; omega)
          have p0 : 0 ≤ c := by omega
          have p1 : c ≤ 1114111 := by omega
          have HP := Lib.hid hp
          clear hp
          cases hh : utHit (bl s) 4
          · have hq := HP.out
            rw [hh] at hq
            have HH := Lib.hid hh
            clear hh HP HU HC
            refine wp_region_onto (by kernel_rfl) (by kernel_rfl) ?_
            repeat (go_big_quiet_step ((go_at_call 50; exact calls_onto (rput02_any _ (by assumption) (by assumption) _))))
            refine wpQuiet_nil ?_
            intro _ hw'
            obtain ⟨y2, hw''⟩ := hw'
            subst hw''
            go_wp2_with fail
            go_roundw
            case rel => exact ⟨5, by omega, by omega, by omega, rfl, Lib.hid (hit_succ _ 4 5 rfl HN.out HH.out), by first | exact onto_ex _ _ _ | exact ⟨_, rfl⟩⟩
            case measure => simp [intOf]
          · have hq := HP.out
            rw [hh] at hq
            have HH := Lib.hid hh
            clear hh HP HU HC
            refine wp_region_onto (by kernel_rfl) (by kernel_rfl) ?_
            repeat (go_big_quiet_step ((go_at_call 50; exact calls_onto (rput02_any _ (by assumption) (by assumption) _))))
            refine wpQuiet_nil ?_
            intro _ hw'
            obtain ⟨y2, hw''⟩ := hw'
            subst hw''
            go_wp2_with fail
            go_ret
            rw [utSize_is _ 4 (by omega) (by omega) HN.out HH.out]
            exact ⟨rfl, by (repeat (first | exact Below.refl _ _ | refine up_onto ?_ _))⟩
        · have b0 : decide (0 ≤ c) = true := decide_eq_true (by omega)
          have b1 : decide (c ≤ 1114111) = true := decide_eq_true (by omega)
          have b2 : decide (c < 55296) = false := decide_eq_false (by omega)
          have b3 : decide (57343 < c) = false := decide_eq_false (by omega)
          have hh := HU.out.2 (by unfold utV; omega)
          have HH := Lib.hid hh
          clear hh HU HC
          refine wp_region_onto (by kernel_rfl) (by kernel_rfl) ?_
          repeat (go_big_quiet_step (fail))
          refine wpQuiet_nil ?_
          intro _ hw'
          obtain ⟨y2, hw''⟩ := hw'
          subst hw''
          go_wp2_with fail
          go_roundw
          case rel => exact ⟨5, by omega, by omega, by omega, rfl, Lib.hid (hit_succ _ 4 5 rfl HN.out HH.out), by first | exact onto_ex _ _ _ | exact ⟨_, rfl⟩⟩
          case measure => simp [intOf]
      · have hz : utSize (bl s) = 0 := utSize_none _ 4 (.inr (by rw [bl_length]; omega)) HN.out
        have HZ := Lib.hid hz
        clear hz
        go_wp2_with fail
        go_ret
        rw [HZ.out]
        exact ⟨rfl, by (repeat (first | exact Below.refl _ _ | refine up_onto ?_ _))⟩
    · have hz : utSize (bl s) = 0 := utSize_none _ 5 (.inl rfl) HN.out
      have HZ := Lib.hid hz
      clear hz
      go_wp2_with fail
      go_ret
      rw [HZ.out]
      exact ⟨rfl, by (repeat (first | exact Below.refl _ _ | refine up_onto ?_ _))⟩
end Go.Proofs.YtaoncnlhilpgfaaDoor

namespace Go.Proofs.YtaoncnlhilpgfaaDoor
open Go.ChangeShapes Go.WideShapes Go.ChangeAt Go.RowKit
set_option linter.unusedVariables false

end Go.Proofs.YtaoncnlhilpgfaaDoor

namespace Go.Proofs.YtaoncnlhilpgfaaDoor
open Go.ChangeShapes Go.WideShapes Go.ChangeAt Go.RowKit
set_option linter.unusedVariables false

/-! ### Begin -/
end Go.Proofs.YtaoncnlhilpgfaaDoor

namespace Go.Proofs.YtaoncnlhilpgfaaDoor
open Go.ChangeShapes Go.WideShapes Go.ChangeAt Go.RowKit
set_option linter.unusedVariables false

set_option maxHeartbeats 1600000 in
theorem refWhole_any (s : ByteArray) (hs : s.size ≤ maxLen) (w : World) : Calls Tryd.prog 31 #[.string s] w fun e w' => e = .returned (.int .i64 (utWhole (bl s))) ∧ Below w.heap.size w w' := by
  have hs' : s.size ≤ 9223372036854775807 := hs
  have hl := bl_length s
  have HL := Lib.hid hl
  clear hl
  go_enter Tryd.func31, Tryd.ntmps31
  go_wp2_with fail
  go_loopw [3] (fun a wr => ∃ k : Nat, k ≤ s.size ∧ a = .int .i64 k ∧ Hid (utWhole (bl s) = k + utWhole ((bl s).drop k)) ∧ ∃ y, wr = onto w y) (fun a _ => s.size - (intOf a).toNat)
  case atStart => exact ⟨0, by omega, rfl, Lib.hid (by simp), onto_self w⟩
  case round =>
    obtain ⟨k, hk, rfl, HK, y, rfl⟩ := hrel
    by_cases hlt : k < s.size
    · have hd := bl_from s k
      have hle := utSize_le ((bl s).drop k)
      rw [List.length_drop, HL.out] at hle
      have hsz : (s.extract k s.size).size ≤ maxLen := by
        rw [ByteArray.size_extract]; unfold maxLen; omega
      obtain ⟨n, hn⟩ : ∃ n, utSize ((bl s).drop k) = n := ⟨_, rfl⟩
      rw [hn] at hle
      obtain ⟨hle1, hle2⟩ := hle
      have hv : utSize (bl (s.extract k s.size)) = n := by rw [hd, hn]
      have HN := Lib.hid hn
      have HV := Lib.hid hv
      clear hd hn hv
      by_cases hz : n = 0
      · have hw : utWhole (bl s) = k := by rw [HK.out, utWhole_0 (by rw [HN.out, hz])]; rfl
        have HW := Lib.hid hw
        subst hz
        clear hw HK HN
        go_wp2_with ((go_at_call 40; ((with_reducible refine (above (size_any _ hsz _)).mono ?_); rw [HV.out]; rintro e _ ⟨rfl, v, rfl⟩)))
        go_ret
        rw [HW.out]
        exact ⟨rfl, (by (repeat (first | exact Below.refl _ _ | refine up_alloc ?_ _ | refine up_onto ?_ _)))⟩
      · have hw : utWhole (bl s) = (k + n : Nat) + utWhole ((bl s).drop (k + n)) := by
          rw [HK.out, utWhole_pos (by rw [HN.out]; exact hz), HN.out, List.drop_drop]; omega
        have HW := Lib.hid hw
        have hz' : 0 < n := by omega
        have hz2 : decide (0 < n) = true := decide_eq_true hz'
        have hz3 : decide ((0 : Int) < (n : Int)) = true := decide_eq_true (by omega)
        clear hw HK HN hz
        go_wp2_with ((go_at_call 40; ((with_reducible refine (above (size_any _ hsz _)).mono ?_); rw [HV.out]; rintro e _ ⟨rfl, v, rfl⟩)))
        go_roundw
        case rel => exact ⟨k + n, by omega, by go_num, HW, onto_of (by (repeat (first | exact Below.refl _ _ | refine up_alloc ?_ _ | refine up_onto ?_ _)))⟩
        case measure => simp [intOf]; omega
    · have hw : utWhole (bl s) = k := by
        rw [HK.out, bl_end s k (by omega), utWhole_0 utSize_nil]; rfl
      have HW := Lib.hid hw
      clear hw HK
      go_wp2_with fail
      go_ret
      rw [HW.out]
      exact ⟨rfl, (by (repeat (first | exact Below.refl _ _ | refine up_alloc ?_ _ | refine up_onto ?_ _)))⟩

theorem refWhole_is (s : ByteArray) (hs : s.size ≤ maxLen) (n : Nat) (hn : Hid (utWhole (bl s) = n)) (w : World) : Calls Tryd.prog 31 #[.string s] w fun e w' => e = .returned (.int .i64 n) ∧ Below w.heap.size w w' := by
  rw [← hn.out]; exact refWhole_any s hs w
end Go.Proofs.YtaoncnlhilpgfaaDoor

/- Layer 7: what Ways answers is an iterator over the ways (ways_seq). -/
import Derived.Test.YtjpemelnnemmiaaCwa
import Derived.Test.YtjpemelnnemmiaaKit12
import Derived.LoopNIn
import Derived.LoopIn
namespace Go.Proofs.Ytjpemelnnemmiaa
open Go.ChangeShapes Go.WideShapes Go.ChangeAt Go.RowKit
set_option linter.unusedVariables false
set_option linter.unusedSimpArgs false
attribute [local go_sem] Oper.semAt_some

/-- A way that is handed on. -/
structure Vx where
  A : Option Addr
  c : Nat
  l : List Nat
def Vx.args (x : Vx) : Array Value := #[.slice x.A x.l.length x.c]
def Vx.gh (x : Vx) : List Nat := x.l
def Vx.hand (x : Vx) (W : World) : Prop := SlOwn W 0 3 x.A x.l.length x.c (ints x.l)
def Vx.blk (x : Vx) (j : Nat) : Prop := blkOf x.A = some j
theorem vhand_keep : ∀ (x : Vx) (W W' : World) (S : Nat → Prop), x.hand W → Touch W W' S → (∀ k, S k → ¬ x.blk k) → (∀ k, x.blk k → k < W.heap.size) → x.hand W' := fun x W W' S h ht hS _ => SlOwn.touch h ht (fun k hk hs => hS k hs hk)
/-- What the rounds promise. -/
def VRounds (n : Nat) (l B : Nat) (J Jx : List (List Nat) → World → (Nat → Prop) → Prop) (E : List (List Nat)) : Prop :=
  ∀ pre x W1 T, J pre W1 T → Lies W1 T → pre ++ [Vx.gh x] <+: E → x.hand W1 → (∀ k, x.blk k → ¬ T k ∧ B ≤ k ∧ k < W1.heap.size) → B ≤ W1.heap.size →
    YieldAt Fence.wide n Try.prog l x.args W1 fun e W2 => (e = .returned (.bool true) ∧ LeftW W1 T x.blk J (pre ++ [x.gh]) W2) ∨ (e = .returned (.bool false) ∧ LeftW W1 T x.blk Jx (pre ++ [x.gh]) W2)
/-- All ways. -/
def waysL (n : Int) : List (List Nat) := (List.range (waysC n)).map (wayN n.toNat)
theorem waysL_take (n : Int) {k : Nat} (h : k < waysC n) : (waysL n).take (k + 1) = (waysL n).take k ++ [wayN n.toNat k] := by
  unfold waysL
  rw [List.take_add_one]
  simp [h]
theorem waysL_all (n : Int) : (waysL n).take (waysC n) = waysL n := List.take_of_length_le (by simp [waysL])
theorem waysC_le (n : Int) : waysC n ≤ 32768 := by
  unfold waysC waysN
  split
  · omega
  · split
    · omega
    · split
      · omega
      · exact two_pow_le (by omega)
theorem waysE_cases (n : Int) : (waysE n ≠ 0 ∧ waysC n = 0) ∨ (waysE n = 0 ∧ 0 ≤ n ∧ n ≤ 16) := by
  unfold waysE waysC
  by_cases h0 : n < 0
  · exact .inl (by simp [h0])
  · by_cases h1 : 16 < n
    · exact .inl (by simp [h0, h1])
    · exact .inr (by simp [h0, h1]; omega)

theorem waysL_at {nn : Int} {pre : List (List Nat)} {x : List Nat} (h : pre ++ [x] <+: waysL nn) : pre.length < waysC nn ∧ x = wayN nn.toNat pre.length := by
  obtain ⟨t, ht⟩ := h
  have hl : pre.length < waysC nn := by have := congrArg List.length ht; simp [waysL] at this; omega
  refine ⟨hl, ?_⟩
  have h1 : (waysL nn)[pre.length]? = some x := by rw [← ht]; simp
  unfold waysL at h1
  simp [hl] at h1
  exact h1.symm

section
variable {n l b0 : Nat} {nn : Int} {J Jx : List (List Nat) → World → (Nat → Prop) → Prop} {W : World} {T : Nat → Prop}
/-- Where the loop is. -/
structure VAt (B b0 : Nat) (nn : Int) (J : List (List Nat) → World → (Nat → Prop) → Prop) (k : Nat) (T : Nat → Prop) (W : World) : Prop where
  j : J ((waysL nn).take k) W T
  lies : Lies W T
  box : StB W b0 3 #[.int .i64 nn]
  nbox : ¬ T b0 ∧ b0 < B
  base : B ≤ W.heap.size
set_option maxRecDepth 100000 in
set_option maxHeartbeats 1600000 in
theorem ways1_in (hn : 1 ≤ n) (hwf : (Lit.int .i64 nn).wf = true) (hJ : AbT W.heap.size J) (hJx : AbT W.heap.size Jx) (hY : Hid (VRounds (n - 1) l W.heap.size J Jx (waysL nn)))
    (h0 : Hid (StB W b0 3 #[.int .i64 nn])) (hj : Hid (J [] W T)) (hT : Hid (Lies W T)) (hb : ¬ T b0) :
    CallsIn Fence.wide n Try.prog 27 #[.func (.yield l) #[] #[], .pointer (some ⟨b0, 0, none⟩)] W fun x w' => (∃ v, x = .returned v) ∧ ∃ T2, Lies w' T2 ∧ (J (waysL nn) w' T2 ∨ ∃ pre, pre <+: waysL nn ∧ Jx pre w' T2) := by
  have m0 : W.cell? ⟨b0, 0, none⟩ = some (.int .i64 nn) := h0.out.cell 0
  have ml := h0.out.lt
  obtain ⟨M, hM⟩ : ∃ M, waysC nn = M := ⟨_, rfl⟩
  obtain ⟨E, hE⟩ : ∃ E, waysE nn = E := ⟨_, rfl⟩
  have HM := Lib.hid hM
  have HE := Lib.hid hE
  have hM32 : M ≤ 32768 := by rw [← hM]; exact waysC_le nn
  have HC := Lib.hid (waysE_cases nn)
  have HCT := Lib.hid (count_any nn hwf W)
  rw [hM, hE] at HCT
  clear hM hE
  refine callsIn_of_wp Try.func27 rfl trivial ?_ rfl
  simp only [Try.ntmps27, List.size_toArray, List.length_cons, List.length_nil, Nat.reduceAdd, Nat.reduceSub, Array.replicate_succ, Array.replicate_zero, List.push_toArray, List.append_toArray, List.nil_append, List.cons_append]
  gi_wp2
  refine ⟨trivial, callsIn_wide.2 (HCT.out.mono ?_)⟩
  rintro x _ ⟨rfl, rfl⟩
  by_cases hE0 : E = 0
  · have hEb : (E != 0) = false := by simp [hE0]
    rw [hE0] at HE
    obtain ⟨N, rfl⟩ : ∃ N : Nat, nn = N := ⟨nn.toNat, by rcases HC.out with h | h; exact absurd HE.out h.1; omega⟩
    have hN16 : N ≤ 16 := by rcases HC.out with h | h; exact absurd HE.out h.1; omega
    have HAT := Lib.hid (show VAt W.heap.size b0 (N : Int) J 0 T W from ⟨hj.out, hT.out, h0.out, ⟨hb, ml⟩, Nat.le_refl _⟩)
    clear m0 hE0
    gi_wp2
    gi_loopw [14] (fun i wr => ∃ (k : Nat) (T : Nat → Prop), k ≤ M ∧ i = .int .i64 k ∧ Hid (VAt W.heap.size b0 (N : Int) J k T wr)) (fun i _ => M - (intOf i).toNat)
    case atStart => exact ⟨0, T, Nat.zero_le _, rfl, HAT⟩
    case round =>
      clear HAT hj hT h0 HCT
      obtain ⟨k, T, hk, rfl, HA⟩ := hrel
      obtain ⟨W2, hW2⟩ : ∃ W2, W2 = wr := ⟨_, rfl⟩
      subst hW2
      by_cases hlt : k < M
      · have z0 : W2.cell? ⟨b0, 0, none⟩ = some (.int .i64 (N : Int)) := HA.out.box.cell 0
        have hbl := HA.out.box.lt
        gi_wp2
        refine ⟨trivial, callsIn_wide.2 ((way_any N k hN16 (by omega) W2).mono ?_)⟩
        rintro x w1 ⟨A, c, rfl, HO, HB⟩
        have hsz := HB.out.size
        have hba := HA.out.base
        have hj1 : J ((waysL N).take k) w1 T := hJ _ _ _ _ (fun _ => False) HA.out.j HA.out.lies (Touch.of_below HB.out _) (fun _ h => h.elim)
        have hl1 : Lies w1 T := HA.out.lies.later hsz
        have hpre : (waysL N).take k ++ [wayN N k] <+: waysL N := by
          have := waysL_take (N : Int) (k := k) (by rw [HM.out]; exact hlt)
          rw [Int.toNat_natCast] at this
          rw [← this]; exact List.take_prefix _ _
        have hbk : ∀ j, Vx.blk ⟨A, c, wayN N k⟩ j → ¬ T j ∧ W.heap.size ≤ j ∧ j < w1.heap.size := fun j hj => by
          obtain ⟨h1, h2⟩ := HO.out.blk j hj
          exact ⟨fun hT' => by have := HA.out.lies j hT'; omega, by omega, h2⟩
        obtain ⟨fn, tmps, assign, body, hy, hR⟩ := hY.out _ ⟨A, c, wayN N k⟩ w1 T hj1 hl1 hpre (HO.out.mono (Nat.zero_le _)) hbk (by omega)
        dsimp only [Vx.args] at hy
        have fin : ∀ {J' : List (List Nat) → World → (Nat → Prop) → Prop} {W3 : World}, LeftW w1 T (Vx.blk ⟨A, c, wayN N k⟩) J' ((waysL N).take k ++ [wayN N k]) W3 → ∃ T2, Lies W3 T2 ∧ J' ((waysL N).take k ++ [wayN N k]) W3 T2 ∧ ¬ T2 b0 ∧ StB W3 b0 3 #[.int .i64 (N : Int)] ∧ W.heap.size ≤ W3.heap.size := fun {J' W3} hleft => by
          obtain ⟨T2, q1, q2, q3, q4⟩ := hleft
          have hnb : ¬ (T b0 ∨ Vx.blk ⟨A, c, wayN N k⟩ b0) := fun h => by
            rcases h with h | h
            · exact HA.out.nbox.1 h
            · have := (hbk _ h).2.1; have := HA.out.nbox.2; omega
          refine ⟨T2, q1, q4, fun h => ?_, (HA.out.box.below HB.out).touch q3 hnb, by have := q3.size; omega⟩
          rcases q2 _ h with h1 | h1
          · exact hnb h1
          · have := HA.out.nbox.2; omega
        clear z0
        gi_wp2
        refine hR.mono ?_
        rintro x W6 (⟨rfl, hleft⟩ | ⟨rfl, hleft⟩)
        · obtain ⟨T2, q1, q2, q3, q4, q5⟩ := fin hleft
          have HA2 := Lib.hid (show VAt W.heap.size b0 (N : Int) J (k + 1) T2 W6 from ⟨by
            have := waysL_take (N : Int) (k := k) (by rw [HM.out]; exact hlt)
            rw [Int.toNat_natCast] at this
            rw [this]; exact q2, q1, q4, ⟨q3, HA.out.nbox.2⟩, q5⟩)
          gi_wp2
          go_roundw
          case rel => exact ⟨k + 1, T2, by omega, by go_num, HA2⟩
          case measure => simp [intOf]; omega
        · obtain ⟨T2, q1, q2, q3, q4, q5⟩ := fin hleft
          gi_wp2
          refine bodyPost_ret (results_none rfl _ _ _) rfl ?_
          exact ⟨⟨_, rfl⟩, T2, q1, .inr ⟨_, hpre, q2⟩⟩
      · obtain rfl : k = M := by omega
        have hJA : J (waysL N) W2 T := by have h1 := HA.out.j; rw [← HM.out, waysL_all] at h1; exact h1
        clear hlt
        gi_wp2
        go_end0
        exact ⟨⟨_, rfl⟩, T, HA.out.lies, .inl hJA⟩
  · have hEb : (E != 0) = true := by simpa using hE0
    have hM0 : waysL nn = [] := by
      rcases HC.out with h | h
      · unfold waysL; rw [h.2]; rfl
      · exact absurd (HE.out.symm.trans h.1) hE0
    gi_wp2
    refine bodyPost_ret (results_none rfl _ _ _) rfl ?_
    exact ⟨⟨_, rfl⟩, T, hT.out, .inl (by rw [hM0]; exact hj.out)⟩
theorem ways_seq (hn : 1 ≤ n) (hwf : (Lit.int .i64 nn).wf = true) (h0 : StB W b0 3 #[.int .i64 nn]) :
    SeqW Fence.wide n Try.prog 27 #[.pointer (some ⟨b0, 0, none⟩)] Vx.args Vx.gh Vx.hand Vx.blk (waysL nn) (fun k => k = b0) W :=
  fun l J Jx hJ hJx hY T hj hT hK => ways1_in hn hwf hJ hJx (Lib.hid hY) (Lib.hid h0) (Lib.hid hj) (Lib.hid hT) (hK b0 rfl)
end

theorem ways_any (nn : Int) (w : World) : Calls Try.prog 18 #[.int .i64 nn] w fun x w' => x = .returned (.func (.func 27) #[] #[.pointer (some ⟨w.heap.size, 0, none⟩)]) ∧ w' = w.alloc (.cells #[.int .i64 nn] 3) := by
  go_enter Try.func18, Try.ntmps18
  go_wp2_with fail
  go_ret
  exact ⟨rfl, rfl⟩
end Go.Proofs.Ytjpemelnnemmiaa

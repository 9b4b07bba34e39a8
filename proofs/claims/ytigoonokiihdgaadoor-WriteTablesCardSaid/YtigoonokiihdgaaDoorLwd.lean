/- Layer 10: the program's Lines (an iterator) and Size. -/
import Derived.Test.YtigoonokiihdgaaDoorLwc
import Derived.Test.YtigoonokiihdgaaDoorQrj
import Derived.LoopNIn
import Derived.LoopIn
namespace Go.Proofs.YtigoonokiihdgaaDoor
open Go.ChangeShapes Go.WideShapes Go.ChangeAt Go.RowKit
set_option linter.unusedVariables false
set_option linter.unusedSimpArgs false
attribute [local go_sem] Oper.semAt_some

theorem tab_kept {w w' : World} {A : Option Addr} {n : Nat} {V : List Value} {t : List (List ByteArray)} (h : TabIn w A n V t) (hk : ∀ k, k < w.heap.size → w'.heap[k]? = w.heap[k]?) : TabIn w' A n V t := by
  have one : ∀ {A : Option Addr} {n : Nat} {xs : List Value}, SlIn w A n xs → SlIn w' A n xs := fun {A n xs} h => h.keep fun p u hc _ => by
    have h1 := lt_of_cell hc
    unfold World.cell? at hc ⊢
    rw [hk _ h1]; exact hc
  refine ⟨one h.1, h.2.1, fun j x hx => ?_⟩
  obtain ⟨B, a, h1, h2⟩ := h.2.2 j x hx
  exact ⟨B, a, h1, one h2⟩

/-- Up to record k all may be written. -/
def LOk (d q e : Int) (t : List (List ByteArray)) (k : Nat) : Prop := ∀ j x, j < k → t[j]? = some x → lineE d q e x = 0
theorem lok_right {d q e : Int} {t : List (List ByteArray)} {k : Nat} {r : List ByteArray} (hr : t[k]? = some r) (h0 : lineE d q e r = 0) : rightB d q e = true := by
  unfold lineE at h0
  by_cases h : rightB d q e = true
  · exact h
  · rw [if_neg h] at h0; cases h0
theorem lok_stop {d q e : Int} {t : List (List ByteArray)} {k : Nat} {r : List ByteArray} (h : LOk d q e t k) (hr : t[k]? = some r) (h0 : lineE d q e r ≠ 0) : tabN d q e t = k := by
  by_cases hR : rightB d q e = true
  · refine (tab_stop hR (fun j x hj hx => ?_) hr (by unfold lineE at h0; rwa [if_pos hR] at h0)).2.2
    have := h j x hj hx
    unfold lineE at this
    rwa [if_pos hR] at this
  · cases k with
    | zero => unfold tabN; rw [if_neg hR]
    | succ k =>
      have hlt : k + 1 < t.length := (List.getElem?_eq_some_iff.1 hr).1
      obtain ⟨x, hx⟩ : ∃ x, t[k]? = some x := ⟨_, List.getElem?_eq_getElem (by omega)⟩
      exact absurd (lok_right hx (h k x (by omega) hx)) hR
theorem lok_all {d q e : Int} {t : List (List ByteArray)} {k : Nat} (h : LOk d q e t k) (hk : t.length = k) : tabN d q e t = k := by
  by_cases hR : rightB d q e = true
  · refine (tab_all hR (fun j x hj hx => ?_) hk).2.2.1
    have := h j x hj hx
    unfold lineE at this
    rwa [if_pos hR] at this
  · cases k with
    | zero => unfold tabN; rw [if_neg hR]
    | succ k =>
      obtain ⟨x, hx⟩ : ∃ x, t[k]? = some x := ⟨_, List.getElem?_eq_getElem (by omega)⟩
      exact absurd (lok_right hx (h k x (by omega) hx)) hR
theorem lok_more {d q e : Int} {t : List (List ByteArray)} {k : Nat} {r : List ByteArray} (h : LOk d q e t k) (hr : t[k]? = some r) (h0 : lineE d q e r = 0) : LOk d q e t (k + 1) ∧ k < tabN d q e t := by
  have h1 : LOk d q e t (k + 1) := fun j x hj hx => by
    by_cases hjk : j < k
    · exact h j x hjk hx
    · obtain rfl : j = k := by omega
      rw [hr] at hx
      obtain rfl := Option.some.inj hx
      exact h0
  refine ⟨h1, ?_⟩
  have hR := lok_right hr h0
  have hlt : k < t.length := (List.getElem?_eq_some_iff.1 hr).1
  unfold tabN
  rw [if_pos hR]
  rcases Nat.lt_or_ge k (frontN t) with hf | hf
  · exact hf
  · obtain ⟨x, hx⟩ : ∃ x, t[frontN t]? = some x := ⟨_, List.getElem?_eq_getElem (by omega)⟩
    have hb := frontN_bad t x hx
    have := h1 _ x (by omega) hx
    unfold lineE at this
    rw [if_pos hR] at this
    exact absurd this hb
theorem linesE_take {d q e : Int} {t : List (List ByteArray)} {N k : Nat} {r : List ByteArray} (hr : t[k]? = some r) (h : k < N) : (linesE d q e t N).take (k + 1) = (linesE d q e t N).take k ++ [(k, lineO d q e (decide (k = 0)) r)] := by
  unfold linesE
  rw [List.take_add_one]
  congr 1
  rw [List.getElem?_map, List.getElem?_range h]
  simp [hr]
theorem linesE_all (d q e : Int) (t : List (List ByteArray)) (N : Nat) : (linesE d q e t N).take N = linesE d q e t N := List.take_of_length_le (by rw [linesE_len]; exact Nat.le_refl _)

/-- What the rounds promise. -/
def LRounds (n : Nat) (l B : Nat) (J Jx : List (Nat × ByteArray) → World → (Nat → Prop) → Prop) (E : List (Nat × ByteArray)) : Prop :=
  ∀ pre x W1 T, J pre W1 T → Lies W1 T → pre ++ [id x] <+: E → noHand x W1 → (∀ k, noBlk x k → ¬ T k ∧ B ≤ k ∧ k < W1.heap.size) → B ≤ W1.heap.size →
    YieldAt Fence.wide n Tryd.prog l (lnArgs x) W1 fun e W2 => (e = .returned (.bool true) ∧ LeftW W1 T (noBlk x) J (pre ++ [id x]) W2) ∨ (e = .returned (.bool false) ∧ LeftW W1 T (noBlk x) Jx (pre ++ [id x]) W2)

section
variable {m l db tb : Nat} {d q e : Int} {t : List (List ByteArray)} {A : Option Addr} {n c : Nat} {V : List Value} {J Jx : List (Nat × ByteArray) → World → (Nat → Prop) → Prop} {w0 W : World} {T : Nat → Prop} {Kp : Nat → Prop}
/-- Where the loop is. -/
structure LAt (W : World) (Kp : Nat → Prop) (d q e : Int) (t : List (List ByteArray)) (N : Nat) (J : List (Nat × ByteArray) → World → (Nat → Prop) → Prop) (k : Nat) (T : Nat → Prop) (W2 : World) : Prop where
  j : J ((linesE d q e t N).take k) W2 T
  lies : Lies W2 T
  kept : ∀ b, Kp b → W2.heap[b]? = W.heap[b]?
  nbox : ∀ b, Kp b → ¬ T b
  base : W.heap.size ≤ W2.heap.size
  ok : LOk d q e t k
set_option maxRecDepth 100000 in
set_option maxHeartbeats 1600000 in
theorem lines1_in (hm : 1 ≤ m) (d0 : 0 ≤ d) (d1 : d ≤ 255) (q0 : 0 ≤ q) (q1 : q ≤ 255) (hn : n ≤ 1000) (hf : fldN t ≤ 1000) (hb : bytN t ≤ 1000) (ht : Hid (TabIn w0 A n V t)) (hl0 : Hid (∀ k, k < w0.heap.size → W.heap[k]? = w0.heap[k]?)) (hs0 : w0.heap.size ≤ W.heap.size)
    (hKp : Hid (∀ k, (k < w0.heap.size ∨ k = tb ∨ k = db) → Kp k)) (hKl : Hid (∀ k, Kp k → k < W.heap.size)) (hJ : AbT W.heap.size J) (hJx : AbT W.heap.size Jx) (hY : Hid (LRounds (m - 1) l W.heap.size J Jx (linesE d q e t (tabN d q e t))))
    (h0 : Hid (StB W db 23 #[.int .u8 d, .int .u8 q, .int .i64 e])) (h1 : Hid (StB W tb 26 #[.slice A n c])) (hj : Hid (J [] W T)) (hT : Hid (Lies W T)) (hK : Hid (∀ k, Kp k → ¬ T k)) :
    CallsIn Fence.wide m Tryd.prog 32 #[.func (.yield l) #[] #[], .pointer (some ⟨tb, 0, none⟩), .pointer (some ⟨db, 0, none⟩)] W fun x w' => (∃ v, x = .returned v) ∧ ∃ T2, Lies w' T2 ∧ (J (linesE d q e t (tabN d q e t)) w' T2 ∨ ∃ pre, pre <+: linesE d q e t (tabN d q e t) ∧ Jx pre w' T2) := by
  have HLN := Lib.hid ht.out.len
  have HF := Lib.hid (And.intro hf hb)
  obtain ⟨N, hN⟩ : ∃ N, tabN d q e t = N := ⟨_, rfl⟩
  have HN := Lib.hid hN
  rw [hN] at hY ⊢
  have m0 : W.cell? ⟨tb, 0, none⟩ = some (.slice A n c) := h1.out.cell 0
  have ml := h1.out.lt
  have HAT := Lib.hid (show LAt W Kp d q e t N J 0 T W from ⟨hj.out, hT.out, fun _ _ => rfl, hK.out, Nat.le_refl _, fun j x hj => by omega⟩)
  clear hN hf hb
  refine callsIn_of_wp Tryd.func32 rfl trivial ?_ rfl
  simp only [Tryd.ntmps32, List.size_toArray, List.length_cons, List.length_nil, Nat.reduceAdd, Nat.reduceSub, Array.replicate_succ, Array.replicate_zero, List.push_toArray, List.append_toArray, List.nil_append, List.cons_append]
  gi_wp2
  gi_loopw [10] (fun i wr => ∃ (k : Nat) (T : Nat → Prop), k ≤ n ∧ i = .int .i64 k ∧ Hid (LAt W Kp d q e t N J k T wr)) (fun i _ => n - (intOf i).toNat)
  case atStart => exact ⟨0, T, Nat.zero_le _, rfl, HAT⟩
  case round =>
    clear HAT hj hT m0 ml hK
    obtain ⟨k, T, hk, rfl, HA⟩ := hrel
    obtain ⟨W2, hW2⟩ : ∃ W2, W2 = wr := ⟨_, rfl⟩
    subst hW2
    by_cases hlt : k < n
    · obtain ⟨r, hr'⟩ : ∃ r, t[k]? = some r := ⟨_, List.getElem?_eq_getElem (by rw [HLN.out]; exact hlt)⟩
      have HT2 := Lib.hid (show TabIn W2 A n V t from tab_kept ht.out fun b hb => (HA.out.kept b (hKp.out b (.inl hb))).trans (hl0.out b hb))
      have HD2 := Lib.hid (show StB W2 db 23 #[.int .u8 d, .int .u8 q, .int .i64 e] from (HA.out.kept db (hKp.out db (.inr (.inr rfl)))).trans h0.out)
      obtain ⟨a, D, cc, rfl, hca, hD⟩ := HT2.out.row hr'
      have hrl : r.length ≤ 1000 := by have := fldN_mem (List.mem_of_getElem? hr'); have := HF.out; omega
      have hrs : lenL r ≤ 1000 := by have := bytN_mem (List.mem_of_getElem? hr'); have := HF.out; omega
      have HDD := Lib.hid hD
      obtain ⟨m', hm'⟩ : ∃ m', r.length = m' := ⟨_, rfl⟩
      rw [hm'] at hca HDD hrl
      obtain ⟨kz, hkz⟩ : ∃ kz, ((k : Int) == 0) = kz := ⟨_, rfl⟩
      have hkd : decide (k = 0) = kz := by rw [← hkz, Bool.eq_iff_iff]; simp
      have HLI := Lib.hid (line_says d q e r D m' cc kz W2 d0 d1 q0 q1 hrl hrs HDD)
      obtain ⟨M, hM⟩ : ∃ M, lineE d q e r = M := ⟨_, rfl⟩
      obtain ⟨S, hS⟩ : ∃ S, lineS d q e kz r = S := ⟨_, rfl⟩
      rw [hM, hS] at HLI
      have HR := Lib.hid hr'
      have HM := Lib.hid hM
      have z0 : W2.cell? ⟨db, 0, none⟩ = some (.int .u8 d) := HD2.out.cell 0
      have z1 : W2.cell? ⟨db, 1, none⟩ = some (.int .u8 q) := HD2.out.cell 1
      have z2 : W2.cell? ⟨db, 2, none⟩ = some (.int .i64 e) := HD2.out.cell 2
      have zl := HD2.out.lt
      by_cases hM0 : M = 0
      · have hMb : (M != 0) = false := by simpa using hM0
        have hSO : S = lineO d q e (decide (k = 0)) r := by rw [← hS, hkd]; unfold lineS; rw [hM, if_pos hM0]
        obtain ⟨hok1, hkN⟩ := lok_more HA.out.ok hr' (by rw [hM]; exact hM0)
        rw [HN.out] at hkN
        have HOK1 := Lib.hid hok1
        have htk := linesE_take (d := d) (q := q) (e := e) hr' hkN
        rw [← hSO] at htk
        have HTK := Lib.hid htk
        have hpre : (linesE d q e t N).take k ++ [(k, S)] <+: linesE d q e t N := by rw [← htk]; exact List.take_prefix _ _
        have HPRE := Lib.hid hpre
        clear hr' hD hM hS hkd hm' hrl hrs hM0 hSO hok1 hkN htk hpre
        gi_wp2
        refine ⟨trivial, callsIn_wide.2 (HLI.out.mono ?_)⟩
        rintro x w1 ⟨rfl, hbw⟩
        have hsz := hbw.size
        have hba := HA.out.base
        have hj1 : J ((linesE d q e t N).take k) w1 T := hJ _ _ _ _ (fun _ => False) HA.out.j HA.out.lies (Touch.of_below hbw _) (fun _ h => h.elim)
        have hl1 : Lies w1 T := HA.out.lies.later hsz
        obtain ⟨fn, tmps, assign, body, hy, hRR⟩ := hY.out _ (k, S) w1 T hj1 hl1 HPRE.out trivial (fun _ h => h.elim) (by omega)
        dsimp only [lnArgs] at hy
        have fin : ∀ {J' : List (Nat × ByteArray) → World → (Nat → Prop) → Prop} {W3 : World}, LeftW w1 T (noBlk (k, S)) J' ((linesE d q e t N).take k ++ [id (k, S)]) W3 → ∃ T2, Lies W3 T2 ∧ J' ((linesE d q e t N).take k ++ [(k, S)]) W3 T2 ∧ (∀ b, Kp b → ¬ T2 b) ∧ (∀ b, Kp b → W3.heap[b]? = W.heap[b]?) ∧ W.heap.size ≤ W3.heap.size := fun {J' W3} hleft => by
          obtain ⟨T2, p1, p2, p3, p4⟩ := hleft
          have hnb : ∀ b, Kp b → ¬ (T b ∨ noBlk (k, S) b) := fun b hb h => by
            rcases h with h | h
            · exact HA.out.nbox b hb h
            · exact h
          have hkl : ∀ b, Kp b → b < W2.heap.size := fun b hb => Nat.lt_of_lt_of_le (hKl.out b hb) hba
          refine ⟨T2, p1, p4, fun b hb h => ?_, fun b hb => ?_, by have := p3.size; omega⟩
          · rcases p2 _ h with h1 | h1
            · exact hnb b hb h1
            · have := hkl b hb; omega
          · rw [p3.block b (Nat.lt_of_lt_of_le (hkl b hb) hsz) (hnb b hb), hbw.block b (hkl b hb)]
            exact HA.out.kept b hb
        clear z0 z1 z2 hca
        gi_wp2
        refine hRR.mono ?_
        rintro x W6 (⟨rfl, hleft⟩ | ⟨rfl, hleft⟩)
        · obtain ⟨T2, p1, p2, p3, p4, p5⟩ := fin hleft
          have HA2 := Lib.hid (show LAt W Kp d q e t N J (k + 1) T2 W6 from ⟨by rw [HTK.out]; exact p2, p1, p4, p3, p5, HOK1.out⟩)
          gi_wp2
          go_roundw
          case rel => exact ⟨k + 1, T2, by omega, by go_num, HA2⟩
          case measure => simp [intOf]; omega
        · obtain ⟨T2, p1, p2, p3, p4, p5⟩ := fin hleft
          gi_wp2
          refine bodyPost_ret (results_none rfl _ _ _) rfl ?_
          exact ⟨⟨_, rfl⟩, T2, p1, .inr ⟨_, HPRE.out, p2⟩⟩
      · have hMb : (M != 0) = true := by simpa using hM0
        have hkN : N = k := by rw [← HN.out]; exact lok_stop HA.out.ok hr' (by rw [hM]; exact hM0)
        have HJA := Lib.hid (show J (linesE d q e t N) W2 T by have := HA.out.j; rw [← hkN, linesE_all] at this; exact this)
        clear hr' hD hM hS hkd hm' hrl hrs hM0 hkN
        gi_wp2
        refine ⟨trivial, callsIn_wide.2 (HLI.out.mono ?_)⟩
        rintro x w1 ⟨rfl, hbw⟩
        have hj1 : J (linesE d q e t N) w1 T := hJ _ _ _ _ (fun _ => False) HJA.out HA.out.lies (Touch.of_below hbw _) (fun _ h => h.elim)
        have hl1 : Lies w1 T := HA.out.lies.later hbw.size
        clear z0 z1 z2 hca
        gi_wp2
        refine ⟨fun _ h => (by cases h), ?_⟩
        gi_wp2
        refine bodyPost_ret (results_none rfl _ _ _) rfl ?_
        exact ⟨⟨_, rfl⟩, T, hl1, .inl hj1⟩
    · obtain rfl : k = n := by omega
      have hkN : N = k := by rw [← HN.out]; exact lok_all HA.out.ok HLN.out
      have hJA : J (linesE d q e t N) W2 T := by have := HA.out.j; rw [← hkN, linesE_all] at this; exact this
      clear hlt hkN
      gi_wp2
      go_end0
      exact ⟨⟨_, rfl⟩, T, HA.out.lies, .inl hJA⟩
end

theorem lines_says : LinesSays := by
  intro d q e t A n c V w0 w d0 d1 q0 q1 hn hf hb ht hok hbw
  obtain ⟨W1, hW1⟩ : ∃ W1, W1 = (w.alloc (.cells #[.int .u8 d, .int .u8 q, .int .i64 e] 23)).alloc (.cells #[.slice A n c] 26) := ⟨_, rfl⟩
  have HX := Lib.hid (show StB W1 w.heap.size 23 #[.int .u8 d, .int .u8 q, .int .i64 e] by rw [hW1]; exact (StB.new _ _ _).alloc _)
  have HS := Lib.hid (show StB W1 (w.heap.size + 1) 26 #[.slice A n c] by rw [hW1]; exact StB.made _ (by simp) _ _)
  have HB := Lib.hid (show Below w.heap.size w W1 by rw [hW1]; exact up_alloc (up_alloc (Below.refl _ w) _) _)
  have HZ := Lib.hid (show W1.heap.size = w.heap.size + 2 by rw [hW1]; simp)
  have hne : ∀ w, (binOp .eql 41 (.func (.func 32) #[] #[.pointer (some ⟨w.heap.size + 1, 0, none⟩), .pointer (some ⟨w.heap.size, 0, none⟩)]) Value.nilFunc).run Tryd.prog w = .ok (.bool false) w := fun w => by kernel_rfl
  go_enter Tryd.func15, Tryd.ntmps15
  go_wp2_with fail
  rw [← hW1]
  clear hW1
  go_ret
  refine ⟨32, _, (fun k => k < w0.heap.size ∨ k = w.heap.size + 1 ∨ k = w.heap.size), rfl, Lib.hid (enters_of Tryd.func32 (by kernel_rfl) rfl), Lib.hid (fun w' => by kernel_rfl), HB, Lib.hid (fun k hk => ?_), Lib.hid (fun W2 hb2 => ?_)⟩
  · have := HZ.out
    rcases hk with hk | hk | hk
    · exact .inl hk
    · exact .inr (by omega)
    · exact .inr (by omega)
  · intro l J Jx hJ hJx hY T hj hT hK
    have h02 : Below w0.heap.size w0 W2 := (hbw.out.trans (HB.out.mono hbw.out.size)).trans (hb2.mono (hbw.out.trans (HB.out.mono hbw.out.size)).size)
    exact lines1_in (by omega) d0 d1 q0 q1 hn hf hb ht (Lib.hid h02.block) h02.size (Lib.hid (fun k hk => hk)) (Lib.hid (fun k hk => by
        have h1 := hb2.size
        have h2 := HZ.out
        have h3 := h02.size
        rcases hk with hk | hk | hk <;> omega)) hJ hJx (Lib.hid hY) (Lib.hid (HX.out.below hb2)) (Lib.hid (HS.out.below hb2)) (Lib.hid hj) (Lib.hid hT) (Lib.hid hK)
end Go.Proofs.YtigoonokiihdgaaDoor

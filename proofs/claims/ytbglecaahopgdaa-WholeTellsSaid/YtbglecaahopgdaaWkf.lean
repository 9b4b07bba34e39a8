/- Layer 6: what walk answers is an iterator over the records, and the fault, of the text (walk_seq). -/
import Derived.Test.YtbglecaahopgdaaWke
namespace Go.Proofs.Ytbglecaahopgdaa
open Go.ChangeShapes Go.WideShapes Go.ChangeAt Go.RowKit
set_option linter.unusedVariables false
set_option linter.unusedSimpArgs false
attribute [local go_sem] Oper.semAt_some

/-- All that is handed on of a text, whatever the dialect and the limits. -/
def evsW (d q e a b c : Int) (u : Bool) (s : ByteArray) : List (List ByteArray × Int × Int) :=
  if rightB d q e = false then [([], 1, 0)] else if (withinB a && (withinB b && withinB c)) = false then [([], 2, 0)] else evs (whP d q e (mk0 a b c u) (bl s))

section
variable {d q e a b c : Int} {u : Bool} {s : ByteArray} {n l B b0 b1 b2 : Nat} {J Jx : List (List ByteArray × Int × Int) → World → (Nat → Prop) → Prop} {E : List (List ByteArray × Int × Int)} {W : World} {T : Nat → Prop}
theorem Rounds.bad (hY : Rounds n l B J Jx E) (hj : J [] W T) (hT : Lies W T) (k : Int) (hE : E = [([], k, 0)]) (hB : B ≤ W.heap.size) :
    YieldAt Fence.wide n Try.prog l #[.slice none 0 0, .agg #[.int .i64 k, .int .i64 0]] W fun x W2 => (x = .returned (.bool true) ∧ ∃ T2, Lies W2 T2 ∧ J E W2 T2) ∨ (x = .returned (.bool false) ∧ ∃ T2, Lies W2 T2 ∧ Jx E W2 T2) := by
  subst hE
  obtain ⟨fn, tmps, assign, body, hy, hR⟩ := hY [] ⟨none, 0, [], k, 0⟩ W T hj hT List.prefix_rfl (SlOwn.nothing _ _ _) (fun j hj => by cases hj) hB
  refine ⟨fn, tmps, assign, body, hy, hR.mono ?_⟩
  rintro x W2 (⟨rfl, T2, l1, _, _, l4⟩ | ⟨rfl, T2, l1, _, _, l4⟩)
  · exact .inl ⟨rfl, T2, l1, l4⟩
  · exact .inr ⟨rfl, T2, l1, l4⟩

set_option maxHeartbeats 1600000 in
theorem walk1_in (hn : 1 ≤ n) (hs : s.size ≤ 900) (d0 : 0 ≤ d) (d1 : d ≤ 255) (q0 : 0 ≤ q) (q1 : q ≤ 255) (hJ : AbT W.heap.size J) (hJx : AbT W.heap.size Jx) (hY : Hid (Rounds (n - 1) l W.heap.size J Jx E)) (hE : Hid (E = evsW d q e a b c u s))
    (h0 : Hid (StB W b0 23 #[.int .u8 d, .int .u8 q, .int .i64 e])) (h1 : Hid (StB W b1 25 #[.int .i64 a, .int .i64 b, .int .i64 c, .bool u])) (h2 : Hid (StB W b2 9 #[.string s])) (hj : Hid (J [] W T)) (hT : Hid (Lies W T)) :
    CallsIn Fence.wide n Try.prog 26 #[.func (.yield l) #[] #[], .pointer (some ⟨b0, 0, none⟩), .pointer (some ⟨b1, 0, none⟩), .pointer (some ⟨b2, 0, none⟩)] W fun x w' => (∃ v, x = .returned v) ∧ ∃ T2, Lies w' T2 ∧ (J E w' T2 ∨ ∃ pre, pre <+: E ∧ Jx pre w' T2) := by
  have m0 : W.cell? ⟨b0, 0, none⟩ = some (.int .u8 d) := h0.out.cell 0
  have m1 : W.cell? ⟨b0, 1, none⟩ = some (.int .u8 q) := h0.out.cell 1
  have m2 : W.cell? ⟨b0, 2, none⟩ = some (.int .i64 e) := h0.out.cell 2
  have m3 : W.cell? ⟨b1, 0, none⟩ = some (.int .i64 a) := h1.out.cell 0
  have m4 : W.cell? ⟨b1, 1, none⟩ = some (.int .i64 b) := h1.out.cell 1
  have m5 : W.cell? ⟨b1, 2, none⟩ = some (.int .i64 c) := h1.out.cell 2
  have m6 : W.cell? ⟨b1, 3, none⟩ = some (.bool u) := h1.out.cell 3
  have hu : ∀ (W' : World), Below W.heap.size W W' → J [] W' T ∧ Lies W' T := fun W' hb => ⟨hJ _ _ _ _ (fun _ => False) hj.out hT.out (Touch.of_below hb _) (fun _ h => h.elim), hT.out.later hb.size⟩
  have HU := Lib.hid hu
  clear hu
  by_cases hr : rightB d q e = false
  · have hE1 := Lib.hid (show E = [([], 1, 0)] by rw [hE.out, evsW, if_pos hr])
    refine callsIn_of_wp Try.func26 rfl trivial ?_ rfl
    simp only [Try.ntmps26, List.size_toArray, List.length_cons, List.length_nil, Nat.reduceAdd, Nat.reduceSub, Array.replicate_succ, Array.replicate_zero, List.push_toArray, List.append_toArray, List.nil_append, List.cons_append]
    gi_wp2
    refine ⟨trivial, callsIn_wide.2 ((nw_dial d q e a b c u d0 d1 q0 q1 hr W).mono ?_)⟩
    rintro x W1 ⟨rfl, hb⟩
    obtain ⟨hj1, hT1⟩ := HU.out W1 hb
    obtain ⟨fn, tmps, assign, body, hy, hR⟩ := hY.out.bad hj1 hT1 1 hE1.out hb.size
    gi_wp2
    refine hR.mono ?_
    rintro x W6 (⟨rfl, T2, l1, l2⟩ | ⟨rfl, T2, l1, l2⟩)
    · gi_wp2
      refine bodyPost_ret (results_none rfl _ _ _) rfl ?_
      exact ⟨⟨_, rfl⟩, T2, l1, .inl l2⟩
    · gi_wp2
      refine bodyPost_ret (results_none rfl _ _ _) rfl ?_
      exact ⟨⟨_, rfl⟩, T2, l1, .inr ⟨E, List.prefix_rfl, l2⟩⟩
  · have hr' : rightB d q e = true := by simpa using hr
    by_cases hw : (withinB a && (withinB b && withinB c)) = false
    · have hE1 := Lib.hid (show E = [([], 2, 0)] by rw [hE.out, evsW, if_neg hr, if_pos hw])
      have HW := Lib.hid hw
      clear hw
      refine callsIn_of_wp Try.func26 rfl trivial ?_ rfl
      simp only [Try.ntmps26, List.size_toArray, List.length_cons, List.length_nil, Nat.reduceAdd, Nat.reduceSub, Array.replicate_succ, Array.replicate_zero, List.push_toArray, List.append_toArray, List.nil_append, List.cons_append]
      gi_wp2
      refine ⟨trivial, callsIn_wide.2 ((nw_lim d q e a b c u d0 d1 q0 q1 hr' HW W).mono ?_)⟩
      rintro x W1 ⟨rfl, hb⟩
      obtain ⟨hj1, hT1⟩ := HU.out W1 hb
      obtain ⟨fn, tmps, assign, body, hy, hR⟩ := hY.out.bad hj1 hT1 2 hE1.out hb.size
      gi_wp2
      refine hR.mono ?_
      rintro x W6 (⟨rfl, T2, l1, l2⟩ | ⟨rfl, T2, l1, l2⟩)
      · gi_wp2
        refine bodyPost_ret (results_none rfl _ _ _) rfl ?_
        exact ⟨⟨_, rfl⟩, T2, l1, .inl l2⟩
      · gi_wp2
        refine bodyPost_ret (results_none rfl _ _ _) rfl ?_
        exact ⟨⟨_, rfl⟩, T2, l1, .inr ⟨E, List.prefix_rfl, l2⟩⟩
    · have hw' : (withinB a && (withinB b && withinB c)) = true := by simpa using hw
      have hE1 := Lib.hid (show E = evs (whP d q e (mk0 a b c u) (bl s)) by rw [hE.out, evsW, if_neg hr, if_neg hw])
      have HW := Lib.hid hw'
      clear hw hw'
      refine callsIn_of_wp Try.func26 rfl trivial ?_ rfl
      simp only [Try.ntmps26, List.size_toArray, List.length_cons, List.length_nil, Nat.reduceAdd, Nat.reduceSub, Array.replicate_succ, Array.replicate_zero, List.push_toArray, List.append_toArray, List.nil_append, List.cons_append]
      gi_wp2
      refine ⟨trivial, callsIn_wide.2 ((nw_yes d q e a b c u d0 d1 q0 q1 hr' HW W).mono ?_)⟩
      rintro x W1 ⟨p, rfl, HP⟩
      obtain ⟨Z, z1, z2, z3⟩ := HP.out
      obtain ⟨hj1, hT1⟩ := HU.out W1 z3
      have k0 : W1.cell? ⟨b2, 0, none⟩ = some (.string s) := (h2.out.below z3).cell 0
      have kl := (h2.out.below z3).lt
      have HR := Lib.hid (show Rounds (n - 1 - 1) l W.heap.size J Jx E from fun pre x W1 T g1 g2 g3 g4 g5 g6 => yieldAt_depth (hY.out pre x W1 T g1 g2 g3 g4 g5 g6))
      have HT := callsIn_wide.1 (through_in (n := n) hn hs hJ hJx hY (mk0 a b c u) (mk0_ok a b c u HW.out) hE1.out W1 Z T z1 hj1 hT1 (fun j hj => ⟨fun hT' => by have := hT.out j hT'; have := z2 j hj; omega, z2 j hj⟩) z3.size)
      gi_wp2
      refine ⟨trivial, callsIn_wide.2 (HT.mono ?_)⟩
      rintro x W2 ⟨⟨v, rfl⟩, h⟩
      gi_wp2
      go_end0
      exact ⟨⟨_, rfl⟩, h⟩
theorem walk_seq (hn : 1 ≤ n) (hs : s.size ≤ 900) (d0 : 0 ≤ d) (d1 : d ≤ 255) (q0 : 0 ≤ q) (q1 : q ≤ 255) (h0 : StB W b0 23 #[.int .u8 d, .int .u8 q, .int .i64 e]) (h1 : StB W b1 25 #[.int .i64 a, .int .i64 b, .int .i64 c, .bool u]) (h2 : StB W b2 9 #[.string s]) :
    SeqT Fence.wide n Try.prog 26 #[.pointer (some ⟨b0, 0, none⟩), .pointer (some ⟨b1, 0, none⟩), .pointer (some ⟨b2, 0, none⟩)] Hx.args Hx.gh Hx.hand Hx.blk (evsW d q e a b c u s) W :=
  fun l J Jx hJ hJx hY T hj hT => walk1_in hn hs d0 d1 q0 q1 hJ hJx (Lib.hid hY) (Lib.hid rfl) (Lib.hid h0) (Lib.hid h1) (Lib.hid h2) (Lib.hid hj) (Lib.hid hT)
end
end Go.Proofs.Ytbglecaahopgdaa

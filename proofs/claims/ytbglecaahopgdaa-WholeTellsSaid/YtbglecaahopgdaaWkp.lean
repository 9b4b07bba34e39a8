/- Layer 6: Records; what it answers is an iterator over the records (records_seq). -/
import Derived.Test.YtbglecaahopgdaaWkh
namespace Go.Proofs.Ytbglecaahopgdaa
open Go.ChangeShapes Go.WideShapes Go.ChangeAt Go.RowKit
set_option linter.unusedVariables false
set_option linter.unusedSimpArgs false
attribute [local go_sem] Oper.semAt_some

/-- A record that is handed on. -/
structure Rx where
  A : Option Addr
  c : Nat
  l : List ByteArray
def Rx.args (x : Rx) : Array Value := #[.slice x.A x.l.length x.c]
def Rx.gh (x : Rx) : List ByteArray := x.l
def Rx.hand (x : Rx) (W : World) : Prop := SlOwn W 0 9 x.A x.l.length x.c (strs x.l)
def Rx.blk (x : Rx) (j : Nat) : Prop := blkOf x.A = some j
theorem rhand_keep : ∀ (x : Rx) (W W' : World) (S : Nat → Prop), x.hand W → Touch W W' S → (∀ k, S k → ¬ x.blk k) → (∀ k, x.blk k → k < W.heap.size) → x.hand W' := fun x W W' S h ht hS _ => SlOwn.touch h ht (fun k hk hs => hS k hs hk)
/-- What the rounds promise. -/
def RRounds (n : Nat) (l B : Nat) (J Jx : List (List ByteArray) → World → (Nat → Prop) → Prop) (E : List (List ByteArray)) : Prop :=
  ∀ pre x W1 T, J pre W1 T → Lies W1 T → pre ++ [Rx.gh x] <+: E → x.hand W1 → (∀ k, x.blk k → ¬ T k ∧ B ≤ k ∧ k < W1.heap.size) → B ≤ W1.heap.size →
    YieldAt Fence.wide n Try.prog l x.args W1 fun e W2 => (e = .returned (.bool true) ∧ Left W1 T x.blk J (pre ++ [x.gh]) W2) ∨ (e = .returned (.bool false) ∧ Left W1 T x.blk Jx (pre ++ [x.gh]) W2)
theorem roundIn_in {n m : Nat} {P : Program} {l : Nat} {f : FuncId} {tmps : Array Value} {assign body : Code} {w : World} {R : Ending → World → Prop} (l' : Nat) (h : RoundIn Fence.wide n P l f tmps assign body w R) : RoundIn (Fence.wide.inRound l') m P l f tmps assign body w R :=
  ⟨h.1, fun c cs _ => h.2 c cs (fun _ h => by simp [Fence.wide] at h)⟩

def RecI (by_ l : Nat) (J : List (List ByteArray) → World → (Nat → Prop) → Prop) (pre : List (List ByteArray × Int × Int)) (W : World) (T : Nat → Prop) : Prop :=
  (∀ p ∈ pre, p.2.1 = 0) ∧ J (pre.map (·.1)) W T ∧ ¬ T by_ ∧ StB W by_ 67 #[.func (.yield l) #[] #[]]
def RecX (J Jx : List (List ByteArray) → World → (Nat → Prop) → Prop) (code : Code) (pre : List (List ByteArray × Int × Int)) (W : World) (T : Nat → Prop) : Prop :=
  code = .ret ∧ ∃ (front : List (List ByteArray × Int × Int)) (r : List ByteArray) (k a : Int), pre = front ++ [(r, k, a)] ∧ (∀ p ∈ front, p.2.1 = 0) ∧ ((k ≠ 0 ∧ J (front.map (·.1)) W T) ∨ (k = 0 ∧ Jx (front.map (·.1) ++ [r]) W T))
theorem evsL_prefix {p : Par} {pre : List (List ByteArray × Int × Int)} (h : pre <+: evsL p) (h0 : ∀ x ∈ pre, x.2.1 = 0) : pre.map (·.1) <+: p.rs := by
  obtain ⟨t, ht⟩ := h
  unfold evsL at ht
  have hl : pre.length ≤ p.rs.length := by
    rcases Nat.lt_or_ge p.rs.length pre.length with hl | hl
    · exfalso
      have h1 : (pre ++ t)[p.rs.length]? = some (pre[p.rs.length]) := by rw [List.getElem?_append_left hl]; exact List.getElem?_eq_getElem hl
      rw [ht, List.getElem?_append_right (by simp)] at h1
      by_cases hk : p.k = 0
      · rw [if_neg (by simpa using hk)] at h1; simp at h1
      · rw [if_pos hk] at h1
        simp at h1
        have := h0 _ (List.getElem_mem hl)
        rw [← h1] at this
        exact hk this
    · exact hl
  refine ⟨p.rs.drop pre.length, ?_⟩
  have h2 : pre = (p.rs.map (fun r => (r, (0 : Int), (0 : Int)))).take pre.length := by
    have := congrArg (List.take pre.length) ht
    rw [List.take_left, List.take_append_of_le_length (by simpa using hl)] at this
    exact this
  have h3 : pre.map (·.1) = p.rs.take pre.length := by
    have := congrArg (List.map (·.1)) h2
    rw [List.map_take, List.map_map] at this
    simpa [Function.comp_def] using this
  rw [h3, List.take_append_drop]

section
variable {d q e a b c : Int} {u : Bool} {s : ByteArray} {n l b0 b1 b2 : Nat} {J Jx : List (List ByteArray) → World → (Nat → Prop) → Prop} {W : World} {T : Nat → Prop}
set_option maxRecDepth 100000 in
set_option maxHeartbeats 3200000 in
theorem rec1_in (hn : 9 ≤ n) (hs : s.size ≤ 900) (d0 : 0 ≤ d) (d1 : d ≤ 255) (q0 : 0 ≤ q) (q1 : q ≤ 255) (p : Par) (hp : Hid (parW d q e a b c u s = p)) (hJ : AbT W.heap.size J) (hJx : AbT W.heap.size Jx) (hY : Hid (RRounds (n - 1) l W.heap.size J Jx p.rs))
    (h0 : Hid (StB W b0 23 #[.int .u8 d, .int .u8 q, .int .i64 e])) (h1 : Hid (StB W b1 25 #[.int .i64 a, .int .i64 b, .int .i64 c, .bool u])) (h2 : Hid (StB W b2 9 #[.string s])) (hj : Hid (J [] W T)) (hT : Hid (Lies W T)) :
    CallsIn Fence.wide n Try.prog 24 #[.func (.yield l) #[] #[], .pointer (some ⟨b0, 0, none⟩), .pointer (some ⟨b1, 0, none⟩), .pointer (some ⟨b2, 0, none⟩)] W fun x w' => (∃ v, x = .returned v) ∧ ∃ T2, Lies w' T2 ∧ (J p.rs w' T2 ∨ ∃ pre, pre <+: p.rs ∧ Jx pre w' T2) := by
  have hev := Lib.hid (show evsW d q e a b c u s = evsL p from by rw [evsW_is, hp.out])
  have hn1 : 1 ≤ n := by omega
  have m0 : W.cell? ⟨b0, 0, none⟩ = some (.int .u8 d) := h0.out.cell 0
  have m1 : W.cell? ⟨b0, 1, none⟩ = some (.int .u8 q) := h0.out.cell 1
  have m2 : W.cell? ⟨b0, 2, none⟩ = some (.int .i64 e) := h0.out.cell 2
  have m3 : W.cell? ⟨b1, 0, none⟩ = some (.int .i64 a) := h1.out.cell 0
  have m4 : W.cell? ⟨b1, 1, none⟩ = some (.int .i64 b) := h1.out.cell 1
  have m5 : W.cell? ⟨b1, 2, none⟩ = some (.int .i64 c) := h1.out.cell 2
  have m6 : W.cell? ⟨b1, 3, none⟩ = some (.bool u) := h1.out.cell 3
  have m7 : W.cell? ⟨b2, 0, none⟩ = some (.string s) := h2.out.cell 0
  have l0 := h0.out.lt
  have l1 := h1.out.lt
  have l2 := h2.out.lt
  refine callsIn_of_wp_marks Try.func24 rfl trivial ?_ rfl
  simp only [Try.ntmps24, List.size_toArray, List.length_cons, List.length_nil, Nat.reduceAdd, Nat.reduceSub, Array.replicate_succ, Array.replicate_zero, List.push_toArray, List.append_toArray, List.nil_append, List.cons_append]
  gi_wp2
  refine ⟨trivial, callsIn_wide.2 ((walk_any d q e a b c u s _).mono ?_)⟩
  rintro x w1 ⟨rfl, rfl⟩
  gi_wp2
  obtain ⟨W8, hW8⟩ : ∃ W8, (((W.alloc (.cells #[.func (.yield l) #[] #[]] 67)).alloc (.cells #[.int .u8 d, .int .u8 q, .int .i64 e] 23)).alloc (.cells #[.int .i64 a, .int .i64 b, .int .i64 c, .bool u] 25)).alloc (.cells #[.string s] 9) = W8 := ⟨_, rfl⟩
  obtain ⟨by_, hby⟩ : ∃ h, W.heap.size = h := ⟨_, rfl⟩
  rw [hW8, hby]
  obtain ⟨b9, h9⟩ : ∃ b9, by_ + 1 = b9 := ⟨_, rfl⟩
  obtain ⟨b10, h10⟩ : ∃ b10, b9 + 1 = b10 := ⟨_, rfl⟩
  obtain ⟨b11, h11⟩ : ∃ b11, b9 + 2 = b11 := ⟨_, rfl⟩
  rw [h9, h10, h11]
  have hz : W8.heap.size = by_ + 4 := by rw [← hW8]; simp; omega
  have hwle : W.heap.size ≤ W8.heap.size := by omega
  have hbl : Below W.heap.size W W8 := by rw [← hW8]; exact up_alloc (up_alloc (up_alloc (up_alloc (Below.refl _ _) _) _) _) _
  have s4 : StB W8 by_ 67 #[.func (.yield l) #[] #[]] := by rw [← hW8]; exact (((StB.made _ hby.symm _ _).alloc _).alloc _).alloc _
  have s9 : StB W8 b9 23 #[.int .u8 d, .int .u8 q, .int .i64 e] := by rw [← hW8]; exact ((StB.made _ (by simp; omega) _ _).alloc _).alloc _
  have s10 : StB W8 b10 25 #[.int .i64 a, .int .i64 b, .int .i64 c, .bool u] := by rw [← hW8]; exact (StB.made _ (by simp; omega) _ _).alloc _
  have s11 : StB W8 b11 9 #[.string s] := by rw [← hW8]; exact StB.made _ (by simp; omega) _ _
  have hnT : ¬ T by_ := fun h => by have := hT.out _ h; omega
  have start : RecI by_ l J [] W8 T := ⟨(fun p hp => by cases hp), hJ _ _ _ _ (fun _ => False) hj.out hT.out (Touch.of_below hbl _) (fun _ h => h.elim), hnT, s4⟩
  have lies : Lies W8 T := hT.out.later hwle
  have hbylt : by_ < W8.heap.size := by omega
  have abI : AbT W8.heap.size (RecI by_ l J) := fun s W1 W2 T S h hl ht hS => by
    obtain ⟨g0, g1, g2, g3⟩ := h
    exact ⟨g0, hJ _ _ _ _ S g1 hl ht (fun k hk => ⟨(hS k hk).1, by have := (hS k hk).2; omega⟩), g2, g3.touch ht (fun hs => by have := (hS _ hs).2; omega)⟩
  have abX : ∀ cd, AbT W8.heap.size (RecX J Jx cd) := fun cd s W1 W2 T S h hl ht hS => by
    obtain ⟨g0, front, r, k, a, g1, g2, g3⟩ := h
    have hS' : ∀ k, S k → ¬ T k ∧ W.heap.size ≤ k := fun k hk => ⟨(hS k hk).1, by have := (hS k hk).2; omega⟩
    refine ⟨g0, front, r, k, a, g1, g2, ?_⟩
    rcases g3 with ⟨g4, g5⟩ | ⟨g4, g5⟩
    · exact .inl ⟨g4, hJ _ _ _ _ S g5 hl ht hS'⟩
    · exact .inr ⟨g4, hJx _ _ _ _ S g5 hl ht hS'⟩
  clear hW8 h9 h10 h11 hz hbl s4 m0 m1 m2 m3 m4 m5 m6 m7 l0 l1 l2
  refine wpIn_range_T rfl (by simp [Fence.wide]) (gf := 26) (lb := #[.pointer (some ⟨b9, 0, none⟩), .pointer (some ⟨b10, 0, none⟩), .pointer (some ⟨b11, 0, none⟩)]) rfl trivial (enters_of Try.func26 (by kernel_rfl) rfl)
    (encs := Hx.args) (gh := Hx.gh) (hand := Hx.hand) (blk := Hx.blk) (evs := evsL p) (fun W1 hb => by rw [← hev.out]; exact walk_seq (by omega) hs d0 d1 q0 q1 (s9.below hb) (s10.below hb) (s11.below hb)) hand_keep (fun _ => rfl)
    (RecI by_ l J) (RecX J Jx) abI abX T start lies
    (fun x V => { tmps := #[.func (.yield l) #[] #[], .pointer (some ⟨b0, 0, none⟩), .pointer (some ⟨b1, 0, none⟩), .pointer (some ⟨b2, 0, none⟩), .pointer (some ⟨by_, 0, none⟩), .slice x.A x.l.length x.c, .pointer (some ⟨V.heap.size, 0, none⟩),
      .agg #[.int .u8 d, .int .u8 q, .int .i64 e], .agg #[.int .i64 a, .int .i64 b, .int .i64 c, .bool u], .string s, .func (.func 26) #[] #[.pointer (some ⟨b9, 0, none⟩), .pointer (some ⟨b10, 0, none⟩), .pointer (some ⟨b11, 0, none⟩)],
      .slice x.A x.l.length x.c, .agg #[.int .i64 x.k, .int .i64 x.a], undef, undef, undef, undef, undef, undef, undef, undef, undef], defers := [] })
    (fun x V => V.alloc (.cells #[.int .i64 x.k, .int .i64 x.a] 30)) (fun x V => up_alloc (Below.refl _ V) _) ?assign ?body ?done ?stop
  case assign =>
    rintro l ⟨xA, xc, xl, xk, xa⟩ W K hK
    dsimp only [Hx.args] at hK ⊢
    gi_wp2
    exact hK
  case body =>
    rintro l1 pre ⟨xA, xc, xl, xk, xa⟩ V W1 T1 ⟨hz0, hj1, hnT1, s4⟩ hlT hpre hhand hblk hge htouch hl
    have hbox := (StB.new V 30 #[.int .i64 xk, .int .i64 xa]).touch htouch (by intro e; omega)
    obtain ⟨F, hF⟩ : ∃ F, V.heap.size = F := ⟨_, rfl⟩
    rw [hF] at hbox hl
    rw [hF]
    have k0 : W1.cell? ⟨F, 0, none⟩ = some (.int .i64 xk) := hbox.cell 0
    have k1 : W1.cell? ⟨F, 1, none⟩ = some (.int .i64 xa) := hbox.cell 1
    have kl := hbox.lt
    have r0 := s4.cell 0
    have r4 := s4.lt
    have hVW : V.heap.size ≤ W1.heap.size := Nat.le_trans (up_alloc (Below.refl _ V) _).size htouch.size
    have hlW : Lies W1 T1 := hlT.later hVW
    by_cases hk : xk = 0
    · subst hk
      have hp1 := evsL_prefix hpre (by
        intro x hx
        rcases List.mem_append.1 hx with h1 | h1
        · exact hz0 x h1
        · simp at h1; subst h1; rfl)
      rw [List.map_append] at hp1
      obtain ⟨fn, tmps, assign, body, hy, hR⟩ := hY.out (pre.map (·.1)) ⟨xA, xc, xl⟩ W1 T1 hj1 hlW hp1 hhand (fun k hk => ⟨(hblk k hk).1, by have := (hblk k hk).2.1; omega, by have := (hblk k hk).2.2; omega⟩) (by omega)
      dsimp only [Rx.args] at hy
      have HR := roundIn_in (m := n - 1 - 1 - 1) l1 hR
      have fin : ∀ {J' : List (List ByteArray) → World → (Nat → Prop) → Prop} {W2 : World}, Left W1 T1 (Rx.blk ⟨xA, xc, xl⟩) J' (pre.map (·.1) ++ [xl]) W2 → ∃ T2, Lies W2 T2 ∧ Sub W1 T2 (fun k => T1 k ∨ Hx.blk ⟨xA, xc, xl, 0, xa⟩ k) ∧ Touch W1 W2 T1 ∧ J' (pre.map (·.1) ++ [xl]) W2 T2 ∧ ¬ T2 by_ ∧ StB W2 by_ 67 #[.func (.yield l) #[] #[]] := fun {J' W2} hleft => by
        obtain ⟨T2, q1, q2, q3, q4⟩ := hleft
        refine ⟨T2, q1, q2, q3, q4, fun h => ?_, s4.touch q3 hnT1⟩
        rcases q2 _ h with (h1 | h1) | h1
        · exact hnT1 h1
        · have := (hblk _ h1).2.1; omega
        · omega
      have hn2 : 1 ≤ n - 1 - 1 := by omega
      gi_wp2
      refine HR.mono ?_
      rintro x W2 (⟨rfl, hleft⟩ | ⟨rfl, hleft⟩)
      · obtain ⟨T2, q1, q2, q3, q4, q5, q6⟩ := fin hleft
        gi_wp2
        refine ⟨T2, q1, q2, q3, ?_, by rw [List.map_append]; exact q4, q5, q6⟩
        intro x hx
        rcases List.mem_append.1 hx with h1 | h1
        · exact hz0 x h1
        · simp at h1; subst h1; rfl
      · obtain ⟨T2, q1, q2, q3, q4, q5, q6⟩ := fin hleft
        gi_wp2
        exact ⟨T2, q1, q2, q3, rfl, pre, xl, 0, xa, rfl, hz0, .inr ⟨rfl, q4⟩⟩
    · have hkb : (xk != 0) = true := by simpa using hk
      gi_wp2
      refine ⟨fun _ h => (by cases h), ?_⟩
      gi_wp2
      exact ⟨T1, hlW, (fun k hk => .inl (.inl hk)), Touch.refl _ _, rfl, pre, xl, xk, xa, rfl, hz0, .inl ⟨hk, hj1⟩⟩
  case done =>
    rintro D W1 T1 hD ⟨hz0, hj1, hnT1, s4⟩ hlT hTD hK
    obtain ⟨e0, e1⟩ := evsL_done hz0
    rw [e1] at hj1
    have h3 := hJ _ _ _ _ _ hj1 hlT (Touch.putObj W1 D (.deferred none)) (fun k hk => by have e : k = D := hk; subst e; exact ⟨hTD, by omega⟩)
    have h4 : Lies (W1.putObj D (.deferred none)) T1 := hlT.later (Touch.putObj W1 D (.deferred none)).size
    gi_wp2
    refine ⟨by simp, .inl ⟨_, _, rfl, run_takeDeferred hK, ?_⟩⟩
    exact ⟨_, results_none rfl _ _ _, ⟨_, rfl⟩, T1, h4, .inl h3⟩
  case stop =>
    rintro D code pre W1 T1 hD hpre ⟨rfl, front, r, k, aa, rfl, hz0, hor⟩ hlT hTD hK
    have hS : ∀ k, (k = D) → ¬ T1 k ∧ W.heap.size ≤ k := fun k hk => by subst hk; exact ⟨hTD, by omega⟩
    have h4 : Lies (W1.putObj D (.deferred none)) T1 := hlT.later (Touch.putObj W1 D (.deferred none)).size
    have h5 : J p.rs (W1.putObj D (.deferred none)) T1 ∨ ∃ pre, pre <+: p.rs ∧ Jx pre (W1.putObj D (.deferred none)) T1 := by
      rcases hor with ⟨g4, g5⟩ | ⟨g4, g5⟩
      · obtain ⟨e1, _, _, _⟩ := evsL_stop hpre g4
        rw [e1] at g5
        exact .inl (hJ _ _ _ _ _ g5 hlT (Touch.putObj W1 D (.deferred none)) hS)
      · subst g4
        have e1 := evsL_prefix hpre (by
          intro x hx
          rcases List.mem_append.1 hx with h1 | h1
          · exact hz0 x h1
          · simp at h1; subst h1; rfl)
        rw [List.map_append] at e1
        exact .inr ⟨_, e1, hJx _ _ _ _ _ g5 hlT (Touch.putObj W1 D (.deferred none)) hS⟩
    gi_wp2
    refine ⟨by simp, .inl ⟨_, _, rfl, run_takeDeferred hK, ?_⟩⟩
    exact ⟨_, results_none rfl _ _ _, ⟨_, rfl⟩, T1, h4, h5⟩
theorem records_seq (hn : 9 ≤ n) (hs : s.size ≤ 900) (d0 : 0 ≤ d) (d1 : d ≤ 255) (q0 : 0 ≤ q) (q1 : q ≤ 255) (rs : List (List ByteArray)) (k at_ : Int) (hp : parW d q e a b c u s = ⟨rs, k, at_⟩) (h0 : StB W b0 23 #[.int .u8 d, .int .u8 q, .int .i64 e]) (h1 : StB W b1 25 #[.int .i64 a, .int .i64 b, .int .i64 c, .bool u]) (h2 : StB W b2 9 #[.string s]) :
    SeqT Fence.wide n Try.prog 24 #[.pointer (some ⟨b0, 0, none⟩), .pointer (some ⟨b1, 0, none⟩), .pointer (some ⟨b2, 0, none⟩)] Rx.args Rx.gh Rx.hand Rx.blk rs W :=
  fun l J Jx hJ hJx hY T hj hT => rec1_in hn hs d0 d1 q0 q1 ⟨rs, k, at_⟩ (Lib.hid hp) hJ hJx (Lib.hid hY) (Lib.hid h0) (Lib.hid h1) (Lib.hid h2) (Lib.hid hj) (Lib.hid hT)
end
end Go.Proofs.Ytbglecaahopgdaa

/- Layer 6: the contract of First. -/
import Derived.Test.YtbglecaahopgdaaWkh
namespace Go.Proofs.Ytbglecaahopgdaa
open Go.ChangeShapes Go.WideShapes Go.ChangeAt Go.RowKit
set_option linter.unusedVariables false
set_option linter.unusedSimpArgs false
attribute [local go_sem] Oper.semAt_some

/-- What holds in the loop of First. -/
def FirI (w0 : World) (b6 : Nat) (pre : List (List ByteArray × Int × Int)) (W : World) (T : Nat → Prop) : Prop :=
  (∀ p ∈ pre, p.2.1 = 0) ∧ Below w0.heap.size w0 W ∧ T b6 ∧ w0.heap.size ≤ b6 ∧ (∀ k, T k → k = b6) ∧ StB W b6 30 #[.int .i64 0, .int .i64 0]
def FirX (w0 : World) (b6 : Nat) (code : Code) (pre : List (List ByteArray × Int × Int)) (W : World) (T : Nat → Prop) : Prop :=
  code = .ret ∧ ∃ (front : List (List ByteArray × Int × Int)) (r : List ByteArray) (k a : Int), k ≠ 0 ∧ pre = front ++ [(r, k, a)] ∧ Below w0.heap.size w0 W ∧ T b6 ∧ StB W b6 30 #[.int .i64 k, .int .i64 a]
theorem firI_ab (w0 : World) (b6 B : Nat) (hB : w0.heap.size ≤ B) : AbT B (FirI w0 b6) := fun s W1 W2 T S h hl ht hS => by
  obtain ⟨h0, h1, h2, h3, h4, h5⟩ := h
  exact ⟨h0, h1.trans (ht.below h1.size (fun k hk => Nat.le_trans hB (hS k hk).2)), h2, h3, h4, h5.touch ht (fun hs => (hS _ hs).1 h2)⟩
theorem firX_ab (w0 : World) (b6 B : Nat) (hB : w0.heap.size ≤ B) (code : Code) : AbT B (FirX w0 b6 code) := fun s W1 W2 T S h hl ht hS => by
  obtain ⟨h0, front, r, k, a, hk, hp, h1, h2, h5⟩ := h
  exact ⟨h0, front, r, k, a, hk, hp, h1.trans (ht.below h1.size (fun k hk => Nat.le_trans hB (hS k hk).2)), h2, h5.touch ht (fun hs => (hS _ hs).1 h2)⟩

section
variable {d q e a b c : Int} {u : Bool} {s : ByteArray}
set_option maxRecDepth 100000 in
set_option maxHeartbeats 3200000 in
theorem first_any6 (hs : s.size ≤ 900) (d0 : 0 ≤ d) (d1 : d ≤ 255) (q0 : 0 ≤ q) (q1 : q ≤ 255) (p : Par) (hp : Hid (parW d q e a b c u s = p)) (w : World) :
    Calls Try.prog 16 #[.agg #[.int .u8 d, .int .u8 q, .int .i64 e], .agg #[.int .i64 a, .int .i64 b, .int .i64 c, .bool u], .string s] w fun x w' => x = .returned (.agg #[.int .i64 p.k, .int .i64 p.a]) ∧ Below w.heap.size w w' := by
  have hev := Lib.hid (show evsW d q e a b c u s = evsL p from by rw [evsW_is, hp.out])
  refine (callsIn_wide (n := 5)).1 ?_
  refine callsIn_of_wp_marks Try.func16 rfl trivial ?_ rfl
  simp only [Try.ntmps16, List.size_toArray, List.length_cons, List.length_nil, Nat.reduceAdd, Nat.reduceSub, Array.replicate_succ, Array.replicate_zero, List.push_toArray, List.append_toArray, List.nil_append, List.cons_append]
  gi_wp2
  refine ⟨trivial, callsIn_wide.2 ((walk_any d q e a b c u s _).mono ?_)⟩
  rintro x w1 ⟨rfl, rfl⟩
  gi_wp2
  obtain ⟨W8, hW8⟩ : ∃ W8, (((((w.alloc (.cells #[.int .u8 d, .int .u8 q, .int .i64 e] 23)).alloc (.cells #[.int .i64 a, .int .i64 b, .int .i64 c, .bool u] 25)).alloc (.cells #[.int .i64 0, .int .i64 0] 30)).alloc
      (.cells #[.int .u8 d, .int .u8 q, .int .i64 e] 23)).alloc (.cells #[.int .i64 a, .int .i64 b, .int .i64 c, .bool u] 25)).alloc (.cells #[.string s] 9) = W8 := ⟨_, rfl⟩
  obtain ⟨h, hh⟩ : ∃ h, w.heap.size = h := ⟨_, rfl⟩
  rw [hW8, hh]
  obtain ⟨b6, h6⟩ : ∃ b6, h + 1 + 1 = b6 := ⟨_, rfl⟩
  obtain ⟨b9, h9⟩ : ∃ b9, b6 + 1 = b9 := ⟨_, rfl⟩
  obtain ⟨b10, h10⟩ : ∃ b10, b9 + 1 = b10 := ⟨_, rfl⟩
  obtain ⟨b11, h11⟩ : ∃ b11, b9 + 2 = b11 := ⟨_, rfl⟩
  rw [h6, h9, h10, h11]
  have hz : W8.heap.size = h + 6 := by rw [← hW8]; simp; omega
  have hwle : w.heap.size ≤ W8.heap.size := by omega
  have hbl : Below w.heap.size w W8 := by rw [← hW8]; exact up_alloc (up_alloc (up_alloc (up_alloc (up_alloc (up_alloc (Below.refl _ _) _) _) _) _) _) _
  have s6 : StB W8 b6 30 #[.int .i64 0, .int .i64 0] := by rw [← hW8]; exact (((StB.made _ (by simp; omega) _ _).alloc _).alloc _).alloc _
  have s9 : StB W8 b9 23 #[.int .u8 d, .int .u8 q, .int .i64 e] := by rw [← hW8]; exact ((StB.made _ (by simp; omega) _ _).alloc _).alloc _
  have s10 : StB W8 b10 25 #[.int .i64 a, .int .i64 b, .int .i64 c, .bool u] := by rw [← hW8]; exact (StB.made _ (by simp; omega) _ _).alloc _
  have s11 : StB W8 b11 9 #[.string s] := by rw [← hW8]; exact StB.made _ (by simp; omega) _ _
  have start : FirI w b6 [] W8 (fun k => k = b6) := ⟨(fun p hp => by cases hp), hbl, rfl, by omega, (fun k hk => hk), s6⟩
  have lies : Lies W8 (fun k => k = b6) := fun k hk => by have : k = b6 := hk; omega
  clear hW8 h6 h9 h10 h11 hz hbl s6
  refine wpIn_range_T rfl (by simp [Fence.wide]) (gf := 26) (lb := #[.pointer (some ⟨b9, 0, none⟩), .pointer (some ⟨b10, 0, none⟩), .pointer (some ⟨b11, 0, none⟩)]) rfl trivial (enters_of Try.func26 (by kernel_rfl) rfl)
    (encs := Hx.args) (gh := Hx.gh) (hand := Hx.hand) (blk := Hx.blk) (evs := evsL p) (fun W1 hb => by rw [← hev.out]; exact walk_seq (by omega) hs d0 d1 q0 q1 (s9.below hb) (s10.below hb) (s11.below hb)) hand_keep (fun _ => rfl)
    (FirI w b6) (FirX w b6) (firI_ab _ _ _ hwle) (firX_ab _ _ _ hwle) _ start lies
    (fun x V => { tmps := #[.agg #[.int .u8 d, .int .u8 q, .int .i64 e], .agg #[.int .i64 a, .int .i64 b, .int .i64 c, .bool u], .string s, .pointer (some ⟨h, 0, none⟩), .pointer (some ⟨h + 1, 0, none⟩), undef, .pointer (some ⟨b6, 0, none⟩), undef, .pointer (some ⟨V.heap.size, 0, none⟩),
      .agg #[.int .u8 d, .int .u8 q, .int .i64 e], .agg #[.int .i64 a, .int .i64 b, .int .i64 c, .bool u], .string s, .func (.func 26) #[] #[.pointer (some ⟨b9, 0, none⟩), .pointer (some ⟨b10, 0, none⟩), .pointer (some ⟨b11, 0, none⟩)],
      .slice x.A x.l.length x.c, .agg #[.int .i64 x.k, .int .i64 x.a], undef, undef, undef, undef, undef], defers := [] })
    (fun x V => V.alloc (.cells #[.int .i64 x.k, .int .i64 x.a] 30)) (fun x V => up_alloc (Below.refl _ V) _) ?assign ?body ?done ?stop
  case assign =>
    rintro l ⟨xA, xc, xl, xk, xa⟩ W K hK
    dsimp only [Hx.args] at hK ⊢
    gi_wp2
    exact hK
  case body =>
    rintro l pre x V W T ⟨hz0, hlow, hT6, hle, hT, s6⟩ hlT hpre hhand hblk hge htouch hl
    have hbox := (StB.new V 30 #[.int .i64 x.k, .int .i64 x.a]).touch htouch (by intro e; omega)
    obtain ⟨F, hF⟩ : ∃ F, V.heap.size = F := ⟨_, rfl⟩
    rw [hF] at hbox hl
    rw [hF]
    have k0 : W.cell? ⟨F, 0, none⟩ = some (.int .i64 x.k) := hbox.cell 0
    have k1 : W.cell? ⟨F, 1, none⟩ = some (.int .i64 x.a) := hbox.cell 1
    have kl := hbox.lt
    have r0 := s6.cell 0
    have r1 := s6.cell 1
    have r2 := s6.free 0
    have r3 := s6.free 1
    have r4 := s6.lt
    have hlt6 := hlT b6 hT6
    have hF6 : ¬ F = b6 := by omega
    have h6F : ¬ b6 = F := by omega
    have hlW : Lies W T := hlT.later (Nat.le_trans (up_alloc (Below.refl _ V) _).size htouch.size)
    have HZ0 := Lib.hid hz0
    have S6 := Lib.hid s6
    have HLO := Lib.hid hlow
    clear hz0 s6 hlow
    by_cases hk : x.k = 0
    · rw [hk] at k0
      gi_wp2
      refine ⟨T, hlW, (fun k hk => .inl (.inl hk)), Touch.refl _ _, ?_, HLO.out, hT6, hle, hT, S6.out⟩
      intro p hp
      rcases List.mem_append.1 hp with h1 | h1
      · exact HZ0.out p h1
      · simp at h1; subst h1; exact hk
    · have hkb : (x.k != 0) = true := by simpa using hk
      gi_wp2
      have T1 := (Touch.refl W (fun k => k = b6)).then_set (p := ⟨b6, 0, none⟩) (.inl rfl) (.int .i64 x.k)
      have T2 := T1.then_set (p := ⟨b6, 1, none⟩) (.inl rfl) (.int .i64 x.a)
      exact ⟨T, hlW.later T2.size, (fun k hk => .inl (.inl hk)), T2.mono (fun k hk => by have : k = b6 := hk; rw [this]; exact hT6), rfl, pre, x.l, x.k, x.a, hk, rfl, HLO.out.trans (T2.below HLO.out.size (fun k hk => by have : k = b6 := hk; omega)), hT6, (S6.out.set_ 0 _).set_ 1 _⟩
  case done =>
    rintro D W T hD ⟨hz0, hlow, hT6, hle, hT, s6⟩ hlT hTD hK
    obtain ⟨e0, e1⟩ := evsL_done hz0
    have ea : p.a = 0 := by rw [← hp.out]; exact parW_zero _ _ _ _ _ _ _ _ (by rw [hp.out]; exact e0)
    have r0 := s6.cell 0
    have r1 := s6.cell 1
    have r2 := s6.free 0
    have r3 := s6.free 1
    have r4 := s6.lt
    have n1 : ¬ D = b6 := fun e => hTD (e ▸ hT6)
    have T1 := (Touch.refl W (fun k => k = b6)).then_set (p := ⟨b6, 0, none⟩) (.inl rfl) (.int .i64 0)
    have T2 := T1.then_set (p := ⟨b6, 1, none⟩) (.inl rfl) (.int .i64 0)
    have hK' := (T2.block D (Array.getElem?_eq_some_iff.1 hK).1 n1).trans hK
    have h6 : StB (((W.setCell ⟨b6, 0, none⟩ (.int .i64 0)).setCell ⟨b6, 1, none⟩ (.int .i64 0)).putObj D (.deferred none)) b6 30 #[.int .i64 0, .int .i64 0] := StB.touch (show StB ((W.setCell ⟨b6, 0, none⟩ (.int .i64 0)).setCell ⟨b6, 1, none⟩ (.int .i64 0)) b6 30 #[.int .i64 0, .int .i64 0] from (s6.set_ 0 _).set_ 1 _) (Touch.putObj _ D _) (fun e => n1 e.symm)
    have hb := (hlow.trans (T2.below hlow.size (fun k hk => by have : k = b6 := hk; omega))).trans ((Touch.putObj ((W.setCell ⟨b6, 0, none⟩ (.int .i64 0)).setCell ⟨b6, 1, none⟩ (.int .i64 0)) D (.deferred none)).below (Nat.le_trans hlow.size T2.size) (fun k hk => by have : k = D := hk; omega))
    clear T1 T2 hK hlow s6
    gi_wp2
    refine ⟨by simp, .inl ⟨_, _, rfl, run_takeDeferred hK', ?_⟩⟩
    have y0 := h6.cell 0
    have y1 := h6.cell 1
    refine ⟨.agg #[.int .i64 0, .int .i64 0], ?_, by rw [e0, ea], hb⟩
    clear h6 hb
    simp [results, Try.results16, go_sem, y0, y1]
  case stop =>
    rintro D code pre W T hD hpre ⟨rfl, front, r, k, aa, hk, rfl, hlow, hT6, s6⟩ hlT hTD hK
    obtain ⟨e1, rfl, rfl, _⟩ := evsL_stop hpre hk
    have n1 : ¬ D = b6 := fun e => hTD (e ▸ hT6)
    have h6 := s6.touch (Touch.putObj W D (.deferred none)) (fun e => n1 e.symm)
    have hb := hlow.trans ((Touch.putObj W D (.deferred none)).below hlow.size (fun k hk => by have : k = D := hk; omega))
    clear hlow s6
    gi_wp2
    refine ⟨by simp, .inl ⟨_, _, rfl, run_takeDeferred hK, ?_⟩⟩
    have y0 := h6.cell 0
    have y1 := h6.cell 1
    refine ⟨.agg #[.int .i64 p.k, .int .i64 p.a], ?_, rfl, hb⟩
    clear h6 hb
    simp [results, Try.results16, go_sem, y0, y1]
end
end Go.Proofs.Ytbglecaahopgdaa

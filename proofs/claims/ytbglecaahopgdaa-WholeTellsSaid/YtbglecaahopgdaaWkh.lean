/- Layer 6: the contract of Parse. -/
import Derived.Test.YtbglecaahopgdaaWkg
namespace Go.Proofs.Ytbglecaahopgdaa
open Go.ChangeShapes Go.WideShapes Go.ChangeAt Go.RowKit
set_option linter.unusedVariables false
set_option linter.unusedSimpArgs false
attribute [local go_sem] Oper.semAt_some

theorem hand_keep : ∀ (x : Hx) (W W' : World) (S : Nat → Prop), x.hand W → Touch W W' S → (∀ k, S k → ¬ x.blk k) → (∀ k, x.blk k → k < W.heap.size) → x.hand W' := fun x W W' S h ht hS _ => SlOwn.touch h ht (fun k hk hs => hS k hs hk)
theorem infoRows : (Try.prog.info? 50).map (fun i => (i.zero, i.size, i.bytes)) = some (some (.slice none 0 0), 1, 24) := by kernel_rfl

/-- What Parse answers. -/
def ParOut (p : Par) (w : World) (x : Ending) (w' : World) : Prop :=
  ∃ C c V, x = .returned (.tuple #[.slice C p.rs.length c, .agg #[.int .i64 p.k, .int .i64 p.a]]) ∧ Hid (SlIn w' C p.rs.length V ∧ RowsIn w' V p.rs) ∧ Hid (Below w.heap.size w w')

section
variable {d q e a b c : Int} {u : Bool} {s : ByteArray}
set_option maxRecDepth 100000 in
set_option maxHeartbeats 3200000 in
theorem parse_any (hs : s.size ≤ 900) (d0 : 0 ≤ d) (d1 : d ≤ 255) (q0 : 0 ≤ q) (q1 : q ≤ 255) (p : Par) (hp : Hid (parW d q e a b c u s = p)) (w : World) :
    Calls Try.prog 8 #[.agg #[.int .u8 d, .int .u8 q, .int .i64 e], .agg #[.int .i64 a, .int .i64 b, .int .i64 c, .bool u], .string s] w (ParOut p w) := by
  obtain ⟨i0, hi, hz0, hz1, hz2⟩ := info_parts infoRows
  have Hi := Lib.hid hi
  have Hz0 := Lib.hid hz0
  have Hz1 := Lib.hid hz1
  have Hz2 := Lib.hid hz2
  clear hi hz0 hz1 hz2
  have hev := Lib.hid (show evsW d q e a b c u s = evsL p from by rw [evsW_is, hp.out])
  have hfew := Lib.hid (show p.rs.length ≤ s.size + 1 from by rw [← hp.out]; exact parW_few _ _ _ _ _ _ _ _)
  refine (callsIn_wide (n := 5)).1 ?_
  refine callsIn_of_wp_marks Try.func8 rfl trivial ?_ rfl
  simp only [Try.ntmps8, List.size_toArray, List.length_cons, List.length_nil, Nat.reduceAdd, Nat.reduceSub, Array.replicate_succ, Array.replicate_zero, List.push_toArray, List.append_toArray, List.nil_append, List.cons_append]
  gi_wp2
  refine ⟨trivial, callsIn_wide.2 ((walk_any d q e a b c u s _).mono ?_)⟩
  rintro x w1 ⟨rfl, rfl⟩
  gi_wp2
  obtain ⟨W8, hW8⟩ : ∃ W8, (((((((w.alloc (.cells #[.int .u8 d, .int .u8 q, .int .i64 e] 23)).alloc (.cells #[.int .i64 a, .int .i64 b, .int .i64 c, .bool u] 25)).alloc (.cells #[.slice none 0 0] 27)).alloc
      (.cells #[.int .i64 0, .int .i64 0] 30)).alloc (.cells #[.slice none 0 0] 27)).alloc (.cells #[.int .u8 d, .int .u8 q, .int .i64 e] 23)).alloc (.cells #[.int .i64 a, .int .i64 b, .int .i64 c, .bool u] 25)).alloc (.cells #[.string s] 9) = W8 := ⟨_, rfl⟩
  obtain ⟨h, hh⟩ : ∃ h, w.heap.size = h := ⟨_, rfl⟩
  rw [hW8, hh]
  obtain ⟨b6, h6⟩ : ∃ b6, h + 1 + 1 = b6 := ⟨_, rfl⟩
  obtain ⟨b7, h7⟩ : ∃ b7, b6 + 1 = b7 := ⟨_, rfl⟩
  obtain ⟨b8, h8⟩ : ∃ b8, b7 + 1 = b8 := ⟨_, rfl⟩
  obtain ⟨b9, h9⟩ : ∃ b9, b8 + 1 = b9 := ⟨_, rfl⟩
  obtain ⟨b10, h10⟩ : ∃ b10, b9 + 1 = b10 := ⟨_, rfl⟩
  obtain ⟨b11, h11⟩ : ∃ b11, b9 + 2 = b11 := ⟨_, rfl⟩
  rw [h6, h7, h8, h9, h10, h11]
  obtain ⟨start, lies, s9, s10, s11, hz⟩ := parse_start d q e a b c u s w hW8.symm hh (b6 := b6) (b7 := b7) (b8 := b8) (b9 := b9) (b10 := b10) (b11 := b11) (by omega) (by omega) (by omega) (by omega) (by omega) (by omega)
  have hwle : w.heap.size ≤ W8.heap.size := by omega
  clear hW8 h6 h7 h8 h9 h10 h11 hz
  refine wpIn_range_T rfl (by simp [Fence.wide]) (gf := 26) (lb := #[.pointer (some ⟨b9, 0, none⟩), .pointer (some ⟨b10, 0, none⟩), .pointer (some ⟨b11, 0, none⟩)]) rfl trivial (enters_of Try.func26 (by kernel_rfl) rfl)
    (encs := Hx.args) (gh := Hx.gh) (hand := Hx.hand) (blk := Hx.blk) (evs := evsL p) (fun W1 hb => by rw [← hev.out]; exact walk_seq (by omega) hs d0 d1 q0 q1 (s9.below hb) (s10.below hb) (s11.below hb)) hand_keep (fun _ => rfl)
    (ParI w b6 b7 b8) (ParX w b6 b7 b8) (parI_ab _ _ _ _ _ hwle) (parX_ab _ _ _ _ _ hwle) _ start lies
    (fun x V => { tmps := #[.agg #[.int .u8 d, .int .u8 q, .int .i64 e], .agg #[.int .i64 a, .int .i64 b, .int .i64 c, .bool u], .string s, .pointer (some ⟨h, 0, none⟩), .pointer (some ⟨h + 1, 0, none⟩), undef, .pointer (some ⟨b6, 0, none⟩), .pointer (some ⟨b7, 0, none⟩), .pointer (some ⟨b8, 0, none⟩),
      .slice x.A x.l.length x.c, .pointer (some ⟨V.heap.size, 0, none⟩), .agg #[.int .u8 d, .int .u8 q, .int .i64 e], .agg #[.int .i64 a, .int .i64 b, .int .i64 c, .bool u], .string s, .func (.func 26) #[] #[.pointer (some ⟨b9, 0, none⟩), .pointer (some ⟨b10, 0, none⟩), .pointer (some ⟨b11, 0, none⟩)],
      .slice x.A x.l.length x.c, .agg #[.int .i64 x.k, .int .i64 x.a], undef, undef, undef, undef, undef, undef, undef, undef, undef, undef, undef], defers := [] })
    (fun x V => V.alloc (.cells #[.int .i64 x.k, .int .i64 x.a] 30)) (fun x V => up_alloc (Below.refl _ V) _) ?assign ?body ?done ?stop
  case assign =>
    rintro l ⟨xA, xc, xl, xk, xa⟩ W K hK
    dsimp only [Hx.args] at hK ⊢
    gi_wp2
    exact hK
  case body =>
    rintro l pre x V W T ⟨hz0, C, cc, VV, hb⟩ hlT hpre hhand hblk hge htouch hl
    have hbox := (StB.new V 30 #[.int .i64 x.k, .int .i64 x.a]).touch htouch (by intro e; omega)
    obtain ⟨F, hF⟩ : ∃ F, V.heap.size = F := ⟨_, rfl⟩
    rw [hF] at hbox hl
    rw [hF]
    have k0 : W.cell? ⟨F, 0, none⟩ = some (.int .i64 x.k) := hbox.cell 0
    have k1 : W.cell? ⟨F, 1, none⟩ = some (.int .i64 x.a) := hbox.cell 1
    have kl := hbox.lt
    have m0 : W.cell? ⟨b8, 0, none⟩ = some (.slice C (pre.map (·.1)).length cc) := hb.c8.cell 0
    have m1 := hb.c8.free 0
    have m2 := hb.c8.lt
    obtain ⟨n, hn⟩ : ∃ n, (pre.map (·.1)).length = n := ⟨_, rfl⟩
    have hlW : Lies W T := hlT.later (Nat.le_trans (up_alloc (Below.refl _ V) _).size htouch.size)
    have HB := Lib.hid hb
    have hHz := Lib.hid hz0
    have HH := Lib.hid hhand
    rw [hn] at m0
    obtain ⟨ne1, ne2, ne3⟩ := hb.ne
    clear hb hz0 hhand
    by_cases hk : x.k = 0
    · have hpart := evsL_part hpre hk
      have hnl : n < p.rs.length := by rw [← hn, List.length_map]; exact hpart.2
      have hn900 : n ≤ 901 := by have := hfew.out; omega
      have HO := Lib.hid (show SlOwn (W.alloc (.cells #[.slice x.A x.l.length x.c] 50)) 0 50 C n cc VV by have := HB.out.own.below (up_alloc (Below.refl _ W) (.cells #[.slice x.A x.l.length x.c] 50)); rw [hn] at this; exact this)
      have HI := Lib.hid (slIn_new1 W 50 (.slice x.A x.l.length x.c))
      rw [hk] at k0
      have hne8 : some b8 ≠ blkOf C := fun e => HB.out.own.unlike_st HB.out.c8 (by decide) b8 e.symm rfl
      have H8 := Lib.hid HB.out.c8
      rw [hn] at H8
      clear hpart
      gi_wp2_with (gi_at_builtin; refine wpListIn_append_sl _ rfl (.tmp 22) (.tmp 24) 27 rfl 50 i0 _ 24 Try.underlying27 Hi.out Hz0.out Hz1.out Hz2.out rfl 0 C n cc VV rfl HO.out (some ⟨W.heap.size, 0, none⟩) 1 1 [.slice x.A x.l.length x.c] rfl HI.out (by intro v hv; simp at hv; subst hv; rfl) (by unfold maxLen; omega) (by omega) (Nat.zero_le _) ?_; intro A' c' w' hown hgrow hat; have G8 := (H8.out.alloc _).grown hgrow hne8; have g0 := G8.cell 0; have g1 := G8.free 0; have g2 := G8.lt; have HOW := Lib.hid hown; have HGR := Lib.hid hgrow; have HAT := Lib.hid hat; clear G8 hown hgrow hat)
      exact parI_step hHz.out hk HB.out hlW hn.symm HH.out (fun k hk' => ⟨(hblk k hk').1, by have := (hblk k hk').2.1; omega, by have := (hblk k hk').2.2; have := htouch.size; have := (up_alloc (Below.refl _ V) (.cells #[.int .i64 x.k, .int .i64 x.a] 30)).size; omega⟩) HOW.out HGR.out (by simpa using HAT.out)
    · have hkb : (x.k != 0) = true := by simpa using hk
      have r0 := HB.out.c6.cell 0
      have r1 := HB.out.c6.free 0
      have r2 := HB.out.c6.lt
      have r3 := HB.out.c7.cell 0
      have r4 := HB.out.c7.cell 1
      have r5 := HB.out.c7.free 0
      have r6 := HB.out.c7.free 1
      have r7 := HB.out.c7.lt
      have hFl : ∀ k, T k → ¬ k = F ∧ ¬ F = k := fun k hk' => by have := hlT k hk'; omega
      obtain ⟨g1, g2⟩ := hFl b6 HB.out.t6
      obtain ⟨g3, g4⟩ := hFl b7 HB.out.t7
      obtain ⟨g5, g6⟩ := hFl b8 HB.out.t8
      have ne4 : ¬ b8 = b6 := fun e => ne2 e.symm
      have ne5 : ¬ b8 = b7 := fun e => ne3 e.symm
      have ne6 : ¬ b7 = b6 := fun e => ne1 e.symm
      have hmx : Try.prog.follows .mixedOrders = true := by kernel_rfl
      gi_wp2
      gi_region_with_o (fail)
      all_goals gi_wp2
      all_goals exact parX_step hHz.out hk HB.out hlW hn.symm (Touch.then_drew (Touch.refl _ _))
  case done =>
    rintro D W T hD ⟨hz0, C, cc, VV, hb⟩ hlT hTD hK
    have m0 := hb.c8.cell 0
    have m2 := hb.c8.lt
    have r0 := hb.c6.cell 0
    have r1 := hb.c6.free 0
    have r2 := hb.c6.lt
    have r3 := hb.c7.cell 0
    have r4 := hb.c7.cell 1
    have r5 := hb.c7.free 0
    have r6 := hb.c7.free 1
    have r7 := hb.c7.lt
    obtain ⟨ne1, ne2, ne3⟩ := hb.ne
    have HB := Lib.hid hb
    clear hb
    obtain ⟨e0, e1⟩ := evsL_done hz0
    rw [e1] at HB m0
    obtain ⟨h1, h2⟩ := HB.out.set3 (.slice C p.rs.length cc) (.int .i64 0) (.int .i64 0)
    have h3 := h1.later (Touch.putObj _ D (.deferred none)) (Nat.le_trans hwle hD) (fun k hk => by subst hk; exact ⟨hTD, Nat.le_refl _⟩)
    have hK' := (h2.block D (Array.getElem?_eq_some_iff.1 hK).1 hTD).trans hK
    clear hK h2 h1 HB
    gi_wp2
    refine ⟨by simp, .inl ⟨_, _, rfl, run_takeDeferred hK', ?_⟩⟩
    have y0 := h3.c6.cell 0
    have y1 := h3.c7.cell 0
    have y2 := h3.c7.cell 1
    have ea : p.a = 0 := by rw [← hp.out]; exact parW_zero _ _ _ _ _ _ _ _ (by rw [hp.out]; exact e0)
    refine ⟨.tuple #[.slice C p.rs.length cc, .agg #[.int .i64 0, .int .i64 0]], ?_, C, cc, VV, by rw [e0, ea], Lib.hid ⟨h3.own.toIn, h3.rows.toIn⟩, Lib.hid h3.low⟩
    clear h3
    simp [results, Try.results8, go_sem, y0, y1, y2]
  case stop =>
    rintro D code pre W T hD hpre ⟨rfl, front, r, k, aa, C, cc, VV, hk, rfl, hb⟩ hlT hTD hK
    obtain ⟨e1, rfl, rfl, _⟩ := evsL_stop hpre hk
    have e2 : front.length = p.rs.length := by rw [← e1, List.length_map]
    rw [e1, e2] at hb
    have h3 := hb.later (Touch.putObj _ D (.deferred none)) (Nat.le_trans hwle hD) (fun k hk => by subst hk; exact ⟨hTD, Nat.le_refl _⟩)
    clear hb
    gi_wp2
    refine ⟨by simp, .inl ⟨_, _, rfl, run_takeDeferred hK, ?_⟩⟩
    have y0 := h3.c6.cell 0
    have y1 := h3.c7.cell 0
    have y2 := h3.c7.cell 1
    refine ⟨.tuple #[.slice C p.rs.length cc, .agg #[.int .i64 p.k, .int .i64 p.a]], ?_, C, cc, VV, rfl, Lib.hid ⟨h3.own.toIn, h3.rows.toIn⟩, Lib.hid h3.low⟩
    clear h3
    simp [results, Try.results8, go_sem, y0, y1, y2]
end
end Go.Proofs.Ytbglecaahopgdaa

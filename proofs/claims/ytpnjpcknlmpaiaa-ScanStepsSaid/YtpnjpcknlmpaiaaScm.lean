/- Layer 4: the walk of the statement ScanRuns. -/
import Derived.Test.YtpnjpcknlmpaiaaSck
import Derived.Test.YtpnjpcknlmpaiaaScj
import Derived.Test.YtpnjpcknlmpaiaaScr
import Derived.Deep.DeepCutAuto
import Derived.Deep.RegionWith
namespace Go.Proofs.Ytpnjpcknlmpaiaa
open Go.ChangeShapes Go.WideShapes Go.ChangeAt Go.RowKit
set_option linter.unusedVariables false
set_option linter.unusedSimpArgs false

/-- Where the rounds are: m events are told. -/
def RunInv (d q e : Int) (b : List Int) (m : Nat) (st : Int) : Prop :=
  (m ≤ b.length ∧ ∃ pre : List Ev, pre.length = m ∧ runE d q e 0 b = pre ++ runE d q e st (b.drop m) ∧ runK d q e 0 b = runK d q e st (b.drop m)) ∨
  (m = b.length + 1 ∧ runK d q e 0 b = 0 ∧ (runE d q e 0 b).length = b.length + 1)
theorem RunInv.start (d q e : Int) (b : List Int) : RunInv d q e b 0 0 := .inl ⟨Nat.zero_le _, [], rfl, rfl, rfl⟩
/-- A byte with an error: the run ends there. -/
theorem RunInv.bad {d q e : Int} {b : List Int} {m : Nat} {st x : Int} {r : List Int} (h : RunInv d q e b m st) (hd : b.drop m = x :: r) (hk : (stepR d q e st x).k ≠ 0) :
    (runE d q e 0 b).length = m ∧ runK d q e 0 b = (stepR d q e st x).k ∧ runA d q e 0 b = m := by
  rcases h with ⟨_, pre, h1, h2, h3⟩ | ⟨h1, _⟩
  · have e1 : runE d q e 0 b = pre := by rw [h2, hd, runE, if_neg hk, List.append_nil]
    have e2 : runK d q e 0 b = (stepR d q e st x).k := by rw [h3, hd, runK, if_neg hk]
    exact ⟨by rw [e1, h1], e2, by rw [runA, e2, if_neg hk, e1, h1]⟩
  · rw [List.drop_eq_nil_of_le (by omega)] at hd; cases hd
theorem RunInv.good {d q e : Int} {b : List Int} {m : Nat} {st x : Int} {r : List Int} (h : RunInv d q e b m st) (hd : b.drop m = x :: r) (hk : (stepR d q e st x).k = 0) :
    (runE d q e 0 b)[m]? = some (stepR d q e st x).ev ∧ RunInv d q e b (m + 1) (stepR d q e st x).n := by
  rcases h with ⟨hm, pre, h1, h2, h3⟩ | ⟨h1, _⟩
  · have hr : b.drop (m + 1) = r := by rw [← List.drop_drop, hd]; rfl
    have hlt : m < b.length := by
      rcases Nat.lt_or_ge m b.length with h | h
      · exact h
      · rw [List.drop_eq_nil_of_le h] at hd; cases hd
    have e1 : runE d q e 0 b = pre ++ ((stepR d q e st x).ev :: runE d q e (stepR d q e st x).n r) := by rw [h2, hd, runE, if_pos hk]
    refine ⟨by rw [e1, List.getElem?_append_right (by omega), h1]; simp, .inl ⟨hlt, pre ++ [(stepR d q e st x).ev], by simp [h1], ?_, ?_⟩⟩
    · rw [e1, hr]; simp
    · rw [h3, hd, runK, if_pos hk, hr]
  · rw [List.drop_eq_nil_of_le (by omega)] at hd; cases hd
theorem RunInv.badEnd {d q e : Int} {b : List Int} {st : Int} (h : RunInv d q e b b.length st) (hk : closeK st ≠ 0) :
    (runE d q e 0 b).length = b.length ∧ runK d q e 0 b = closeK st ∧ runA d q e 0 b = b.length := by
  rcases h with ⟨_, pre, h1, h2, h3⟩ | ⟨h1, _⟩
  · have hd : b.drop b.length = [] := List.drop_eq_nil_of_le (Nat.le_refl _)
    have e1 : runE d q e 0 b = pre := by rw [h2, hd, runE, if_neg hk, List.append_nil]
    have e2 : runK d q e 0 b = closeK st := by rw [h3, hd, runK]
    exact ⟨by rw [e1, h1], e2, by rw [runA, e2, if_neg hk, e1, h1]⟩
  · omega
theorem RunInv.goodEnd {d q e : Int} {b : List Int} {st : Int} (h : RunInv d q e b b.length st) (hk : closeK st = 0) (u : Int) :
    (runE d q e 0 b)[b.length]? = some (closeE st) ∧ RunInv d q e b (b.length + 1) u := by
  rcases h with ⟨_, pre, h1, h2, h3⟩ | ⟨h1, _⟩
  · have hd : b.drop b.length = [] := List.drop_eq_nil_of_le (Nat.le_refl _)
    have e1 : runE d q e 0 b = pre ++ [closeE st] := by rw [h2, hd, runE, if_pos hk]
    have e2 : runK d q e 0 b = 0 := by rw [h3, hd, runK, hk]
    exact ⟨by rw [e1, List.getElem?_append_right (by omega), h1]; simp, .inr ⟨rfl, e2, by rw [e1]; simp [h1]⟩⟩
  · omega
theorem RunInv.end_ {d q e : Int} {b : List Int} {st : Int} (h : RunInv d q e b (b.length + 1) st) : runK d q e 0 b = 0 ∧ (runE d q e 0 b).length = b.length + 1 ∧ runA d q e 0 b = 0 := by
  rcases h with ⟨h1, _⟩ | ⟨_, h2, h3⟩
  · omega
  · exact ⟨h2, h3, by rw [runA, if_pos h2]⟩
theorem scRef_neq (x0 x1 x2 x3 x4 x5 : Int) (w : World) : (binOp .neq 35 (.agg #[.int .i64 x0, .int .i64 x1, .int .i64 x2, .int .i64 x3, .int .i64 x4, .int .i64 x5]) (.agg #[.int .i64 x0, .int .i64 x1, .int .i64 x2, .int .i64 x3, .int .i64 x4, .int .i64 x5])).run Try.prog w = .ok (.bool false) w := by
  have hp : Try.prog.stoodInHeld 35 = false := by kernel_rfl
  simp [run_neq_struct, run_equalIn_agg, Program.fieldsOf, Try.underlying35, hp, Op.eqFields, go_sem]

theorem run_join3 {V : World} {y : Above V} {T : TypeId} {z : Array Value} {X : World} (hX : Below (onto V y).heap.size (onto V y) X) (hst : StB X (onto V y).heap.size T z) (hz : z.size = 6) (zz : Above X) {u0 u1 u2 u3 u4 u5 : Value} :
    Hid (∃ x, ((((((onto X zz).setCell ⟨(onto V y).heap.size, 0, none⟩ u0).setCell ⟨(onto V y).heap.size, 1, none⟩ u1).setCell ⟨(onto V y).heap.size, 2, none⟩ u2).setCell ⟨(onto V y).heap.size, 3, none⟩ u3).setCell ⟨(onto V y).heap.size, 4, none⟩ u4).setCell ⟨(onto V y).heap.size, 5, none⟩ u5 = onto V x) ∧
    Hid (SlIn (((((((onto X zz).setCell ⟨(onto V y).heap.size, 0, none⟩ u0).setCell ⟨(onto V y).heap.size, 1, none⟩ u1).setCell ⟨(onto V y).heap.size, 2, none⟩ u2).setCell ⟨(onto V y).heap.size, 3, none⟩ u3).setCell ⟨(onto V y).heap.size, 4, none⟩ u4).setCell ⟨(onto V y).heap.size, 5, none⟩ u5) (some ⟨(onto V y).heap.size, 0, none⟩) 6 [u0, u1, u2, u3, u4, u5]) := by
  obtain ⟨U, hU⟩ : ∃ U, U = onto X zz := ⟨_, rfl⟩
  obtain ⟨g, hg⟩ : ∃ g, g = (onto V y).heap.size := ⟨_, rfl⟩
  have hbU : Below (onto V y).heap.size (onto V y) U := by rw [hU]; exact up_onto hX zz
  have hsU : StB U g T z := by rw [hU, hg]; exact hst.onto zz
  rw [← hU, ← hg]
  have S6 := (((((hsU.set_ 0 u0).set_ 1 u1).set_ 2 u2).set_ 3 u3).set_ 4 u4).set_ 5 u5
  have hl : (onto V y).heap.size ≤ g := by rw [hg]; exact Nat.le_refl _
  have hb := (((((hbU.setCell (p := ⟨g, 0, none⟩) hl u0).setCell (p := ⟨g, 1, none⟩) hl u1).setCell (p := ⟨g, 2, none⟩) hl u2).setCell (p := ⟨g, 3, none⟩) hl u3).setCell (p := ⟨g, 4, none⟩) hl u4).setCell (p := ⟨g, 5, none⟩) hl u5
  refine ⟨Lib.hid (onto_of ((onto_below V y).trans (hb.mono (onto_size V y)))), Lib.hid (slIn6 ?_ ?_ ?_ ?_ ?_ ?_)⟩ <;> rw [S6.cell] <;> simp [hz]

set_option maxHeartbeats 1600000 in
set_option maxRecDepth 100000 in
theorem scanRuns_yes (HR : Hid RefStepIs) (d q e : Int) (s : ByteArray) (w : World) (d0 : 0 ≤ d) (d1 : d ≤ 255) (q0 : 0 ≤ q) (q1 : q ≤ 255) (hl : s.size ≤ 300) (R : Hid (right4 d q e = true)) :
    Calls Try.prog 5 #[.agg #[.int .u8 d, .int .u8 q, .int .i64 e], .string s] w fun x w' => x = .returned (.bool true) ∧ Below w.heap.size w w' := by
  have hs1 : s.size ≤ 9223372036854775807 := by omega
  have hsm : s.size ≤ 1000000 := by omega
  obtain ⟨l, hE⟩ : ∃ l, runE d q e 0 (bl s) = l := ⟨_, rfl⟩
  obtain ⟨k, hK⟩ : ∃ k, runK d q e 0 (bl s) = k := ⟨_, rfl⟩
  obtain ⟨a, hA⟩ : ∃ a, runA d q e 0 (bl s) = a := ⟨_, rfl⟩
  obtain ⟨n, hN⟩ : ∃ n, l.length = n := ⟨_, rfl⟩
  have E := Lib.hid hE
  have K := Lib.hid hK
  have A1 := Lib.hid hA
  have N := Lib.hid hN
  have hn : n ≤ 301 := by
    have := runE_le d q e 0 (bl s)
    rw [hE, hN, bl_length] at this; omega
  have HL := Lib.hid (bl_length s)
  have INV := Lib.hid (RunInv.start d q e (bl s))
  clear hE hK hA hN
  have hfe := scFault_eql
  have hrn := scRef_neq
  go_enter Try.func5, Try.ntmps5
  go_upto_region 4 with (first
    | (go_at_call 8; ((with_reducible refine (above (ref_any _ _ _ d0 d1 q0 q1 _)).mono ?_); rintro x _ ⟨rfl, y, rfl⟩))
    | (go_at_call 7; ((with_reducible refine (above (refRight_is _ _ _ _ R _)).mono ?_); rintro x _ ⟨rfl, y2, rfl⟩))
    | (go_at_call 15; ((with_reducible refine (run_is d q e s hsm l n k a E N K A1 _).mono ?_); rintro x _ ⟨A, c, rfl, H1, y3, rfl⟩)))
  have H2 := Lib.hid ((H1.out.alloc (.cells #[.int .i64 k, .int .i64 a] 47)).mono (Nat.zero_le _))
  go_cut [6, 7] (fun s6 s7 wx => ∃ g6 : Nat, s6 = .pointer (some ⟨g6, 0, none⟩) ∧ s7 = .int .i64 0 ∧ Hid (Below w.heap.size w wx) ∧ Hid (SlMany wx 0 30 6 A n c (flat l)) ∧ Hid (wx.cell? ⟨g6, 0, none⟩ = some (.int .i64 k) ∧ wx.cell? ⟨g6, 1, none⟩ = some (.int .i64 a)) ∧
    Hid (wx.cell? ⟨w.heap.size, 0, none⟩ = some (.int .u8 d) ∧ wx.cell? ⟨w.heap.size, 1, none⟩ = some (.int .u8 q) ∧ wx.cell? ⟨w.heap.size, 2, none⟩ = some (.int .i64 e)))
  case first =>
    go_wp2_with fail
    go_meet
    refine ⟨_, rfl, rfl, Lib.hid ?_, H2, Lib.hid ⟨?_, ?_⟩, Lib.hid ⟨?_, ?_, ?_⟩⟩
    · exact up_alloc (up_onto (up_alloc (Below.refl _ _) _) _) _
    all_goals simp [go_sem]
  case rest =>
    obtain ⟨g6, rfl, rfl, HB, HS, HF, HD⟩ := hcut
    obtain ⟨f0, f1⟩ := HF.out
    obtain ⟨v0, v1, v2⟩ := HD.out
    have u0 := lt_of_cell v0
    have u6 := lt_of_cell f0
    simp only at u0 u6
    clear H1 H2 HF HD
    obtain ⟨V, hV⟩ : ∃ V, V = wc := ⟨_, rfl⟩
    subst hV
    go_wp2_with fail
    go_loopw [7, 8, 9, 10] (fun st i _ _ wr => ∃ (m : Nat) (t : Int), m ≤ s.size + 1 ∧ i = .int .i64 m ∧ st = .int .i64 t ∧ 0 ≤ t ∧ t ≤ 6 ∧ Hid (∃ y, wr = onto V y) ∧ Hid (RunInv d q e (bl s) m t)) (fun _ i _ _ _ => s.size + 1 - (intOf i).toNat)
    case atStart => exact ⟨0, 0, by omega, rfl, rfl, by omega, by omega, Lib.hid (onto_self V), INV⟩
    case round =>
      obtain ⟨m, t, hm, rfl, rfl, t0, t6, HY, HI⟩ := hrel
      obtain ⟨y, rfl⟩ := HY.out
      clear HY INV
      by_cases hlt : m < s.size
      · have hd := bl_drop s m hlt
        have HDR := Lib.hid hd
        have hz := stepR_b (d := d) (q := q) (e := e) (s := t) (b := ((s[m].toNat : Nat) : Int)) (byte_lo _) (byte_hi _)
        obtain ⟨⟨⟨bg, ad, fi, li, re, pb⟩, nx, kk⟩, hv⟩ : ∃ v, stepR d q e t ((s[m].toNat : Nat) : Int) = v := ⟨_, rfl⟩
        have hnx := stepR_n (d := d) (q := q) (e := e) (s := t) (b := ((s[m].toNat : Nat) : Int))
        rw [hv] at hz hnx
        obtain ⟨p0, p1⟩ := hz
        have SV := Lib.hid hv
        clear hd hv
        have hwr : IntKind.i64.wrap ((s[m].toNat : Nat) : Int) = ((s[m].toNat : Nat) : Int) := IntWalk.i64_in _ (by have := byte_lo s[m]; have := byte_hi s[m]; omega)
        go_upto_region 11 with fail
        go_cut [7, 9, 10] (fun s7 s9 s10 wx => s7 = .int .i64 nx ∧ s10 = .int .i64 kk ∧ ∃ g9 : Nat, s9 = .pointer (some ⟨g9, 0, none⟩) ∧ Hid (∃ x, wx = onto V x) ∧ Hid (SlIn wx (some ⟨g9, 0, none⟩) 6 [.int .i64 (bitI bg), .int .i64 (bitI ad), .int .i64 (bitI fi), .int .i64 (bitI li), .int .i64 (bitI re), .int .i64 pb]))
        case first =>
          go_region_with (first
            | (go_at_call 8; ((with_reducible refine (above (ref_any _ _ _ d0 d1 q0 q1 _)).mono ?_); rintro x _ ⟨rfl, yy, rfl⟩))
            | (go_at_call 11; ((with_reducible refine (above (HR.out d q e t _ t0 t6 R _ _ _ _ _ _ _ _ SV _)).mono ?_); rintro x _ ⟨rfl, yz, rfl⟩)))
          all_goals (go_wp2_with fail; go_meet)
          all_goals refine ⟨rfl, rfl, _, rfl, ?_⟩
          all_goals with_reducible exact run_join3 (up_drew (up_alloc (Below.refl _ _) _)) ((StB.new _ _ _).drew) rfl _
        case rest =>
          obtain ⟨rfl, rfl, g9, rfl, HX, HC9⟩ := hcut
          obtain ⟨x, hx0⟩ := HX.out
          have HBV := Lib.hid (show Below V.heap.size V wc by rw [hx0]; exact onto_below V x)
          obtain ⟨r0, r1, r2, r3, r4, r5⟩ := slIn6_cells HC9.out
          have u9 := lt_of_cell r0
          simp only at u9
          replace f0 := (HBV.out.cell (p := ⟨g6, 0, none⟩) u6).trans f0
          replace f1 := (HBV.out.cell (p := ⟨g6, 1, none⟩) u6).trans f1
          have u7 : g6 < wc.heap.size := Nat.lt_of_lt_of_le u6 HBV.out.size
          clear hx0 HX HC9
          by_cases hk0 : kk = 0
          · subst hk0
            have hgd := RunInv.good HI.out HDR.out (by rw [SV.out])
            rw [E.out, SV.out] at hgd
            obtain ⟨hg, hinv⟩ := hgd
            have hmn : m < n := by have := (List.getElem?_eq_some_iff.1 hg).1; rw [N.out] at this; exact this
            have INV2 := Lib.hid hinv
            obtain ⟨g, rfl, _, hgV, hx⟩ := HS.out.cells (by omega)
            have c0 : wc.cell? ⟨g, m * 6, none⟩ = some (.bool bg) := (HBV.out.cell (p := ⟨g, m * 6, none⟩) hgV).trans (hx _ _ (flat_get hg 0 (by decide)))
            have c1 : wc.cell? ⟨g, m * 6 + 1, none⟩ = some (.bool ad) := (HBV.out.cell (p := ⟨g, m * 6 + 1, none⟩) hgV).trans (hx _ _ (flat_get hg 1 (by decide)))
            have c2 : wc.cell? ⟨g, m * 6 + 2, none⟩ = some (.bool fi) := (HBV.out.cell (p := ⟨g, m * 6 + 2, none⟩) hgV).trans (hx _ _ (flat_get hg 2 (by decide)))
            have c3 : wc.cell? ⟨g, m * 6 + 3, none⟩ = some (.bool li) := (HBV.out.cell (p := ⟨g, m * 6 + 3, none⟩) hgV).trans (hx _ _ (flat_get hg 3 (by decide)))
            have c4 : wc.cell? ⟨g, m * 6 + 4, none⟩ = some (.bool re) := (HBV.out.cell (p := ⟨g, m * 6 + 4, none⟩) hgV).trans (hx _ _ (flat_get hg 4 (by decide)))
            have c5 : wc.cell? ⟨g, m * 6 + 5, none⟩ = some (.int .u8 pb) := (HBV.out.cell (p := ⟨g, m * 6 + 5, none⟩) hgV).trans (hx _ _ (flat_get hg 5 (by decide)))
            have hgW : g < wc.heap.size := Nat.lt_of_lt_of_le hgV HBV.out.size
            have hge : decide ((n : Int) ≤ (m : Int)) = false := decide_eq_false (by omega)
            have hge2 : decide (n ≤ m) = false := decide_eq_false (by omega)
            clear hg hinv hx
            go_wp2_with fail
            refine wp_region_onto (by kernel_rfl) (by kernel_rfl) ?_
            repeat (go_big_quiet_step (first | (go_at_call 12; exact calls_onto (refEv_any _ _ _ _ _ _ p0 p1 _))))
            refine wpQuiet_nil ?_
            intro _ hw'
            obtain ⟨zz, hw''⟩ := hw'
            subst hw''
            go_wp2_with fail
            go_roundw
            case rel => exact ⟨m + 1, nx, by omega, by go_num, rfl, hnx.1, hnx.2, Lib.hid (onto_of (below_onto HBV.out HBV.out.size zz)), INV2⟩
            case measure => simp [intOf]; omega
          · have hbd := RunInv.bad HI.out HDR.out (by rw [SV.out]; exact hk0)
            rw [E.out, K.out, A1.out, N.out, SV.out] at hbd
            obtain ⟨hn', hk', ha'⟩ := hbd
            subst hn' hk' ha'
            have hk1 : (k != 0) = true := by simpa using hk0
            clear hk0
            go_wp2_with (first
              | (go_at_call 9; ((with_reducible refine (above (scAwake_any _)).mono ?_); rintro x _ ⟨rfl, y3, rfl⟩)))
            go_ret
            exact ⟨rfl, HB.out.trans ((below_onto HBV.out HBV.out.size y3).mono HB.out.size)⟩
      · by_cases hm2 : m = s.size
        · have HIE := Lib.hid (show RunInv d q e (bl s) (bl s).length t by rw [HL.out, ← hm2]; exact HI.out)
          have hlen : (bl s).length = m := by rw [HL.out, hm2]
          have HLEN := Lib.hid hlen
          have hz := closeE_zero t
          obtain ⟨⟨bg, ad, fi, li, re, pb⟩, hv⟩ : ∃ v, closeE t = v := ⟨_, rfl⟩
          obtain ⟨kk, hkv⟩ : ∃ v, closeK t = v := ⟨_, rfl⟩
          rw [hv] at hz
          obtain ⟨p0, p1⟩ := hz
          have CV := Lib.hid hv
          have KV := Lib.hid hkv
          have hle : m ≤ s.size := by omega
          clear hv hkv hlen HI hm2
          go_upto_region 12 with fail
          go_cut [9, 10] (fun s9 s10 wx => s10 = .int .i64 kk ∧ ∃ g9 : Nat, s9 = .pointer (some ⟨g9, 0, none⟩) ∧ Hid (∃ x, wx = onto V x) ∧ Hid (SlIn wx (some ⟨g9, 0, none⟩) 6 [.int .i64 (bitI bg), .int .i64 (bitI ad), .int .i64 (bitI fi), .int .i64 (bitI li), .int .i64 (bitI re), .int .i64 pb]))
          case first =>
            go_wp2_with (go_at_call 14; ((with_reducible refine (above (refClose_is _ t0 t6 _ _ _ _ _ _ _ CV KV _)).mono ?_); rintro x _ ⟨rfl, yz, rfl⟩))
            go_meet
            refine ⟨rfl, _, rfl, ?_⟩
            with_reducible exact run_join3 (up_alloc (Below.refl _ _) _) (StB.new _ _ _) rfl _
          case rest =>
            obtain ⟨rfl, g9, rfl, HX, HC9⟩ := hcut
            obtain ⟨x, hx0⟩ := HX.out
            have HBV := Lib.hid (show Below V.heap.size V wc by rw [hx0]; exact onto_below V x)
            obtain ⟨r0, r1, r2, r3, r4, r5⟩ := slIn6_cells HC9.out
            have u9 := lt_of_cell r0
            simp only at u9
            replace f0 := (HBV.out.cell (p := ⟨g6, 0, none⟩) u6).trans f0
            replace f1 := (HBV.out.cell (p := ⟨g6, 1, none⟩) u6).trans f1
            have u7 : g6 < wc.heap.size := Nat.lt_of_lt_of_le u6 HBV.out.size
            clear hx0 HX HC9
            by_cases hk0 : kk = 0
            · subst hk0
              have hgd := RunInv.goodEnd HIE.out KV.out t
              rw [E.out, CV.out, HLEN.out] at hgd
              obtain ⟨hg, hinv⟩ := hgd
              have hmn : m < n := by have := (List.getElem?_eq_some_iff.1 hg).1; rw [N.out] at this; exact this
              have INV2 := Lib.hid hinv
              obtain ⟨g, rfl, _, hgV, hx⟩ := HS.out.cells (by omega)
              have c0 : wc.cell? ⟨g, m * 6, none⟩ = some (.bool bg) := (HBV.out.cell (p := ⟨g, m * 6, none⟩) hgV).trans (hx _ _ (flat_get hg 0 (by decide)))
              have c1 : wc.cell? ⟨g, m * 6 + 1, none⟩ = some (.bool ad) := (HBV.out.cell (p := ⟨g, m * 6 + 1, none⟩) hgV).trans (hx _ _ (flat_get hg 1 (by decide)))
              have c2 : wc.cell? ⟨g, m * 6 + 2, none⟩ = some (.bool fi) := (HBV.out.cell (p := ⟨g, m * 6 + 2, none⟩) hgV).trans (hx _ _ (flat_get hg 2 (by decide)))
              have c3 : wc.cell? ⟨g, m * 6 + 3, none⟩ = some (.bool li) := (HBV.out.cell (p := ⟨g, m * 6 + 3, none⟩) hgV).trans (hx _ _ (flat_get hg 3 (by decide)))
              have c4 : wc.cell? ⟨g, m * 6 + 4, none⟩ = some (.bool re) := (HBV.out.cell (p := ⟨g, m * 6 + 4, none⟩) hgV).trans (hx _ _ (flat_get hg 4 (by decide)))
              have c5 : wc.cell? ⟨g, m * 6 + 5, none⟩ = some (.int .u8 pb) := (HBV.out.cell (p := ⟨g, m * 6 + 5, none⟩) hgV).trans (hx _ _ (flat_get hg 5 (by decide)))
              have hgW : g < wc.heap.size := Nat.lt_of_lt_of_le hgV HBV.out.size
              have hge : decide ((n : Int) ≤ (m : Int)) = false := decide_eq_false (by omega)
              have hge2 : decide (n ≤ m) = false := decide_eq_false (by omega)
              clear hg hinv hx
              go_wp2_with fail
              refine wp_region_onto (by kernel_rfl) (by kernel_rfl) ?_
              repeat (go_big_quiet_step (first | (go_at_call 12; exact calls_onto (refEv_any _ _ _ _ _ _ p0 p1 _))))
              refine wpQuiet_nil ?_
              intro _ hw'
              obtain ⟨zz, hw''⟩ := hw'
              subst hw''
              go_wp2_with fail
              go_roundw
              case rel => exact ⟨m + 1, t, by omega, by go_num, rfl, t0, t6, Lib.hid (onto_of (below_onto HBV.out HBV.out.size zz)), INV2⟩
              case measure => simp [intOf]; omega
            · have hbd := RunInv.badEnd HIE.out (by rw [KV.out]; exact hk0)
              rw [E.out, K.out, A1.out, N.out, KV.out, HLEN.out] at hbd
              obtain ⟨hn', hk', ha'⟩ := hbd
              subst hn' hk' ha'
              have hk1 : (k != 0) = true := by simpa using hk0
              clear hk0
              go_wp2_with (first
                | (go_at_call 9; ((with_reducible refine (above (scAwake_any _)).mono ?_); rintro x _ ⟨rfl, y3, rfl⟩)))
              go_ret
              exact ⟨rfl, HB.out.trans ((below_onto HBV.out HBV.out.size y3).mono HB.out.size)⟩
        · have hm3 : m = s.size + 1 := by omega
          have he := RunInv.end_ (show RunInv d q e (bl s) ((bl s).length + 1) t by rw [HL.out, ← hm3]; exact HI.out)
          rw [E.out, K.out, A1.out, N.out, HL.out] at he
          obtain ⟨hk', hn', ha'⟩ := he
          subst hk' ha'
          have hge : ¬ (m : Int) ≤ (s.size : Int) := by omega
          subst hn'
          clear hm2 hm3
          go_wp2_with (first
            | (go_at_call 9; ((with_reducible refine (above (scAwake_any _)).mono ?_); rintro x _ ⟨rfl, y3, rfl⟩)))
          go_ret
          exact ⟨rfl, HB.out.trans ((below_onto (onto_below V y) (onto_size V y) y3).mono HB.out.size)⟩
end Go.Proofs.Ytpnjpcknlmpaiaa

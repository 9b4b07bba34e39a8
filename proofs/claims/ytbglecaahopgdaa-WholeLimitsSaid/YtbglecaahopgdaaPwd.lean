/- Layer 6: what a text without a fault keeps within limits, and that wider limits tell the same: plain. -/
import Derived.Test.YtbglecaahopgdaaPwb
namespace Go.Proofs.Ytbglecaahopgdaa
open Go.RowKit
set_option linter.unusedVariables false
set_option linter.unusedSimpArgs false

/-! ### Wider limits -/
def wdn (W : Int) (m : Mk) : Mk := { m with lf := W, ls := W, lr := W, u := false }
structure Within (W : Int) (m : Mk) : Prop where
  lf : m.lf ≤ W
  ls : m.ls ≤ W
  lr : m.lr ≤ W
theorem then_er {s : Mk} {f : Mk → Mk} (h : (mThen s f).er = 0) : s.er = 0 ∧ (f s).er = 0 := by
  unfold mThen at h
  split at h
  · exact ⟨by assumption, h⟩
  · rename_i h'; exact absurd h h'
section
variable {W : Int} {m : Mk}
theorem wdn_B (h : Within W m) (b : Bool) (he : (mB b m).er = 0) : mB b (wdn W m) = wdn W (mB b m) := by
  cases b
  · rfl
  · unfold mB at he ⊢
    rw [if_pos rfl] at he
    rw [if_pos rfl, if_pos rfl]
    split at he
    · cases he
    · rename_i h'
      have := h.lr
      rw [if_neg h', if_neg (show ¬ (wdn W m).lr ≤ (wdn W m).bg from fun hh => by have : W ≤ m.bg := hh; omega)]; rfl
theorem wdn_A (h : Within W m) (b : Bool) (v : Int) (he : (mA b v m).er = 0) : mA b v (wdn W m) = wdn W (mA b v m) := by
  cases b
  · rfl
  · unfold mA at he ⊢
    rw [if_pos rfl] at he
    rw [if_pos rfl, if_pos rfl]
    split at he
    · cases he
    · rename_i h'
      have := h.lf
      rw [if_neg h', if_neg (show ¬ (wdn W m).lf ≤ ((wdn W m).fd.length : Int) from fun hh => by have : W ≤ (m.fd.length : Int) := hh; omega)]; rfl
theorem wdn_F (h : Within W m) (b : Bool) (he : (mF b m).er = 0) : mF b (wdn W m) = wdn W (mF b m) := by
  cases b
  · rfl
  · have he' : (mEndF m).er = 0 := he
    show mEndF (wdn W m) = wdn W (mEndF m)
    have hm := mEndF_ok he'
    have h1 : ¬ m.ls ≤ (m.rc.length : Int) + 1 := fun h1 => by
      have : (mEndF m).er = 8 := by unfold mEndF; rw [if_pos h1]
      rw [this] at he'; cases he'
    have := h.ls
    rw [hm, mEndF_go (m := wdn W m) (show ¬ W ≤ (m.rc.length : Int) + 1 by omega) (by rintro ⟨h2, _⟩; simp [mBound, wdn] at h2)]; rfl
theorem wdn_L (b : Bool) (he : (mL b m).er = 0) : mL b (wdn W m) = wdn W (mL b m) := by
  cases b
  · rfl
  · have he' : (mEndL m).er = 0 := he
    show mEndL (wdn W m) = wdn W (mEndL m)
    have hm : mEndL m = mPut m := by
      unfold mEndL at he' ⊢
      split at he'
      · cases he'
      · rename_i h; rw [if_neg h]
    rw [hm]
    unfold mEndL
    rw [if_neg (by rintro ⟨h2, _⟩; simp [mBound, wdn] at h2)]; rfl
theorem Within.few {t : Mk} {i j k : Nat} (h : Within W m) (f : Few m t i j k) : Within W t := ⟨by rw [f.lf]; exact h.lf, by rw [f.ls]; exact h.ls, by rw [f.lr]; exact h.lr⟩
theorem wdn_gather (h : Within W m) (e : Ev) (he : (mGather e m).er = 0) : mGather e (wdn W m) = wdn W (mGather e m) := by
  have he2 := he
  unfold mGather at he2
  obtain ⟨e3, e4⟩ := then_er he2
  obtain ⟨e2, e3'⟩ := then_er e3
  obtain ⟨e1, e2'⟩ := then_er e2
  have f1 := few_B e.bg m
  have f2 := f1.then_ (few_A e.ad e.b _)
  rw [mThen_go e2, mThen_go e1] at e4
  rw [mThen_go e1] at e3' f2
  have g1 := wdn_B h e.bg e1
  have g2 := wdn_A (h.few f1) e.ad e.b e2'
  have g3 := wdn_F (h.few f2) e.fi e3'
  have g4 := wdn_L (W := W) e.li e4
  have z : ∀ x : Mk, x.er = 0 → (wdn W x).er = 0 := fun x hx => hx
  rw [mGather4 (e := e) (s := m) rfl e1 rfl e2' rfl e3', mGather4 (e := e) (s := wdn W m) g1 (z _ e1) g2 (z _ e2') g3 (z _ e3'), g4]
theorem wdn_take (h : Within W m) (h0 : m.er = 0) (e : Ev) (he : (mTake e m).er = 0) : mTake e (wdn W m) = wdn W (mTake e m) ∧ mTold e (wdn W m) = mTold e m ∧ mRec e (wdn W m) = mRec e m ∧ Within W (mTake e m) := by
  have hw0 : (wdn W m).er = 0 := h0
  have hg0 : (mGather e m).er = 0 := by
    by_cases hg : (mGather e m).er = 0
    · exact hg
    · rw [mTake1 h0 hg] at he; exact absurd he hg
  have hg := wdn_gather h e hg0
  have hgw : (mGather e (wdn W m)).er = 0 := by rw [hg]; exact hg0
  have hin := h.few (few_gather e m)
  cases hr : e.re
  · obtain ⟨a1, a2⟩ := mRec2 (s := m) hr
    obtain ⟨b1, b2⟩ := mRec2 (s := wdn W m) hr
    rw [mTake2 h0 hr, mTake2 hw0 hr, a1, a2, b1, b2, hg]
    exact ⟨rfl, rfl, rfl, hin⟩
  · obtain ⟨a1, a2⟩ := mRec3 h0 hg0 hr
    obtain ⟨b1, b2⟩ := mRec3 hw0 hgw hr
    rw [mTake3 h0 hg0 hr, mTake3 hw0 hgw hr, a1, a2, b1, b2, hg]
    exact ⟨rfl, rfl, rfl, ⟨hin.lf, hin.ls, hin.lr⟩⟩
end
theorem mchU_wider {d q e W : Int} : ∀ (l : List Int) (u t : Int) (m : Mk) (i : Nat), Within W m → m.er = 0 → (mchU d q e u t m i l).k = 0 → mchU d q e u t (wdn W m) i l = mchU d q e u t m i l
  | [], u, t, m, i, hw, h0, hk => by
    rw [mchU] at hk ⊢
    split at hk
    · exact absurd (show (12 : Int) = 0 from hk) (by decide)
    · rename_i hu
      split at hk
      · rename_i h; exact absurd hk h
      · rename_i hc
        split at hk
        · rename_i h; exact absurd hk h
        · rename_i he
          have he' : (mTake (closeE t) m).er = 0 := by simpa using he
          obtain ⟨w1, w2, w3, _⟩ := wdn_take hw h0 (closeE t) he'
          have w4 : (mTake (closeE t) (wdn W m)).er = 0 := by rw [w1]; exact he'
          rw [if_neg hu, if_neg hc, if_neg (by simpa using w4), w2, w3, mchU, if_neg hu, if_neg hc, if_neg he]
  | b :: r, u, t, m, i, hw, h0, hk => by
    rw [mchU] at hk
    rw [mchU, mchU]
    split at hk
    · exact absurd (show (3 : Int) = 0 from hk) (by decide)
    · rename_i hu
      split at hk
      · rename_i h; exact absurd hk h
      · rename_i hc
        split at hk
        · rename_i h; exact absurd hk h
        · rename_i he
          have he' : (mTake (stepR d q e t b).ev m).er = 0 := by simpa using he
          obtain ⟨w1, w2, w3, w5⟩ := wdn_take hw h0 (stepR d q e t b).ev he'
          have w4 : (mTake (stepR d q e t b).ev (wdn W m)).er = 0 := by rw [w1]; exact he'
          rw [if_neg hu, if_neg hc, if_neg (by simpa using w4), if_neg hu, if_neg hc, if_neg he, w1, w2, w3]
          split at hk
          · rename_i ht
            rw [if_pos ht, if_pos ht, mchU_wider r _ _ _ _ w5 he' hk]
          · rename_i ht
            rw [if_neg ht, if_neg ht, mchU_wider r _ _ _ _ w5 he' hk]

/-! ### Records within limits -/
structure RecIn (m : Mk) (r : List ByteArray) : Prop where
  least : 1 ≤ r.length
  most : (r.length : Int) ≤ m.ls
  size : ∀ x ∈ r, (x.size : Int) ≤ m.lf
theorem lnEnd_in {e : Int} {m : Mk} {i : Nat} : ∀ (l : List Int), (lnEnd e m i l).k = 0 → (lnEnd e m i l).rc = m.rc ∧ ¬ (mBound m = true ∧ (m.rc.length : Int) ≠ m.wd)
  | [], hk => by
    rw [lnEnd] at hk ⊢
    split at hk
    · cases hk
    · rename_i h; rw [if_neg h]; exact ⟨rfl, h⟩
  | b :: r, hk => by
    rw [lnEnd] at hk ⊢
    split at hk
    · rename_i hb
      rw [if_pos hb]
      split at hk
      · cases hk
      · rename_i he
        rw [if_neg he]
        split at hk
        · cases hk
        · rename_i h; rw [if_neg h]; exact ⟨rfl, h⟩
    · rename_i hb
      rw [if_neg hb]
      split at hk
      · cases hk
      · rename_i he
        rw [if_neg he]
        split at hk
        · cases hk
        · rename_i h
          rw [if_neg h]
          match r, hk with
          | [], hk => rw [lnCr] at hk; cases hk
          | c :: r', hk =>
            rw [lnCr] at hk ⊢
            split at hk
            · rename_i hc; rw [if_pos hc]; exact ⟨rfl, h⟩
            · cases hk
section
variable {d q e : Int} (hd : Dia d q e)
include hd
theorem lnGo_in : ∀ (n : Nat) (l : List Int) (m : Mk) (i : Nat), l.length < n → Mid m → m.fd = [] → (∀ x ∈ m.rc, (x.size : Int) ≤ m.lf) → (lnGo d q e n m i l).k = 0 →
    RecIn m (lnGo d q e n m i l).rc ∧ (mBound m = true → ((lnGo d q e n m i l).rc.length : Int) = m.wd)
  | 0, l, m, i, hn, hm, hf, hx, hk => by omega
  | n + 1, l, m, i, hn, hm, hf, hx, hk => by
    obtain ⟨_, f2⟩ := mch_f hd l m i hm hf
    rw [lnGo] at hk ⊢
    generalize fGo d q m.lf i l = F at f2 hk ⊢
    obtain ⟨k, f, i', l'⟩ := F
    dsimp only at f2 hk ⊢
    by_cases hk0 : k = 0
    · subst hk0
      obtain ⟨g1, g2, g3, g4⟩ := f2 rfl
      have hfl : (f.length : Int) ≤ m.lf := g2.fd
      have hx' : ∀ x ∈ m.rc ++ [toBA f], (x.size : Int) ≤ m.lf := fun x h => by
        rcases List.mem_append.1 h with h | h
        · exact hx x h
        · rw [List.mem_singleton.1 h, toBA_size]; exact hfl
      have hr := hm.rc
      have done : ∀ l2, (lnEnd e { m with rc := m.rc ++ [toBA f] } i' l2).k = 0 → RecIn m (lnEnd e { m with rc := m.rc ++ [toBA f] } i' l2).rc ∧ (mBound m = true → ((lnEnd e { m with rc := m.rc ++ [toBA f] } i' l2).rc.length : Int) = m.wd) := fun l2 h => by
        obtain ⟨a1, a2⟩ := lnEnd_in l2 h
        rw [a1]
        refine ⟨⟨by simp, by simp; omega, hx'⟩, fun hb => ?_⟩
        have : ¬ ((m.rc ++ [toBA f]).length : Int) ≠ m.wd := fun hne => a2 ⟨hb, hne⟩
        simpa using this
      rw [if_neg (by simp)] at hk ⊢
      match l', g3, g4, hk with
      | [], g3, g4, hk => exact done [] hk
      | b :: r, g3, g4, hk =>
        simp only [List.length_cons] at g4
        dsimp only at hk ⊢
        by_cases hb : b = d
        · rw [if_pos hb] at hk ⊢
          split at hk
          · cases hk
          · rename_i h8
            rw [if_neg h8]
            split at hk
            · cases hk
            · rename_i h10
              rw [if_neg h10]
              have hm2 : Mid { m with rc := m.rc ++ [toBA f] } := ⟨hm.er, hm.fd, by simp; omega⟩
              obtain ⟨j1, j2⟩ := lnGo_in n r { m with rc := m.rc ++ [toBA f] } (i' + 1) (by omega) hm2 hf hx' hk
              exact ⟨⟨j1.least, j1.most, j1.size⟩, j2⟩
        · rw [if_neg hb] at hk ⊢
          exact done (b :: r) hk
    · rw [if_pos hk0] at hk; exact absurd hk hk0
theorem rdGo_in : ∀ (n : Nat) (l : List Int) (m : Mk) (i : Nat), l.length < n → m.er = 0 → m.fd = [] → m.rc = [] → 0 ≤ m.lf → 0 < m.ls → m.bg ≤ m.lr → 0 ≤ m.ct → (rdGo d q e n m i l).k = 0 →
    ((rdGo d q e n m i l).rs.length : Int) ≤ m.lr - m.bg ∧ (∀ p ∈ (rdGo d q e n m i l).rs, RecIn m p.1) ∧ ∃ V : Int, (0 < m.ct → V = m.wd) ∧ (m.u = true → ∀ p ∈ (rdGo d q e n m i l).rs, (p.1.length : Int) = V)
  | 0, l, m, i, hn, _, _, _, _, _, _, _, _ => by omega
  | n + 1, [], m, i, hn, _, _, _, _, _, hb, _, _ => by
    rw [rdGo]
    exact ⟨by simp; omega, by simp, m.wd, fun _ => rfl, by simp⟩
  | n + 1, b :: r, m, i, hn, h0, hf, hr, hlf, hls, hbg, hct, hk => by
    simp only [List.length_cons] at hn
    rw [rdGo] at hk ⊢
    split at hk
    · rename_i h10
      rw [if_pos h10]
      split at hk
      · cases hk
      · rename_i he
        rw [if_neg he]
        exact rdGo_in n r m (i + 1) (by omega) h0 hf hr hlf hls hbg hct hk
    · rename_i h10
      rw [if_neg h10]
      split at hk
      · rename_i h13
        rw [if_pos h13]
        split at hk
        · cases hk
        · rename_i he
          rw [if_neg he]
          split at hk
          · rename_i hh
            rw [if_pos hh]
            exact rdGo_in n r.tail m (i + 2) (by have := List.length_tail (l := r); omega) h0 hf hr hlf hls hbg hct hk
          · cases hk
      · rename_i h13
        rw [if_neg h13]
        split at hk
        · cases hk
        · rename_i hb
          rw [if_neg hb]
          split at hk
          · rename_i hl; exact absurd hk hl
          · rename_i hl
            rw [if_neg hl]
            have hl0 : (lnGo d q e (r.length + 2) { m with bg := m.bg + 1 } i (b :: r)).k = 0 := by simpa using hl
            have hm1 : Mid { m with bg := m.bg + 1 } := ⟨h0, by show (m.fd.length : Int) ≤ m.lf; rw [hf]; simpa using hlf, by show (m.rc.length : Int) < m.ls; rw [hr]; simpa using hls⟩
            obtain ⟨_, l2⟩ := mch_line hd (r.length + 2) (b :: r) { m with bg := m.bg + 1 } i (by simp) hm1 hf
            obtain ⟨_, j2⟩ := l2 hl0
            simp only [List.length_cons] at j2
            obtain ⟨r1, r2⟩ := lnGo_in hd (r.length + 2) (b :: r) { m with bg := m.bg + 1 } i (by simp) hm1 hf (by show ∀ x ∈ m.rc, _; rw [hr]; simp) hl0
            generalize lnGo d q e (r.length + 2) { m with bg := m.bg + 1 } i (b :: r) = X at hk r1 r2 j2 ⊢
            obtain ⟨k1, k2, V, k3, k4⟩ := rdGo_in n X.l (mOut { m with bg := m.bg + 1, rc := X.rc }) X.i (by omega) h0 hf rfl hlf hls (by show m.bg + 1 ≤ m.lr; omega) (by show 0 ≤ m.ct + 1; omega) hk
            have k1' : ((rdGo d q e n (mOut { m with bg := m.bg + 1, rc := X.rc }) X.i X.l).rs.length : Int) ≤ m.lr - (m.bg + 1) := k1
            have k3' : V = if m.ct = 0 then (X.rc.length : Int) else m.wd := k3 (show 0 < m.ct + 1 by omega)
            refine ⟨?_, ?_, V, ?_, ?_⟩
            · show (((X.rc, X.e) :: (rdGo d q e n (mOut { m with bg := m.bg + 1, rc := X.rc }) X.i X.l).rs).length : Int) ≤ _
              simp only [List.length_cons]; omega
            · intro p hp
              rcases List.mem_cons.1 hp with rfl | hp
              · exact ⟨r1.least, r1.most, r1.size⟩
              · have := k2 p hp; exact ⟨this.least, this.most, this.size⟩
            · intro h; rw [k3', if_neg (by omega)]
            · intro hu p hp
              rcases List.mem_cons.1 hp with rfl | hp
              · rw [k3']
                split
                · rfl
                · rename_i hc
                  exact r2 (by show (m.u && decide (0 < m.ct)) = true; rw [hu]; simp; omega)
              · exact k4 hu p hp
/-- A text without a fault within limits. -/
theorem wh_limits (a b c : Int) (u : Bool) (W : Int) (ha : 1 ≤ a) (hb : 1 ≤ b) (hc : 1 ≤ c) (aw : a ≤ W) (bw : b ≤ W) (cw : c ≤ W) (s : List Int) (hk : (whP d q e (mk0 a b c u) s).k = 0) :
    whP d q e (mk0 W W W false) s = whP d q e (mk0 a b c u) s ∧ ((whP d q e (mk0 a b c u) s).rs.length : Int) ≤ c ∧ (∀ r ∈ (whP d q e (mk0 a b c u) s).rs.map (·.1), RecIn (mk0 a b c u) r) ∧
      (u = true → ∃ V : Int, ∀ r ∈ (whP d q e (mk0 a b c u) s).rs.map (·.1), (r.length : Int) = V) := by
  have h1 : whP d q e (mk0 W W W false) s = whP d q e (mk0 a b c u) s := mchU_wider (W := W) (bomStrip s) 0 0 (mk0 a b c u) (whOff s) ⟨aw, bw, cw⟩ rfl hk
  obtain ⟨w1, w2, _⟩ := wh_is hd (mk0 a b c u) s rfl rfl rfl (show (0 : Int) ≤ a by omega) (show (0 : Int) < b by omega) (show (0 : Int) ≤ c by omega) ((bomStrip s).length + 1) (Nat.lt_succ_self _)
  have hin := rdGo_in hd ((bomStrip s).length + 1) (bomStrip s) (mk0 a b c u) 0 (Nat.lt_succ_self _) rfl rfl rfl (show (0 : Int) ≤ a by omega) (show (0 : Int) < b by omega) (show (0 : Int) ≤ c by omega) (show (0 : Int) ≤ 0 by omega)
  generalize rdGo d q e ((bomStrip s).length + 1) (mk0 a b c u) 0 (bomStrip s) = g at w1 w2 hin
  rw [hk] at w2
  have hg : g.k = 0 := by
    by_cases hg : g.k = 0
    · exact hg
    · exfalso
      unfold whKA at w2
      dsimp only at w2
      rw [if_neg hg] at w2
      split at w2
      · split at w2
        · exact absurd (show (0 : Int) = 3 from w2) (by decide)
        · exact hg w2.symm
      · split at w2
        · exact absurd (show (0 : Int) = 12 from w2) (by decide)
        · exact hg w2.symm
  obtain ⟨k1, k2, V, _, k4⟩ := hin hg
  have hrs : whRs g s = g.rs.map (·.1) := by
    unfold whRs
    rw [← w2]
    simp
    rw [List.filter_eq_self.2 (fun _ _ => rfl)]
  rw [hrs] at w1
  have hlen : (whP d q e (mk0 a b c u) s).rs.length = g.rs.length := by
    have := congrArg List.length w1
    simpa using this
  refine ⟨h1, ?_, ?_, fun hu => ⟨V, ?_⟩⟩
  · rw [hlen]
    have : ((g.rs.length : Nat) : Int) ≤ c - 0 := k1
    omega
  · rw [w1]
    intro r hr
    obtain ⟨p, hp, rfl⟩ := List.mem_map.1 hr
    exact k2 p hp
  · rw [w1]
    intro r hr
    obtain ⟨p, hp, rfl⟩ := List.mem_map.1 hr
    exact k4 hu p hp
end
end Go.Proofs.Ytbglecaahopgdaa

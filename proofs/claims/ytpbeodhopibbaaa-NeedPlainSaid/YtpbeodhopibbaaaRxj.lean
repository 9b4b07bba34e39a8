/- Layer 6: the document's lines, one after another: the plain half; a line that may not begin. -/
import Derived.Test.YtpbeodhopibbaaaRxi
namespace Go.Proofs.Ytpbeodhopibbaaa
open Go.ChangeShapes Go.WideShapes Go.ChangeAt Go.RowKit
set_option linter.unusedVariables false
set_option linter.unusedSimpArgs false

section
variable {d q e : Int} {m : Mk} {i : Nat} {s : ByteArray}
theorem isB_lt {b : Int} (h : isB s i b = true) : i < s.size := by
  by_cases hi : i < s.size
  · exact hi
  · rw [isB_end (by omega)] at h; cases h
theorem lnEnd_rest {l : List Int} (hi : i ≤ s.size) (hl : (bl s).drop i = l) (h : (lnEnd e m i l).k = 0) : (lnEnd e m i l).l = (bl s).drop (lnEnd e m i l).i ∧ i ≤ (lnEnd e m i l).i ∧ (lnEnd e m i l).i ≤ s.size := by
  match l, hl, h with
  | [], hl, h =>
    cases hw : wOk m with
    | false => rw [lnEnd_nil_no hw] at h; exact absurd h (by simp)
    | true => rw [lnEnd_nil hw]; exact ⟨hl.symm, Nat.le_refl _, hi⟩
  | b :: r, hl, h =>
    obtain ⟨_, h2, h3⟩ := get_drop hl
    rcases fdN_cases e (b == 10) with hn | hn | hn
    · rw [lnEnd_0 hn] at h; exact absurd h (by simp)
    · cases hw : wOk m with
      | false => rw [lnEnd_w (by rw [hn]; decide) hw] at h; exact absurd h (by simp)
      | true => rw [lnEnd_1 hn hw]; exact ⟨h2.symm, by simp, h3⟩
    · cases hw : wOk m with
      | false => rw [lnEnd_w (by rw [hn]; decide) hw] at h; exact absurd h (by simp)
      | true =>
        rw [lnEnd_2 hn hw] at h ⊢
        cases hv : isB s (i + 1) 10 with
        | false => rw [lnCr_no h2 hv] at h; exact absurd h (by simp)
        | true => rw [lnCr_yes h2 hv]; have := isB_lt hv; exact ⟨rfl, by simp, by show i + 2 ≤ s.size; omega⟩
theorem lnGo_rest : ∀ (n : Nat) (m : Mk) (i : Nat), i ≤ s.size → s.size - i < n → (lnGo d q e n m i ((bl s).drop i)).k = 0 →
    (lnGo d q e n m i ((bl s).drop i)).l = (bl s).drop (lnGo d q e n m i ((bl s).drop i)).i ∧ i ≤ (lnGo d q e n m i ((bl s).drop i)).i ∧ (lnGo d q e n m i ((bl s).drop i)).i ≤ s.size ∧
    ∀ b r, (bl s).drop i = b :: r → b ≠ 10 → b ≠ 13 → i < (lnGo d q e n m i ((bl s).drop i)).i := by
  intro n
  induction n with
  | zero => intro m i _ hn; omega
  | succ n ih =>
    intro m i hi hn h
    obtain ⟨F, hF⟩ : ∃ F, fGo d q m.lf i ((bl s).drop i) = F := ⟨_, rfl⟩
    by_cases hk : F.k = 0
    · obtain ⟨h1, h2, h3, h4⟩ := fGo_at d q m.lf i s hi hF hk
      by_cases hd : ∃ rr, F.l = d :: rr
      · obtain ⟨rr, hl⟩ := hd
        obtain ⟨_, g2, g3⟩ := get_drop (h3.symm.trans hl)
        by_cases h8 : (m.rc.length : Int) + 1 = m.ls
        · rw [lnGo_8 hF hk hl h8] at h; exact absurd h (by simp)
        · by_cases h10 : mBound m = true ∧ (m.rc.length : Int) + 1 = m.wd
          · rw [lnGo_10 hF hk hl h8 h10] at h; exact absurd h (by simp)
          · rw [lnGo_go hF hk hl h8 h10, ← g2] at h ⊢
            obtain ⟨k1, k2, k3, _⟩ := ih _ (F.i + 1) (by omega) (by omega) h
            exact ⟨k1, by omega, k3, fun _ _ _ _ _ => by omega⟩
      · have hne : ∀ b r, F.l = b :: r → b ≠ d := fun b r hl e => hd ⟨r, by rw [hl, e]⟩
        rw [lnGo_stop hF hk hne] at h ⊢
        obtain ⟨k1, k2, k3⟩ := lnEnd_rest h2 h3.symm h
        refine ⟨k1, by omega, k3, fun b r hb n10 n13 => ?_⟩
        by_cases hfi : F.i = i
        · exfalso
          have hl : F.l = b :: r := by rw [h3, hfi, hb]
          have hs := h4 b r hl
          have hbd := hne b r hl
          simp [stops, n10, n13, hbd] at hs
        · omega
    · rw [lnGo_bad hF hk] at h; exact absurd h hk
end

/-! ### All lines: what is told already, and what is told of the rest -/
def Got.join (T : List (List ByteArray × Nat)) (o : Got) : Got := ⟨T ++ o.rs, o.k, o.at_⟩
theorem join_nil (o : Got) : Got.join [] o = o := rfl
theorem join_more (T : List (List ByteArray × Nat)) (r : List ByteArray) (i : Nat) (o : Got) : Got.join T (o.more r i) = Got.join (T ++ [(r, i)]) o := by simp [Got.join, Got.more]
theorem wdOf_snoc (T : List (List ByteArray × Nat)) (p : List ByteArray × Nat) : (wdOf (T ++ [p]) : Int) = if (T.length : Int) = 0 then (p.1.length : Int) else (wdOf T : Int) := by
  match T with
  | [] => simp [wdOf]
  | a :: T => 
    rw [if_neg (by simp; omega)]
    rfl
/-- Behind a line that is whole the maker is the reader's again. -/
theorem mkOf_out (r : Rd) (X : List ByteArray) (e : Nat) (T : List (List ByteArray × Nat)) : mOut { ({ mkOf r [] T with bg := r.bg + 1 } : Mk) with rc := X } = mkOf { r with bg := r.bg + 1 } [] (T ++ [(X, e)]) := by
  unfold mOut mkOf
  simp only [wdOf_snoc]
  simp
section
variable {d q e : Int} {n : Nat} {m : Mk} {i : Nat} {l : List Int} {b : Int}
theorem rd_nil : rdGo d q e (n + 1) m i [] = ⟨[], 0, 0⟩ := by rw [rdGo]
theorem rd_0 (hb : b = 10 ∨ b = 13) (h : fdN e (b == 10) = 0) : rdGo d q e (n + 1) m i (b :: l) = ⟨[], 6, i⟩ := by
  rw [rdGo]
  rcases hb with rfl | rfl
  · by_cases he : e = 2
    · rw [if_pos rfl, if_pos he]
    · simp [fdN, he] at h
  · by_cases he : e = 1
    · rw [if_neg (by decide), if_pos rfl, if_pos he]
    · simp [fdN, he] at h
theorem rd_1 (hb : b = 10 ∨ b = 13) (h : fdN e (b == 10) = 1) : rdGo d q e (n + 1) m i (b :: l) = rdGo d q e n m (i + 1) l := by
  conv => lhs; rw [rdGo]
  rcases hb with rfl | rfl
  · by_cases he : e = 2
    · simp [fdN, he] at h
    · rw [if_pos rfl, if_neg he]
  · exfalso
    by_cases he : e = 1 <;> simp [fdN, he] at h
theorem rd_2no {s : ByteArray} (hb : b = 10 ∨ b = 13) (h : fdN e (b == 10) = 2) (hl : (bl s).drop (i + 1) = l) (hv : isB s (i + 1) 10 = false) : rdGo d q e (n + 1) m i (b :: l) = ⟨[], 6, i + 1⟩ := by
  rw [rdGo]
  rcases hb with rfl | rfl
  · exfalso
    by_cases he : e = 2 <;> simp [fdN, he] at h
  · by_cases he : e = 1
    · simp [fdN, he] at h
    · rw [if_neg (by decide), if_pos rfl, if_neg he, if_neg]
      match l, hl with
      | [], _ => simp
      | c :: r, hl => rw [isB_drop hl] at hv; simpa using hv
theorem rd_2yes {s : ByteArray} (hb : b = 10 ∨ b = 13) (h : fdN e (b == 10) = 2) (hl : (bl s).drop (i + 1) = l) (hv : isB s (i + 1) 10 = true) : rdGo d q e (n + 1) m i (b :: l) = rdGo d q e n m (i + 2) ((bl s).drop (i + 2)) := by
  conv => lhs; rw [rdGo]
  rcases hb with rfl | rfl
  · exfalso
    by_cases he : e = 2 <;> simp [fdN, he] at h
  · by_cases he : e = 1
    · simp [fdN, he] at h
    · match l, hl with
      | [], hl =>
        have := isB_lt hv
        have h2 := congrArg List.length hl
        simp [bl_length] at h2; omega
      | c :: r, hl =>
        have hc := hv
        rw [isB_drop hl] at hc
        rw [if_neg (by decide), if_pos rfl, if_neg he, if_pos (by simpa using hc), (get_drop hl).2.1]; rfl
theorem rd_9 (h1 : b ≠ 10) (h2 : b ≠ 13) (h9 : m.bg = m.lr) : rdGo d q e (n + 1) m i (b :: l) = ⟨[], 9, i⟩ := by
  rw [rdGo, if_neg h1, if_neg h2, if_pos h9]
theorem rd_bad {X : Lin} (h1 : b ≠ 10) (h2 : b ≠ 13) (h9 : ¬ m.bg = m.lr) (hX : lnGo d q e (l.length + 2) { m with bg := m.bg + 1 } i (b :: l) = X) (hk : X.k ≠ 0) : rdGo d q e (n + 1) m i (b :: l) = ⟨[], X.k, X.at_⟩ := by
  rw [rdGo, if_neg h1, if_neg h2, if_neg h9, hX, if_pos hk]
theorem rd_go {X : Lin} (h1 : b ≠ 10) (h2 : b ≠ 13) (h9 : ¬ m.bg = m.lr) (hX : lnGo d q e (l.length + 2) { m with bg := m.bg + 1 } i (b :: l) = X) (hk : X.k = 0) : rdGo d q e (n + 1) m i (b :: l) = (rdGo d q e n (mOut { m with bg := m.bg + 1, rc := X.rc }) X.i X.l).more X.rc X.e := by
  conv => lhs; rw [rdGo, if_neg h1, if_neg h2, if_neg h9, hX, if_neg (by simp [hk])]
end

set_option maxRecDepth 100000 in
set_option maxHeartbeats 800000 in
/-- A line where no more may begin. -/
theorem line_9 (base g : Nat) (r : Rd) (rc : List ByteArray) (T : List (List ByteArray × Nat)) (h0 : Hid (r.k = 0)) (hlr : Hid (r.bg = r.lr)) (w : World) (h : Hid (RdB w base g r rc T)) :
    Calls Try.prog 36 #[.pointer (some ⟨g, 0, none⟩)] w (RdOut base g (.bool false) { r with k := 9, at_ := r.i } rc T w) := by
  have hd9 : (r.bg == r.lr) = true := by rw [beq_iff_eq]; exact hlr.out
  have hg := h.out.cells.1
  have k5 := h.out.cells.2.2.2.2.1
  have k9 := h.out.cells.2.2.2.2.2.2.2.2.1
  go_enter Try.func36, Try.ntmps36
  go_wp2_with fail
  refine wp_region_onto (by kernel_rfl) (by kernel_rfl) ?_
  repeat (go_big_quiet_step (fail))
  refine wpQuiet_nil ?_
  intro _ hw'
  obtain ⟨y0, hw''⟩ := hw'
  subst hw''
  have H1 := Lib.hid (h.out.below (onto_below w y0))
  have HB := Lib.hid ((onto_below w y0).mono h.out.base_le)
  have hg1 := H1.out.cells.1
  have k8 := H1.out.cells.2.2.2.2.2.2.2.1
  clear hg k5 k9
  go_wp2_with fail
  refine (wrong_rd base g r rc T _ H1 9 r.i h0).mono ?_
  rintro x w2 ⟨rfl, o1, o2⟩
  have HB2 := Lib.hid (HB.out.trans o2.out)
  clear o2
  go_wp2_with fail
  go_ret
  exact ⟨rfl, o1, HB2⟩
end Go.Proofs.Ytpbeodhopibbaaa

/- Layer 6: the document's lines, one after another: the plain half; a line that may not begin. Layer 6: the document's Read. -/
import Derived.Test.YtigoonokiihdgaaDoorRxi
namespace Go.Proofs.YtigoonokiihdgaaDoor
open Go.ChangeShapes Go.WideShapes Go.ChangeAt Go.RowKit
set_option linter.unusedVariables false
set_option linter.unusedSimpArgs false

section
variable {d q e : Int} {m : Mk} {i : Nat} {s : ByteArray}
theorem isB_lt {b : Int} (h : isB s i b = true) : i < s.size := by
  by_cases hi : i < s.size
  · exact hi
  · rw [isB_end (by omega)] at h; cases h
theorem lnEnd_rest {l : List Int} (hi : i ≤ s.size) (hl : (bl s).drop i = l) (h : (lnEnd e m i l).k = 0) : (lnEnd e m i l).l = (bl s).drop (lnEnd e m i l).i ∧ i ≤ (lnEnd e m i l).i ∧ (lnEnd e m i l).i ≤ s.size := by
  match l, hl, h with
  | [], hl, h =>
    cases hw : wOk m with
    | false => rw [lnEnd_nil_no hw] at h; exact absurd h (by simp)
    | true => rw [lnEnd_nil hw]; exact ⟨hl.symm, Nat.le_refl _, hi⟩
  | b :: r, hl, h =>
    obtain ⟨_, h2, h3⟩ := get_drop hl
    rcases fdN_cases e (b == 10) with hn | hn | hn
    · rw [lnEnd_0 hn] at h; exact absurd h (by simp)
    · cases hw : wOk m with
      | false => rw [lnEnd_w (by rw [hn]; decide) hw] at h; exact absurd h (by simp)
      | true => rw [lnEnd_1 hn hw]; exact ⟨h2.symm, by simp, h3⟩
    · cases hw : wOk m with
      | false => rw [lnEnd_w (by rw [hn]; decide) hw] at h; exact absurd h (by simp)
      | true =>
        rw [lnEnd_2 hn hw] at h ⊢
        cases hv : isB s (i + 1) 10 with
        | false => rw [lnCr_no h2 hv] at h; exact absurd h (by simp)
        | true => rw [lnCr_yes h2 hv]; have := isB_lt hv; exact ⟨rfl, by simp, by show i + 2 ≤ s.size; omega⟩
theorem lnGo_rest : ∀ (n : Nat) (m : Mk) (i : Nat), i ≤ s.size → s.size - i < n → (lnGo d q e n m i ((bl s).drop i)).k = 0 →
    (lnGo d q e n m i ((bl s).drop i)).l = (bl s).drop (lnGo d q e n m i ((bl s).drop i)).i ∧ i ≤ (lnGo d q e n m i ((bl s).drop i)).i ∧ (lnGo d q e n m i ((bl s).drop i)).i ≤ s.size ∧
    ∀ b r, (bl s).drop i = b :: r → b ≠ 10 → b ≠ 13 → i < (lnGo d q e n m i ((bl s).drop i)).i := by
  intro n
  induction n with
  | zero => intro m i _ hn; omega
  | succ n ih =>
    intro m i hi hn h
    obtain ⟨F, hF⟩ : ∃ F, fGo d q m.lf i ((bl s).drop i) = F := ⟨_, rfl⟩
    by_cases hk : F.k = 0
    · obtain ⟨h1, h2, h3, h4⟩ := fGo_at d q m.lf i s hi hF hk
      by_cases hd : ∃ rr, F.l = d :: rr
      · obtain ⟨rr, hl⟩ := hd
        obtain ⟨_, g2, g3⟩ := get_drop (h3.symm.trans hl)
        by_cases h8 : (m.rc.length : Int) + 1 = m.ls
        · rw [lnGo_8 hF hk hl h8] at h; exact absurd h (by simp)
        · by_cases h10 : mBound m = true ∧ (m.rc.length : Int) + 1 = m.wd
          · rw [lnGo_10 hF hk hl h8 h10] at h; exact absurd h (by simp)
          · rw [lnGo_go hF hk hl h8 h10, ← g2] at h ⊢
            obtain ⟨k1, k2, k3, _⟩ := ih _ (F.i + 1) (by omega) (by omega) h
            exact ⟨k1, by omega, k3, fun _ _ _ _ _ => by omega⟩
      · have hne : ∀ b r, F.l = b :: r → b ≠ d := fun b r hl e => hd ⟨r, by rw [hl, e]⟩
        rw [lnGo_stop hF hk hne] at h ⊢
        obtain ⟨k1, k2, k3⟩ := lnEnd_rest h2 h3.symm h
        refine ⟨k1, by omega, k3, fun b r hb n10 n13 => ?_⟩
        by_cases hfi : F.i = i
        · exfalso
          have hl : F.l = b :: r := by rw [h3, hfi, hb]
          have hs := h4 b r hl
          have hbd := hne b r hl
          simp [stops, n10, n13, hbd] at hs
        · omega
    · rw [lnGo_bad hF hk] at h; exact absurd h hk
end

/-! ### All lines: what is told already, and what is told of the rest -/
def Got.join (T : List (List ByteArray × Nat)) (o : Got) : Got := ⟨T ++ o.rs, o.k, o.at_⟩
theorem join_nil (o : Got) : Got.join [] o = o := rfl
theorem join_more (T : List (List ByteArray × Nat)) (r : List ByteArray) (i : Nat) (o : Got) : Got.join T (o.more r i) = Got.join (T ++ [(r, i)]) o := by simp [Got.join, Got.more]
theorem wdOf_snoc (T : List (List ByteArray × Nat)) (p : List ByteArray × Nat) : (wdOf (T ++ [p]) : Int) = if (T.length : Int) = 0 then (p.1.length : Int) else (wdOf T : Int) := by
  match T with
  | [] => simp [wdOf]
  | a :: T => 
    rw [if_neg (by simp; omega)]
    rfl
/-- Behind a line that is whole the maker is the reader's again. -/
theorem mkOf_out (r : Rd) (X : List ByteArray) (e : Nat) (T : List (List ByteArray × Nat)) : mOut { ({ mkOf r [] T with bg := r.bg + 1 } : Mk) with rc := X } = mkOf { r with bg := r.bg + 1 } [] (T ++ [(X, e)]) := by
  unfold mOut mkOf
  simp only [wdOf_snoc]
  simp
section
variable {d q e : Int} {n : Nat} {m : Mk} {i : Nat} {l : List Int} {b : Int}
theorem rd_nil : rdGo d q e (n + 1) m i [] = ⟨[], 0, 0⟩ := by rw [rdGo]
theorem rd_0 (hb : b = 10 ∨ b = 13) (h : fdN e (b == 10) = 0) : rdGo d q e (n + 1) m i (b :: l) = ⟨[], 6, i⟩ := by
  rw [rdGo]
  rcases hb with rfl | rfl
  · by_cases he : e = 2
    · rw [if_pos rfl, if_pos he]
    · simp [fdN, he] at h
  · by_cases he : e = 1
    · rw [if_neg (by decide), if_pos rfl, if_pos he]
    · simp [fdN, he] at h
theorem rd_1 (hb : b = 10 ∨ b = 13) (h : fdN e (b == 10) = 1) : rdGo d q e (n + 1) m i (b :: l) = rdGo d q e n m (i + 1) l := by
  conv => lhs; rw [rdGo]
  rcases hb with rfl | rfl
  · by_cases he : e = 2
    · simp [fdN, he] at h
    · rw [if_pos rfl, if_neg he]
  · exfalso
    by_cases he : e = 1 <;> simp [fdN, he] at h
theorem rd_2no {s : ByteArray} (hb : b = 10 ∨ b = 13) (h : fdN e (b == 10) = 2) (hl : (bl s).drop (i + 1) = l) (hv : isB s (i + 1) 10 = false) : rdGo d q e (n + 1) m i (b :: l) = ⟨[], 6, i + 1⟩ := by
  rw [rdGo]
  rcases hb with rfl | rfl
  · exfalso
    by_cases he : e = 2 <;> simp [fdN, he] at h
  · by_cases he : e = 1
    · simp [fdN, he] at h
    · rw [if_neg (by decide), if_pos rfl, if_neg he, if_neg]
      match l, hl with
      | [], _ => simp
      | c :: r, hl => rw [isB_drop hl] at hv; simpa using hv
theorem rd_2yes {s : ByteArray} (hb : b = 10 ∨ b = 13) (h : fdN e (b == 10) = 2) (hl : (bl s).drop (i + 1) = l) (hv : isB s (i + 1) 10 = true) : rdGo d q e (n + 1) m i (b :: l) = rdGo d q e n m (i + 2) ((bl s).drop (i + 2)) := by
  conv => lhs; rw [rdGo]
  rcases hb with rfl | rfl
  · exfalso
    by_cases he : e = 2 <;> simp [fdN, he] at h
  · by_cases he : e = 1
    · simp [fdN, he] at h
    · match l, hl with
      | [], hl =>
        have := isB_lt hv
        have h2 := congrArg List.length hl
        simp [bl_length] at h2; omega
      | c :: r, hl =>
        have hc := hv
        rw [isB_drop hl] at hc
        rw [if_neg (by decide), if_pos rfl, if_neg he, if_pos (by simpa using hc), (get_drop hl).2.1]; rfl
theorem rd_9 (h1 : b ≠ 10) (h2 : b ≠ 13) (h9 : m.bg = m.lr) : rdGo d q e (n + 1) m i (b :: l) = ⟨[], 9, i⟩ := by
  rw [rdGo, if_neg h1, if_neg h2, if_pos h9]
theorem rd_bad {X : Lin} (h1 : b ≠ 10) (h2 : b ≠ 13) (h9 : ¬ m.bg = m.lr) (hX : lnGo d q e (l.length + 2) { m with bg := m.bg + 1 } i (b :: l) = X) (hk : X.k ≠ 0) : rdGo d q e (n + 1) m i (b :: l) = ⟨[], X.k, X.at_⟩ := by
  rw [rdGo, if_neg h1, if_neg h2, if_neg h9, hX, if_pos hk]
theorem rd_go {X : Lin} (h1 : b ≠ 10) (h2 : b ≠ 13) (h9 : ¬ m.bg = m.lr) (hX : lnGo d q e (l.length + 2) { m with bg := m.bg + 1 } i (b :: l) = X) (hk : X.k = 0) : rdGo d q e (n + 1) m i (b :: l) = (rdGo d q e n (mOut { m with bg := m.bg + 1, rc := X.rc }) X.i X.l).more X.rc X.e := by
  conv => lhs; rw [rdGo, if_neg h1, if_neg h2, if_neg h9, hX, if_neg (by simp [hk])]
end

set_option maxRecDepth 100000 in
set_option maxHeartbeats 800000 in
/-- A line where no more may begin. -/
theorem line_9 (base g : Nat) (r : Rd) (rc : List ByteArray) (T : List (List ByteArray × Nat)) (h0 : Hid (r.k = 0)) (hlr : Hid (r.bg = r.lr)) (w : World) (h : Hid (RdB w base g r rc T)) :
    Calls Tryd.prog 52 #[.pointer (some ⟨g, 0, none⟩)] w (RdOut base g (.bool false) { r with k := 9, at_ := r.i } rc T w) := by
  have hd9 : (r.bg == r.lr) = true := by rw [beq_iff_eq]; exact hlr.out
  have hg := h.out.cells.1
  have k5 := h.out.cells.2.2.2.2.1
  have k9 := h.out.cells.2.2.2.2.2.2.2.2.1
  go_enter Tryd.func52, Tryd.ntmps52
  go_wp2_with fail
  refine wp_region_onto (by kernel_rfl) (by kernel_rfl) ?_
  repeat (go_big_quiet_step (fail))
  refine wpQuiet_nil ?_
  intro _ hw'
  obtain ⟨y0, hw''⟩ := hw'
  subst hw''
  have H1 := Lib.hid (h.out.below (onto_below w y0))
  have HB := Lib.hid ((onto_below w y0).mono h.out.base_le)
  have hg1 := H1.out.cells.1
  have k8 := H1.out.cells.2.2.2.2.2.2.2.1
  clear hg k5 k9
  go_wp2_with fail
  refine (wrong_rd base g r rc T _ H1 9 r.i h0).mono ?_
  rintro x w2 ⟨rfl, o1, o2⟩
  have HB2 := Lib.hid (HB.out.trans o2.out)
  clear o2
  go_wp2_with fail
  go_ret
  exact ⟨rfl, o1, HB2⟩
end Go.Proofs.YtigoonokiihdgaaDoor

namespace Go.Proofs.YtigoonokiihdgaaDoor
open Go.ChangeShapes Go.WideShapes Go.ChangeAt Go.RowKit
set_option linter.unusedVariables false
set_option linter.unusedSimpArgs false

/-- The reader at a place. -/
abbrev rdS (d q e lf ls lr un : Int) (s : ByteArray) (i : Nat) (bg k : Int) (a : Nat) : Rd := ⟨d, q, e, lf, ls, lr, un, s, i, bg, .slice none 0 0, .slice none 0 0, .slice none 0 0, k, a⟩
theorem rd0_at (w : World) (d q e lf ls lr un : Int) (s : ByteArray) {g base : Nat} (hg : g = w.heap.size) (hb : base ≤ g) : RdB (w.alloc (.cells (rdCells (rdS d q e lf ls lr un s 0 0 0 0)) 94)) base g (rdS d q e lf ls lr un s 0 0 0 0) [] [] :=
  ⟨none, 0, none, 0, none, 0, [], hb, by have := (up_alloc (Below.refl _ w) (.cells (rdCells (rdS d q e lf ls lr un s 0 0 0 0)) 94)).size; omega, StB.made w hg _ _, SlOwn.nothing _ _ _, SlOwn.nothing _ _ _, by simp, SlOwn.nothing _ _ _, RowsAt.nothing _ _ _ _⟩
/-- What the reader has told, and what it tells yet, is G. -/
def RdSt (G : Got) (r : Rd) (rc : List ByteArray) (T : List (List ByteArray × Nat)) : Prop :=
  (r.k = 0 → r.at_ = 0 ∧ rc = [] ∧ r.i ≤ r.s.size ∧ 0 ≤ r.bg ∧ r.bg ≤ r.i ∧ T.length ≤ r.i ∧ wdOf T ≤ 1000 ∧ ∃ n, r.s.size - r.i < n ∧ Got.join T (rdGo r.d r.q r.e n (mkOf r [] T) r.i ((bl r.s).drop r.i)) = G) ∧ (r.k ≠ 0 → G = ⟨T, r.k, r.at_⟩)
theorem RdSt.end_ {G : Got} {r : Rd} {rc : List ByteArray} {T : List (List ByteArray × Nat)} (h : RdSt G r rc T) (he : r.k ≠ 0 ∨ r.s.size ≤ r.i) : G = ⟨T, r.k, r.at_⟩ := by
  by_cases hk : r.k = 0
  · obtain ⟨h1, _, _, _, _, _, _, n, hn, h2⟩ := h.1 hk
    have hi : r.s.size ≤ r.i := he.resolve_left (fun h => h hk)
    obtain ⟨n', rfl⟩ : ∃ n', n = n' + 1 := ⟨n - 1, by omega⟩
    rw [bl_end r.s r.i hi, rd_nil] at h2
    rw [← h2, hk, h1]; simp [Got.join]
  · exact h.2 hk
theorem lnGo_few (d q e : Int) : ∀ (n : Nat) (m : Mk) (i : Nat) (l : List Int), (lnGo d q e n m i l).rc.length ≤ m.rc.length + n := by
  intro n
  induction n with
  | zero => intro m i l; rw [lnGo]; simp
  | succ n ih =>
    intro m i l
    have hend : ∀ (m' : Mk) (i' : Nat) (l' : List Int), (lnEnd e m' i' l').rc.length ≤ m'.rc.length := by
      intro m' i' l'
      match l' with
      | [] => rw [lnEnd]; split <;> simp
      | b :: r =>
        rw [lnEnd]
        split
        · split
          · simp
          · split <;> simp
        · split
          · simp
          · split
            · simp
            · match r with
              | [] => simp [lnCr]
              | c :: r' => rw [lnCr]; split <;> simp
    obtain ⟨F, hF⟩ : ∃ F, fGo d q m.lf i l = F := ⟨_, rfl⟩
    by_cases hk : F.k = 0
    · by_cases hd : ∃ rr, F.l = d :: rr
      · obtain ⟨rr, hl⟩ := hd
        by_cases h8 : (m.rc.length : Int) + 1 = m.ls
        · rw [lnGo_8 hF hk hl h8]; simp
        · by_cases h10 : mBound m = true ∧ (m.rc.length : Int) + 1 = m.wd
          · rw [lnGo_10 hF hk hl h8 h10]; simp
          · rw [lnGo_go hF hk hl h8 h10]
            have := ih { m with rc := m.rc ++ [toBA F.f] } (F.i + 1) rr
            simp at this ⊢; omega
      · rw [lnGo_stop hF hk (fun b r hl e => hd ⟨r, by rw [hl, e]⟩)]
        have := hend { m with rc := m.rc ++ [toBA F.f] } F.i F.l
        simp at this ⊢; omega
    · rw [lnGo_bad hF hk]; simp
def cellK (w : World) (g : Nat) : Int := match w.cell? ⟨g, 13, none⟩ with
  | some (.int _ n) => n
  | _ => 0
theorem cell_k {w : World} {base g : Nat} {r : Rd} {rc : List ByteArray} {T : List (List ByteArray × Nat)} (h : RdB w base g r rc T) : cellK w g = r.k := by
  have := h.cells.2.2.2.2.2.2.2.2.2.1
  unfold cellK; rw [this]
theorem StB.keep' {w w' : World} {p base : Nat} {t : TypeId} {cs : Array Value} (h : StB w p t cs) (hb : Below base w w') (hp : p < base) : StB w' p t cs := (hb.block p hp).trans h
/-- What Read answers. -/
def GotOut (G : Got) (w : World) (x : Ending) (w' : World) : Prop :=
  ∃ C c E ce V, x = .returned (.agg #[.slice C G.rs.length c, .slice E G.rs.length ce, .int .i64 G.k, .int .i64 (G.at_ : Int)]) ∧
    Hid (SlOwn w' w.heap.size 24 C G.rs.length c V ∧ (∀ u ∈ V, u.oneCell' = true) ∧ SlOwn w' w.heap.size 3 E G.rs.length ce (ends G.rs) ∧ RowsAt w' w.heap.size 9 V (G.rs.map (·.1)) none) ∧ Hid (Below w.heap.size w w')

theorem RowsAt.mono {w : World} {base base' : Nat} {e : TypeId} {V : List Value} {rs : List (List ByteArray)} {no : Option Nat} (h : RowsAt w base e V rs no) (hb : base' ≤ base) : RowsAt w base' e V rs no := ⟨h.1, fun j x hx => by
  obtain ⟨A, a, hv, ho, hn⟩ := h.2 j x hx
  exact ⟨A, a, hv, ho.mono hb, hn⟩⟩
theorem got_end {w W0 wr : World} {g p : Nat} {T : List (List ByteArray × Nat)} {C E : Option Addr} {c ce : Nat} {VV : List Value} {no : Option Nat} {cs : Array Value} (hwp : w.heap.size ≤ p) (hpg : p < g) (HBW : Below w.heap.size w W0) (HB : Below g W0 wr) (HP : StB wr p 77 cs)
    (q5 : SlOwn wr g 24 C T.length c VV) (q7 : SlOwn wr g 3 E T.length ce (ends T)) (q8 : RowsAt wr g 9 VV (T.map (·.1)) no) (u0 u1 u2 u3 : Value) (W5 : World) (hW : W5 = (((wr.setCell ⟨p, 0, none⟩ u0).setCell ⟨p, 1, none⟩ u1).setCell ⟨p, 2, none⟩ u2).setCell ⟨p, 3, none⟩ u3) :
    SlOwn W5 w.heap.size 24 C T.length c VV ∧ SlOwn W5 w.heap.size 3 E T.length ce (ends T) ∧ RowsAt W5 w.heap.size 9 VV (T.map (·.1)) none ∧ Below w.heap.size w W5 := by
  have keep : ∀ k, k ≠ p → W5.heap[k]? = wr.heap[k]? := fun k hk => by
    rw [hW, Below.heap_setCell _ _ _ k hk, Below.heap_setCell _ _ _ k hk, Below.heap_setCell _ _ _ k hk, Below.heap_setCell _ _ _ k hk]
  refine ⟨(q5.keep fun k hk => keep k (by have := (q5.blk k hk).1; omega)).mono (by omega), (q7.keep fun k hk => keep k (by have := (q7.blk k hk).1; omega)).mono (by omega), (q8.free.keep fun k hk _ ⟨cur, fz, hc⟩ => keep k fun e => ?_).mono (by omega), (HBW.trans (HB.mono (by omega))).trans ⟨by rw [hW]; rfl, by rw [hW]; rfl, by rw [hW]; rfl, by rw [hW]; simp [World.setCell], fun k hk => keep k (by omega)⟩⟩
  subst e
  unfold StB at HP
  rw [HP] at hc; injection hc with hc; injection hc with _ h2 _; exact absurd h2 (by decide)

set_option maxRecDepth 100000 in
set_option maxHeartbeats 3200000 in
theorem read_any6 (d q e lf ls lr un : Int) (s : ByteArray) (hs : s.size ≤ 980) (hun : un = 0 ∨ un = 1) (n0 : Nat) (hn0 : s.size < n0) (G : Got) (hG : Hid (rdGo d q e n0 ⟨lf, ls, lr, decide (un = 1), [], [], 0, 0, 0, 0⟩ 0 (bl s) = G)) (w : World) :
    Calls Tryd.prog 34 #[.agg #[.int .i64 d, .int .i64 q, .int .i64 e], .agg #[.int .i64 lf, .int .i64 ls, .int .i64 lr, .int .i64 un], .string s] w (GotOut G w) := by
  go_enter Tryd.func34, Tryd.ntmps34
  go_wp2_with fail
  obtain ⟨V3, hV3⟩ : ∃ V3, V3 = (((w.alloc (Obj.cells #[Value.int IntKind.i64 d, Value.int IntKind.i64 q, Value.int IntKind.i64 e] 33)).alloc (Obj.cells #[Value.int IntKind.i64 lf, Value.int IntKind.i64 ls, Value.int IntKind.i64 lr, Value.int IntKind.i64 un] 50)).alloc (Obj.cells #[Value.slice none 0 0, Value.slice none 0 0, Value.int IntKind.i64 0, Value.int IntKind.i64 0] 77)) := ⟨_, rfl⟩
  have a1 : ∀ (W : World) (o : Obj), (W.alloc o).heap.size = W.heap.size + 1 := fun W o => by simp only [World.alloc, Array.size_push]
  have hz3 : V3.heap.size = w.heap.size + 1 + 1 + 1 := by rw [hV3, a1, a1, a1]
  have hb3 : Below w.heap.size w V3 := by rw [hV3]; exact up_alloc (up_alloc (up_alloc (Below.refl _ w) _) _) _
  have hres : StB V3 (w.heap.size + 1 + 1) 77 #[Value.slice none 0 0, Value.slice none 0 0, Value.int IntKind.i64 0, Value.int IntKind.i64 0] := by
    rw [hV3]; exact StB.made _ (by rw [a1, a1]) _ _
  have hrd := rd0_at V3 d q e lf ls lr un s (g := w.heap.size + 1 + 1 + 1) (base := w.heap.size + 1 + 1 + 1) hz3.symm (Nat.le_refl _)
  have hb4 := up_alloc (Below.refl _ V3) (.cells (rdCells (rdS d q e lf ls lr un s 0 0 0 0)) 94)
  rw [← hV3]
  show Code.wp _ _ _ _ (V3.alloc (.cells (rdCells (rdS d q e lf ls lr un s 0 0 0 0)) 94))
  obtain ⟨W0, hW0⟩ : ∃ W0, W0 = V3.alloc (.cells (rdCells (rdS d q e lf ls lr un s 0 0 0 0)) 94) := ⟨_, rfl⟩
  rw [← hW0] at hrd hb4
  rw [← hW0]
  have hres2 := hres.below hb4
  have hbw := hb3.trans (hb4.mono hb3.size)
  obtain ⟨g, hg⟩ : ∃ g, g = w.heap.size + 1 + 1 + 1 := ⟨_, rfl⟩
  rw [← hg] at hrd
  rw [← hg]
  obtain ⟨p, hp⟩ : ∃ p, p = w.heap.size + 1 + 1 := ⟨_, rfl⟩
  rw [← hp] at hres2
  rw [← hp]
  have hpg : p < g := by omega
  have hwp : w.heap.size ≤ p := by omega
  have HRES := Lib.hid hres2
  have HBW := Lib.hid hbw
  have HRD := Lib.hid hrd
  have HS0 := Lib.hid (show RdSt G (rdS d q e lf ls lr un s 0 0 0 0) [] [] from ⟨fun _ => ⟨rfl, rfl, Nat.zero_le _, Int.le_refl _, Int.le_refl _, Nat.le_refl _, by simp [wdOf], n0, by show s.size - 0 < n0; omega, by rw [join_nil]; exact hG.out⟩, fun h => absurd rfl h⟩)
  clear hres hb3 hb4 hrd hW0 hV3 hz3 hres2 hbw hg hp a1
  go_loopw [8] (fun nn wr => ∃ (i : Nat) (bg k : Int) (a : Nat) (rc : List ByteArray) (T : List (List ByteArray × Nat)), Hid (RdB wr g g (rdS d q e lf ls lr un s i bg k a) rc T) ∧ Hid (Below g W0 wr) ∧ Hid (RdSt G (rdS d q e lf ls lr un s i bg k a) rc T)) (fun nn wr => if cellK wr g = 0 then s.size + 1 - cellN wr g else 0)
  case atStart => exact ⟨0, 0, 0, 0, [], [], HRD, Lib.hid (Below.refl _ _), HS0⟩
  case round =>
    obtain ⟨i, bg, k, a, rc, T, HR, HB, HS⟩ := hrel
    have HCI := Lib.hid (show cellN wr g = i from cell_i HR.out)
    have HCK := Lib.hid (show cellK wr g = k from cell_k HR.out)
    have hg := HR.out.cells.1
    have k8 := HR.out.cells.2.2.2.2.2.2.2.1
    have k13 := HR.out.cells.2.2.2.2.2.2.2.2.2.1
    dsimp only at k8 k13
    obtain ⟨vi, hvi⟩ : ∃ v, decide (i < s.size) = v := ⟨_, rfl⟩
    obtain ⟨vk, hvk⟩ : ∃ v, (k == 0) = v := ⟨_, rfl⟩
    have HVI := Lib.hid hvi
    have HVK := Lib.hid hvk
    clear hvi hvk
    cases vi
    · have hvi := HVI.out
      have hvk := HVK.out
      have HE := Lib.hid (HS.out.end_ (.inr (by have := HVI.out; rw [decide_eq_false_iff_not] at this; show s.size ≤ i; omega)))
      obtain ⟨B', d', C, c, E, ce, VV, q1, q2, q3, q4, q5, q6, q7, q8⟩ := HR.out
      have k11 : wr.cell? ⟨g, 11, none⟩ = some (.slice C T.length c) := StB.cell q3 11
      have k12 : wr.cell? ⟨g, 12, none⟩ = some (.slice E T.length ce) := StB.cell q3 12
      have k14 : wr.cell? ⟨g, 14, none⟩ = some (.int .i64 (a : Int)) := StB.cell q3 14
      have HP := Lib.hid (HRES.out.keep' HB.out hpg)
      have Q6 := Lib.hid q6
      have QE := Lib.hid (fun u0 u1 u2 u3 W5 hW => got_end hwp hpg HBW.out HB.out HP.out q5 q7 q8 u0 u1 u2 u3 W5 hW)
      clear q1 q2 q3 q4 q5 q6 q7 q8
      have p0 : wr.cell? ⟨p, 0, none⟩ = some (.slice none 0 0) := HP.out.cell 0
      have p1 : wr.cell? ⟨p, 1, none⟩ = some (.slice none 0 0) := HP.out.cell 1
      have p2 : wr.cell? ⟨p, 2, none⟩ = some (.int .i64 0) := HP.out.cell 2
      have p3 : wr.cell? ⟨p, 3, none⟩ = some (.int .i64 0) := HP.out.cell 3
      have e0 := HP.out.free 0
      have e1 := HP.out.free 1
      have e2 := HP.out.free 2
      have e3 := HP.out.free 3
      have hps := HP.out.lt
      go_wp2_with fail
      obtain ⟨W5, hW5⟩ : ∃ W5, W5 = (((wr.setCell ⟨p, 0, none⟩ (.slice C T.length c)).setCell ⟨p, 1, none⟩ (.slice E T.length ce)).setCell ⟨p, 2, none⟩ (.int .i64 k)).setCell ⟨p, 3, none⟩ (.int .i64 (a : Int)) := ⟨_, rfl⟩
      have st := (((HP.out.set_ 0 (.slice C T.length c)).set_ 1 (.slice E T.length ce)).set_ 2 (.int .i64 k)).set_ 3 (.int .i64 (a : Int))
      rw [← hW5] at st
      rw [← hW5]
      have w0 : W5.cell? ⟨p, 0, none⟩ = some (.slice C T.length c) := st.cell 0
      have w1 : W5.cell? ⟨p, 1, none⟩ = some (.slice E T.length ce) := st.cell 1
      have w2 : W5.cell? ⟨p, 2, none⟩ = some (.int .i64 k) := st.cell 2
      have w3 : W5.cell? ⟨p, 3, none⟩ = some (.int .i64 (a : Int)) := st.cell 3
      have qe := QE.out _ _ _ _ _ hW5
      clear hW5 st
      refine bodyPost_ret (v := .agg #[.slice C T.length c, .slice E T.length ce, .int .i64 k, .int .i64 (a : Int)]) (by simp [results, Tryd.results34, go_sem, w0, w1, w2, w3]) rfl ?_
      rw [HE.out]
      exact ⟨C, c, E, ce, VV, rfl, Lib.hid ⟨qe.1, Q6.out, qe.2.1, qe.2.2.1⟩, Lib.hid qe.2.2.2⟩
    · have hvi := HVI.out
      have hvk := HVK.out
      cases vk
      · skip
        have HE := Lib.hid (HS.out.end_ (.inl (by have := HVK.out; rw [beq_eq_false_iff_ne] at this; exact this)))
        obtain ⟨B', d', C, c, E, ce, VV, q1, q2, q3, q4, q5, q6, q7, q8⟩ := HR.out
        have k11 : wr.cell? ⟨g, 11, none⟩ = some (.slice C T.length c) := StB.cell q3 11
        have k12 : wr.cell? ⟨g, 12, none⟩ = some (.slice E T.length ce) := StB.cell q3 12
        have k14 : wr.cell? ⟨g, 14, none⟩ = some (.int .i64 (a : Int)) := StB.cell q3 14
        have HP := Lib.hid (HRES.out.keep' HB.out hpg)
        have Q6 := Lib.hid q6
        have QE := Lib.hid (fun u0 u1 u2 u3 W5 hW => got_end hwp hpg HBW.out HB.out HP.out q5 q7 q8 u0 u1 u2 u3 W5 hW)
        clear q1 q2 q3 q4 q5 q6 q7 q8
        have p0 : wr.cell? ⟨p, 0, none⟩ = some (.slice none 0 0) := HP.out.cell 0
        have p1 : wr.cell? ⟨p, 1, none⟩ = some (.slice none 0 0) := HP.out.cell 1
        have p2 : wr.cell? ⟨p, 2, none⟩ = some (.int .i64 0) := HP.out.cell 2
        have p3 : wr.cell? ⟨p, 3, none⟩ = some (.int .i64 0) := HP.out.cell 3
        have e0 := HP.out.free 0
        have e1 := HP.out.free 1
        have e2 := HP.out.free 2
        have e3 := HP.out.free 3
        have hps := HP.out.lt
        go_wp2_with fail
        obtain ⟨W5, hW5⟩ : ∃ W5, W5 = (((wr.setCell ⟨p, 0, none⟩ (.slice C T.length c)).setCell ⟨p, 1, none⟩ (.slice E T.length ce)).setCell ⟨p, 2, none⟩ (.int .i64 k)).setCell ⟨p, 3, none⟩ (.int .i64 (a : Int)) := ⟨_, rfl⟩
        have st := (((HP.out.set_ 0 (.slice C T.length c)).set_ 1 (.slice E T.length ce)).set_ 2 (.int .i64 k)).set_ 3 (.int .i64 (a : Int))
        rw [← hW5] at st
        rw [← hW5]
        have w0 : W5.cell? ⟨p, 0, none⟩ = some (.slice C T.length c) := st.cell 0
        have w1 : W5.cell? ⟨p, 1, none⟩ = some (.slice E T.length ce) := st.cell 1
        have w2 : W5.cell? ⟨p, 2, none⟩ = some (.int .i64 k) := st.cell 2
        have w3 : W5.cell? ⟨p, 3, none⟩ = some (.int .i64 (a : Int)) := st.cell 3
        have qe := QE.out _ _ _ _ _ hW5
        clear hW5 st
        refine bodyPost_ret (v := .agg #[.slice C T.length c, .slice E T.length ce, .int .i64 k, .int .i64 (a : Int)]) (by simp [results, Tryd.results34, go_sem, w0, w1, w2, w3]) rfl ?_
        rw [HE.out]
        exact ⟨C, c, E, ce, VV, rfl, Lib.hid ⟨qe.1, Q6.out, qe.2.1, qe.2.2.1⟩, Lib.hid qe.2.2.2⟩
      · skip
        have hk0 : k = 0 := by have := HVK.out; simpa using this
        subst hk0
        obtain ⟨ha, hrc, hi, hb0, hbi, hTi, hwd, n, hn, hG1⟩ := HS.out.1 rfl
        dsimp only at ha hi hb0 hbi hTi hn hG1
        subst hrc
        subst ha
        have hlt : i < s.size := by have := HVI.out; simpa using this
        obtain ⟨n', rfl⟩ : ∃ n', n = n' + 1 := ⟨n - 1, by omega⟩
        obtain ⟨b, l, hbl⟩ : ∃ b l, (bl s).drop i = b :: l := ⟨_, _, bl_drop s i hlt⟩
        rw [hbl] at hG1
        have HG1 := Lib.hid hG1
        obtain ⟨_, hgd, _⟩ := get_drop hbl
        have HGD := Lib.hid hgd
        have HBL := Lib.hid hbl
        have V10 := Lib.hid (isB_drop hbl 10)
        have V13 := Lib.hid (isB_drop hbl 13)
        have hs1 : (rdS d q e lf ls lr un s i bg 0 0).s.size ≤ 1000 := by show s.size ≤ 1000; omega
        clear hG1 hgd hbl
        by_cases h10 : b = 10
        · have U10 := Lib.hid (V10.out.trans (show (b == 10) = true by simpa using h10))
          obtain ⟨nf, hnf⟩ : ∃ nf, fdN e true = nf := ⟨_, rfl⟩
          have HNF := Lib.hid hnf
          have HNB := Lib.hid (show fdN e (b == 10) = nf by rw [← hnf, h10]; rfl)
          have hnc : nf = 0 ∨ nf = 1 := by rw [← hnf]; unfold fdN; rw [if_pos rfl]; split <;> simp
          have HB10 := Lib.hid h10
          clear hnf h10 V10 V13
          go_wp2_with fail
          refine (above (is_rd g g (rdS d q e lf ls lr un s i bg 0 0) [] T wr HR 10 true U10 hs1)).mono ?_
          rintro x _ ⟨rfl, y1, rfl⟩
          have HRA := Lib.hid (HR.out.below (onto_below wr y1))
          have HBA := Lib.hid (HB.out.trans ((onto_below wr y1).mono HR.out.base_le))
          obtain ⟨wa, hwa⟩ : ∃ W, W = onto wr y1 := ⟨_, rfl⟩
          rw [← hwa] at HRA HBA
          rw [← hwa]
          clear hwa
          clear hg k8 k13
          go_wp2_with fail
          refine (feed_rd g g (rdS d q e lf ls lr un s i bg 0 0) [] T wa HRA true U10 hs1 (Lib.hid rfl) nf HNF).mono ?_
          rintro x wb ⟨rfl, o1, o2⟩
          have HBB := Lib.hid (HBA.out.trans o2.out)
          rcases hnc with rfl | rfl
          · have HRB := Lib.hid (show RdB wb g g (rdS d q e lf ls lr un s i bg 6 i) [] T from o1.out)
            have hg := HRB.out.cells.1
            have k8 := HRB.out.cells.2.2.2.2.2.2.2.1
            have f8 := HRB.out.free 8
            dsimp only at k8
            have hset := HRB.out.set8 i
            have HRN := Lib.hid hset.1
            have HBN := Lib.hid (HBB.out.trans hset.2)
            have HGX := Lib.hid ((congrArg (Got.join T) (rd_0 (.inl HB10.out) HNB.out)).symm.trans HG1.out)
            clear hset o1 o2
            go_wp2_with fail
            have HM1 := Lib.hid (cell_k HRN.out)
            have HM2 := Lib.hid (cell_i HRN.out)
            go_roundw
            case rel => exact ⟨i, bg, 6, i, [], T, HRN, HBN, Lib.hid (⟨fun h => absurd h (by simp), fun _ => by rw [← HGX.out]; simp [Got.join]⟩)⟩
            case measure => rw [HM1.out, HM2.out, HCK.out, HCI.out]; simp; omega
          · have HRB := Lib.hid (show RdB wb g g (rdS d q e lf ls lr un s i bg 0 0) [] T from o1.out)
            have hg := HRB.out.cells.1
            have k8 := HRB.out.cells.2.2.2.2.2.2.2.1
            have f8 := HRB.out.free 8
            dsimp only at k8
            have hset := HRB.out.set8 (i + 1)
            have hcast : ((i + 1 : Nat) : Int) = (i : Int) + 1 := by omega
            rw [hcast] at hset
            have HRN := Lib.hid hset.1
            have HBN := Lib.hid (HBB.out.trans hset.2)
            have HGX := Lib.hid ((congrArg (Got.join T) (rd_1 (.inl HB10.out) HNB.out)).symm.trans HG1.out)
            clear hset hcast o1 o2
            go_wp2_with fail
            have HM1 := Lib.hid (cell_k HRN.out)
            have HM2 := Lib.hid (cell_i HRN.out)
            go_roundw
            case rel => exact ⟨i + 1, bg, 0, 0, [], T, HRN, HBN, Lib.hid (⟨fun _ => ⟨rfl, rfl, by show i + 1 ≤ s.size; omega, hb0, by show bg ≤ ((i + 1 : Nat) : Int); omega, by show T.length ≤ i + 1; omega, hwd, n', by show s.size - (i + 1) < n'; omega, by show Got.join T (rdGo d q e n' _ (i + 1) ((bl s).drop (i + 1))) = G; rw [HGD.out]; exact HGX.out⟩, fun h => absurd rfl h⟩)⟩
            case measure => rw [HM1.out, HM2.out, HCK.out, HCI.out]; simp; omega
        · by_cases h13 : b = 13
          · have U10 := Lib.hid (V10.out.trans (show (b == 10) = false by simpa using h10))
            have U13 := Lib.hid (V13.out.trans (show (b == 13) = true by simpa using h13))
            obtain ⟨nf, hnf⟩ : ∃ nf, fdN e false = nf := ⟨_, rfl⟩
            have HNF := Lib.hid hnf
            have HNB := Lib.hid (show fdN e (b == 10) = nf by rw [← hnf, h13]; rfl)
            have hnc : nf = 0 ∨ nf = 2 := by rw [← hnf]; unfold fdN; rw [if_neg (by decide)]; split <;> simp
            have HB13 := Lib.hid h13
            clear hnf h10 h13 V10 V13
            go_wp2_with fail
            refine (above (is_rd g g (rdS d q e lf ls lr un s i bg 0 0) [] T wr HR 10 false U10 hs1)).mono ?_
            rintro x _ ⟨rfl, y1, rfl⟩
            have HRA := Lib.hid (HR.out.below (onto_below wr y1))
            have HBA := Lib.hid (HB.out.trans ((onto_below wr y1).mono HR.out.base_le))
            obtain ⟨wa, hwa⟩ : ∃ W, W = onto wr y1 := ⟨_, rfl⟩
            rw [← hwa] at HRA HBA
            rw [← hwa]
            clear hwa
            clear hg k8 k13
            go_wp2_with fail
            refine (above (is_rd g g (rdS d q e lf ls lr un s i bg 0 0) [] T wa HRA 13 true U13 hs1)).mono ?_
            rintro x _ ⟨rfl, y2, rfl⟩
            have HRB := Lib.hid (HRA.out.below (onto_below wa y2))
            have HBB := Lib.hid (HBA.out.trans ((onto_below wa y2).mono HRA.out.base_le))
            obtain ⟨wb, hwb⟩ : ∃ W, W = onto wa y2 := ⟨_, rfl⟩
            rw [← hwb] at HRB HBB
            rw [← hwb]
            clear hwb
            go_wp2_with fail
            refine (feed_rd g g (rdS d q e lf ls lr un s i bg 0 0) [] T wb HRB false U10 hs1 (Lib.hid rfl) nf HNF).mono ?_
            rintro x wc2 ⟨rfl, o1, o2⟩
            have HBC := Lib.hid (HBB.out.trans o2.out)
            rcases hnc with rfl | rfl
            · have HRC := Lib.hid (show RdB wc2 g g (rdS d q e lf ls lr un s i bg 6 i) [] T from o1.out)
              have hg := HRC.out.cells.1
              have k8 := HRC.out.cells.2.2.2.2.2.2.2.1
              have f8 := HRC.out.free 8
              dsimp only at k8
              have hset := HRC.out.set8 i
              have HRN := Lib.hid hset.1
              have HBN := Lib.hid (HBC.out.trans hset.2)
              have HGX := Lib.hid ((congrArg (Got.join T) (rd_0 (.inr HB13.out) HNB.out)).symm.trans HG1.out)
              clear hset o1 o2
              go_wp2_with fail
              have HM1 := Lib.hid (cell_k HRN.out)
              have HM2 := Lib.hid (cell_i HRN.out)
              go_roundw
              case rel => exact ⟨i, bg, 6, i, [], T, HRN, HBN, Lib.hid (⟨fun h => absurd h (by simp), fun _ => by rw [← HGX.out]; simp [Got.join]⟩)⟩
              case measure => rw [HM1.out, HM2.out, HCK.out, HCI.out]; simp; omega
            · have HRC := Lib.hid (show RdB wc2 g g (rdS d q e lf ls lr un s i bg 0 0) [] T from o1.out)
              obtain ⟨vs, hvs⟩ : ∃ v, isB s (i + 1) 10 = v := ⟨_, rfl⟩
              have HVS := Lib.hid hvs
              clear hvs o1 o2
              go_wp2_with fail
              refine (second_rd g g (rdS d q e lf ls lr un s i bg 0 0) [] T wc2 HRC vs HVS hs1 (by show i ≤ 1000; omega) (Lib.hid rfl)).mono ?_
              rintro x wd ⟨rfl, o1, o2⟩
              have HBD := Lib.hid (HBC.out.trans o2.out)
              have hcast : ((i + 2 : Nat) : Int) = (i : Int) + 2 := by omega
              cases vs
              · have HRD2 := Lib.hid (show RdB wd g g (rdS d q e lf ls lr un s i bg 6 (i + 1)) [] T from o1.out)
                have hg := HRD2.out.cells.1
                have k8 := HRD2.out.cells.2.2.2.2.2.2.2.1
                have f8 := HRD2.out.free 8
                dsimp only at k8
                have hset := HRD2.out.set8 (i + 2)
                rw [hcast] at hset
                have HRN := Lib.hid hset.1
                have HBN := Lib.hid (HBD.out.trans hset.2)
                have HGX := Lib.hid ((congrArg (Got.join T) (rd_2no (.inr HB13.out) HNB.out HGD.out HVS.out)).symm.trans HG1.out)
                clear hset hcast o1 o2
                go_wp2_with fail
                have HM1 := Lib.hid (cell_k HRN.out)
                have HM2 := Lib.hid (cell_i HRN.out)
                go_roundw
                case rel => exact ⟨i + 2, bg, 6, i + 1, [], T, HRN, HBN, Lib.hid (⟨fun h => absurd h (by simp), fun _ => by rw [← HGX.out]; simp [Got.join]⟩)⟩
                case measure => rw [HM1.out, HM2.out, HCK.out, HCI.out]; simp; omega
              · have HRD2 := Lib.hid (show RdB wd g g (rdS d q e lf ls lr un s i bg 0 0) [] T from o1.out)
                have hg := HRD2.out.cells.1
                have k8 := HRD2.out.cells.2.2.2.2.2.2.2.1
                have f8 := HRD2.out.free 8
                dsimp only at k8
                have hset := HRD2.out.set8 (i + 2)
                rw [hcast] at hset
                have HRN := Lib.hid hset.1
                have HBN := Lib.hid (HBD.out.trans hset.2)
                have HGX := Lib.hid ((congrArg (Got.join T) (rd_2yes (.inr HB13.out) HNB.out HGD.out HVS.out)).symm.trans HG1.out)
                have hl2 := isB_lt HVS.out
                clear hset hcast o1 o2
                go_wp2_with fail
                have HM1 := Lib.hid (cell_k HRN.out)
                have HM2 := Lib.hid (cell_i HRN.out)
                go_roundw
                case rel => exact ⟨i + 2, bg, 0, 0, [], T, HRN, HBN, Lib.hid (⟨fun _ => ⟨rfl, rfl, by show i + 2 ≤ s.size; omega, hb0, by show bg ≤ ((i + 2 : Nat) : Int); omega, by show T.length ≤ i + 2; omega, hwd, n', by show s.size - (i + 2) < n'; omega, HGX.out⟩, fun h => absurd rfl h⟩)⟩
                case measure => rw [HM1.out, HM2.out, HCK.out, HCI.out]; simp; omega
          · have U10 := Lib.hid (V10.out.trans (show (b == 10) = false by simpa using h10))
            have U13 := Lib.hid (V13.out.trans (show (b == 13) = false by simpa using h13))
            have N10 := Lib.hid h10
            have N13 := Lib.hid h13
            clear h10 h13 V10 V13
            go_wp2_with fail
            refine (above (is_rd g g (rdS d q e lf ls lr un s i bg 0 0) [] T wr HR 10 false U10 hs1)).mono ?_
            rintro x _ ⟨rfl, y1, rfl⟩
            have HRA := Lib.hid (HR.out.below (onto_below wr y1))
            have HBA := Lib.hid (HB.out.trans ((onto_below wr y1).mono HR.out.base_le))
            obtain ⟨wa, hwa⟩ : ∃ W, W = onto wr y1 := ⟨_, rfl⟩
            rw [← hwa] at HRA HBA
            rw [← hwa]
            clear hwa
            clear hg k8 k13
            go_wp2_with fail
            refine (above (is_rd g g (rdS d q e lf ls lr un s i bg 0 0) [] T wa HRA 13 false U13 hs1)).mono ?_
            rintro x _ ⟨rfl, y2, rfl⟩
            have HRB := Lib.hid (HRA.out.below (onto_below wa y2))
            have HBB := Lib.hid (HBA.out.trans ((onto_below wa y2).mono HRA.out.base_le))
            obtain ⟨wb, hwb⟩ : ∃ W, W = onto wa y2 := ⟨_, rfl⟩
            rw [← hwb] at HRB HBB
            rw [← hwb]
            clear hwb
            go_wp2_with fail
            by_cases h9 : bg = lr
            · refine (line_9 g g (rdS d q e lf ls lr un s i bg 0 0) [] T (Lib.hid rfl) (Lib.hid h9) wb HRB).mono ?_
              rintro x wc2 ⟨rfl, o1, o2⟩
              have HRN := Lib.hid (show RdB wc2 g g (rdS d q e lf ls lr un s i bg 9 i) [] T from o1.out)
              have HBN := Lib.hid (HBB.out.trans o2.out)
              have HGX := Lib.hid ((congrArg (Got.join T) (rd_9 (m := mkOf (rdS d q e lf ls lr un s i bg 0 0) [] T) N10.out N13.out h9)).symm.trans HG1.out)
              clear o1 o2 h9
              go_wp2_with fail
              have HM1 := Lib.hid (cell_k HRN.out)
              have HM2 := Lib.hid (cell_i HRN.out)
              go_roundw
              case rel => exact ⟨i, bg, 9, i, [], T, HRN, HBN, Lib.hid (⟨fun h => absurd h (by simp), fun _ => by rw [← HGX.out]; simp [Got.join]⟩)⟩
              case measure => rw [HM1.out, HM2.out, HCK.out, HCI.out]; simp; omega
            · have hll : l.length + 1 = s.size - i := by
                have := congrArg List.length HBL.out
                simp [bl_length] at this; omega
              obtain ⟨X, hX⟩ : ∃ X, lnGo d q e (l.length + 2) { mkOf (rdS d q e lf ls lr un s i bg 0 0) [] T with bg := bg + 1 } i (b :: l) = X := ⟨_, rfl⟩
              have HX := Lib.hid hX
              refine (line_any6 g g (rdS d q e lf ls lr un s i bg 0 0) T hi hs (Lib.hid rfl) hun (by omega) hwd ⟨hb0, by show bg ≤ 980; omega⟩ (Lib.hid h9) wb HRB (l.length + 2) (by show s.size - i < _; omega) X (Lib.hid (by rw [HBL.out]; exact hX))).mono ?_
              rintro x wc2 ⟨ok, rfl, o1, o2, o3⟩
              have HBN := Lib.hid (HBB.out.trans o1.out)
              by_cases hk : X.k = 0
              · have hrn := o2.out hk
                have HRN := Lib.hid (show RdB wc2 g g (rdS d q e lf ls lr un s X.i (bg + 1) 0 0) [] (T ++ [(X.rc, X.e)]) from hrn)
                have hgx := (congrArg (Got.join T) (rd_go (n := n') (m := mkOf (rdS d q e lf ls lr un s i bg 0 0) [] T) N10.out N13.out h9 hX hk)).symm.trans HG1.out
                rw [join_more] at hgx
                have hrest := lnGo_rest (s := s) (l.length + 2) { mkOf (rdS d q e lf ls lr un s i bg 0 0) [] T with bg := bg + 1 } i hi (by omega) (by rw [HBL.out, hX]; exact hk)
                rw [HBL.out, hX] at hrest
                obtain ⟨r1, r2, r3, r4⟩ := hrest
                have r5 := r4 b l rfl N10.out N13.out
                rw [r1] at hgx
                have HGX := Lib.hid ((congrArg (fun M => Got.join (T ++ [(X.rc, X.e)]) (rdGo d q e n' M X.i ((bl s).drop X.i))) (mkOf_out (rdS d q e lf ls lr un s i bg 0 0) X.rc X.e T)).symm.trans hgx)
                have hfw := lnGo_few d q e (l.length + 2) { mkOf (rdS d q e lf ls lr un s i bg 0 0) [] T with bg := bg + 1 } i (b :: l)
                rw [hX] at hfw
                have hfw2 : X.rc.length ≤ l.length + 2 := by simpa [mkOf] using hfw
                have hwd2 : wdOf (T ++ [(X.rc, X.e)]) ≤ 1000 := by
                  have := wdOf_snoc T (X.rc, X.e)
                  split at this
                  · dsimp only at this; omega
                  · omega
                have HX0 := Lib.hid hk
                clear hX hgx r1 r4 hrn hfw o1 o2 o3 hk h9
                go_wp2_with fail
                have HM1 := Lib.hid (cell_k HRN.out)
                have HM2 := Lib.hid (cell_i HRN.out)
                go_roundw
                case rel => exact ⟨X.i, bg + 1, 0, 0, [], T ++ [(X.rc, X.e)], HRN, HBN, Lib.hid (⟨fun _ => ⟨rfl, rfl, r3, by show 0 ≤ bg + 1; omega, by show bg + 1 ≤ (X.i : Int); omega, by show (T ++ [(X.rc, X.e)]).length ≤ X.i; simp; omega, hwd2, n', by show s.size - X.i < n'; omega, HGX.out⟩, fun h => absurd rfl h⟩)⟩
                case measure => rw [HM1.out, HM2.out, HCK.out, HCI.out]; simp; omega
              · obtain ⟨i', rc', hrn⟩ := o3.out hk
                have HRN := Lib.hid (show RdB wc2 g g (rdS d q e lf ls lr un s i' (bg + 1) X.k X.at_) rc' T from hrn)
                have HGX := Lib.hid ((congrArg (Got.join T) (rd_bad (n := n') (m := mkOf (rdS d q e lf ls lr un s i bg 0 0) [] T) N10.out N13.out h9 hX hk)).symm.trans HG1.out)
                have HM1 := Lib.hid (cell_k HRN.out)
                have HXK := Lib.hid hk
                clear hX hrn o1 o2 o3 hk h9
                go_wp2_with fail
                go_roundw
                case rel => exact ⟨i', bg + 1, X.k, X.at_, rc', T, HRN, HBN, Lib.hid ⟨fun h => absurd h HXK.out, fun _ => by rw [← HGX.out]; simp [Got.join]⟩⟩
                case measure => rw [HM1.out, HCK.out, HCI.out, if_neg (show ¬ X.k = 0 from HXK.out)]; simp; omega
end Go.Proofs.YtigoonokiihdgaaDoor

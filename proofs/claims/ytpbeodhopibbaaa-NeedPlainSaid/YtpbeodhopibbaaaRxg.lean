/- Layer 6: the document's reader's words, said of the reader with its record and records (RdB). -/
import Derived.Test.YtpbeodhopibbaaaRxf
namespace Go.Proofs.Ytpbeodhopibbaaa
open Go.ChangeShapes Go.WideShapes Go.ChangeAt Go.RowKit
set_option linter.unusedVariables false
set_option linter.unusedSimpArgs false

/-- The first record's number of fields. -/
def wdOf (T : List (List ByteArray × Nat)) : Nat := match T with | [] => 0 | p :: _ => p.1.length
section
variable {w w' : World} {base g : Nat} {r : Rd} {rc : List ByteArray} {T : List (List ByteArray × Nat)}
/-- The reader opened: its own cells, and how it is put together again where it alone has turned. -/
theorem RdB.open_ (h : RdB w base g r rc T) : ∃ (B : Option Addr) (d : Nat) (C : Option Addr) (c : Nat) (E : Option Addr) (ce : Nat),
    RB w g { r with ro := .slice B rc.length d, rs := .slice C T.length c, es := .slice E T.length ce } ∧ T.length ≤ c ∧ base ≤ g ∧ base ≤ w.heap.size ∧
    (0 < T.length → ∃ A1 c1 a1, C = some a1 ∧ w.cell? a1 = some (.slice A1 (wdOf T) c1)) ∧
    ∀ (w' : World) (r' : Rd), Touch w w' (fun k => k = g) → RB w' g { r' with ro := .slice B rc.length d, rs := .slice C T.length c, es := .slice E T.length ce } → RdB w' base g r' rc T ∧ Below base w w' := by
  obtain ⟨B, d, C, c, E, ce, V, h1, h2, h3, h4, h5, h6, h7, h8⟩ := h
  refine ⟨B, d, C, c, E, ce, h3, h5.2.1, h1, h2, fun hT => ?_, fun w' r' t h' => ⟨⟨B, d, C, c, E, ce, V, h1, Nat.le_trans h2 t.size, h', h4.touch t (h4.unlike_st h3 (by decide)), h5.touch t (h5.unlike_st h3 (by decide)), h6, h7.touch t (h7.unlike_st h3 (by decide)), h8.keep fun k hk _ ⟨cur, fz, hc⟩ => t.block k hk fun e => ?_⟩, t.below h2 fun k hk => by rw [hk]; exact h1⟩⟩
  · match T, hT, h5, h8 with
    | p :: T', _, h5, h8 =>
      obtain ⟨A1, c1, hv, _, _⟩ := h8.2 0 p.1 (by simp)
      obtain ⟨a1, ha, hc⟩ := h5.toIn.at_ hv
      exact ⟨A1, c1, a1, ha, by simpa [Addr.add, wdOf] using hc⟩
  · subst e
    unfold RB StB at h3
    rw [h3] at hc; injection hc with hc; injection hc with _ h2 _; exact absurd h2 (by decide)
theorem RdB.base_le (h : RdB w base g r rc T) : base ≤ w.heap.size := by
  obtain ⟨_, _, _, _, _, _, _, _, _, h2, _⟩ := h.open_
  exact h2
theorem RdB.cells (h : RdB w base g r rc T) : g < w.heap.size ∧ w.cell? ⟨g, 0, none⟩ = some (.int .i64 r.d) ∧ w.cell? ⟨g, 1, none⟩ = some (.int .i64 r.q) ∧ w.cell? ⟨g, 4, none⟩ = some (.int .i64 r.ls) ∧ w.cell? ⟨g, 5, none⟩ = some (.int .i64 r.lr) ∧ w.cell? ⟨g, 6, none⟩ = some (.int .i64 r.un) ∧
    w.cell? ⟨g, 7, none⟩ = some (.string r.s) ∧ w.cell? ⟨g, 8, none⟩ = some (.int .i64 r.i) ∧ w.cell? ⟨g, 9, none⟩ = some (.int .i64 r.bg) ∧ w.cell? ⟨g, 13, none⟩ = some (.int .i64 r.k) ∧
    (∃ B d, w.cell? ⟨g, 10, none⟩ = some (.slice B rc.length d)) ∧ ∃ C c, T.length ≤ c ∧ w.cell? ⟨g, 11, none⟩ = some (.slice C T.length c) ∧ (0 < T.length → ∃ A1 c1 a1, C = some a1 ∧ w.cell? a1 = some (.slice A1 (wdOf T) c1)) := by
  obtain ⟨B, d, C, c, E, ce, h3, hc, _, _, hf, _⟩ := h.open_
  obtain ⟨a, k0, k1, k2, k3, k4, k5, k6, k7, k8, k9, k10, k11, k12, k13, k14⟩ := RB.cells h3
  exact ⟨a, k0, k1, k4, k5, k6, k7, k8, k9, k13, ⟨B, d, k10⟩, C, c, hc, k11, hf⟩
theorem RdB.free (h : RdB w base g r rc T) (i : Nat) : w.frozen? ⟨g, i, none⟩ = false := by
  obtain ⟨B, d, C, c, E, ce, h3, _⟩ := h.open_
  exact RB.free h3 i
theorem RdB.set8 (h : RdB w base g r rc T) (n : Nat) : RdB (w.setCell ⟨g, 8, none⟩ (.int .i64 n)) base g { r with i := n } rc T ∧ Below base w (w.setCell ⟨g, 8, none⟩ (.int .i64 n)) := by
  obtain ⟨B, d, C, c, E, ce, h3, _, _, _, _, put⟩ := h.open_
  have o := RB.set8 h3 n
  exact put _ { r with i := n } o.2 o.1
theorem RdB.set9 (h : RdB w base g r rc T) (n : Int) : RdB (w.setCell ⟨g, 9, none⟩ (.int .i64 n)) base g { r with bg := n } rc T ∧ Below base w (w.setCell ⟨g, 9, none⟩ (.int .i64 n)) := by
  obtain ⟨B, d, C, c, E, ce, h3, _, _, _, _, put⟩ := h.open_
  refine put _ { r with bg := n } (then_self (Touch.refl w _) 9 _) ?_
  have := StB.set_ h3 9 (.int .i64 n)
  simpa [RB, rdCells] using this
end
/-- The reader has turned to r', its record and records as they were. -/
def RdOut (base g : Nat) (v : Value) (r' : Rd) (rc : List ByteArray) (T : List (List ByteArray × Nat)) (w : World) (x : Ending) (w' : World) : Prop :=
  x = .returned v ∧ Hid (RdB w' base g r' rc T) ∧ Hid (Below base w w')

section
variable (base g : Nat) (r : Rd) (rc : List ByteArray) (T : List (List ByteArray × Nat)) (w : World) (h : Hid (RdB w base g r rc T))
include h
theorem is_rd (b : Int) (v : Bool) (hv : Hid (isB r.s r.i b = v)) (hs : r.s.size ≤ 1000) : Calls Try.prog 33 #[.pointer (some ⟨g, 0, none⟩), .int .i64 b] w fun x w' => x = .returned (.bool v) ∧ Below w.heap.size w w' := by
  obtain ⟨B, d, C, c, E, ce, h3, _⟩ := h.out.open_
  exact is_any g { r with ro := .slice B rc.length d, rs := .slice C T.length c, es := .slice E T.length ce } b v hv hs w (Lib.hid h3)
theorem wrong_rd (kind : Int) (a : Nat) (h0 : Hid (r.k = 0)) : Calls Try.prog 43 #[.pointer (some ⟨g, 0, none⟩), .int .i64 kind, .int .i64 a] w (RdOut base g (.bool false) { r with k := kind, at_ := a } rc T w) := by
  obtain ⟨B, d, C, c, E, ce, h3, _, _, _, _, put⟩ := h.out.open_
  refine (wrong_any g { r with ro := .slice B rc.length d, rs := .slice C T.length c, es := .slice E T.length ce } kind a h0 w (Lib.hid h3)).mono ?_
  rintro x w' ⟨rfl, o⟩
  have := put w' { r with k := kind, at_ := a } o.2 o.1
  exact ⟨rfl, Lib.hid this.1, Lib.hid this.2⟩
theorem feed_rd (b10 : Bool) (hv : Hid (isB r.s r.i 10 = b10)) (hs : r.s.size ≤ 1000) (h0 : Hid (r.k = 0)) (n : Int) (hn : Hid (fdN r.e b10 = n)) : Calls Try.prog 34 #[.pointer (some ⟨g, 0, none⟩)] w (RdOut base g (.int .i64 n) (if n = 0 then { r with k := 6, at_ := r.i } else r) rc T w) := by
  obtain ⟨B, d, C, c, E, ce, h3, _, _, _, _, put⟩ := h.out.open_
  refine (rfeed_any g { r with ro := .slice B rc.length d, rs := .slice C T.length c, es := .slice E T.length ce } b10 hv hs h0 w (Lib.hid h3)).mono ?_
  rintro x w' ⟨rfl, o⟩
  rw [hn.out] at o
  rw [hn.out]
  have : RdB w' base g (if n = 0 then { r with k := 6, at_ := r.i } else r) rc T ∧ Below base w w' := by
    refine put w' _ o.2 ?_
    have := o.1
    split at this
    · rename_i hz; rw [if_pos hz]; exact this
    · rename_i hz; rw [if_neg hz]; exact this
  exact ⟨rfl, Lib.hid this.1, Lib.hid this.2⟩
theorem second_rd (v : Bool) (hv : Hid (isB r.s (r.i + 1) 10 = v)) (hs : r.s.size ≤ 1000) (hi : r.i ≤ 1000) (h0 : Hid (r.k = 0)) : Calls Try.prog 35 #[.pointer (some ⟨g, 0, none⟩)] w (RdOut base g (.bool v) (if v = true then r else { r with k := 6, at_ := r.i + 1 }) rc T w) := by
  obtain ⟨B, d, C, c, E, ce, h3, _, _, _, _, put⟩ := h.out.open_
  refine (second_any g { r with ro := .slice B rc.length d, rs := .slice C T.length c, es := .slice E T.length ce } v hv hs hi h0 w (Lib.hid h3)).mono ?_
  rintro x w' ⟨rfl, o⟩
  have : RdB w' base g (if v = true then r else { r with k := 6, at_ := r.i + 1 }) rc T ∧ Below base w w' := by
    refine put w' _ o.2 ?_
    have := o.1
    split at this
    · rename_i hz; rw [if_pos hz]; exact this
    · rename_i hz; rw [if_neg hz]; exact this
  exact ⟨rfl, Lib.hid this.1, Lib.hid this.2⟩
theorem width_rd (a : Nat) (hun : r.un = 0 ∨ r.un = 1) (hm : rc.length ≤ 1000000) (hn : T.length ≤ 1000000) (hf : wdOf T ≤ 1000000) (v : Bool) (hv : Hid (v = !decide (r.un = 1 ∧ 0 < T.length ∧ rc.length ≠ wdOf T))) (h0 : Hid (r.k = 0)) :
    Calls Try.prog 46 #[.pointer (some ⟨g, 0, none⟩), .int .i64 a] w (RdOut base g (.bool v) (if v = true then r else { r with k := 10, at_ := a }) rc T w) := by
  obtain ⟨B, d, C, c, E, ce, h3, hc, _, _, hfirst, put⟩ := h.out.open_
  refine (width_any g { r with ro := .slice B rc.length d, rs := .slice C T.length c, es := .slice E T.length ce } a B C d c rc.length T.length (Lib.hid rfl) (Lib.hid rfl) hun hm hn (wdOf T) hf v hv h0 w (Lib.hid h3) hfirst hc).mono ?_
  rintro x w' ⟨rfl, o⟩
  have : RdB w' base g (if v = true then r else { r with k := 10, at_ := a }) rc T ∧ Below base w w' := by
    refine put w' _ o.2 ?_
    have := o.1
    split at this
    · rename_i hz; rw [if_pos hz]; exact this
    · rename_i hz; rw [if_neg hz]; exact this
  exact ⟨rfl, Lib.hid this.1, Lib.hid this.2⟩
end
/-- What a field leaves, of the whole reader. -/
def FldRd (base g : Nat) (r : Rd) (rc : List ByteArray) (T : List (List ByteArray × Nat)) (F : Fld) (w : World) (t : ByteArray) (ok : Bool) (i' : Nat) (w' : World) : Prop :=
  Below base w w' ∧ (F.k = 0 → ok = true ∧ t = toBA F.f ∧ RdB w' base g { r with i := F.i } rc T) ∧ (F.k ≠ 0 → ok = false ∧ RdB w' base g { r with i := i', k := F.k, at_ := F.i } rc T)
section
variable (base g : Nat) (r : Rd) (rc : List ByteArray) (T : List (List ByteArray × Nat)) (w : World) (h : Hid (RdB w base g r rc T))
include h
omit h in
theorem fld_rd {B C E : Option Addr} {d c ce : Nat} {F : Fld} {x : Ending} {w' : World} (put : ∀ (w' : World) (r' : Rd), Touch w w' (fun k => k = g) → RB w' g { r' with ro := .slice B rc.length d, rs := .slice C T.length c, es := .slice E T.length ce } → RdB w' base g r' rc T ∧ Below base w w')
    (o : FieldOut g { r with ro := .slice B rc.length d, rs := .slice C T.length c, es := .slice E T.length ce } F w x w') : ∃ t ok i', x = .returned (.tuple #[.string t, .bool ok]) ∧ Hid (FldRd base g r rc T F w t ok i' w') := by
  obtain ⟨t, ok, i', rfl, o1, o2⟩ := o
  refine ⟨t, ok, i', rfl, Lib.hid ?_⟩
  by_cases hk : F.k = 0
  · obtain ⟨a1, a2, a3⟩ := o1 hk
    have := put w' { r with i := F.i } a3.2 a3.1
    exact ⟨this.2, fun _ => ⟨a1, a2, this.1⟩, fun h => absurd hk h⟩
  · obtain ⟨a1, a3⟩ := o2 hk
    have := put w' { r with i := i', k := F.k, at_ := F.i } a3.2 a3.1
    exact ⟨this.2, fun h => absurd h hk, fun _ => ⟨a1, this.1⟩⟩
theorem bare_rd (hi : r.i ≤ r.s.size) (hs : r.s.size ≤ 900) (h0 : Hid (r.k = 0)) (F : Fld) (hF : Hid (bGo r.d r.q r.lf [] r.i ((bl r.s).drop r.i) = F)) :
    Calls Try.prog 45 #[.pointer (some ⟨g, 0, none⟩)] w fun x w' => ∃ t ok i', x = .returned (.tuple #[.string t, .bool ok]) ∧ Hid (FldRd base g r rc T F w t ok i' w') := by
  obtain ⟨B, d, C, c, E, ce, h3, _, _, _, _, put⟩ := h.out.open_
  exact (bare_any6 g { r with ro := .slice B rc.length d, rs := .slice C T.length c, es := .slice E T.length ce } hi hs h0 w (Lib.hid h3) F hF).mono fun x w' o => fld_rd base g r rc T w put o
theorem quoted_rd (hi : r.i ≤ r.s.size) (hs : r.s.size ≤ 900) (h0 : Hid (r.k = 0)) (F : Fld) (hF : Hid (behind r.d (qGo r.q r.lf [] r.i ((bl r.s).drop r.i)) = F)) :
    Calls Try.prog 44 #[.pointer (some ⟨g, 0, none⟩)] w fun x w' => ∃ t ok i', x = .returned (.tuple #[.string t, .bool ok]) ∧ Hid (FldRd base g r rc T F w t ok i' w') := by
  obtain ⟨B, d, C, c, E, ce, h3, _, _, _, _, put⟩ := h.out.open_
  exact (quoted_any6 g { r with ro := .slice B rc.length d, rs := .slice C T.length c, es := .slice E T.length ce } hi hs h0 w (Lib.hid h3) F hF).mono fun x w' o => fld_rd base g r rc T w put o
end

/-- A field put behind the record's: what that leaves in memory. -/
theorem app_end {w w' : World} {base g : Nat} {r : Rd} {rc : List ByteArray} {T : List (List ByteArray × Nat)} {t : ByteArray} {B C E B' : Option Addr} {d c ce d' : Nat} {V : List Value} (h1 : base ≤ g) (h2 : base ≤ w.heap.size)
    (h3 : RB w g { r with ro := .slice B rc.length d, rs := .slice C T.length c, es := .slice E T.length ce }) (h4 : SlOwn w base 9 B rc.length d (strs rc)) (h5 : SlOwn w base 34 C T.length c V) (h6 : ∀ u ∈ V, u.oneCell' = true) (h7 : SlOwn w base 3 E T.length ce (ends T))
    (h8 : RowsAt w base 9 V (T.map (·.1)) (blkOf B)) (u : Value) (hown : SlOwn w' base 9 B' (rc.length + 1) d' (strs rc ++ [.string t])) (hg : (w.alloc (.cells #[u] 9)).grownBy w' (blkOf B)) (hat : B' = B ∨ B' = some ⟨w.heap.size + 1, 0, none⟩) :
    RdB (w'.setCell ⟨g, 10, none⟩ (.slice B' (rc.length + 1) d')) base g r (rc ++ [t]) T ∧ Below base w (w'.setCell ⟨g, 10, none⟩ (.slice B' (rc.length + 1) d')) := by
  have b0 : Below w.heap.size w (w.alloc (.cells #[u] 9)) := up_alloc (Below.refl _ w) _
  have gB := h4.unlike_st h3 (by decide)
  have st := (StB.below h3 b0).grown hg (fun e => gB g e.symm rfl)
  have gB' := hown.unlike_st st (by decide)
  have t1 : Touch w w' (fun k => blkOf B = some k) := (Touch.of_below b0 _).then_grown hg fun j hj => .inl hj
  have o5 := (h5.touch t1 fun k hk h => h5.unlike h4 (by decide) k hk h)
  have o7 := (h7.touch t1 fun k hk h => h7.unlike h4 (by decide) k hk h)
  have keep : ∀ k, k ≠ g → (w'.setCell ⟨g, 10, none⟩ (.slice B' (rc.length + 1) d')).heap[k]? = w'.heap[k]? := fun k hk => Below.heap_setCell _ _ _ k hk
  refine ⟨⟨B', d', C, c, E, ce, V, h1, ?_, ?_, ?_, o5.keep fun k hk => keep k (o5.unlike_st st (by decide) k hk), h6, o7.keep fun k hk => keep k (o7.unlike_st st (by decide) k hk), ?_⟩, ?_⟩
  · have := t1.size; simp [World.setCell]; omega
  · have := st.set_ 10 (.slice B' (rc.length + 1) d')
    simpa [RB, rdCells] using this
  · have := hown.keep (w' := w'.setCell ⟨g, 10, none⟩ (.slice B' (rc.length + 1) d')) fun k hk => keep k (gB' k hk)
    simpa [strs] using this
  · refine ⟨h8.1, fun j x hx => ?_⟩
    obtain ⟨A, a, hv, ho, hn⟩ := h8.2 j x hx
    have ho1 := ho.touch t1 fun k hk h => hn k hk h
    refine ⟨A, a, hv, ho1.keep fun k hk => keep k (ho1.unlike_st st (by decide) k hk), fun k hk h => ?_⟩
    rcases hat with rfl | rfl
    · exact hn k hk h
    · simp [blkOf] at h
      have := (ho.blk k hk).2
      omega
  · have b1 : Below base w w' := t1.below h2 fun k hk => (h4.blk k hk).1
    exact b1.trans ⟨rfl, rfl, rfl, by simp [World.setCell], fun k hk => keep k (by omega)⟩
end Go.Proofs.Ytpbeodhopibbaaa

/- Layer 6: the document's reader with its record and its records in memory (RdB); the contract of its whole. Layer 6: the document's reader's words, said of the reader with its record and records (RdB). Layer 6: the document's line: its plain half. -/
import Derived.Test.YtigoonokiihdgaaDoorRxe
import Derived.Test.YtigoonokiihdgaaDoorZp
namespace Go.Proofs.YtigoonokiihdgaaDoor
open Go.ChangeShapes Go.WideShapes Go.ChangeAt Go.RowKit
set_option linter.unusedVariables false
set_option linter.unusedSimpArgs false

theorem infoStr : (Tryd.prog.info? 9).map (fun i => (i.zero, i.size, i.bytes)) = some (some (.string ⟨#[]⟩), 1, 16) := by kernel_rfl
theorem infoRow : (Tryd.prog.info? 24).map (fun i => (i.zero, i.size, i.bytes)) = some (some (.slice none 0 0), 1, 24) := by kernel_rfl
theorem infoInt : (Tryd.prog.info? 3).map (fun i => (i.zero, i.size, i.bytes)) = some (some (.int .i64 0), 1, 8) := by kernel_rfl

/-- Slices (V) that read as the records rs, each in a block of the call's own other than 'not'. -/
def RowsAt (w : World) (base : Nat) (e : TypeId) (V : List Value) (rs : List (List ByteArray)) (not : Option Nat) : Prop :=
  V.length = rs.length ∧ ∀ (j : Nat) (x : List ByteArray), rs[j]? = some x → ∃ A a, V[j]? = some (.slice A x.length a) ∧ SlOwn w base e A x.length a (strs x) ∧ ∀ k, blkOf A = some k → not ≠ some k
section
variable {w w' : World} {base : Nat} {e : TypeId} {V : List Value} {rs : List (List ByteArray)} {no : Option Nat}
theorem RowsAt.nothing (w : World) (base : Nat) (e : TypeId) (no : Option Nat) : RowsAt w base e [] [] no := ⟨rfl, fun j x h => by simp at h⟩
theorem RowsAt.keep (h : RowsAt w base e V rs no) (hk : ∀ k, k < w.heap.size → no ≠ some k → (∃ cur fz, w.heap[k]? = some (.cells cur e fz)) → w'.heap[k]? = w.heap[k]?) : RowsAt w' base e V rs no :=
  ⟨h.1, fun j x hx => by
    obtain ⟨A, a, hv, ho, hn⟩ := h.2 j x hx
    refine ⟨A, a, hv, ho.keep fun k hkA => hk k (ho.blk k hkA).2 (hn k hkA) ?_, hn⟩
    rcases ho.2.2.2 with ⟨rfl, _⟩ | ⟨q, cur, fz, rfl, _, hg, _⟩
    · cases hkA
    · have : q = k := by simpa [blkOf] using hkA
      subst this
      exact ⟨cur, fz, hg⟩⟩
theorem RowsAt.below (h : RowsAt w base e V rs no) (hb : Below w.heap.size w w') : RowsAt w' base e V rs no := h.keep fun k hk _ _ => hb.block k hk
theorem RowsAt.free (h : RowsAt w base e V rs no) : RowsAt w base e V rs none := ⟨h.1, fun j x hx => by
  obtain ⟨A, a, hv, ho, hn⟩ := h.2 j x hx
  exact ⟨A, a, hv, ho, fun k _ => by simp⟩⟩
theorem RowsAt.one (h : ∀ u ∈ V, u.oneCell' = true) : ∀ u ∈ V, u.oneCell' = true := h
theorem RowsAt.snoc (h : RowsAt w base e V rs none) {A : Option Addr} {a : Nat} {x : List ByteArray} (ho : SlOwn w base e A x.length a (strs x)) : RowsAt w base e (V ++ [.slice A x.length a]) (rs ++ [x]) none := by
  refine ⟨by simp [h.1], fun j y hy => ?_⟩
  by_cases hj : j < rs.length
  · rw [List.getElem?_append_left hj] at hy
    obtain ⟨B, b, hv, h2⟩ := h.2 j y hy
    exact ⟨B, b, by rw [List.getElem?_append_left (by rw [h.1]; exact hj)]; exact hv, h2⟩
  · rw [List.getElem?_append_right (by omega)] at hy
    have : j = rs.length := by
      have := (List.getElem?_eq_some_iff.1 hy).1
      simp at this; omega
    subst this
    simp at hy; subst hy
    exact ⟨A, a, by rw [← h.1]; simp, ho, fun k _ => by simp⟩
end

def ends (T : List (List ByteArray × Nat)) : List Value := T.map fun p => Value.int .i64 (p.2 : Int)
/-- The reader r, its record rc, its records T; all of it in blocks from base on. -/
def RdB (w : World) (base g : Nat) (r : Rd) (rc : List ByteArray) (T : List (List ByteArray × Nat)) : Prop :=
  ∃ (B : Option Addr) (d : Nat) (C : Option Addr) (c : Nat) (E : Option Addr) (ce : Nat) (V : List Value), base ≤ g ∧ base ≤ w.heap.size ∧
    RB w g { r with ro := .slice B rc.length d, rs := .slice C T.length c, es := .slice E T.length ce } ∧ SlOwn w base 9 B rc.length d (strs rc) ∧ SlOwn w base 24 C T.length c V ∧ (∀ u ∈ V, u.oneCell' = true) ∧
    SlOwn w base 3 E T.length ce (ends T) ∧ RowsAt w base 9 V (T.map (·.1)) (blkOf B)
theorem RdB.below {w w' : World} {base g : Nat} {r : Rd} {rc : List ByteArray} {T : List (List ByteArray × Nat)} (h : RdB w base g r rc T) (hb : Below w.heap.size w w') : RdB w' base g r rc T := by
  obtain ⟨B, d, C, c, E, ce, V, h1, h2, h3, h4, h5, h6, h7, h8⟩ := h
  exact ⟨B, d, C, c, E, ce, V, h1, Nat.le_trans h2 hb.size, h3.below hb, h4.below hb, h5.below hb, h6, h7.below hb, h8.below hb⟩

/-- The record is whole: what that leaves in memory. -/
theorem whole_end {w w1 w2 : World} {base g : Nat} {r : Rd} {rc : List ByteArray} {T : List (List ByteArray × Nat)} {a : Nat} {B C E C' E' : Option Addr} {d c ce c' ce' : Nat} {V : List Value} (hg : base ≤ g) (hb : base ≤ w.heap.size)
    (h3 : RB w g { r with ro := .slice B rc.length d, rs := .slice C T.length c, es := .slice E T.length ce }) (h4 : SlOwn w base 9 B rc.length d (strs rc)) (h5 : SlOwn w base 24 C T.length c V) (h6 : ∀ u ∈ V, u.oneCell' = true) (h7 : SlOwn w base 3 E T.length ce (ends T))
    (h8 : RowsAt w base 9 V (T.map (·.1)) (blkOf B)) (t1 : Touch w w1 (fun k => k = g ∨ blkOf C = some k)) {cs1 : Array Value} (hg1 : StB w1 g 94 cs1) (o1 : SlOwn w1 base 24 C' (T.length + 1) c' (V ++ [.slice B rc.length d]))
    (hE1 : SlOwn w1 base 3 E T.length ce (ends T)) (t2 : Touch w1 w2 (fun k => k = g ∨ blkOf E = some k)) (o2 : SlOwn w2 base 3 E' (T.length + 1) ce' (ends T ++ [.int .i64 (a : Int)]))
    (h9 : RB w2 g { r with ro := .slice none 0 0, rs := .slice C' (T.length + 1) c', es := .slice E' (T.length + 1) ce' }) : RdB w2 base g r [] (T ++ [(rc, a)]) ∧ Below base w w2 := by
  have gB := h4.unlike_st h3 (by decide)
  have rowB1 : SlOwn w1 base 9 B rc.length d (strs rc) := h4.touch t1 fun k hk h => by
    rcases h with h | h
    · exact gB k hk h
    · exact h4.unlike h5 (by decide) k hk h
  have rb1 : RB w2 g _ := h9
  have rowB2 : SlOwn w2 base 9 B rc.length d (strs rc) := rowB1.touch t2 fun k hk h => by
    rcases h with h | h
    · exact gB k hk h
    · exact rowB1.unlike hE1 (by decide) k hk h
  have rows1 : RowsAt w1 base 9 V (T.map (·.1)) none := h8.free.keep fun k hk _ ⟨cur, fz, hc⟩ => t1.block k hk fun h => by
    rcases h with rfl | h
    · unfold RB StB at h3; rw [h3] at hc; injection hc with hc; injection hc with _ h2 _; exact absurd h2 (by decide)
    · rcases h5.2.2.2 with ⟨rfl, _⟩ | ⟨q, cur', fz', rfl, _, hq, _⟩
      · cases h
      · have : q = k := by simpa [blkOf] using h
        subst this
        rw [hq] at hc; injection hc with hc; injection hc with _ h2 _; exact absurd h2 (by decide)
  have rows2 : RowsAt w2 base 9 V (T.map (·.1)) none := rows1.keep fun k hk _ ⟨cur, fz, hc⟩ => t2.block k hk fun h => by
    rcases h with rfl | h
    · unfold StB at hg1; rw [hg1] at hc; injection hc with hc; injection hc with _ h2 _; exact absurd h2 (by decide)
    · rcases hE1.2.2.2 with ⟨rfl, _⟩ | ⟨q, cur', fz', rfl, _, hq, _⟩
      · cases h
      · have : q = k := by simpa [blkOf] using h
        subst this
        rw [hq] at hc; injection hc with hc; injection hc with _ h2 _; exact absurd h2 (by decide)
  have o1' : SlOwn w2 base 24 C' (T.length + 1) c' (V ++ [.slice B rc.length d]) := o1.touch t2 fun k hk h => by
    rcases h with h | h
    · exact o1.unlike_st hg1 (by decide) k hk h
    · exact o1.unlike hE1 (by decide) k hk h
  refine ⟨⟨none, 0, C', c', E', ce', V ++ [.slice B rc.length d], hg, Nat.le_trans hb (Nat.le_trans t1.size t2.size), ?_, SlOwn.nothing _ _ _, ?_, ?_, ?_, ?_⟩, ?_⟩
  · simpa using h9
  · simpa using o1'
  · intro u hu
    rcases List.mem_append.1 hu with hu | hu
    · exact h6 u hu
    · rw [List.mem_singleton.1 hu]; rfl
  · simpa [ends] using o2
  · have := rows2.snoc rowB2
    show RowsAt w2 base 9 (V ++ [.slice B rc.length d]) ((T ++ [(rc, a)]).map (·.1)) none
    simpa using this
  · have b1 : Below base w w1 := t1.below hb fun k hk => by
      rcases hk with rfl | hk
      · exact hg
      · exact (h5.blk k hk).1
    exact b1.trans (t2.below (Nat.le_trans hb t1.size) fun k hk => by
      rcases hk with rfl | hk
      · exact hg
      · exact (hE1.blk k hk).1)

set_option maxRecDepth 100000 in
set_option maxHeartbeats 3200000 in
theorem whole_any6 (base g : Nat) (r : Rd) (rc : List ByteArray) (T : List (List ByteArray × Nat)) (a : Nat) (hT : T.length ≤ 1000) (w : World) (h : RdB w base g r rc T) :
    Calls Tryd.prog 65 #[.pointer (some ⟨g, 0, none⟩), .int .i64 a] w fun x w' => x = .returned (.tuple #[]) ∧ RdB w' base g r [] (T ++ [(rc, a)]) ∧ Below base w w' := by
  obtain ⟨B, d, C, c, E, ce, V, h1, h2, h3, h4, h5, h6, h7, h8⟩ := h
  obtain ⟨i0, hi, hz0, hz1, hz2⟩ := info_parts infoRow
  obtain ⟨j0, hj, hy0, hy1, hy2⟩ := info_parts infoInt
  have Hi := Lib.hid hi
  have Hz0 := Lib.hid hz0
  have Hz1 := Lib.hid hz1
  have Hz2 := Lib.hid hz2
  have Hj := Lib.hid hj
  have Hy0 := Lib.hid hy0
  have Hy1 := Lib.hid hy1
  have Hy2 := Lib.hid hy2
  have c10 : w.cell? ⟨g, 10, none⟩ = some (.slice B rc.length d) := StB.cell h3 10
  have c11 : w.cell? ⟨g, 11, none⟩ = some (.slice C T.length c) := StB.cell h3 11
  have c12 : w.cell? ⟨g, 12, none⟩ = some (.slice E T.length ce) := StB.cell h3 12
  have hg : g < w.heap.size := StB.lt h3
  have H1 := Lib.hid h1
  have H2 := Lib.hid h2
  have H3 := Lib.hid h3
  have H4 := Lib.hid h4
  have H5 := Lib.hid h5
  have H6 := Lib.hid h6
  have H7 := Lib.hid h7
  have H8 := Lib.hid h8
  have B0 := Lib.hid (up_alloc ((Below.refl _ w).drew) (.cells #[.slice B rc.length d] 24))
  have hgC := Lib.hid (h5.unlike_st h3 (by decide))
  clear h1 h2 h3 h4 h5 h6 h7 h8 hi hz0 hz1 hz2 hj hy0 hy1 hy2
  go_enter Tryd.func65, Tryd.ntmps65
  go_wp2_with fail
  go_region_law ((refine step_append_sl rfl (.tmp 9) (.tmp 14) 26 rfl 24 i0 (.slice none 0 0) 24 Tryd.underlying26 Hi.out Hz0.out Hz1.out Hz2.out rfl base C T.length c V (by simp [Act.eval, Act.put]) (H5.out.below B0.out) (some ⟨w.heap.size, 0, none⟩) 1 1 [.slice B rc.length d] (by simp [Act.eval, Act.put]) (slIn_new1 w.drew 24 _) (by intro u hu; simp at hu; subst hu; rfl) (by unfold maxLen; omega) (by omega) (Nat.le_trans H2.out B0.out.size) ?_); intro C' c' w1 hown hgrow hat; have st := (StB.below H3.out B0.out).grown hgrow (fun e => hgC.out g e.symm rfl); have e11 : w1.cell? ⟨g, 11, none⟩ = some (.slice C T.length c) := st.cell 11; have e12 : w1.cell? ⟨g, 12, none⟩ = some (.slice E T.length ce) := st.cell 12; have e10 : w1.cell? ⟨g, 10, none⟩ = some (.slice B rc.length d) := st.cell 10; have f10 := st.free 10; have f11 := st.free 11; have f12 := st.free 12; have hg1 := st.lt; have HO := Lib.hid hown; have HG := Lib.hid hgrow; have HST := Lib.hid st; clear st hown hgrow hat)
  all_goals
    have t1 : Touch w (w1.setCell ⟨g, 11, none⟩ (.slice C' (T.length + 1) c')) (fun k => k = g ∨ blkOf C = some k) :=
      Touch.then_set (S := fun k => k = g ∨ blkOf C = some k) ((Touch.of_below B0.out (fun k => k = g ∨ blkOf C = some k)).then_grown HG.out (fun j hj => .inl (.inr hj))) (p := ⟨g, 11, none⟩) (.inl (.inl rfl)) _
    have st2 := HST.out.set_ 11 (.slice C' (T.length + 1) c')
    have o1 : SlOwn (w1.setCell ⟨g, 11, none⟩ (.slice C' (T.length + 1) c')) base 24 C' (T.length + 1) c' (V ++ [.slice B rc.length d]) := HO.out.keep fun k hk => Below.heap_setCell _ _ _ k (HO.out.unlike_st HST.out (by decide) k hk)
    have hE1 : SlOwn (w1.setCell ⟨g, 11, none⟩ (.slice C' (T.length + 1) c')) base 3 E T.length ce (ends T) := H7.out.touch t1 fun k hk h => by
      rcases h with h | h
      · exact H7.out.unlike_st H3.out (by decide) k hk h
      · exact H7.out.unlike H5.out (by decide) k hk h
    obtain ⟨W2, hW2⟩ : ∃ W2, W2 = w1.setCell ⟨g, 11, none⟩ (.slice C' (T.length + 1) c') := ⟨_, rfl⟩
    rw [← hW2]
    rw [← hW2] at t1 st2 o1 hE1
    have k10 : W2.cell? ⟨g, 10, none⟩ = some (.slice B rc.length d) := st2.cell 10
    have k12 : W2.cell? ⟨g, 12, none⟩ = some (.slice E T.length ce) := st2.cell 12
    have hg2 := st2.lt
    have T1 := Lib.hid t1
    have ST2 := Lib.hid st2
    have O1 := Lib.hid o1
    have HE1 := Lib.hid hE1
    have HEA := Lib.hid (hE1.below (up_alloc (Below.refl _ W2) (.cells #[.int .i64 (a : Int)] 3)))
    have hbW := Lib.hid (Nat.le_trans H2.out (Nat.le_trans t1.size (up_alloc (Below.refl _ W2) (.cells #[.int .i64 (a : Int)] 3)).size))
    clear hW2 t1 st2 o1 hE1 e10 e11 e12 f10 f11 f12 hg1 c10 c11 c12 HST HO HG
    go_wp2_with (at_builtin; refine wpList_append_sl _ rfl (.tmp 24) (.tmp 26) 75 rfl 3 j0 (.int .i64 0) 8 Tryd.underlying75 Hj.out Hy0.out Hy1.out Hy2.out rfl base E T.length ce (ends T) rfl HEA.out (some ⟨W2.heap.size, 0, none⟩) 1 1 [.int .i64 (a : Int)] rfl (slIn_new1 W2 3 _) (by intro u hu; simp at hu; subst hu; rfl) (by unfold maxLen; omega) (by omega) hbW.out ?_; intro E' ce' w3 hown2 hgrow2 _; have st3 := (ST2.out.alloc (.cells #[.int .i64 (a : Int)] 3)).grown hgrow2 (fun e => HE1.out.unlike_st ST2.out (by decide) g e.symm rfl); have m12 : w3.cell? ⟨g, 12, none⟩ = some (.slice E T.length ce) := st3.cell 12; have m10 : w3.cell? ⟨g, 10, none⟩ = some (.slice B rc.length d) := st3.cell 10; have n12 := st3.free 12; have n10 := st3.free 10; have hg3 := st3.lt; have ST3 := Lib.hid st3; have HO2 := Lib.hid hown2; have HG2 := Lib.hid hgrow2; clear st3 hown2 hgrow2)
    go_wp2_with fail
    go_end0
    refine ⟨rfl, whole_end H1.out H2.out H3.out H4.out H5.out H6.out H7.out H8.out T1.out ST2.out O1.out HE1.out ?_ (E' := E') (ce' := ce') ?_ ?_⟩
    · refine Touch.then_set (S := fun k => k = g ∨ blkOf E = some k) (Touch.then_set (S := fun k => k = g ∨ blkOf E = some k) ?_ (p := ⟨g, 12, none⟩) (.inl (.inl rfl)) _) (p := ⟨g, 10, none⟩) (.inl (.inl rfl)) _
      exact (Touch.of_below (up_alloc (Below.refl _ W2) _) _).then_grown HG2.out (fun j hj => .inl (.inr hj))
    · have := HO2.out.keep (w' := (w3.setCell ⟨g, 12, none⟩ (.slice E' (T.length + 1) ce')).setCell ⟨g, 10, none⟩ (.slice none 0 0)) fun k hk => by
        have hne := HO2.out.unlike_st ST3.out (by decide) k hk
        rw [Below.heap_setCell _ _ _ k hne, Below.heap_setCell _ _ _ k hne]
      exact this
    · have := (ST3.out.set_ 12 (.slice E' (T.length + 1) ce')).set_ 10 (.slice none 0 0)
      simpa [RB, rdCells] using this
end Go.Proofs.YtigoonokiihdgaaDoor

namespace Go.Proofs.YtigoonokiihdgaaDoor
open Go.ChangeShapes Go.WideShapes Go.ChangeAt Go.RowKit
set_option linter.unusedVariables false
set_option linter.unusedSimpArgs false

/-- The first record's number of fields. -/
def wdOf (T : List (List ByteArray × Nat)) : Nat := match T with | [] => 0 | p :: _ => p.1.length
section
variable {w w' : World} {base g : Nat} {r : Rd} {rc : List ByteArray} {T : List (List ByteArray × Nat)}
/-- The reader opened: its own cells, and how it is put together again where it alone has turned. -/
theorem RdB.open_ (h : RdB w base g r rc T) : ∃ (B : Option Addr) (d : Nat) (C : Option Addr) (c : Nat) (E : Option Addr) (ce : Nat),
    RB w g { r with ro := .slice B rc.length d, rs := .slice C T.length c, es := .slice E T.length ce } ∧ T.length ≤ c ∧ base ≤ g ∧ base ≤ w.heap.size ∧
    (0 < T.length → ∃ A1 c1 a1, C = some a1 ∧ w.cell? a1 = some (.slice A1 (wdOf T) c1)) ∧
    ∀ (w' : World) (r' : Rd), Touch w w' (fun k => k = g) → RB w' g { r' with ro := .slice B rc.length d, rs := .slice C T.length c, es := .slice E T.length ce } → RdB w' base g r' rc T ∧ Below base w w' := by
  obtain ⟨B, d, C, c, E, ce, V, h1, h2, h3, h4, h5, h6, h7, h8⟩ := h
  refine ⟨B, d, C, c, E, ce, h3, h5.2.1, h1, h2, fun hT => ?_, fun w' r' t h' => ⟨⟨B, d, C, c, E, ce, V, h1, Nat.le_trans h2 t.size, h', h4.touch t (h4.unlike_st h3 (by decide)), h5.touch t (h5.unlike_st h3 (by decide)), h6, h7.touch t (h7.unlike_st h3 (by decide)), h8.keep fun k hk _ ⟨cur, fz, hc⟩ => t.block k hk fun e => ?_⟩, t.below h2 fun k hk => by rw [hk]; exact h1⟩⟩
  · match T, hT, h5, h8 with
    | p :: T', _, h5, h8 =>
      obtain ⟨A1, c1, hv, _, _⟩ := h8.2 0 p.1 (by simp)
      obtain ⟨a1, ha, hc⟩ := h5.toIn.at_ hv
      exact ⟨A1, c1, a1, ha, by simpa [Addr.add, wdOf] using hc⟩
  · subst e
    unfold RB StB at h3
    rw [h3] at hc; injection hc with hc; injection hc with _ h2 _; exact absurd h2 (by decide)
theorem RdB.base_le (h : RdB w base g r rc T) : base ≤ w.heap.size := by
  obtain ⟨_, _, _, _, _, _, _, _, _, h2, _⟩ := h.open_
  exact h2
theorem RdB.cells (h : RdB w base g r rc T) : g < w.heap.size ∧ w.cell? ⟨g, 0, none⟩ = some (.int .i64 r.d) ∧ w.cell? ⟨g, 1, none⟩ = some (.int .i64 r.q) ∧ w.cell? ⟨g, 4, none⟩ = some (.int .i64 r.ls) ∧ w.cell? ⟨g, 5, none⟩ = some (.int .i64 r.lr) ∧ w.cell? ⟨g, 6, none⟩ = some (.int .i64 r.un) ∧
    w.cell? ⟨g, 7, none⟩ = some (.string r.s) ∧ w.cell? ⟨g, 8, none⟩ = some (.int .i64 r.i) ∧ w.cell? ⟨g, 9, none⟩ = some (.int .i64 r.bg) ∧ w.cell? ⟨g, 13, none⟩ = some (.int .i64 r.k) ∧
    (∃ B d, w.cell? ⟨g, 10, none⟩ = some (.slice B rc.length d)) ∧ ∃ C c, T.length ≤ c ∧ w.cell? ⟨g, 11, none⟩ = some (.slice C T.length c) ∧ (0 < T.length → ∃ A1 c1 a1, C = some a1 ∧ w.cell? a1 = some (.slice A1 (wdOf T) c1)) := by
  obtain ⟨B, d, C, c, E, ce, h3, hc, _, _, hf, _⟩ := h.open_
  obtain ⟨a, k0, k1, k2, k3, k4, k5, k6, k7, k8, k9, k10, k11, k12, k13, k14⟩ := RB.cells h3
  exact ⟨a, k0, k1, k4, k5, k6, k7, k8, k9, k13, ⟨B, d, k10⟩, C, c, hc, k11, hf⟩
theorem RdB.free (h : RdB w base g r rc T) (i : Nat) : w.frozen? ⟨g, i, none⟩ = false := by
  obtain ⟨B, d, C, c, E, ce, h3, _⟩ := h.open_
  exact RB.free h3 i
theorem RdB.set8 (h : RdB w base g r rc T) (n : Nat) : RdB (w.setCell ⟨g, 8, none⟩ (.int .i64 n)) base g { r with i := n } rc T ∧ Below base w (w.setCell ⟨g, 8, none⟩ (.int .i64 n)) := by
  obtain ⟨B, d, C, c, E, ce, h3, _, _, _, _, put⟩ := h.open_
  have o := RB.set8 h3 n
  exact put _ { r with i := n } o.2 o.1
theorem RdB.set9 (h : RdB w base g r rc T) (n : Int) : RdB (w.setCell ⟨g, 9, none⟩ (.int .i64 n)) base g { r with bg := n } rc T ∧ Below base w (w.setCell ⟨g, 9, none⟩ (.int .i64 n)) := by
  obtain ⟨B, d, C, c, E, ce, h3, _, _, _, _, put⟩ := h.open_
  refine put _ { r with bg := n } (then_self (Touch.refl w _) 9 _) ?_
  have := StB.set_ h3 9 (.int .i64 n)
  simpa [RB, rdCells] using this
end
/-- The reader has turned to r', its record and records as they were. -/
def RdOut (base g : Nat) (v : Value) (r' : Rd) (rc : List ByteArray) (T : List (List ByteArray × Nat)) (w : World) (x : Ending) (w' : World) : Prop :=
  x = .returned v ∧ Hid (RdB w' base g r' rc T) ∧ Hid (Below base w w')

section
variable (base g : Nat) (r : Rd) (rc : List ByteArray) (T : List (List ByteArray × Nat)) (w : World) (h : Hid (RdB w base g r rc T))
include h
theorem is_rd (b : Int) (v : Bool) (hv : Hid (isB r.s r.i b = v)) (hs : r.s.size ≤ 1000) : Calls Tryd.prog 49 #[.pointer (some ⟨g, 0, none⟩), .int .i64 b] w fun x w' => x = .returned (.bool v) ∧ Below w.heap.size w w' := by
  obtain ⟨B, d, C, c, E, ce, h3, _⟩ := h.out.open_
  exact is_any g { r with ro := .slice B rc.length d, rs := .slice C T.length c, es := .slice E T.length ce } b v hv hs w (Lib.hid h3)
theorem wrong_rd (kind : Int) (a : Nat) (h0 : Hid (r.k = 0)) : Calls Tryd.prog 61 #[.pointer (some ⟨g, 0, none⟩), .int .i64 kind, .int .i64 a] w (RdOut base g (.bool false) { r with k := kind, at_ := a } rc T w) := by
  obtain ⟨B, d, C, c, E, ce, h3, _, _, _, _, put⟩ := h.out.open_
  refine (wrong_any g { r with ro := .slice B rc.length d, rs := .slice C T.length c, es := .slice E T.length ce } kind a h0 w (Lib.hid h3)).mono ?_
  rintro x w' ⟨rfl, o⟩
  have := put w' { r with k := kind, at_ := a } o.2 o.1
  exact ⟨rfl, Lib.hid this.1, Lib.hid this.2⟩
theorem feed_rd (b10 : Bool) (hv : Hid (isB r.s r.i 10 = b10)) (hs : r.s.size ≤ 1000) (h0 : Hid (r.k = 0)) (n : Int) (hn : Hid (fdN r.e b10 = n)) : Calls Tryd.prog 50 #[.pointer (some ⟨g, 0, none⟩)] w (RdOut base g (.int .i64 n) (if n = 0 then { r with k := 6, at_ := r.i } else r) rc T w) := by
  obtain ⟨B, d, C, c, E, ce, h3, _, _, _, _, put⟩ := h.out.open_
  refine (rfeed_any g { r with ro := .slice B rc.length d, rs := .slice C T.length c, es := .slice E T.length ce } b10 hv hs h0 w (Lib.hid h3)).mono ?_
  rintro x w' ⟨rfl, o⟩
  rw [hn.out] at o
  rw [hn.out]
  have : RdB w' base g (if n = 0 then { r with k := 6, at_ := r.i } else r) rc T ∧ Below base w w' := by
    refine put w' _ o.2 ?_
    have := o.1
    split at this
    · rename_i hz; rw [if_pos hz]; exact this
    · rename_i hz; rw [if_neg hz]; exact this
  exact ⟨rfl, Lib.hid this.1, Lib.hid this.2⟩
theorem second_rd (v : Bool) (hv : Hid (isB r.s (r.i + 1) 10 = v)) (hs : r.s.size ≤ 1000) (hi : r.i ≤ 1000) (h0 : Hid (r.k = 0)) : Calls Tryd.prog 51 #[.pointer (some ⟨g, 0, none⟩)] w (RdOut base g (.bool v) (if v = true then r else { r with k := 6, at_ := r.i + 1 }) rc T w) := by
  obtain ⟨B, d, C, c, E, ce, h3, _, _, _, _, put⟩ := h.out.open_
  refine (second_any g { r with ro := .slice B rc.length d, rs := .slice C T.length c, es := .slice E T.length ce } v hv hs hi h0 w (Lib.hid h3)).mono ?_
  rintro x w' ⟨rfl, o⟩
  have : RdB w' base g (if v = true then r else { r with k := 6, at_ := r.i + 1 }) rc T ∧ Below base w w' := by
    refine put w' _ o.2 ?_
    have := o.1
    split at this
    · rename_i hz; rw [if_pos hz]; exact this
    · rename_i hz; rw [if_neg hz]; exact this
  exact ⟨rfl, Lib.hid this.1, Lib.hid this.2⟩
theorem width_rd (a : Nat) (hun : r.un = 0 ∨ r.un = 1) (hm : rc.length ≤ 1000000) (hn : T.length ≤ 1000000) (hf : wdOf T ≤ 1000000) (v : Bool) (hv : Hid (v = !decide (r.un = 1 ∧ 0 < T.length ∧ rc.length ≠ wdOf T))) (h0 : Hid (r.k = 0)) :
    Calls Tryd.prog 64 #[.pointer (some ⟨g, 0, none⟩), .int .i64 a] w (RdOut base g (.bool v) (if v = true then r else { r with k := 10, at_ := a }) rc T w) := by
  obtain ⟨B, d, C, c, E, ce, h3, hc, _, _, hfirst, put⟩ := h.out.open_
  refine (width_any g { r with ro := .slice B rc.length d, rs := .slice C T.length c, es := .slice E T.length ce } a B C d c rc.length T.length (Lib.hid rfl) (Lib.hid rfl) hun hm hn (wdOf T) hf v hv h0 w (Lib.hid h3) hfirst hc).mono ?_
  rintro x w' ⟨rfl, o⟩
  have : RdB w' base g (if v = true then r else { r with k := 10, at_ := a }) rc T ∧ Below base w w' := by
    refine put w' _ o.2 ?_
    have := o.1
    split at this
    · rename_i hz; rw [if_pos hz]; exact this
    · rename_i hz; rw [if_neg hz]; exact this
  exact ⟨rfl, Lib.hid this.1, Lib.hid this.2⟩
end
/-- What a field leaves, of the whole reader. -/
def FldRd (base g : Nat) (r : Rd) (rc : List ByteArray) (T : List (List ByteArray × Nat)) (F : Fld) (w : World) (t : ByteArray) (ok : Bool) (i' : Nat) (w' : World) : Prop :=
  Below base w w' ∧ (F.k = 0 → ok = true ∧ t = toBA F.f ∧ RdB w' base g { r with i := F.i } rc T) ∧ (F.k ≠ 0 → ok = false ∧ RdB w' base g { r with i := i', k := F.k, at_ := F.i } rc T)
section
variable (base g : Nat) (r : Rd) (rc : List ByteArray) (T : List (List ByteArray × Nat)) (w : World) (h : Hid (RdB w base g r rc T))
include h
omit h in
theorem fld_rd {B C E : Option Addr} {d c ce : Nat} {F : Fld} {x : Ending} {w' : World} (put : ∀ (w' : World) (r' : Rd), Touch w w' (fun k => k = g) → RB w' g { r' with ro := .slice B rc.length d, rs := .slice C T.length c, es := .slice E T.length ce } → RdB w' base g r' rc T ∧ Below base w w')
    (o : FieldOut g { r with ro := .slice B rc.length d, rs := .slice C T.length c, es := .slice E T.length ce } F w x w') : ∃ t ok i', x = .returned (.tuple #[.string t, .bool ok]) ∧ Hid (FldRd base g r rc T F w t ok i' w') := by
  obtain ⟨t, ok, i', rfl, o1, o2⟩ := o
  refine ⟨t, ok, i', rfl, Lib.hid ?_⟩
  by_cases hk : F.k = 0
  · obtain ⟨a1, a2, a3⟩ := o1 hk
    have := put w' { r with i := F.i } a3.2 a3.1
    exact ⟨this.2, fun _ => ⟨a1, a2, this.1⟩, fun h => absurd hk h⟩
  · obtain ⟨a1, a3⟩ := o2 hk
    have := put w' { r with i := i', k := F.k, at_ := F.i } a3.2 a3.1
    exact ⟨this.2, fun h => absurd h hk, fun _ => ⟨a1, this.1⟩⟩
theorem bare_rd (hi : r.i ≤ r.s.size) (hs : r.s.size ≤ 980) (h0 : Hid (r.k = 0)) (F : Fld) (hF : Hid (bGo r.d r.q r.lf [] r.i ((bl r.s).drop r.i) = F)) :
    Calls Tryd.prog 63 #[.pointer (some ⟨g, 0, none⟩)] w fun x w' => ∃ t ok i', x = .returned (.tuple #[.string t, .bool ok]) ∧ Hid (FldRd base g r rc T F w t ok i' w') := by
  obtain ⟨B, d, C, c, E, ce, h3, _, _, _, _, put⟩ := h.out.open_
  exact (bare_any6 g { r with ro := .slice B rc.length d, rs := .slice C T.length c, es := .slice E T.length ce } hi hs h0 w (Lib.hid h3) F hF).mono fun x w' o => fld_rd base g r rc T w put o
theorem quoted_rd (hi : r.i ≤ r.s.size) (hs : r.s.size ≤ 980) (h0 : Hid (r.k = 0)) (F : Fld) (hF : Hid (behind r.d (qGo r.q r.lf [] r.i ((bl r.s).drop r.i)) = F)) :
    Calls Tryd.prog 62 #[.pointer (some ⟨g, 0, none⟩)] w fun x w' => ∃ t ok i', x = .returned (.tuple #[.string t, .bool ok]) ∧ Hid (FldRd base g r rc T F w t ok i' w') := by
  obtain ⟨B, d, C, c, E, ce, h3, _, _, _, _, put⟩ := h.out.open_
  exact (quoted_any6 g { r with ro := .slice B rc.length d, rs := .slice C T.length c, es := .slice E T.length ce } hi hs h0 w (Lib.hid h3) F hF).mono fun x w' o => fld_rd base g r rc T w put o
end

/-- A field put behind the record's: what that leaves in memory. -/
theorem app_end {w w' : World} {base g : Nat} {r : Rd} {rc : List ByteArray} {T : List (List ByteArray × Nat)} {t : ByteArray} {B C E B' : Option Addr} {d c ce d' : Nat} {V : List Value} (h1 : base ≤ g) (h2 : base ≤ w.heap.size)
    (h3 : RB w g { r with ro := .slice B rc.length d, rs := .slice C T.length c, es := .slice E T.length ce }) (h4 : SlOwn w base 9 B rc.length d (strs rc)) (h5 : SlOwn w base 24 C T.length c V) (h6 : ∀ u ∈ V, u.oneCell' = true) (h7 : SlOwn w base 3 E T.length ce (ends T))
    (h8 : RowsAt w base 9 V (T.map (·.1)) (blkOf B)) (u : Value) (hown : SlOwn w' base 9 B' (rc.length + 1) d' (strs rc ++ [.string t])) (hg : (w.alloc (.cells #[u] 9)).grownBy w' (blkOf B)) (hat : B' = B ∨ B' = some ⟨w.heap.size + 1, 0, none⟩) :
    RdB (w'.setCell ⟨g, 10, none⟩ (.slice B' (rc.length + 1) d')) base g r (rc ++ [t]) T ∧ Below base w (w'.setCell ⟨g, 10, none⟩ (.slice B' (rc.length + 1) d')) := by
  have b0 : Below w.heap.size w (w.alloc (.cells #[u] 9)) := up_alloc (Below.refl _ w) _
  have gB := h4.unlike_st h3 (by decide)
  have st := (StB.below h3 b0).grown hg (fun e => gB g e.symm rfl)
  have gB' := hown.unlike_st st (by decide)
  have t1 : Touch w w' (fun k => blkOf B = some k) := (Touch.of_below b0 _).then_grown hg fun j hj => .inl hj
  have o5 := (h5.touch t1 fun k hk h => h5.unlike h4 (by decide) k hk h)
  have o7 := (h7.touch t1 fun k hk h => h7.unlike h4 (by decide) k hk h)
  have keep : ∀ k, k ≠ g → (w'.setCell ⟨g, 10, none⟩ (.slice B' (rc.length + 1) d')).heap[k]? = w'.heap[k]? := fun k hk => Below.heap_setCell _ _ _ k hk
  refine ⟨⟨B', d', C, c, E, ce, V, h1, ?_, ?_, ?_, o5.keep fun k hk => keep k (o5.unlike_st st (by decide) k hk), h6, o7.keep fun k hk => keep k (o7.unlike_st st (by decide) k hk), ?_⟩, ?_⟩
  · have := t1.size; simp [World.setCell]; omega
  · have := st.set_ 10 (.slice B' (rc.length + 1) d')
    simpa [RB, rdCells] using this
  · have := hown.keep (w' := w'.setCell ⟨g, 10, none⟩ (.slice B' (rc.length + 1) d')) fun k hk => keep k (gB' k hk)
    simpa [strs] using this
  · refine ⟨h8.1, fun j x hx => ?_⟩
    obtain ⟨A, a, hv, ho, hn⟩ := h8.2 j x hx
    have ho1 := ho.touch t1 fun k hk h => hn k hk h
    refine ⟨A, a, hv, ho1.keep fun k hk => keep k (ho1.unlike_st st (by decide) k hk), fun k hk h => ?_⟩
    rcases hat with rfl | rfl
    · exact hn k hk h
    · simp [blkOf] at h
      have := (ho.blk k hk).2
      omega
  · have b1 : Below base w w' := t1.below h2 fun k hk => (h4.blk k hk).1
    exact b1.trans ⟨rfl, rfl, rfl, by simp [World.setCell], fun k hk => keep k (by omega)⟩
end Go.Proofs.YtigoonokiihdgaaDoor

namespace Go.Proofs.YtigoonokiihdgaaDoor
open Go.ChangeShapes Go.WideShapes Go.ChangeAt Go.RowKit
set_option linter.unusedVariables false
set_option linter.unusedSimpArgs false

/-- The maker of the reader r, its record rc, its records T. -/
def mkOf (r : Rd) (rc : List ByteArray) (T : List (List ByteArray × Nat)) : Mk := ⟨r.lf, r.ls, r.lr, decide (r.un = 1), [], rc, r.bg, (T.length : Int), (wdOf T : Int), 0⟩
/-- What the rest of a text is behind a field that is whole. -/
def Rest (d : Int) (l : List Int) (i : Nat) (F : Fld) : Prop := ∃ n, n ≤ l.length ∧ F.i = i + n ∧ F.l = l.drop n ∧ ∀ b r, F.l = b :: r → stops d b = true
theorem bGo_rest (d q lf : Int) : ∀ (l f : List Int) (i : Nat), (bGo d q lf f i l).k = 0 → Rest d l i (bGo d q lf f i l) := by
  intro l
  induction l with
  | nil => intro f i _; exact ⟨0, Nat.le_refl _, rfl, rfl, fun b r h => by simp [bGo] at h⟩
  | cons b r ih =>
    intro f i h
    cases hs : stops d b with
    | true =>
      have e : bGo d q lf f i (b :: r) = ⟨0, f, i, b :: r⟩ := by rw [bGo, if_pos hs]
      rw [e]
      exact ⟨0, Nat.zero_le _, rfl, rfl, fun c t hc => by simp at hc; rw [← hc.1]; exact hs⟩
    | false =>
      by_cases hq : b = q
      · have e : bGo d q lf f i (b :: r) = ⟨4, f, i, []⟩ := by rw [bGo, hs, if_neg (by simp), if_pos hq]
        rw [e] at h; exact absurd h (by simp)
      · by_cases hl : (f.length : Int) = lf
        · have e : bGo d q lf f i (b :: r) = ⟨7, f, i, []⟩ := by rw [bGo, hs, if_neg (by simp), if_neg hq, if_pos hl]
          rw [e] at h; exact absurd h (by simp)
        · have e : bGo d q lf f i (b :: r) = bGo d q lf (f ++ [b]) (i + 1) r := by conv => lhs; rw [bGo, hs, if_neg (by simp), if_neg hq, if_neg hl]
          rw [e] at h ⊢
          obtain ⟨n, h1, h2, h3, h4⟩ := ih (f ++ [b]) (i + 1) h
          exact ⟨n + 1, by simp; omega, by omega, by simpa using h3, h4⟩
theorem qGo_rest (q lf : Int) : ∀ (m : Nat) (l f : List Int) (i : Nat), l.length ≤ m → (qGo q lf f i l).k = 0 → ∃ n, n ≤ l.length ∧ (qGo q lf f i l).i = i + n ∧ (qGo q lf f i l).l = l.drop n := by
  intro m
  induction m with
  | zero =>
    intro l f i hl h
    match l, hl, h with
    | [], _, h => simp [qGo] at h
  | succ m ih =>
    intro l f i hl h
    match l, hl, h with
    | [], _, h => simp [qGo] at h
    | [b], _, h =>
      by_cases hq : b = q
      · have e : qGo q lf f i [b] = ⟨0, f, i + 1, []⟩ := by rw [qGo, if_pos hq]
        rw [e]; exact ⟨1, by simp, rfl, rfl⟩
      · have : (qGo q lf f i [b]).k ≠ 0 := by
          rw [qGo, if_neg hq]; split <;> simp
        exact absurd h this
    | b :: c :: r, hl, h =>
      by_cases hq : b = q
      · by_cases hc : c = q
        · by_cases hf : (f.length : Int) = lf
          · have e : qGo q lf f i (b :: c :: r) = ⟨7, f, i + 1, []⟩ := by rw [qGo, if_pos hq, if_pos hc, if_pos hf]
            rw [e] at h; exact absurd h (by simp)
          · have e : qGo q lf f i (b :: c :: r) = qGo q lf (f ++ [c]) (i + 2) r := by conv => lhs; rw [qGo, if_pos hq, if_pos hc, if_neg hf]
            rw [e] at h ⊢
            obtain ⟨n, h1, h2, h3⟩ := ih r (f ++ [c]) (i + 2) (by simp at hl; omega) h
            exact ⟨n + 2, by simp; omega, by omega, by simpa using h3⟩
        · have e : qGo q lf f i (b :: c :: r) = ⟨0, f, i + 1, c :: r⟩ := by rw [qGo, if_pos hq, if_neg hc]
          rw [e]; exact ⟨1, by simp, rfl, rfl⟩
      · by_cases hf : (f.length : Int) = lf
        · rw [qGo_no hq hf] at h; exact absurd h (by simp)
        · rw [qGo_go hq hf] at h ⊢
          obtain ⟨n, h1, h2, h3⟩ := ih (c :: r) (f ++ [b]) (i + 1) (by simp at hl ⊢; omega) h
          exact ⟨n + 1, by simp at h1 ⊢; omega, by omega, by simpa using h3⟩
theorem behind_rest {d : Int} {l : List Int} {i : Nat} {x : Fld} (hx : x.k = 0 → ∃ n, n ≤ l.length ∧ x.i = i + n ∧ x.l = l.drop n) (h : (behind d x).k = 0) : Rest d l i (behind d x) := by
  by_cases h0 : x.k = 0
  · obtain ⟨n, h1, h2, h3⟩ := hx h0
    unfold behind at h ⊢
    rw [if_neg (by simp [h0])] at h ⊢
    match hl : x.l, h with
    | [], _ => exact ⟨n, h1, h2, by rw [← h3], fun b r e => by rw [hl] at e; cases e⟩
    | b :: r, h =>
      dsimp only at h ⊢
      by_cases hs : stops d b = true
      · rw [if_pos hs]
        exact ⟨n, h1, h2, by rw [← h3], fun c t e => by rw [hl] at e; injection e with e _; rw [← e]; exact hs⟩
      · rw [if_neg hs] at h; exact absurd h (by simp)
  · unfold behind at h; rw [if_pos h0] at h; exact absurd h h0
theorem fGo_rest (d q lf : Int) (i : Nat) (l : List Int) (h : (fGo d q lf i l).k = 0) : Rest d l i (fGo d q lf i l) := by
  match l, h with
  | [], h => exact bGo_rest d q lf [] [] i h
  | b :: r, h =>
    unfold fGo at h ⊢
    dsimp only at h ⊢
    by_cases hq : b = q
    · rw [if_pos hq] at h ⊢
      obtain ⟨n, h1, h2, h3, h4⟩ := behind_rest (d := d) (l := r) (i := i + 1) (qGo_rest q lf r.length r [] (i + 1) (Nat.le_refl _)) h
      exact ⟨n + 1, by simp; omega, by omega, by simpa using h3, h4⟩
    · rw [if_neg hq] at h ⊢
      exact bGo_rest d q lf (b :: r) [] i h
/-- The same of a text, at a place. -/
theorem fGo_at (d q lf : Int) (i : Nat) (s : ByteArray) (hi : i ≤ s.size) {F : Fld} (hF : fGo d q lf i ((bl s).drop i) = F) (h : F.k = 0) : i ≤ F.i ∧ F.i ≤ s.size ∧ F.l = (bl s).drop F.i ∧ ∀ b r, F.l = b :: r → stops d b = true := by
  subst hF
  obtain ⟨n, h1, h2, h3, h4⟩ := fGo_rest d q lf i _ h
  rw [List.length_drop, bl_length] at h1
  refine ⟨by omega, by omega, ?_, h4⟩
  rw [h3, h2, List.drop_drop]

section
variable {d q e : Int} {n : Nat} {m : Mk} {i : Nat} {l : List Int} {F : Fld}
theorem lnGo_bad (hF : fGo d q m.lf i l = F) (h : F.k ≠ 0) : lnGo d q e (n + 1) m i l = ⟨F.k, F.i, [], 0, 0, []⟩ := by
  rw [lnGo, hF, if_pos h]
theorem lnGo_stop (hF : fGo d q m.lf i l = F) (h : F.k = 0) (hl : ∀ b r, F.l = b :: r → b ≠ d) : lnGo d q e (n + 1) m i l = lnEnd e { m with rc := m.rc ++ [toBA F.f] } F.i F.l := by
  rw [lnGo, hF, if_neg (by simp [h])]
  match hh : F.l with
  | [] => rfl
  | b :: r => dsimp only; rw [if_neg (hl b r hh)]
theorem lnGo_8 (hF : fGo d q m.lf i l = F) (h : F.k = 0) {r : List Int} (hl : F.l = d :: r) (h8 : (m.rc.length : Int) + 1 = m.ls) : lnGo d q e (n + 1) m i l = ⟨8, F.i, [], 0, 0, []⟩ := by
  rw [lnGo, hF, if_neg (by simp [h]), hl]; dsimp only; rw [if_pos rfl, if_pos h8]
theorem lnGo_10 (hF : fGo d q m.lf i l = F) (h : F.k = 0) {r : List Int} (hl : F.l = d :: r) (h8 : ¬ (m.rc.length : Int) + 1 = m.ls) (h10 : mBound m = true ∧ (m.rc.length : Int) + 1 = m.wd) : lnGo d q e (n + 1) m i l = ⟨10, F.i, [], 0, 0, []⟩ := by
  rw [lnGo, hF, if_neg (by simp [h]), hl]; dsimp only; rw [if_pos rfl, if_neg h8, if_pos h10]
theorem lnGo_go (hF : fGo d q m.lf i l = F) (h : F.k = 0) {r : List Int} (hl : F.l = d :: r) (h8 : ¬ (m.rc.length : Int) + 1 = m.ls) (h10 : ¬ (mBound m = true ∧ (m.rc.length : Int) + 1 = m.wd)) : lnGo d q e (n + 1) m i l = lnGo d q e n { m with rc := m.rc ++ [toBA F.f] } (F.i + 1) r := by
  conv => lhs; rw [lnGo, hF, if_neg (by simp [h]), hl]
  dsimp only; rw [if_pos rfl, if_neg h8, if_neg h10]
/-- Is the record as wide as it must be? -/
def wOk (m : Mk) : Bool := !decide (mBound m = true ∧ (m.rc.length : Int) ≠ m.wd)
theorem wOk_no (h : wOk m = false) : mBound m = true ∧ (m.rc.length : Int) ≠ m.wd := by simpa [wOk] using h
theorem wOk_yes (h : wOk m = true) : ¬ (mBound m = true ∧ (m.rc.length : Int) ≠ m.wd) := by
  unfold wOk at h
  rw [Bool.not_eq_true', decide_eq_false_iff_not] at h
  exact h
theorem lnEnd_nil_no (h : wOk m = false) : lnEnd e m i [] = ⟨10, i, [], 0, 0, []⟩ := by rw [lnEnd, if_pos (wOk_no h)]
theorem lnEnd_nil (h : wOk m = true) : lnEnd e m i [] = ⟨0, 0, m.rc, i, i, []⟩ := by rw [lnEnd, if_neg (wOk_yes h)]
theorem lnEnd_0 {b : Int} {r : List Int} (h : fdN e (b == 10) = 0) : lnEnd e m i (b :: r) = ⟨6, i, [], 0, 0, []⟩ := by
  rw [lnEnd]
  by_cases hb : b = 10
  · by_cases he : e = 2
    · rw [if_pos hb, if_pos he]
    · simp [fdN, hb, he] at h
  · by_cases he : e = 1
    · rw [if_neg hb, if_pos he]
    · simp [fdN, hb, he] at h
theorem lnEnd_w {b : Int} {r : List Int} (h : fdN e (b == 10) ≠ 0) (hw : wOk m = false) : lnEnd e m i (b :: r) = ⟨10, i, [], 0, 0, []⟩ := by
  rw [lnEnd]
  by_cases hb : b = 10
  · have he : e ≠ 2 := fun he => h (by simp [fdN, hb, he])
    rw [if_pos hb, if_neg he, if_pos (wOk_no hw)]
  · have he : e ≠ 1 := fun he => h (by simp [fdN, hb, he])
    rw [if_neg hb, if_neg he, if_pos (wOk_no hw)]
theorem lnEnd_1 {b : Int} {r : List Int} (h : fdN e (b == 10) = 1) (hw : wOk m = true) : lnEnd e m i (b :: r) = ⟨0, 0, m.rc, i, i + 1, r⟩ := by
  rw [lnEnd]
  by_cases hb : b = 10
  · have he : e ≠ 2 := fun he => by simp [fdN, hb, he] at h
    rw [if_pos hb, if_neg he, if_neg (wOk_yes hw)]
  · exfalso
    by_cases he : e = 1 <;> simp [fdN, hb, he] at h
theorem lnEnd_2 {b : Int} {r : List Int} (h : fdN e (b == 10) = 2) (hw : wOk m = true) : lnEnd e m i (b :: r) = lnCr m i r := by
  rw [lnEnd]
  by_cases hb : b = 10
  · exfalso
    by_cases he : e = 2 <;> simp [fdN, hb, he] at h
  · have he : e ≠ 1 := fun he => by simp [fdN, hb, he] at h
    rw [if_neg hb, if_neg he, if_neg (wOk_yes hw)]
theorem lnCr_no {s : ByteArray} (hl : (bl s).drop (i + 1) = l) (h : isB s (i + 1) 10 = false) : lnCr m i l = ⟨6, i + 1, [], 0, 0, []⟩ := by
  match l, hl with
  | [], _ => rfl
  | c :: r, hl =>
    rw [isB_drop hl] at h
    rw [lnCr, if_neg (by simpa using h)]
theorem lnCr_yes {s : ByteArray} (hl : (bl s).drop (i + 1) = l) (h : isB s (i + 1) 10 = true) : lnCr m i l = ⟨0, 0, m.rc, i + 1, i + 2, (bl s).drop (i + 2)⟩ := by
  match l, hl with
  | [], hl =>
    have : s.size ≤ i + 1 := by
      have := congrArg List.length hl
      simp [bl_length] at this; omega
    rw [isB_end this] at h; cases h
  | c :: r, hl =>
    rw [isB_drop hl] at h
    rw [lnCr, if_pos (by simpa using h), (get_drop hl).2.1]
theorem fdN_cases (e : Int) (b : Bool) : fdN e b = 0 ∨ fdN e b = 1 ∨ fdN e b = 2 := by
  unfold fdN; split <;> split <;> simp
/-- The width, said of the maker that is the reader's. -/
theorem wOk_of (r : Rd) (rc : List ByteArray) (T : List (List ByteArray × Nat)) : wOk (mkOf r rc T) = !decide (r.un = 1 ∧ 0 < T.length ∧ rc.length ≠ wdOf T) := by
  unfold wOk mkOf mBound
  congr 1
  rw [decide_eq_decide]
  simp [and_assoc]
  intro _ _
  omega
end
end Go.Proofs.YtigoonokiihdgaaDoor

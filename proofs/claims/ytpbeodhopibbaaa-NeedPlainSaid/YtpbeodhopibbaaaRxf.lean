/- Layer 6: the document's reader with its record and its records in memory (RdB); the contract of its whole. -/
import Derived.Test.YtpbeodhopibbaaaRxe
import Derived.Test.YtpbeodhopibbaaaPmk
namespace Go.Proofs.Ytpbeodhopibbaaa
open Go.ChangeShapes Go.WideShapes Go.ChangeAt Go.RowKit
set_option linter.unusedVariables false
set_option linter.unusedSimpArgs false

theorem infoStr : (Try.prog.info? 9).map (fun i => (i.zero, i.size, i.bytes)) = some (some (.string ⟨#[]⟩), 1, 16) := by kernel_rfl
theorem infoRow : (Try.prog.info? 34).map (fun i => (i.zero, i.size, i.bytes)) = some (some (.slice none 0 0), 1, 24) := by kernel_rfl
theorem infoInt : (Try.prog.info? 3).map (fun i => (i.zero, i.size, i.bytes)) = some (some (.int .i64 0), 1, 8) := by kernel_rfl

/-- Slices (V) that read as the records rs, each in a block of the call's own other than 'not'. -/
def RowsAt (w : World) (base : Nat) (e : TypeId) (V : List Value) (rs : List (List ByteArray)) (not : Option Nat) : Prop :=
  V.length = rs.length ∧ ∀ (j : Nat) (x : List ByteArray), rs[j]? = some x → ∃ A a, V[j]? = some (.slice A x.length a) ∧ SlOwn w base e A x.length a (strs x) ∧ ∀ k, blkOf A = some k → not ≠ some k
section
variable {w w' : World} {base : Nat} {e : TypeId} {V : List Value} {rs : List (List ByteArray)} {no : Option Nat}
theorem RowsAt.nothing (w : World) (base : Nat) (e : TypeId) (no : Option Nat) : RowsAt w base e [] [] no := ⟨rfl, fun j x h => by simp at h⟩
theorem RowsAt.keep (h : RowsAt w base e V rs no) (hk : ∀ k, k < w.heap.size → no ≠ some k → (∃ cur fz, w.heap[k]? = some (.cells cur e fz)) → w'.heap[k]? = w.heap[k]?) : RowsAt w' base e V rs no :=
  ⟨h.1, fun j x hx => by
    obtain ⟨A, a, hv, ho, hn⟩ := h.2 j x hx
    refine ⟨A, a, hv, ho.keep fun k hkA => hk k (ho.blk k hkA).2 (hn k hkA) ?_, hn⟩
    rcases ho.2.2.2 with ⟨rfl, _⟩ | ⟨q, cur, fz, rfl, _, hg, _⟩
    · cases hkA
    · have : q = k := by simpa [blkOf] using hkA
      subst this
      exact ⟨cur, fz, hg⟩⟩
theorem RowsAt.below (h : RowsAt w base e V rs no) (hb : Below w.heap.size w w') : RowsAt w' base e V rs no := h.keep fun k hk _ _ => hb.block k hk
theorem RowsAt.free (h : RowsAt w base e V rs no) : RowsAt w base e V rs none := ⟨h.1, fun j x hx => by
  obtain ⟨A, a, hv, ho, hn⟩ := h.2 j x hx
  exact ⟨A, a, hv, ho, fun k _ => by simp⟩⟩
theorem RowsAt.one (h : ∀ u ∈ V, u.oneCell' = true) : ∀ u ∈ V, u.oneCell' = true := h
theorem RowsAt.snoc (h : RowsAt w base e V rs none) {A : Option Addr} {a : Nat} {x : List ByteArray} (ho : SlOwn w base e A x.length a (strs x)) : RowsAt w base e (V ++ [.slice A x.length a]) (rs ++ [x]) none := by
  refine ⟨by simp [h.1], fun j y hy => ?_⟩
  by_cases hj : j < rs.length
  · rw [List.getElem?_append_left hj] at hy
    obtain ⟨B, b, hv, h2⟩ := h.2 j y hy
    exact ⟨B, b, by rw [List.getElem?_append_left (by rw [h.1]; exact hj)]; exact hv, h2⟩
  · rw [List.getElem?_append_right (by omega)] at hy
    have : j = rs.length := by
      have := (List.getElem?_eq_some_iff.1 hy).1
      simp at this; omega
    subst this
    simp at hy; subst hy
    exact ⟨A, a, by rw [← h.1]; simp, ho, fun k _ => by simp⟩
end

def ends (T : List (List ByteArray × Nat)) : List Value := T.map fun p => Value.int .i64 (p.2 : Int)
/-- The reader r, its record rc, its records T; all of it in blocks from base on. -/
def RdB (w : World) (base g : Nat) (r : Rd) (rc : List ByteArray) (T : List (List ByteArray × Nat)) : Prop :=
  ∃ (B : Option Addr) (d : Nat) (C : Option Addr) (c : Nat) (E : Option Addr) (ce : Nat) (V : List Value), base ≤ g ∧ base ≤ w.heap.size ∧
    RB w g { r with ro := .slice B rc.length d, rs := .slice C T.length c, es := .slice E T.length ce } ∧ SlOwn w base 9 B rc.length d (strs rc) ∧ SlOwn w base 34 C T.length c V ∧ (∀ u ∈ V, u.oneCell' = true) ∧
    SlOwn w base 3 E T.length ce (ends T) ∧ RowsAt w base 9 V (T.map (·.1)) (blkOf B)
theorem RdB.below {w w' : World} {base g : Nat} {r : Rd} {rc : List ByteArray} {T : List (List ByteArray × Nat)} (h : RdB w base g r rc T) (hb : Below w.heap.size w w') : RdB w' base g r rc T := by
  obtain ⟨B, d, C, c, E, ce, V, h1, h2, h3, h4, h5, h6, h7, h8⟩ := h
  exact ⟨B, d, C, c, E, ce, V, h1, Nat.le_trans h2 hb.size, h3.below hb, h4.below hb, h5.below hb, h6, h7.below hb, h8.below hb⟩

/-- The record is whole: what that leaves in memory. -/
theorem whole_end {w w1 w2 : World} {base g : Nat} {r : Rd} {rc : List ByteArray} {T : List (List ByteArray × Nat)} {a : Nat} {B C E C' E' : Option Addr} {d c ce c' ce' : Nat} {V : List Value} (hg : base ≤ g) (hb : base ≤ w.heap.size)
    (h3 : RB w g { r with ro := .slice B rc.length d, rs := .slice C T.length c, es := .slice E T.length ce }) (h4 : SlOwn w base 9 B rc.length d (strs rc)) (h5 : SlOwn w base 34 C T.length c V) (h6 : ∀ u ∈ V, u.oneCell' = true) (h7 : SlOwn w base 3 E T.length ce (ends T))
    (h8 : RowsAt w base 9 V (T.map (·.1)) (blkOf B)) (t1 : Touch w w1 (fun k => k = g ∨ blkOf C = some k)) {cs1 : Array Value} (hg1 : StB w1 g 65 cs1) (o1 : SlOwn w1 base 34 C' (T.length + 1) c' (V ++ [.slice B rc.length d]))
    (hE1 : SlOwn w1 base 3 E T.length ce (ends T)) (t2 : Touch w1 w2 (fun k => k = g ∨ blkOf E = some k)) (o2 : SlOwn w2 base 3 E' (T.length + 1) ce' (ends T ++ [.int .i64 (a : Int)]))
    (h9 : RB w2 g { r with ro := .slice none 0 0, rs := .slice C' (T.length + 1) c', es := .slice E' (T.length + 1) ce' }) : RdB w2 base g r [] (T ++ [(rc, a)]) ∧ Below base w w2 := by
  have gB := h4.unlike_st h3 (by decide)
  have rowB1 : SlOwn w1 base 9 B rc.length d (strs rc) := h4.touch t1 fun k hk h => by
    rcases h with h | h
    · exact gB k hk h
    · exact h4.unlike h5 (by decide) k hk h
  have rb1 : RB w2 g _ := h9
  have rowB2 : SlOwn w2 base 9 B rc.length d (strs rc) := rowB1.touch t2 fun k hk h => by
    rcases h with h | h
    · exact gB k hk h
    · exact rowB1.unlike hE1 (by decide) k hk h
  have rows1 : RowsAt w1 base 9 V (T.map (·.1)) none := h8.free.keep fun k hk _ ⟨cur, fz, hc⟩ => t1.block k hk fun h => by
    rcases h with rfl | h
    · unfold RB StB at h3; rw [h3] at hc; injection hc with hc; injection hc with _ h2 _; exact absurd h2 (by decide)
    · rcases h5.2.2.2 with ⟨rfl, _⟩ | ⟨q, cur', fz', rfl, _, hq, _⟩
      · cases h
      · have : q = k := by simpa [blkOf] using h
        subst this
        rw [hq] at hc; injection hc with hc; injection hc with _ h2 _; exact absurd h2 (by decide)
  have rows2 : RowsAt w2 base 9 V (T.map (·.1)) none := rows1.keep fun k hk _ ⟨cur, fz, hc⟩ => t2.block k hk fun h => by
    rcases h with rfl | h
    · unfold StB at hg1; rw [hg1] at hc; injection hc with hc; injection hc with _ h2 _; exact absurd h2 (by decide)
    · rcases hE1.2.2.2 with ⟨rfl, _⟩ | ⟨q, cur', fz', rfl, _, hq, _⟩
      · cases h
      · have : q = k := by simpa [blkOf] using h
        subst this
        rw [hq] at hc; injection hc with hc; injection hc with _ h2 _; exact absurd h2 (by decide)
  have o1' : SlOwn w2 base 34 C' (T.length + 1) c' (V ++ [.slice B rc.length d]) := o1.touch t2 fun k hk h => by
    rcases h with h | h
    · exact o1.unlike_st hg1 (by decide) k hk h
    · exact o1.unlike hE1 (by decide) k hk h
  refine ⟨⟨none, 0, C', c', E', ce', V ++ [.slice B rc.length d], hg, Nat.le_trans hb (Nat.le_trans t1.size t2.size), ?_, SlOwn.nothing _ _ _, ?_, ?_, ?_, ?_⟩, ?_⟩
  · simpa using h9
  · simpa using o1'
  · intro u hu
    rcases List.mem_append.1 hu with hu | hu
    · exact h6 u hu
    · rw [List.mem_singleton.1 hu]; rfl
  · simpa [ends] using o2
  · have := rows2.snoc rowB2
    show RowsAt w2 base 9 (V ++ [.slice B rc.length d]) ((T ++ [(rc, a)]).map (·.1)) none
    simpa using this
  · have b1 : Below base w w1 := t1.below hb fun k hk => by
      rcases hk with rfl | hk
      · exact hg
      · exact (h5.blk k hk).1
    exact b1.trans (t2.below (Nat.le_trans hb t1.size) fun k hk => by
      rcases hk with rfl | hk
      · exact hg
      · exact (hE1.blk k hk).1)

set_option maxRecDepth 100000 in
set_option maxHeartbeats 3200000 in
theorem whole_any6 (base g : Nat) (r : Rd) (rc : List ByteArray) (T : List (List ByteArray × Nat)) (a : Nat) (hT : T.length ≤ 1000) (w : World) (h : RdB w base g r rc T) :
    Calls Try.prog 47 #[.pointer (some ⟨g, 0, none⟩), .int .i64 a] w fun x w' => x = .returned (.tuple #[]) ∧ RdB w' base g r [] (T ++ [(rc, a)]) ∧ Below base w w' := by
  obtain ⟨B, d, C, c, E, ce, V, h1, h2, h3, h4, h5, h6, h7, h8⟩ := h
  obtain ⟨i0, hi, hz0, hz1, hz2⟩ := info_parts infoRow
  obtain ⟨j0, hj, hy0, hy1, hy2⟩ := info_parts infoInt
  have Hi := Lib.hid hi
  have Hz0 := Lib.hid hz0
  have Hz1 := Lib.hid hz1
  have Hz2 := Lib.hid hz2
  have Hj := Lib.hid hj
  have Hy0 := Lib.hid hy0
  have Hy1 := Lib.hid hy1
  have Hy2 := Lib.hid hy2
  have c10 : w.cell? ⟨g, 10, none⟩ = some (.slice B rc.length d) := StB.cell h3 10
  have c11 : w.cell? ⟨g, 11, none⟩ = some (.slice C T.length c) := StB.cell h3 11
  have c12 : w.cell? ⟨g, 12, none⟩ = some (.slice E T.length ce) := StB.cell h3 12
  have hg : g < w.heap.size := StB.lt h3
  have H1 := Lib.hid h1
  have H2 := Lib.hid h2
  have H3 := Lib.hid h3
  have H4 := Lib.hid h4
  have H5 := Lib.hid h5
  have H6 := Lib.hid h6
  have H7 := Lib.hid h7
  have H8 := Lib.hid h8
  have B0 := Lib.hid (up_alloc ((Below.refl _ w).drew) (.cells #[.slice B rc.length d] 34))
  have hgC := Lib.hid (h5.unlike_st h3 (by decide))
  clear h1 h2 h3 h4 h5 h6 h7 h8 hi hz0 hz1 hz2 hj hy0 hy1 hy2
  go_enter Try.func47, Try.ntmps47
  go_wp2_with fail
  go_region_law ((refine step_append_sl rfl (.tmp 9) (.tmp 14) 43 rfl 34 i0 (.slice none 0 0) 24 Try.underlying43 Hi.out Hz0.out Hz1.out Hz2.out rfl base C T.length c V (by simp [Act.eval, Act.put]) (H5.out.below B0.out) (some ⟨w.heap.size, 0, none⟩) 1 1 [.slice B rc.length d] (by simp [Act.eval, Act.put]) (slIn_new1 w.drew 34 _) (by intro u hu; simp at hu; subst hu; rfl) (by unfold maxLen; omega) (by omega) (Nat.le_trans H2.out B0.out.size) ?_); intro C' c' w1 hown hgrow hat; have st := (StB.below H3.out B0.out).grown hgrow (fun e => hgC.out g e.symm rfl); have e11 : w1.cell? ⟨g, 11, none⟩ = some (.slice C T.length c) := st.cell 11; have e12 : w1.cell? ⟨g, 12, none⟩ = some (.slice E T.length ce) := st.cell 12; have e10 : w1.cell? ⟨g, 10, none⟩ = some (.slice B rc.length d) := st.cell 10; have f10 := st.free 10; have f11 := st.free 11; have f12 := st.free 12; have hg1 := st.lt; have HO := Lib.hid hown; have HG := Lib.hid hgrow; have HST := Lib.hid st; clear st hown hgrow hat)
  all_goals
    have t1 : Touch w (w1.setCell ⟨g, 11, none⟩ (.slice C' (T.length + 1) c')) (fun k => k = g ∨ blkOf C = some k) :=
      Touch.then_set (S := fun k => k = g ∨ blkOf C = some k) ((Touch.of_below B0.out (fun k => k = g ∨ blkOf C = some k)).then_grown HG.out (fun j hj => .inl (.inr hj))) (p := ⟨g, 11, none⟩) (.inl (.inl rfl)) _
    have st2 := HST.out.set_ 11 (.slice C' (T.length + 1) c')
    have o1 : SlOwn (w1.setCell ⟨g, 11, none⟩ (.slice C' (T.length + 1) c')) base 34 C' (T.length + 1) c' (V ++ [.slice B rc.length d]) := HO.out.keep fun k hk => Below.heap_setCell _ _ _ k (HO.out.unlike_st HST.out (by decide) k hk)
    have hE1 : SlOwn (w1.setCell ⟨g, 11, none⟩ (.slice C' (T.length + 1) c')) base 3 E T.length ce (ends T) := H7.out.touch t1 fun k hk h => by
      rcases h with h | h
      · exact H7.out.unlike_st H3.out (by decide) k hk h
      · exact H7.out.unlike H5.out (by decide) k hk h
    obtain ⟨W2, hW2⟩ : ∃ W2, W2 = w1.setCell ⟨g, 11, none⟩ (.slice C' (T.length + 1) c') := ⟨_, rfl⟩
    rw [← hW2]
    rw [← hW2] at t1 st2 o1 hE1
    have k10 : W2.cell? ⟨g, 10, none⟩ = some (.slice B rc.length d) := st2.cell 10
    have k12 : W2.cell? ⟨g, 12, none⟩ = some (.slice E T.length ce) := st2.cell 12
    have hg2 := st2.lt
    have T1 := Lib.hid t1
    have ST2 := Lib.hid st2
    have O1 := Lib.hid o1
    have HE1 := Lib.hid hE1
    have HEA := Lib.hid (hE1.below (up_alloc (Below.refl _ W2) (.cells #[.int .i64 (a : Int)] 3)))
    have hbW := Lib.hid (Nat.le_trans H2.out (Nat.le_trans t1.size (up_alloc (Below.refl _ W2) (.cells #[.int .i64 (a : Int)] 3)).size))
    clear hW2 t1 st2 o1 hE1 e10 e11 e12 f10 f11 f12 hg1 c10 c11 c12 HST HO HG
    go_wp2_with (at_builtin; refine wpList_append_sl _ rfl (.tmp 24) (.tmp 26) 56 rfl 3 j0 (.int .i64 0) 8 Try.underlying56 Hj.out Hy0.out Hy1.out Hy2.out rfl base E T.length ce (ends T) rfl HEA.out (some ⟨W2.heap.size, 0, none⟩) 1 1 [.int .i64 (a : Int)] rfl (slIn_new1 W2 3 _) (by intro u hu; simp at hu; subst hu; rfl) (by unfold maxLen; omega) (by omega) hbW.out ?_; intro E' ce' w3 hown2 hgrow2 _; have st3 := (ST2.out.alloc (.cells #[.int .i64 (a : Int)] 3)).grown hgrow2 (fun e => HE1.out.unlike_st ST2.out (by decide) g e.symm rfl); have m12 : w3.cell? ⟨g, 12, none⟩ = some (.slice E T.length ce) := st3.cell 12; have m10 : w3.cell? ⟨g, 10, none⟩ = some (.slice B rc.length d) := st3.cell 10; have n12 := st3.free 12; have n10 := st3.free 10; have hg3 := st3.lt; have ST3 := Lib.hid st3; have HO2 := Lib.hid hown2; have HG2 := Lib.hid hgrow2; clear st3 hown2 hgrow2)
    go_wp2_with fail
    go_end0
    refine ⟨rfl, whole_end H1.out H2.out H3.out H4.out H5.out H6.out H7.out H8.out T1.out ST2.out O1.out HE1.out ?_ (E' := E') (ce' := ce') ?_ ?_⟩
    · refine Touch.then_set (S := fun k => k = g ∨ blkOf E = some k) (Touch.then_set (S := fun k => k = g ∨ blkOf E = some k) ?_ (p := ⟨g, 12, none⟩) (.inl (.inl rfl)) _) (p := ⟨g, 10, none⟩) (.inl (.inl rfl)) _
      exact (Touch.of_below (up_alloc (Below.refl _ W2) _) _).then_grown HG2.out (fun j hj => .inl (.inr hj))
    · have := HO2.out.keep (w' := (w3.setCell ⟨g, 12, none⟩ (.slice E' (T.length + 1) ce')).setCell ⟨g, 10, none⟩ (.slice none 0 0)) fun k hk => by
        have hne := HO2.out.unlike_st ST3.out (by decide) k hk
        rw [Below.heap_setCell _ _ _ k hne, Below.heap_setCell _ _ _ k hne]
      exact this
    · have := (ST3.out.set_ 12 (.slice E' (T.length + 1) ce')).set_ 10 (.slice none 0 0)
      simpa [RB, rdCells] using this
end Go.Proofs.Ytpbeodhopibbaaa

/- Layer 5: a maker in memory (MkB); the contract of the program's put. Layer 5: contracts of the program's bound, endField, endLine. Layer 5: the contract of the program's gather. Layer 5: the contract of the program's gather: the walk. Layer 5: what a maker keeps, as plain facts; contracts of the program's handOut and Take. Layer 5: the contract of the program's Take. -/
import Derived.Test.YtoeanbfemgmgnaaGreatDoorZk
import Derived.Test.YtoeanbfemgmgnaaGreatDoorZp
import Derived.Test.YtoeanbfemgmgnaaGreatDoorRows
import Derived.Deep.DeepCutAuto
namespace Go.Proofs.YtoeanbfemgmgnaaGreatDoor
open Go.ChangeShapes Go.WideShapes Go.ChangeAt Go.RowKit
set_option linter.unusedVariables false
set_option linter.unusedSimpArgs false

theorem info8 : (Tryz.prog.info? 5).map (fun i => (i.zero, i.size, i.bytes)) = some (some (.int .u8 0), 1, 1) := by kernel_rfl
theorem infoS : (Tryz.prog.info? 9).map (fun i => (i.zero, i.size, i.bytes)) = some (some (.string ⟨#[]⟩), 1, 16) := by kernel_rfl
theorem run_front8 (A : Option Addr) (n c : Nat) (V : World) :
    (Instr.slice 42 (.slice A n c) none (some (.int .i64 0)) none).run Tryz.prog V = .ok (.slice A 0 c) V := by
  obtain ⟨i0, hi, hz0, hz1, hz2⟩ := info_parts info8
  have hs : ∀ V, Sem.run Tryz.prog (Go.sizeOf 5) V = .ok 1 V := fun V => by simp [Go.sizeOf, typeInfo, hi, hz1]
  have := run_slice_h (P := Tryz.prog) V 42 A n c (by kernel_rfl) .i64 0 (by omega) (by omega)
  rw [this, show Tryz.prog.elem 42 = 5 from by kernel_rfl, hs]
  have h0 : A.map (fun a : Addr => a.add 0) = A := by cases A <;> simp [Addr.add]
  simp [Result.andThen, sliced, h0]

def mkCells (s : Mk) (A : Option Addr) (c : Nat) (B : Option Addr) (d : Nat) : Array Value :=
  #[.int .i64 s.lf, .int .i64 s.ls, .int .i64 s.lr, .bool s.u, .slice A s.fd.length c, .slice B s.rc.length d, .int .i64 s.bg, .int .i64 s.ct, .int .i64 s.wd, .int .i64 s.er]
/-- Block g is a maker that has s; S are the blocks that it alone has. -/
def MkB (w : World) (g : Nat) (s : Mk) (S : Nat → Prop) : Prop :=
  ∃ (A : Option Addr) (c : Nat) (B : Option Addr) (d : Nat), StB w g 138 (mkCells s A c B d) ∧ SlOwn w 0 5 A s.fd.length c (u8s s.fd) ∧ SlOwn w 0 9 B s.rc.length d (strs s.rc) ∧
    ∀ k, S k ↔ (k = g ∨ blkOf A = some k ∨ blkOf B = some k)
theorem MkB.lt {w : World} {g : Nat} {s : Mk} {S : Nat → Prop} (h : MkB w g s S) : ∀ k, S k → k < w.heap.size := by
  obtain ⟨A, c, B, d, h1, h2, h3, h4⟩ := h
  intro k hk
  rcases (h4 k).1 hk with rfl | hk | hk
  · exact h1.lt
  · exact (h2.blk k hk).2
  · exact (h3.blk k hk).2
theorem MkB.touch {w w' : World} {g : Nat} {s : Mk} {S S' : Nat → Prop} (h : MkB w g s S) (k : Touch w w' S') (hd : ∀ j, S j → ¬ S' j) : MkB w' g s S := by
  obtain ⟨A, c, B, d, h1, h2, h3, h4⟩ := h
  exact ⟨A, c, B, d, h1.touch k (hd g ((h4 g).2 (.inl rfl))), h2.touch k fun j hj => hd j ((h4 j).2 (.inr (.inl hj))), h3.touch k fun j hj => hd j ((h4 j).2 (.inr (.inr hj))), h4⟩
theorem MkB.below {w w' : World} {g : Nat} {s : Mk} {S : Nat → Prop} (h : MkB w g s S) (k : Below w.heap.size w w') : MkB w' g s S :=
  h.touch (Touch.of_below k fun _ => False) fun _ _ hf => hf

/-- The maker g has turned to s; nothing else that was there has. -/
def Turned (g : Nat) (s : Mk) (S : Nat → Prop) (w w' : World) : Prop := ∃ S', MkB w' g s S' ∧ Touch w w' S ∧ Sub w S' S
def TurnOut (v : Value) (g : Nat) (s : Mk) (S : Nat → Prop) (w : World) (e : Ending) (w' : World) : Prop := e = .returned v ∧ Turned g s S w w'
theorem Turned.trans {g : Nat} {s1 s2 : Mk} {S : Nat → Prop} {w w1 w2 : World} (h : Turned g s1 S w w1) (k : ∀ S', MkB w1 g s1 S' → Turned g s2 S' w1 w2) : Turned g s2 S w w2 := by
  obtain ⟨S1, m1, t1, b1⟩ := h
  obtain ⟨S2, m2, t2, b2⟩ := k S1 m1
  exact ⟨S2, m2, t1.trans b1 t2, b1.trans t1.size b2⟩

/-- What put leaves. -/
theorem put_end {w w' : World} {g : Nat} {s : Mk} {A B B' : Option Addr} {c d d' : Nat} {S : Nat → Prop} (h1 : StB w g 138 (mkCells s A c B d)) (h2 : SlOwn w 0 5 A s.fd.length c (u8s s.fd)) (h3 : SlOwn w 0 9 B s.rc.length d (strs s.rc)) (h4 : ∀ k, S k ↔ (k = g ∨ blkOf A = some k ∨ blkOf B = some k))
    (u : Value) (hown : SlOwn w' 0 9 B' (s.rc.length + 1) d' (strs s.rc ++ [.string (toBA s.fd)])) (hg : ((w.drew).alloc (.cells #[u] 9)).grownBy w' (blkOf B)) (hat : B' = B ∨ B' = some ⟨w.heap.size, 0, none⟩ ∨ B' = some ⟨w.heap.size + 1, 0, none⟩) :
    Turned g (mPut s) S w ((w'.setCell ⟨g, 5, none⟩ (.slice B' (s.rc.length + 1) d')).setCell ⟨g, 4, none⟩ (.slice A 0 c)) := by
  have hlt := h1.lt
  have b0 : Below w.heap.size w ((w.drew).alloc (.cells #[u] 9)) := up_alloc ((Below.refl _ w).drew) _
  have hgB : ∀ k, blkOf B = some k → k ≠ g := h3.unlike_st h1 (by decide)
  have hAB : ∀ k, blkOf A = some k → blkOf B ≠ some k := h2.unlike h3 (by decide)
  have hAg : ∀ k, blkOf A = some k → k ≠ g := h2.unlike_st h1 (by decide)
  have st : StB w' g 138 (mkCells s A c B d) := (h1.below b0).grown hg (fun e => hgB g e.symm rfl)
  have oA : SlOwn w' 0 5 A s.fd.length c (u8s s.fd) := (h2.below b0).grown hg (fun k hk e => hAB k hk e.symm)
  have t0 : Touch w w' S := (Touch.of_below b0 S).then_grown hg fun j hj => .inl ((h4 j).2 (.inr (.inr hj)))
  have hB' : ∀ k, blkOf B' = some k → k ≠ g := hown.unlike_st st (by decide)
  refine ⟨fun k => k = g ∨ blkOf A = some k ∨ blkOf B' = some k, ⟨A, c, B', d', ?_, ?_, ?_, fun k => Iff.rfl⟩, ?_, ?_⟩
  · have := (st.set_ 5 (.slice B' (s.rc.length + 1) d')).set_ 4 (.slice A 0 c)
    simpa [mkCells, mPut] using this
  · have k1 := oA.keep (w' := (w'.setCell ⟨g, 5, none⟩ (.slice B' (s.rc.length + 1) d')).setCell ⟨g, 4, none⟩ (.slice A 0 c)) fun k hk => by
      rw [Below.heap_setCell _ _ _ k (hAg k hk), Below.heap_setCell _ _ _ k (hAg k hk)]
    obtain ⟨l1, l2, l3, l4⟩ := k1
    refine ⟨rfl, Nat.zero_le _, l3, ?_⟩
    rcases l4 with l4 | ⟨q, cur, fz, ha, hb, hh, hs, hf, hx⟩
    · exact .inl l4
    · exact .inr ⟨q, cur, fz, ha, hb, hh, hs, hf, fun j v hv => by simp [mPut, u8s] at hv⟩
  · have k1 := hown.keep (w' := (w'.setCell ⟨g, 5, none⟩ (.slice B' (s.rc.length + 1) d')).setCell ⟨g, 4, none⟩ (.slice A 0 c)) fun k hk => by
      rw [Below.heap_setCell _ _ _ k (hB' k hk), Below.heap_setCell _ _ _ k (hB' k hk)]
    simpa [mPut, strs] using k1
  · exact (t0.then_set (.inl ((h4 g).2 (.inl rfl))) _).then_set (.inl ((h4 g).2 (.inl rfl))) _
  · intro k hk
    rcases hk with rfl | hk | hk
    · exact .inl ((h4 _).2 (.inl rfl))
    · exact .inl ((h4 _).2 (.inr (.inl hk)))
    · rcases hat with rfl | rfl | rfl
      · exact .inl ((h4 _).2 (.inr (.inr hk)))
      · simp [blkOf] at hk; exact .inr (by omega)
      · simp [blkOf] at hk; exact .inr (by omega)

set_option maxHeartbeats 1600000 in
theorem put_any (g : Nat) (s : Mk) (S : Nat → Prop) (w : World) (h : MkB w g s S) (hr : s.rc.length ≤ 1000000) :
    Calls Tryz.prog 122 #[.pointer (some ⟨g, 0, none⟩)] w (TurnOut (.tuple #[]) g (mPut s) S w) := by
  obtain ⟨A, c, B, d, h1, h2, h3, h4⟩ := h
  obtain ⟨i0, hi, hz0, hz1, hz2⟩ := info_parts infoS
  have Hi := Lib.hid hi
  have Hz0 := Lib.hid hz0
  have Hz1 := Lib.hid hz1
  have Hz2 := Lib.hid hz2
  have c4 : w.cell? ⟨g, 4, none⟩ = some (.slice A s.fd.length c) := h1.cell 4
  have c5 : w.cell? ⟨g, 5, none⟩ = some (.slice B s.rc.length d) := h1.cell 5
  have hg := h1.lt
  have b0 : Below w.heap.size w ((w.drew).alloc (.cells #[.string (toBA s.fd)] 9)) := up_alloc ((Below.refl _ w).drew) _
  have kx : (convert 42 9 (.slice A s.fd.length c)).run Tryz.prog w.drew = .ok (.string (toBA s.fd)) w.drew := conv_text c Tryz.underlying42 Tryz.underlying5 Tryz.underlying9 (SlIn.drew h2.toIn)
  have hfr := run_front8
  have H1 := Lib.hid h1
  have H2 := Lib.hid h2
  have H3 := Lib.hid h3
  have H4 := Lib.hid h4
  have B0 := Lib.hid b0
  have hgB := Lib.hid (h3.unlike_st h1 (by decide))
  clear h1 h2 h3 h4 b0 hi hz0 hz1 hz2
  go_enter Tryz.func122, Tryz.ntmps122
  go_wp2_with fail
  go_region_law ((refine step_append_sl rfl (.tmp 6) (.tmp 12) 38 rfl 9 i0 (.string ⟨#[]⟩) 16 Tryz.underlying38 Hi.out Hz0.out Hz1.out Hz2.out rfl 0 B s.rc.length d (strs s.rc) (by simp [Act.eval, Act.put]) (H3.out.below B0.out) (some ⟨w.heap.size, 0, none⟩) 1 1 [.string (toBA s.fd)] (by simp [Act.eval, Act.put]) (slIn_new1 w.drew 9 _) (by intro u hu; simp at hu; subst hu; rfl) (by unfold maxLen; omega) (by omega) (Nat.zero_le _) ?_); intro B' d' w' hown hgrow hat; have st := (H1.out.below B0.out).grown hgrow (fun e => hgB.out g e.symm rfl); have e4 : w'.cell? ⟨g, 4, none⟩ = some (.slice A s.fd.length c) := st.cell 4; have e5 : w'.cell? ⟨g, 5, none⟩ = some (.slice B s.rc.length d) := st.cell 5; have f4 := st.free 4; have f5 := st.free 5; have HO := Lib.hid hown; have HG := Lib.hid hgrow; have HA := Lib.hid hat; clear st hown hgrow hat)
  all_goals
    go_wp2_with fail
    go_end0
    refine ⟨rfl, ?_⟩
    exact put_end H1.out H2.out H3.out H4.out (.string (toBA s.fd)) HO.out HG.out (by have := HA.out; simp at this; rcases this with h | h <;> simp [h])
end Go.Proofs.YtoeanbfemgmgnaaGreatDoor

namespace Go.Proofs.YtoeanbfemgmgnaaGreatDoor
open Go.ChangeShapes Go.WideShapes Go.ChangeAt Go.RowKit
set_option linter.unusedVariables false
set_option linter.unusedSimpArgs false

theorem bound_is (g : Nat) (s : Mk) (S : Nat → Prop) (v : Bool) (hv : Hid (mBound s = v)) (w : World) (h : Hid (MkB w g s S)) :
    Calls Tryz.prog 123 #[.pointer (some ⟨g, 0, none⟩)] w fun e w' => e = .returned (.bool v) ∧ w = w' := by
  obtain ⟨A, c, B, d, h1, h2, h3, h4⟩ := h.out
  have c3 : w.cell? ⟨g, 3, none⟩ = some (.bool s.u) := h1.cell 3
  have c7 : w.cell? ⟨g, 7, none⟩ = some (.int .i64 s.ct) := h1.cell 7
  have V : v = (s.u && decide (0 < s.ct)) := hv.out.symm
  clear hv h h1 h2 h3 h4
  obtain ⟨u, hu⟩ : ∃ u, u = s.u := ⟨_, rfl⟩
  obtain ⟨ct, hct⟩ : ∃ ct, ct = s.ct := ⟨_, rfl⟩
  rw [← hu] at c3 V
  rw [← hct] at c7 V
  clear hu hct
  have VV := Lib.hid V
  clear V
  cases u
  · go_enter Tryz.func123, Tryz.ntmps123
    go_wp2_with fail
    go_ret
    exact ⟨ret_bool (by rw [VV.out]; rfl), rfl⟩
  · by_cases hp : 0 < ct
    all_goals
      go_enter Tryz.func123, Tryz.ntmps123
      go_wp2_with fail
      go_ret
      exact ⟨ret_bool (by rw [VV.out]; simp [hp]), rfl⟩

/-- The cells of a maker, as facts. -/
theorem MkB.cells {w : World} {g : Nat} {s : Mk} {S : Nat → Prop} (h : MkB w g s S) : g < w.heap.size ∧ w.cell? ⟨g, 0, none⟩ = some (.int .i64 s.lf) ∧ w.cell? ⟨g, 1, none⟩ = some (.int .i64 s.ls) ∧ w.cell? ⟨g, 2, none⟩ = some (.int .i64 s.lr) ∧
    w.cell? ⟨g, 6, none⟩ = some (.int .i64 s.bg) ∧ w.cell? ⟨g, 7, none⟩ = some (.int .i64 s.ct) ∧ w.cell? ⟨g, 8, none⟩ = some (.int .i64 s.wd) ∧ w.cell? ⟨g, 9, none⟩ = some (.int .i64 s.er) ∧
    (∃ A c, w.cell? ⟨g, 4, none⟩ = some (.slice A s.fd.length c)) ∧ ∃ B d, w.cell? ⟨g, 5, none⟩ = some (.slice B s.rc.length d) := by
  obtain ⟨A, c, B, d, h1, h2, h3, h4⟩ := h
  exact ⟨h1.lt, h1.cell 0, h1.cell 1, h1.cell 2, h1.cell 6, h1.cell 7, h1.cell 8, h1.cell 9, ⟨A, c, h1.cell 4⟩, B, d, h1.cell 5⟩
theorem MkB.free {w : World} {g : Nat} {s : Mk} {S : Nat → Prop} (h : MkB w g s S) (i : Nat) : w.frozen? ⟨g, i, none⟩ = false := by
  obtain ⟨A, c, B, d, h1, h2, h3, h4⟩ := h
  exact h1.free i
theorem Turned.then_below {g : Nat} {s : Mk} {S : Nat → Prop} {w w1 w2 : World} (h : Turned g s S w w1) (hb : Below w1.heap.size w1 w2) : Turned g s S w w2 := by
  obtain ⟨S1, m1, t1, b1⟩ := h
  exact ⟨S1, m1.below hb, t1.then_below hb, b1⟩

def rF (ls wd n : Int) (b : Bool) : Int := if ls ≤ n then 8 else if b = true ∧ n = wd then 10 else 0
def rL (wd n : Int) (b : Bool) : Int := if b = true ∧ n ≠ wd then 10 else 0
theorem mEndF_er {s : Mk} (h : s.er = 0) : (mEndF s).er = rF s.ls s.wd ((s.rc.length + 1 : Nat) : Int) (mBound s) := by
  unfold mEndF rF
  rw [show ((s.rc.length + 1 : Nat) : Int) = (s.rc.length : Int) + 1 by omega]
  split
  · rfl
  · split
    · rfl
    · exact h
theorem mEndL_er {s : Mk} (h : s.er = 0) : (mEndL s).er = rL s.wd ((s.rc.length + 1 : Nat) : Int) (mBound s) := by
  unfold mEndL rL
  rw [show ((s.rc.length + 1 : Nat) : Int) = (s.rc.length : Int) + 1 by omega]
  split
  · rfl
  · exact h
/-- What stands behind put. -/
theorem put_cells {g : Nat} {s : Mk} {S : Nat → Prop} {w w1 : World} {n : Nat} {ls wd : Int} (hn : n = s.rc.length + 1) (hls : ls = s.ls) (hwd : wd = s.wd) (h : Turned g (mPut s) S w w1) :
    ∃ S1 B d, Hid (MkB w1 g (mPut s) S1) ∧ g < w1.heap.size ∧ w1.cell? ⟨g, 1, none⟩ = some (.int .i64 ls) ∧ w1.cell? ⟨g, 5, none⟩ = some (.slice B n d) ∧ w1.cell? ⟨g, 8, none⟩ = some (.int .i64 wd) := by
  obtain ⟨S1, m1, t1, b1⟩ := h
  obtain ⟨hg, k0, k1, k2, k6, k7, k8, k9, _, B1, d1, k5⟩ := m1.cells
  refine ⟨S1, B1, d1, Lib.hid m1, hg, ?_, ?_, ?_⟩
  · rw [k1, hls]; rfl
  · rw [k5, hn, mPut_len]
  · rw [k8, hwd]; rfl

set_option maxHeartbeats 1600000 in
theorem endField_any (g : Nat) (s : Mk) (S : Nat → Prop) (w : World) (h : MkB w g s S) (hr : s.rc.length ≤ 1000000) (h0 : s.er = 0) :
    Calls Tryz.prog 112 #[.pointer (some ⟨g, 0, none⟩)] w (TurnOut (.int .i64 (mEndF s).er) g (mPut s) S w) := by
  rw [mEndF_er h0]
  obtain ⟨n, hn⟩ : ∃ n, n = s.rc.length + 1 := ⟨_, rfl⟩
  obtain ⟨ls, hls⟩ : ∃ ls, ls = s.ls := ⟨_, rfl⟩
  obtain ⟨wd, hwd⟩ : ∃ wd, wd = s.wd := ⟨_, rfl⟩
  obtain ⟨b, hb⟩ : ∃ b, b = mBound s := ⟨_, rfl⟩
  rw [← hn, ← hls, ← hwd, ← hb]
  have HN := Lib.hid hn
  have HLS := Lib.hid hls
  have HWD := Lib.hid hwd
  have HB := Lib.hid (show mBound (mPut s) = b from hb.symm)
  have HM := Lib.hid h
  clear hn hls hwd hb h h0
  by_cases hle : ls ≤ (n : Int)
  · have hd : decide (ls ≤ (n : Int)) = true := by simpa using hle
    have EE := Lib.hid (show rF ls wd n b = 8 by simp [rF, hle])
    go_enter Tryz.func112, Tryz.ntmps112
    go_wp2_with fail
    refine (put_any g s S _ HM.out hr).mono ?_
    rintro x w1 ⟨rfl, ht⟩
    have HT := Lib.hid ht
    obtain ⟨S1, B1, d1, M1, hg, k1, k5, k8⟩ := put_cells HN.out HLS.out HWD.out ht
    clear ht
    go_wp2_with fail
    refine wp_region_onto (by kernel_rfl) (by kernel_rfl) ?_
    repeat (go_big_quiet_step (fail))
    refine wpQuiet_nil ?_
    intro _ hw'
    obtain ⟨x1, hw''⟩ := hw'
    subst hw''
    go_wp2_with fail
    go_ret
    exact ⟨ret_int EE.out.symm, HT.out.then_below (onto_below w1 x1)⟩
  · have hd : decide (ls ≤ (n : Int)) = false := by simpa using hle
    cases b
    · have EE := Lib.hid (show rF ls wd n false = 0 by simp [rF, hle])
      go_enter Tryz.func112, Tryz.ntmps112
      go_wp2_with fail
      refine (put_any g s S _ HM.out hr).mono ?_
      rintro x w1 ⟨rfl, ht⟩
      have HT := Lib.hid ht
      obtain ⟨S1, B1, d1, M1, hg, k1, k5, k8⟩ := put_cells HN.out HLS.out HWD.out ht
      clear ht
      go_wp2_with fail
      refine wp_region_onto (by kernel_rfl) (by kernel_rfl) ?_
      repeat (go_big_quiet_step (fail))
      refine wpQuiet_nil ?_
      intro _ hw'
      obtain ⟨x1, hw''⟩ := hw'
      subst hw''
      go_wp2_with fail
      refine wp_region_onto (by kernel_rfl) (by kernel_rfl) ?_
      repeat (go_big_quiet_step ((go_at_call 123; exact calls_onto_same (bound_is g (mPut s) S1 false HB _ (Lib.hid ((M1.out.below (onto_below w1 x1)).below (onto_below (onto w1 x1) _)))))))
      refine wpQuiet_nil ?_
      intro _ hw'
      obtain ⟨x2, hw''⟩ := hw'
      subst hw''
      go_wp2_with fail
      go_ret
      exact ⟨ret_int EE.out.symm, HT.out.then_below (up_onto (onto_below w1 x1) x2)⟩
    · by_cases hq : (n : Int) = wd
      · have hd2 : ((n : Int) == wd) = true := by simpa using hq
        have EE := Lib.hid (show rF ls wd n true = 10 by unfold rF; rw [if_neg hle, if_pos ⟨rfl, hq⟩])
        clear hq
        clear hle
        go_enter Tryz.func112, Tryz.ntmps112
        go_wp2_with fail
        refine (put_any g s S _ HM.out hr).mono ?_
        rintro x w1 ⟨rfl, ht⟩
        have HT := Lib.hid ht
        obtain ⟨S1, B1, d1, M1, hg, k1, k5, k8⟩ := put_cells HN.out HLS.out HWD.out ht
        clear ht
        go_wp2_with fail
        refine wp_region_onto (by kernel_rfl) (by kernel_rfl) ?_
        repeat (go_big_quiet_step (fail))
        refine wpQuiet_nil ?_
        intro _ hw'
        obtain ⟨x1, hw''⟩ := hw'
        subst hw''
        go_wp2_with fail
        refine wp_region_onto (by kernel_rfl) (by kernel_rfl) ?_
        repeat (go_big_quiet_step ((go_at_call 123; exact calls_onto_same (bound_is g (mPut s) S1 true HB _ (Lib.hid ((M1.out.below (onto_below w1 x1)).below (onto_below (onto w1 x1) _)))))))
        refine wpQuiet_nil ?_
        intro _ hw'
        obtain ⟨x2, hw''⟩ := hw'
        subst hw''
        go_wp2_with fail
        go_ret
        exact ⟨ret_int EE.out.symm, HT.out.then_below (up_onto (onto_below w1 x1) x2)⟩
      · have hd2 : ((n : Int) == wd) = false := by simpa using hq
        have EE := Lib.hid (show rF ls wd n true = 0 by unfold rF; rw [if_neg hle, if_neg (fun h => hq h.2)])
        clear hq
        clear hle
        go_enter Tryz.func112, Tryz.ntmps112
        go_wp2_with fail
        refine (put_any g s S _ HM.out hr).mono ?_
        rintro x w1 ⟨rfl, ht⟩
        have HT := Lib.hid ht
        obtain ⟨S1, B1, d1, M1, hg, k1, k5, k8⟩ := put_cells HN.out HLS.out HWD.out ht
        clear ht
        go_wp2_with fail
        refine wp_region_onto (by kernel_rfl) (by kernel_rfl) ?_
        repeat (go_big_quiet_step (fail))
        refine wpQuiet_nil ?_
        intro _ hw'
        obtain ⟨x1, hw''⟩ := hw'
        subst hw''
        go_wp2_with fail
        refine wp_region_onto (by kernel_rfl) (by kernel_rfl) ?_
        repeat (go_big_quiet_step ((go_at_call 123; exact calls_onto_same (bound_is g (mPut s) S1 true HB _ (Lib.hid ((M1.out.below (onto_below w1 x1)).below (onto_below (onto w1 x1) _)))))))
        refine wpQuiet_nil ?_
        intro _ hw'
        obtain ⟨x2, hw''⟩ := hw'
        subst hw''
        go_wp2_with fail
        go_ret
        exact ⟨ret_int EE.out.symm, HT.out.then_below (up_onto (onto_below w1 x1) x2)⟩

set_option maxHeartbeats 1600000 in
theorem endLine_any (g : Nat) (s : Mk) (S : Nat → Prop) (w : World) (h : MkB w g s S) (hr : s.rc.length ≤ 1000000) (h0 : s.er = 0) :
    Calls Tryz.prog 113 #[.pointer (some ⟨g, 0, none⟩)] w (TurnOut (.int .i64 (mEndL s).er) g (mPut s) S w) := by
  rw [mEndL_er h0]
  obtain ⟨n, hn⟩ : ∃ n, n = s.rc.length + 1 := ⟨_, rfl⟩
  obtain ⟨wd, hwd⟩ : ∃ wd, wd = s.wd := ⟨_, rfl⟩
  obtain ⟨b, hb⟩ : ∃ b, b = mBound s := ⟨_, rfl⟩
  rw [← hn, ← hwd, ← hb]
  have HN := Lib.hid hn
  have HWD := Lib.hid hwd
  have HB := Lib.hid (show mBound (mPut s) = b from hb.symm)
  have HM := Lib.hid h
  clear hn hwd hb h h0
  cases b
  · have EE := Lib.hid (show rL wd n false = 0 by simp [rL])
    go_enter Tryz.func113, Tryz.ntmps113
    go_wp2_with fail
    refine (put_any g s S _ HM.out hr).mono ?_
    rintro x w1 ⟨rfl, ht⟩
    have HT := Lib.hid ht
    obtain ⟨S1, B1, d1, M1, hg, k1, k5, k8⟩ := put_cells HN.out rfl HWD.out ht
    clear ht
    go_wp2_with fail
    refine wp_region_onto (by kernel_rfl) (by kernel_rfl) ?_
    repeat (go_big_quiet_step ((go_at_call 123; exact calls_onto_same (bound_is g (mPut s) S1 false HB _ (Lib.hid (M1.out.below (onto_below w1 _)))))))
    refine wpQuiet_nil ?_
    intro _ hw'
    obtain ⟨x2, hw''⟩ := hw'
    subst hw''
    go_wp2_with fail
    go_ret
    exact ⟨ret_int EE.out.symm, HT.out.then_below (onto_below w1 x2)⟩
  · by_cases hq : (n : Int) = wd
    · have hd2 : ((n : Int) != wd) = false := by simpa using hq
      have EE := Lib.hid (show rL wd n true = 0 by unfold rL; rw [if_neg (fun h => h.2 hq)])
      clear hq
      go_enter Tryz.func113, Tryz.ntmps113
      go_wp2_with fail
      refine (put_any g s S _ HM.out hr).mono ?_
      rintro x w1 ⟨rfl, ht⟩
      have HT := Lib.hid ht
      obtain ⟨S1, B1, d1, M1, hg, k1, k5, k8⟩ := put_cells HN.out rfl HWD.out ht
      clear ht
      go_wp2_with fail
      refine wp_region_onto (by kernel_rfl) (by kernel_rfl) ?_
      repeat (go_big_quiet_step ((go_at_call 123; exact calls_onto_same (bound_is g (mPut s) S1 true HB _ (Lib.hid (M1.out.below (onto_below w1 _)))))))
      refine wpQuiet_nil ?_
      intro _ hw'
      obtain ⟨x2, hw''⟩ := hw'
      subst hw''
      go_wp2_with fail
      go_ret
      exact ⟨ret_int EE.out.symm, HT.out.then_below (onto_below w1 x2)⟩
    · have hd2 : ((n : Int) != wd) = true := by simpa using hq
      have EE := Lib.hid (show rL wd n true = 10 by unfold rL; rw [if_pos ⟨rfl, hq⟩])
      clear hq
      go_enter Tryz.func113, Tryz.ntmps113
      go_wp2_with fail
      refine (put_any g s S _ HM.out hr).mono ?_
      rintro x w1 ⟨rfl, ht⟩
      have HT := Lib.hid ht
      obtain ⟨S1, B1, d1, M1, hg, k1, k5, k8⟩ := put_cells HN.out rfl HWD.out ht
      clear ht
      go_wp2_with fail
      refine wp_region_onto (by kernel_rfl) (by kernel_rfl) ?_
      repeat (go_big_quiet_step ((go_at_call 123; exact calls_onto_same (bound_is g (mPut s) S1 true HB _ (Lib.hid (M1.out.below (onto_below w1 _)))))))
      refine wpQuiet_nil ?_
      intro _ hw'
      obtain ⟨x2, hw''⟩ := hw'
      subst hw''
      go_wp2_with fail
      go_ret
      exact ⟨ret_int EE.out.symm, HT.out.then_below (onto_below w1 x2)⟩
end Go.Proofs.YtoeanbfemgmgnaaGreatDoor

namespace Go.Proofs.YtoeanbfemgmgnaaGreatDoor
open Go.ChangeShapes Go.WideShapes Go.ChangeAt Go.RowKit
set_option linter.unusedVariables false
set_option linter.unusedSimpArgs false

theorem Turned.refl {g : Nat} {s : Mk} {S : Nat → Prop} {w : World} (h : MkB w g s S) : Turned g s S w w := ⟨S, h, Touch.refl w S, Sub.refl w S⟩
theorem Turned.from_alloc {g : Nat} {s : Mk} {S : Nat → Prop} {w w' : World} {o : Obj} (h : Turned g s S (w.alloc o) w') : Turned g s S w w' := by
  obtain ⟨S1, m1, t1, b1⟩ := h
  exact ⟨S1, m1, ((Touch.refl w S).then_alloc o).trans (Sub.refl w S) t1, fun k hk => by
    rcases b1 k hk with h | h
    · exact .inl h
    · simp at h; exact .inr (by omega)⟩
theorem MkB.set6 {w : World} {g : Nat} {s : Mk} {S : Nat → Prop} (h : MkB w g s S) (v : Int) : Turned g { s with bg := v } S w (w.setCell ⟨g, 6, none⟩ (.int .i64 v)) := by
  obtain ⟨A, c, B, d, h1, h2, h3, h4⟩ := h
  refine ⟨S, ⟨A, c, B, d, ?_, ?_, ?_, h4⟩, (Touch.refl w S).then_set (.inl ((h4 g).2 (.inl rfl))) _, Sub.refl w S⟩
  · have := h1.set_ 6 (.int .i64 v); simpa [mkCells] using this
  · exact h2.keep fun k hk => Below.heap_setCell w ⟨g, 6, none⟩ _ k (h2.unlike_st h1 (by decide) k hk)
  · exact h3.keep fun k hk => Below.heap_setCell w ⟨g, 6, none⟩ _ k (h3.unlike_st h1 (by decide) k hk)

/-- The event in its box, behind whatever turned the maker alone. -/
theorem ev_cells {w wx : World} {g : Nat} {s s1 : Mk} {S : Nat → Prop} {t : TypeId} (x : Ev) (h : MkB w g s S) (T : Turned g s1 S (w.alloc (.cells (evArr x) t)) wx) :
    wx.cell? ⟨w.heap.size, 0, none⟩ = some (.bool x.bg) ∧ wx.cell? ⟨w.heap.size, 1, none⟩ = some (.bool x.ad) ∧ wx.cell? ⟨w.heap.size, 2, none⟩ = some (.bool x.fi) ∧ wx.cell? ⟨w.heap.size, 3, none⟩ = some (.bool x.li) ∧
    wx.cell? ⟨w.heap.size, 4, none⟩ = some (.bool x.re) ∧ wx.cell? ⟨w.heap.size, 5, none⟩ = some (.int .u8 x.b) ∧ w.heap.size < wx.heap.size := by
  obtain ⟨S1, m1, t1, b1⟩ := T
  have st : StB wx w.heap.size t (evArr x) := (StB.new w t (evArr x)).touch t1 (fun hs => by have := h.lt _ hs; omega)
  exact ⟨st.cell 0, st.cell 1, st.cell 2, st.cell 3, st.cell 4, st.cell 5, st.lt⟩

/-- A byte put behind the field's. -/
theorem add_end {w w' : World} {g : Nat} {s : Mk} {A A' B : Option Addr} {c c' d : Nat} {S : Nat → Prop} {v : Int} (h1 : StB w g 138 (mkCells s A c B d)) (h2 : SlOwn w 0 5 A s.fd.length c (u8s s.fd)) (h3 : SlOwn w 0 9 B s.rc.length d (strs s.rc)) (h4 : ∀ k, S k ↔ (k = g ∨ blkOf A = some k ∨ blkOf B = some k))
    (u : Value) (hown : SlOwn w' 0 5 A' (s.fd.length + 1) c' (u8s s.fd ++ [.int .u8 v])) (hg : ((w.drew).alloc (.cells #[u] 5)).grownBy w' (blkOf A)) (hat : A' = A ∨ A' = some ⟨w.heap.size, 0, none⟩ ∨ A' = some ⟨w.heap.size + 1, 0, none⟩) :
    Turned g { s with fd := s.fd ++ [v] } S w (w'.setCell ⟨g, 4, none⟩ (.slice A' (s.fd.length + 1) c')) := by
  have hlt := h1.lt
  have b0 : Below w.heap.size w ((w.drew).alloc (.cells #[u] 5)) := up_alloc ((Below.refl _ w).drew) _
  have hgA : ∀ k, blkOf A = some k → k ≠ g := h2.unlike_st h1 (by decide)
  have hBA : ∀ k, blkOf B = some k → blkOf A ≠ some k := h3.unlike h2 (by decide)
  have hgB : ∀ k, blkOf B = some k → k ≠ g := h3.unlike_st h1 (by decide)
  have st : StB w' g 138 (mkCells s A c B d) := (h1.below b0).grown hg (fun e => hgA g e.symm rfl)
  have oB : SlOwn w' 0 9 B s.rc.length d (strs s.rc) := (h3.below b0).grown hg (fun k hk e => hBA k hk e.symm)
  have t0 : Touch w w' S := (Touch.of_below b0 S).then_grown hg fun j hj => .inl ((h4 j).2 (.inr (.inl hj)))
  have hA' : ∀ k, blkOf A' = some k → k ≠ g := hown.unlike_st st (by decide)
  refine ⟨fun k => k = g ∨ blkOf A' = some k ∨ blkOf B = some k, ⟨A', c', B, d, ?_, ?_, ?_, fun k => Iff.rfl⟩, ?_, ?_⟩
  · have := st.set_ 4 (.slice A' (s.fd.length + 1) c')
    simpa [mkCells] using this
  · have k1 := hown.keep (w' := w'.setCell ⟨g, 4, none⟩ (.slice A' (s.fd.length + 1) c')) fun k hk => Below.heap_setCell _ _ _ k (hA' k hk)
    simpa [u8s] using k1
  · exact oB.keep fun k hk => Below.heap_setCell _ _ _ k (hgB k hk)
  · exact t0.then_set (.inl ((h4 g).2 (.inl rfl))) _
  · intro k hk
    rcases hk with rfl | hk | hk
    · exact .inl ((h4 _).2 (.inl rfl))
    · rcases hat with rfl | rfl | rfl
      · exact .inl ((h4 _).2 (.inr (.inl hk)))
      · simp [blkOf] at hk; exact .inr (by omega)
      · simp [blkOf] at hk; exact .inr (by omega)
    · exact .inl ((h4 _).2 (.inr (.inr hk)))
end Go.Proofs.YtoeanbfemgmgnaaGreatDoor

namespace Go.Proofs.YtoeanbfemgmgnaaGreatDoor
open Go.ChangeShapes Go.WideShapes Go.ChangeAt Go.RowKit
set_option linter.unusedVariables false
set_option linter.unusedSimpArgs false

def GatherOut (g : Nat) (e : Ev) (s : Mk) (S : Nat → Prop) (w : World) : Ending → World → Prop := TurnOut (.int .i64 (mGather e s).er) g (mZ (mGather e s)) S w

theorem Turned.from_alloc' {g : Nat} {s : Mk} {S : Nat → Prop} {w W w' : World} {o : Obj} (h : Turned g s S W w') (hW : W = w.alloc o) : Turned g s S w w' := by subst hW; exact h.from_alloc
theorem Turned.glue {g : Nat} {s : Mk} {S S1 : Nat → Prop} {w w1 w2 : World} (t : Touch w w1 S) (c : Sub w S1 S) (k : Turned g s S1 w1 w2) : Turned g s S w w2 := by
  obtain ⟨S2, m2, t2, b2⟩ := k
  exact ⟨S2, m2, t.trans c t2, c.trans t.size b2⟩
theorem mA_grow {s : Mk} (b : Bool) (v : Int) : (mA b v s).rc = s.rc := by unfold mA; split <;> (try split) <;> rfl
theorem mL_no {s : Mk} : mL false s = s := rfl
theorem mGrow {s : Mk} {N : Nat} (ok : s.Ok N) (b : Bool) : (mB b s).rc = s.rc ∧ (mB b s).fd = s.fd := by unfold mB; split <;> (try split) <;> exact ⟨rfl, rfl⟩
theorem mB_ok {s : Mk} (h : ¬ s.lr ≤ s.bg) : mB true s = { s with bg := s.bg + 1 } := by unfold mB; rw [if_pos rfl, if_neg h]
theorem mB_no {s : Mk} (h : s.lr ≤ s.bg) : mB true s = { s with er := 9 } := by unfold mB; rw [if_pos rfl, if_pos h]
theorem mA_ok {s : Mk} {v : Int} (h : ¬ s.lf ≤ (s.fd.length : Int)) : mA true v s = { s with fd := s.fd ++ [v] } := by unfold mA; rw [if_pos rfl, if_neg h]
theorem mA_no {s : Mk} {v : Int} (h : s.lf ≤ (s.fd.length : Int)) : mA true v s = { s with er := 7 } := by unfold mA; rw [if_pos rfl, if_pos h]

set_option maxHeartbeats 6400000 in
theorem gather_any (g : Nat) (x : Ev) (s : Mk) (S : Nat → Prop) (N : Nat) (hN : N ≤ 100000) (w : World) (h : MkB w g s S) (ok : s.Ok N) (h0 : s.er = 0) (b0 : 0 ≤ x.b) (b1 : x.b ≤ 255) :
    Calls Tryz.prog 101 #[.pointer (some ⟨g, 0, none⟩), .agg (evArr x)] w (GatherOut g x s S w) := by
  obtain ⟨bg, ad, fi, li, re, pb⟩ := x
  have HM := Lib.hid h
  have HOK := Lib.hid ok
  have H0 := Lib.hid h0
  have hM0 : MkB (w.alloc (.cells (evArr ⟨bg, ad, fi, li, re, pb⟩) 142)) g s S := h.below ((Below.refl _ _).alloc (Nat.le_refl _) _)
  have HM0 := Lib.hid hM0
  obtain ⟨v0, v1, v2, v3, v4, v5, v6⟩ := ev_cells ⟨bg, ad, fi, li, re, pb⟩ h (Turned.refl hM0)
  clear h ok h0 hM0
  have HW : ∃ W, W = w.alloc (.cells (evArr ⟨bg, ad, fi, li, re, pb⟩) 142) := ⟨_, rfl⟩
  go_enter Tryz.func101, Tryz.ntmps101
  go_upto_if 7 with fail
  go_cut [4] (fun s4 wx => s4 = .int .i64 0 ∧ Hid ((mB bg s).er = 0) ∧ Hid (Turned g (mB bg s) S (w.alloc (.cells (evArr ⟨bg, ad, fi, li, re, pb⟩) 142)) wx))
  case first =>
    obtain ⟨W, hW⟩ := HW
    rw [← hW]
    rw [← hW] at HM0 v0 v1 v2 v3 v4 v5 v6
    dsimp only at v0 v1 v2 v3 v4 v5 v6
    have HWW := Lib.hid hW
    clear hW
    cases bg
    · go_wp2_with fail
      go_meet
      rw [← HWW.out]
      exact ⟨rfl, H0, Lib.hid (Turned.refl HM0.out)⟩
    · obtain ⟨hg, k0, k1, k2, k6, k7, k8, k9, _, _⟩ := HM0.out.cells
      have f6 := HM0.out.free 6
      by_cases hle : s.lr ≤ s.bg
      · have HR := Lib.hid (mB_no hle)
        have hd : decide (s.lr ≤ s.bg) = true := by simpa using hle
        go_wp2_with fail
        refine wp_region_onto (by kernel_rfl) (by kernel_rfl) ?_
        repeat (go_big_quiet_step (fail))
        refine wpQuiet_nil ?_
        intro _ hw'
        obtain ⟨x1, hw''⟩ := hw'
        subst hw''
        go_wp2_with fail
        go_ret
        have e1 : mGather ⟨true, ad, fi, li, re, pb⟩ s = { s with er := 9 } := mGather1 HR.out (by show (9 : Int) ≠ 0; decide)
        show TurnOut _ g _ S w _ _
        rw [e1, mZ_er 9 H0.out]
        refine ⟨rfl, ?_⟩
        have := (Turned.refl HM0.out).then_below (onto_below W x1)
        exact this.from_alloc' HWW.out
      · have HR := Lib.hid (mB_ok hle)
        have hd : decide (s.lr ≤ s.bg) = false := by simpa using hle
        have q1 := HOK.out.lr
        have q2 := HOK.out.bg
        have q3 : s.bg < s.lr := by omega
        go_wp2_with fail
        refine wp_region_onto (by kernel_rfl) (by kernel_rfl) ?_
        repeat (go_big_quiet_step (fail))
        refine wpQuiet_nil ?_
        intro _ hw'
        obtain ⟨x1, hw''⟩ := hw'
        subst hw''
        go_wp2_with fail
        go_meet
        rw [HR.out]
        refine ⟨rfl, H0, Lib.hid ?_⟩
        rw [← HWW.out]
        exact ((Turned.refl HM0.out).then_below (onto_below W x1)).trans fun S' m => m.set6 _
  case rest =>
    obtain ⟨rfl, HE1, HT1⟩ := hcut
    obtain ⟨V, hV⟩ : ∃ V, V = wc := ⟨_, rfl⟩
    subst hV
    clear v0 v1 v2 v3 v4 v5 v6
    obtain ⟨mr, mf⟩ := mGrow HOK.out bg
    obtain ⟨s1, hs1⟩ : ∃ s1, mB bg s = s1 := ⟨_, rfl⟩
    rw [hs1] at HE1 HT1 mr mf
    have q1 : s1.rc.length ≤ 200000 := by rw [mr]; have := HOK.out.rcN; omega
    have q2 : s1.fd.length ≤ 100000 := by rw [mf]; have := HOK.out.fdN; omega
    have HS1 := Lib.hid hs1
    clear hs1 mr mf
    obtain ⟨v0, v1, v2, v3, v4, v5, v6⟩ := ev_cells ⟨bg, ad, fi, li, re, pb⟩ HM.out HT1.out
    dsimp only at v0 v1 v2 v3 v4 v5 v6
    go_upto_if 26 with fail
    go_cut [4] (fun s4 wx => s4 = .int .i64 0 ∧ Hid ((mA ad pb s1).er = 0) ∧ Hid (Turned g (mA ad pb s1) S (w.alloc (.cells (evArr ⟨bg, ad, fi, li, re, pb⟩) 142)) wx))
    case first =>
      cases ad
      · go_wp2_with fail
        go_meet
        exact ⟨rfl, HE1, HT1⟩
      · obtain ⟨S1, m1, t1, c1⟩ := HT1.out
        obtain ⟨A, c, B, d, h1, h2, h3, h4⟩ := m1
        have hg := h1.lt
        have k0 : V.cell? ⟨g, 0, none⟩ = some (.int .i64 s1.lf) := h1.cell 0
        have k4 : V.cell? ⟨g, 4, none⟩ = some (.slice A s1.fd.length c) := h1.cell 4
        obtain ⟨i0, hi, hz0, hz1, hz2⟩ := info_parts info8
        have Hi := Lib.hid hi
        have Hz0 := Lib.hid hz0
        have Hz1 := Lib.hid hz1
        have Hz2 := Lib.hid hz2
        have H1 := Lib.hid h1
        have H2 := Lib.hid h2
        have H3 := Lib.hid h3
        have H4 := Lib.hid h4
        have T1 := Lib.hid t1
        have C1 := Lib.hid c1
        clear hi hz0 hz1 hz2 h1 h2 h3 h4 t1 c1
        obtain ⟨n, hn⟩ : ∃ n, n = s1.fd.length := ⟨_, rfl⟩
        rw [← hn] at k4 q2
        have HN := Lib.hid hn
        by_cases hle : s1.lf ≤ (n : Int)
        · have HR := Lib.hid (mA_no (s := s1) (v := pb) (by rw [← hn]; exact hle))
          have hd : decide (s1.lf ≤ (n : Int)) = true := by simpa using hle
          clear hn
          go_wp2_with fail
          refine wp_region_onto (by kernel_rfl) (by kernel_rfl) ?_
          repeat (go_big_quiet_step (fail))
          refine wpQuiet_nil ?_
          intro _ hw'
          obtain ⟨x1, hw''⟩ := hw'
          subst hw''
          go_wp2_with fail
          go_ret
          have e1 : mGather ⟨bg, true, fi, li, re, pb⟩ s = { s1 with er := 7 } := mGather2 HS1.out HE1.out HR.out (by show (7 : Int) ≠ 0; decide)
          show TurnOut _ g _ S w _ _
          rw [e1, mZ_er 7 HE1.out]
          exact ⟨rfl, (HT1.out.then_below (onto_below V x1)).from_alloc⟩
        · have HR := Lib.hid (mA_ok (s := s1) (v := pb) (by rw [← hn]; exact hle))
          have hd : decide (s1.lf ≤ (n : Int)) = false := by simpa using hle
          clear hn
          go_wp2_with fail
          refine wp_region_onto (by kernel_rfl) (by kernel_rfl) ?_
          repeat (go_big_quiet_step (fail))
          refine wpQuiet_nil ?_
          intro _ hw'
          obtain ⟨x1, hw''⟩ := hw'
          subst hw''
          have HTU := Lib.hid (HT1.out.then_below (onto_below V x1))
          have z1 := H1.out.onto x1
          have z2 := H2.out.below (onto_below V x1)
          have z3 := H3.out.below (onto_below V x1)
          rw [← HN.out] at z2
          have zk := Lib.hid (show MkB (onto V x1) g s1 S1 from ⟨A, c, B, d, z1, by rw [← HN.out]; exact z2, z3, H4.out⟩)
          clear v0 v1 v2 v3 v4 v5 v6 k0 k4 HT1
          obtain ⟨v0, v1, v2, v3, v4, v5, v6⟩ := ev_cells ⟨bg, true, fi, li, re, pb⟩ HM.out HTU.out
          have hT := (T1.out.then_below (onto_below V x1))
          obtain ⟨U, hU⟩ : ∃ U, U = onto V x1 := ⟨_, rfl⟩
          rw [← hU]
          rw [← hU] at z1 z2 z3 zk v0 v1 v2 v3 v4 v5 v6 HTU hT
          dsimp only at v0 v1 v2 v3 v4 v5 v6
          clear hU HM0 HW
          have hgB := Lib.hid (z2.unlike_st z1 (by decide))
          have k4 : U.cell? ⟨g, 4, none⟩ = some (.slice A n c) := by rw [HN.out]; exact z1.cell 4
          have hg := z1.lt
          have Z1 := Lib.hid z1
          have Z2 := Lib.hid z2
          have Z3 := Lib.hid z3
          have HTT := Lib.hid hT
          clear z1 z2 z3 hT
          have B0 := Lib.hid (up_alloc ((Below.refl _ U).drew) (.cells #[.int .u8 pb] 5))
          go_wp2_with fail
          go_region_law ((refine step_append_sl rfl (.tmp 42) (.tmp 45) 42 rfl 5 i0 (.int .u8 0) 1 Tryz.underlying42 Hi.out Hz0.out Hz1.out Hz2.out rfl 0 A n c (u8s s1.fd) (by simp [Act.eval, Act.put]) (Z2.out.below B0.out) (some ⟨U.heap.size, 0, none⟩) 1 1 [.int .u8 pb] (by simp [Act.eval, Act.put]) (slIn_new1 U.drew 5 _) (by intro u hu; simp at hu; subst hu; rfl) (by unfold maxLen; omega) (by omega) (Nat.zero_le _) ?_); intro A' c' w' hown hgrow hat; have st := (Z1.out.below B0.out).grown hgrow (fun e => hgB.out g e.symm rfl); have e4 : w'.cell? ⟨g, 4, none⟩ = some (.slice A s1.fd.length c) := st.cell 4; have f4 := st.free 4; have HO := Lib.hid hown; have HG := Lib.hid hgrow; have HA := Lib.hid hat; clear st hown hgrow hat)
          all_goals
            go_wp2_with fail
            go_meet
            rw [HR.out]
            obtain rfl := HN.out
            refine ⟨rfl, HE1, Lib.hid (Turned.glue HTT.out C1.out (add_end Z1.out Z2.out Z3.out H4.out (.int .u8 pb) HO.out HG.out ?_))⟩
            have := HA.out
            simp at this
            rcases this with h | h <;> simp [h]
    case rest =>
      obtain ⟨rfl, HE2, HT2⟩ := hcut
      obtain ⟨V2, hV⟩ : ∃ V2, V2 = wc := ⟨_, rfl⟩
      subst hV
      clear v0 v1 v2 v3 v4 v5 v6 HT1
      have mr := mA_grow (s := s1) ad pb
      obtain ⟨s2, hs2⟩ : ∃ s2, mA ad pb s1 = s2 := ⟨_, rfl⟩
      rw [hs2] at HE2 HT2 mr
      have q3 : s2.rc.length ≤ 200000 := by rw [mr]; exact q1
      have HS2 := Lib.hid hs2
      clear hs2 mr q1 q2
      obtain ⟨v0, v1, v2, v3, v4, v5, v6⟩ := ev_cells ⟨bg, ad, fi, li, re, pb⟩ HM.out HT2.out
      dsimp only at v0 v1 v2 v3 v4 v5 v6
      go_upto_if 50 with fail
      go_cut [4] (fun s4 wx => s4 = .int .i64 0 ∧ Hid ((mF fi s2).er = 0) ∧ Hid (Turned g (mF fi s2) S (w.alloc (.cells (evArr ⟨bg, ad, fi, li, re, pb⟩) 142)) wx))
      case first =>
        cases fi
        · go_wp2_with fail
          go_meet
          exact ⟨rfl, HE2, HT2⟩
        · obtain ⟨S2, m2, t2, c2⟩ := HT2.out
          have M2 := Lib.hid m2
          have T2 := Lib.hid t2
          have C2 := Lib.hid c2
          clear m2 t2 c2
          obtain ⟨r, hr⟩ : ∃ r, (mEndF s2).er = r := ⟨_, rfl⟩
          have HR := Lib.hid hr
          go_wp2_with fail
          refine (endField_any g s2 S2 _ M2.out (by omega) HE2.out).mono ?_
          rintro x w3 ⟨rfl, ht⟩
          have HT3 := Lib.hid (Turned.glue T2.out C2.out ht)
          rw [HR.out]
          clear ht hr
          by_cases h0 : r = 0
          · subst h0
            go_wp2_with fail
            go_meet
            refine ⟨rfl, HR, Lib.hid ?_⟩
            show Turned g (mEndF s2) S _ _
            rw [mEndF_ok HR.out]; exact HT3.out
          · have hd : (r != 0) = true := by simpa using h0
            go_wp2_with fail
            go_ret
            have e1 : mGather ⟨bg, ad, true, li, re, pb⟩ s = mEndF s2 := mGather3 HS1.out HE1.out HS2.out HE2.out rfl (by show (mEndF s2).er ≠ 0; rw [HR.out]; exact h0)
            show TurnOut _ g _ S w _ _
            rw [e1, mZ_endF HE2.out, HR.out]
            exact ⟨rfl, HT3.out.from_alloc⟩
      case rest =>
        obtain ⟨rfl, HE3, HT3⟩ := hcut
        obtain ⟨V3, hV⟩ : ∃ V3, V3 = wc := ⟨_, rfl⟩
        subst hV
        clear v0 v1 v2 v3 v4 v5 v6 HT2
        have mr : (mF fi s2).rc.length ≤ s2.rc.length + 1 := by
          cases fi
          · exact Nat.le_succ _
          · show (mEndF s2).rc.length ≤ _
            rw [mEndF_ok HE3.out, mPut_len]; exact Nat.le_refl _
        obtain ⟨s3, hs3⟩ : ∃ s3, mF fi s2 = s3 := ⟨_, rfl⟩
        rw [hs3] at HE3 HT3 mr
        have q4 : s3.rc.length ≤ 200001 := by omega
        have HS3 := Lib.hid hs3
        clear hs3 mr
        obtain ⟨v0, v1, v2, v3, v4, v5, v6⟩ := ev_cells ⟨bg, ad, fi, li, re, pb⟩ HM.out HT3.out
        dsimp only at v0 v1 v2 v3 v4 v5 v6
        have e1 : mGather ⟨bg, ad, fi, li, re, pb⟩ s = mL li s3 := mGather4 HS1.out HE1.out HS2.out HE2.out HS3.out HE3.out
        have EG := Lib.hid e1
        clear e1
        cases li
        · go_wp2_with fail
          go_ret
          show TurnOut _ g _ S w _ _
          rw [EG.out, mL_no, HE3.out, mZ_self HE3.out]
          exact ⟨rfl, HT3.out.from_alloc⟩
        · obtain ⟨S3, m3, t3, c3⟩ := HT3.out
          have M3 := Lib.hid m3
          have T3 := Lib.hid t3
          have C3 := Lib.hid c3
          clear m3 t3 c3
          go_wp2_with fail
          refine (endLine_any g s3 S3 _ M3.out (by omega) HE3.out).mono ?_
          rintro x w4 ⟨rfl, ht⟩
          have HT4 := Lib.hid (Turned.glue T3.out C3.out ht)
          clear ht
          go_wp2_with fail
          go_ret
          show TurnOut _ g _ S w _ _
          rw [EG.out]
          show TurnOut (.int .i64 (mEndL s3).er) g (mZ (mEndL s3)) S w _ _
          rw [mZ_endL HE3.out]
          exact ⟨rfl, HT4.out.from_alloc⟩
end Go.Proofs.YtoeanbfemgmgnaaGreatDoor

namespace Go.Proofs.YtoeanbfemgmgnaaGreatDoor
open Go.ChangeShapes Go.WideShapes Go.ChangeAt Go.RowKit
set_option linter.unusedVariables false
set_option linter.unusedSimpArgs false

theorem MkB.set9 {w : World} {g : Nat} {s : Mk} {S : Nat → Prop} (h : MkB w g s S) (v : Int) : Turned g { s with er := v } S w (w.setCell ⟨g, 9, none⟩ (.int .i64 v)) := by
  obtain ⟨A, c, B, d, h1, h2, h3, h4⟩ := h
  refine ⟨S, ⟨A, c, B, d, ?_, ?_, ?_, h4⟩, (Touch.refl w S).then_set (.inl ((h4 g).2 (.inl rfl))) _, Sub.refl w S⟩
  · have := h1.set_ 9 (.int .i64 v); simpa [mkCells] using this
  · exact h2.keep fun k hk => Below.heap_setCell w ⟨g, 9, none⟩ _ k (h2.unlike_st h1 (by decide) k hk)
  · exact h3.keep fun k hk => Below.heap_setCell w ⟨g, 9, none⟩ _ k (h3.unlike_st h1 (by decide) k hk)

/-- A record handed out: whose it is. -/
def Handed (A : Option Addr) (c : Nat) (l : List ByteArray) (g : Nat) (s : Mk) (S : Nat → Prop) (w w' : World) : Prop :=
  SlOwn w' 0 9 A l.length c (strs l) ∧ ∃ S', MkB w' g s S' ∧ Touch w w' S ∧ Sub w S' S ∧ ∀ k, blkOf A = some k → ¬ S' k ∧ (S k ∨ w.heap.size ≤ k)
theorem Handed.glue {A : Option Addr} {c g : Nat} {l : List ByteArray} {s : Mk} {S S1 : Nat → Prop} {w w1 w2 : World} (t : Touch w w1 S) (c1 : Sub w S1 S) (k : Handed A c l g s S1 w1 w2) : Handed A c l g s S w w2 := by
  obtain ⟨o, S2, m2, t2, b2, d2⟩ := k
  refine ⟨o, S2, m2, t.trans c1 t2, c1.trans t.size b2, fun j hj => ⟨(d2 j hj).1, ?_⟩⟩
  rcases (d2 j hj).2 with h | h
  · exact c1 j h
  · have := t.size; exact .inr (by omega)
theorem Handed.none_ {g : Nat} {s : Mk} {S : Nat → Prop} {w w' : World} (h : Turned g s S w w') : Handed none 0 [] g s S w w' := by
  obtain ⟨S', m, t, b⟩ := h
  exact ⟨SlOwn.nothing _ _ _, S', m, t, b, fun k hk => by cases hk⟩
theorem Handed.from_alloc {A : Option Addr} {c g : Nat} {l : List ByteArray} {s : Mk} {S : Nat → Prop} {w w' : World} {o : Obj} (h : Handed A c l g s S (w.alloc o) w') : Handed A c l g s S w w' := by
  refine Handed.glue (w1 := w.alloc o) (S1 := S) ((Touch.refl w S).then_alloc o) (Sub.refl w S) h
theorem Handed.then_below {A : Option Addr} {c g : Nat} {l : List ByteArray} {s : Mk} {S : Nat → Prop} {w w1 w2 : World} (h : Handed A c l g s S w w1) (hb : Below w1.heap.size w1 w2) : Handed A c l g s S w w2 := by
  obtain ⟨o, S', m, t, b, d⟩ := h
  exact ⟨o.below hb, S', m.below hb, t.then_below hb, b, d⟩

theorem Touch.then_self {w w' : World} {g : Nat} (h : Touch w w' (fun k => k = g)) (i : Nat) (u : Value) : Touch w (w'.setCell ⟨g, i, none⟩ u) (fun k => k = g) :=
  Touch.then_set (S := fun k => k = g) h (p := ⟨g, i, none⟩) (.inl (show g = g from rfl)) u
def OutOut (g : Nat) (s : Mk) (S : Nat → Prop) (w : World) (x : Ending) (w' : World) : Prop := ∃ A c, x = .returned (.slice A s.rc.length c) ∧ Handed A c s.rc g (mOut s) S w w'
theorem out_end {w w' : World} {g : Nat} {s : Mk} {A B : Option Addr} {c d : Nat} {S : Nat → Prop} (h1 : StB w g 138 (mkCells s A c B d)) (h2 : SlOwn w 0 5 A s.fd.length c (u8s s.fd)) (h3 : SlOwn w 0 9 B s.rc.length d (strs s.rc)) (h4 : ∀ k, S k ↔ (k = g ∨ blkOf A = some k ∨ blkOf B = some k))
    (t : Touch w w' (fun k => k = g)) (st : StB w' g 138 (mkCells (mOut s) A c none 0)) : Handed B d s.rc g (mOut s) S w w' := by
  have hA := h2.unlike_st h1 (by decide)
  have hB := h3.unlike_st h1 (by decide)
  refine ⟨h3.touch t hB, fun k => k = g ∨ blkOf A = some k ∨ blkOf none = some k, ⟨A, c, none, 0, st, h2.touch t hA, SlOwn.nothing _ _ _, fun k => Iff.rfl⟩, t.mono fun k hk => (h4 k).2 (.inl hk), ?_, ?_⟩
  · intro k hk
    rcases hk with rfl | hk | hk
    · exact .inl ((h4 _).2 (.inl rfl))
    · exact .inl ((h4 _).2 (.inr (.inl hk)))
    · cases hk
  · intro k hk
    refine ⟨?_, .inl ((h4 _).2 (.inr (.inr hk)))⟩
    rintro (rfl | hk' | hk')
    · exact hB _ hk rfl
    · exact h3.unlike h2 (by decide) k hk hk'
    · cases hk'

set_option maxHeartbeats 1600000 in
theorem handOut_any (g : Nat) (s : Mk) (S : Nat → Prop) (w : World) (h : MkB w g s S) (ct0 : 0 ≤ s.ct) (ct1 : s.ct ≤ 1000000) (rc1 : s.rc.length ≤ 1000000) :
    Calls Tryz.prog 102 #[.pointer (some ⟨g, 0, none⟩)] w (OutOut g s S w) := by
  obtain ⟨A, c, B, d, h1, h2, h3, h4⟩ := h
  have hg := h1.lt
  have k5 : w.cell? ⟨g, 5, none⟩ = some (.slice B s.rc.length d) := h1.cell 5
  have k7 : w.cell? ⟨g, 7, none⟩ = some (.int .i64 s.ct) := h1.cell 7
  have k8 : w.cell? ⟨g, 8, none⟩ = some (.int .i64 s.wd) := h1.cell 8
  have f5 := h1.free 5
  have f7 := h1.free 7
  have f8 := h1.free 8
  have H1 := Lib.hid h1
  have H2 := Lib.hid h2
  have H3 := Lib.hid h3
  have H4 := Lib.hid h4
  clear h1 h2 h3 h4
  by_cases hz : s.ct = 0
  · have hd : (s.ct == 0) = true := by simpa using hz
    have HZ := Lib.hid hz
    clear hz
    go_enter Tryz.func102, Tryz.ntmps102
    go_wp2_with fail
    go_ret
    refine ⟨B, d, rfl, out_end H1.out H2.out H3.out H4.out ((((Touch.refl w _).then_self 8 _).then_self 5 _).then_self 7 _) ?_⟩
    have := (((H1.out.set_ 8 (.int .i64 (s.rc.length : Nat))).set_ 5 (.slice none 0 0)).set_ 7 (.int .i64 (s.ct + 1)))
    simpa [mkCells, mOut, HZ.out] using this
  · have hd : (s.ct == 0) = false := by simpa using hz
    have HZ := Lib.hid hz
    clear hz
    go_enter Tryz.func102, Tryz.ntmps102
    go_wp2_with fail
    go_ret
    refine ⟨B, d, rfl, out_end H1.out H2.out H3.out H4.out (((Touch.refl w _).then_self 5 _).then_self 7 _) ?_⟩
    have := ((H1.out.set_ 5 (.slice none 0 0)).set_ 7 (.int .i64 (s.ct + 1)))
    simpa [mkCells, mOut, HZ.out] using this
end Go.Proofs.YtoeanbfemgmgnaaGreatDoor

namespace Go.Proofs.YtoeanbfemgmgnaaGreatDoor
open Go.ChangeShapes Go.WideShapes Go.ChangeAt Go.RowKit
set_option linter.unusedVariables false
set_option linter.unusedSimpArgs false

def TakeOut (g : Nat) (e : Ev) (s : Mk) (S : Nat → Prop) (w : World) (x : Ending) (w' : World) : Prop :=
  ∃ A c, x = .returned (.tuple #[.slice A (mRec e s).length c, .bool (mTold e s), .int .i64 (mTake e s).er]) ∧ Handed A c (mRec e s) g (mTake e s) S w w'
theorem mZ_with (t : Mk) : { mZ t with er := t.er } = t := by cases t; rfl

set_option maxHeartbeats 3200000 in
theorem take_any (g : Nat) (e : Ev) (s : Mk) (S : Nat → Prop) (N : Nat) (hN : N ≤ 100000) (w : World) (h : MkB w g s S) (ok : s.Ok N) (b0 : 0 ≤ e.b) (b1 : e.b ≤ 255) :
    Calls Tryz.prog 79 #[.pointer (some ⟨g, 0, none⟩), .agg (evArr e)] w (TakeOut g e s S w) := by
  obtain ⟨bg, ad, fi, li, re, pb⟩ := e
  have HM := Lib.hid h
  have HOK := Lib.hid ok
  have hM0 : MkB (w.alloc (.cells (evArr ⟨bg, ad, fi, li, re, pb⟩) 142)) g s S := h.below ((Below.refl _ _).alloc (Nat.le_refl _) _)
  have HM0 := Lib.hid hM0
  obtain ⟨hg, k0, k1, k2, k6, k7, k8, k9, _, _⟩ := hM0.cells
  have f9 := hM0.free 9
  obtain ⟨v0, v1, v2, v3, v4, v5, v6⟩ := ev_cells ⟨bg, ad, fi, li, re, pb⟩ h (Turned.refl hM0)
  clear h ok hM0 k0 k1 k2 k6 k7 k8
  obtain ⟨W, hW⟩ : ∃ W, W = w.alloc (.cells (evArr ⟨bg, ad, fi, li, re, pb⟩) 142) := ⟨_, rfl⟩
  rw [← hW] at HM0 v0 v1 v2 v3 v4 v5 v6 hg k9 f9
  dsimp only at v0 v1 v2 v3 v4 v5 v6 b0 b1
  have HWW := Lib.hid hW
  clear hW
  by_cases h0 : s.er = 0
  · have hd : (s.er == 0) = true := by simpa using h0
    have hd' : (s.er != 0) = false := by simpa using h0
    have H0 := Lib.hid h0
    clear h0
    obtain ⟨r, hr⟩ : ∃ r, (mGather ⟨bg, ad, fi, li, re, pb⟩ s).er = r := ⟨_, rfl⟩
    have HR := Lib.hid hr
    clear hr
    go_enter Tryz.func79, Tryz.ntmps79
    go_upto_region 1 with fail
    rw [← HWW.out]
    go_wp2_with fail
    refine (gather_any g ⟨bg, ad, fi, li, re, pb⟩ s S N hN W HM0.out HOK.out H0.out b0 b1).mono ?_
    rintro x w1 ⟨rfl, ht⟩
    rw [HR.out]
    obtain ⟨q0, q1, q2, q3, q4, q5, q6⟩ := ev_cells ⟨bg, ad, fi, li, re, pb⟩ HM.out (HWW.out ▸ ht)
    dsimp only at q0 q1 q2 q3 q4 q5 q6
    obtain ⟨S1, m1, t1, c1⟩ := ht
    obtain ⟨hg1, _, _, _, _, _, _, z9, _, _⟩ := m1.cells
    have z9' : w1.cell? ⟨g, 9, none⟩ = some (.int .i64 0) := z9
    have y9 := m1.free 9
    have HT := Lib.hid (show Turned g (mGather ⟨bg, ad, fi, li, re, pb⟩ s) S W (w1.setCell ⟨g, 9, none⟩ (.int .i64 r)) by
      have := m1.set9 r
      rw [← HR.out, mZ_with, HR.out] at this
      exact Turned.glue t1 c1 this)
    have hne : ¬ w.heap.size = g := by have := HM.out.cells.1; omega
    clear m1 t1 c1 z9 v0 v1 v2 v3 v4 v5 v6 k9 f9
    have HTW := Lib.hid (show Turned g (mGather ⟨bg, ad, fi, li, re, pb⟩ s) S w (w1.setCell ⟨g, 9, none⟩ (.int .i64 r)) from HT.out.from_alloc' HWW.out)
    by_cases h1 : r = 0
    · subst h1
      cases re
      · obtain ⟨e1, e2⟩ := mRec2 (e := ⟨bg, ad, fi, li, false, pb⟩) (s := s) rfl
        have e3 : mTake ⟨bg, ad, fi, li, false, pb⟩ s = mGather ⟨bg, ad, fi, li, false, pb⟩ s := mTake2 H0.out rfl
        have E1 := Lib.hid e1
        have E2 := Lib.hid e2
        have E3 := Lib.hid e3
        clear e1 e2 e3
        go_wp2_with fail
        go_ret3
        unfold TakeOut
        rw [E1.out, E2.out, E3.out, HR.out]
        exact ⟨none, 0, rfl, Handed.none_ HTW.out⟩
      · obtain ⟨e1, e2⟩ := mRec3 (e := ⟨bg, ad, fi, li, true, pb⟩) (s := s) H0.out HR.out rfl
        have e3 : mTake ⟨bg, ad, fi, li, true, pb⟩ s = mOut (mGather ⟨bg, ad, fi, li, true, pb⟩ s) := mTake3 H0.out HR.out rfl
        have E1 := Lib.hid e1
        have E2 := Lib.hid e2
        have E3 := Lib.hid e3
        clear e1 e2 e3
        obtain ⟨S2, m2, t2, c2⟩ := HTW.out
        have M2 := Lib.hid m2
        have T2 := Lib.hid t2
        have C2 := Lib.hid c2
        have OK2 := Lib.hid ((few_gather ⟨bg, ad, fi, li, true, pb⟩ s).ok HOK.out)
        clear m2 t2 c2
        go_wp2_with fail
        refine (handOut_any g _ S2 _ M2.out OK2.out.ct (by have := OK2.out.ctN; omega) (by have := OK2.out.rcN; omega)).mono ?_
        rintro x w3 ⟨A, c, rfl, hh⟩
        have HH := Lib.hid (Handed.glue T2.out C2.out hh)
        clear hh
        go_wp2_with fail
        go_ret3
        unfold TakeOut
        rw [E1.out, E2.out, E3.out]
        refine ⟨A, c, ?_, HH.out⟩
        show _ = Ending.returned (.tuple #[_, _, .int .i64 (mGather ⟨bg, ad, fi, li, true, pb⟩ s).er])
        rw [HR.out]
        rfl
    · have hd1 : (r != 0) = true := by simpa using h1
      obtain ⟨e1, e2⟩ := mRec1 (e := ⟨bg, ad, fi, li, re, pb⟩) (s := s) (by rw [HR.out]; exact h1)
      have e3 : mTake ⟨bg, ad, fi, li, re, pb⟩ s = mGather ⟨bg, ad, fi, li, re, pb⟩ s := mTake1 H0.out (by rw [HR.out]; exact h1)
      have E1 := Lib.hid e1
      have E2 := Lib.hid e2
      have E3 := Lib.hid e3
      clear e1 e2 e3
      go_wp2_with fail
      refine wp_region_onto (by kernel_rfl) (by kernel_rfl) ?_
      repeat (go_big_quiet_step (fail))
      refine wpQuiet_nil ?_
      intro _ hw'
      obtain ⟨x1, hw''⟩ := hw'
      subst hw''
      go_wp2_with fail
      go_ret3
      unfold TakeOut
      rw [E1.out, E2.out, E3.out, HR.out]
      exact ⟨none, 0, rfl, Handed.none_ (HTW.out.then_below (onto_below _ x1))⟩
  · have hd : (s.er == 0) = false := by simpa using h0
    have hd' : (s.er != 0) = true := by simpa using h0
    obtain ⟨e1, e2, e3⟩ := mTake_stop h0 ⟨bg, ad, fi, li, re, pb⟩
    have E1 := Lib.hid e1
    have E2 := Lib.hid e2
    have E3 := Lib.hid e3
    clear h0 e1 e2 e3
    go_enter Tryz.func79, Tryz.ntmps79
    go_upto_region 1 with fail
    rw [← HWW.out]
    go_wp2_with fail
    refine wp_region_onto (by kernel_rfl) (by kernel_rfl) ?_
    repeat (go_big_quiet_step (fail))
    refine wpQuiet_nil ?_
    intro _ hw'
    obtain ⟨x1, hw''⟩ := hw'
    subst hw''
    go_wp2_with fail
    go_ret3
    unfold TakeOut
    rw [E1.out, E2.out, E3.out]
    exact ⟨none, 0, rfl, Handed.none_ (((Turned.refl HM0.out).then_below (onto_below _ x1)).from_alloc' HWW.out)⟩
end Go.Proofs.YtoeanbfemgmgnaaGreatDoor

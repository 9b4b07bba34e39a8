/- Layer 5: a maker in memory (MkB); the contract of the program's put. -/
import Derived.Test.YtbglecaahopgdaaKit8
import Derived.Test.YtbglecaahopgdaaPmk
import Derived.Test.YtbglecaahopgdaaRows
namespace Go.Proofs.Ytbglecaahopgdaa
open Go.ChangeShapes Go.WideShapes Go.ChangeAt Go.RowKit
set_option linter.unusedVariables false
set_option linter.unusedSimpArgs false

theorem info8 : (Try.prog.info? 5).map (fun i => (i.zero, i.size, i.bytes)) = some (some (.int .u8 0), 1, 1) := by kernel_rfl
theorem infoS : (Try.prog.info? 9).map (fun i => (i.zero, i.size, i.bytes)) = some (some (.string ⟨#[]⟩), 1, 16) := by kernel_rfl
theorem run_front8 (A : Option Addr) (n c : Nat) (V : World) :
    (Instr.slice 98 (.slice A n c) none (some (.int .i64 0)) none).run Try.prog V = .ok (.slice A 0 c) V := by
  obtain ⟨i0, hi, hz0, hz1, hz2⟩ := info_parts info8
  have hs : ∀ V, Sem.run Try.prog (Go.sizeOf 5) V = .ok 1 V := fun V => by simp [Go.sizeOf, typeInfo, hi, hz1]
  have := run_slice_h (P := Try.prog) V 98 A n c (by kernel_rfl) .i64 0 (by omega) (by omega)
  rw [this, show Try.prog.elem 98 = 5 from by kernel_rfl, hs]
  have h0 : A.map (fun a : Addr => a.add 0) = A := by cases A <;> simp [Addr.add]
  simp [Result.andThen, sliced, h0]

def mkCells (s : Mk) (A : Option Addr) (c : Nat) (B : Option Addr) (d : Nat) : Array Value :=
  #[.int .i64 s.lf, .int .i64 s.ls, .int .i64 s.lr, .bool s.u, .slice A s.fd.length c, .slice B s.rc.length d, .int .i64 s.bg, .int .i64 s.ct, .int .i64 s.wd, .int .i64 s.er]
/-- Block g is a maker that has s; S are the blocks that it alone has. -/
def MkB (w : World) (g : Nat) (s : Mk) (S : Nat → Prop) : Prop :=
  ∃ (A : Option Addr) (c : Nat) (B : Option Addr) (d : Nat), StB w g 100 (mkCells s A c B d) ∧ SlOwn w 0 5 A s.fd.length c (u8s s.fd) ∧ SlOwn w 0 9 B s.rc.length d (strs s.rc) ∧
    ∀ k, S k ↔ (k = g ∨ blkOf A = some k ∨ blkOf B = some k)
theorem MkB.lt {w : World} {g : Nat} {s : Mk} {S : Nat → Prop} (h : MkB w g s S) : ∀ k, S k → k < w.heap.size := by
  obtain ⟨A, c, B, d, h1, h2, h3, h4⟩ := h
  intro k hk
  rcases (h4 k).1 hk with rfl | hk | hk
  · exact h1.lt
  · exact (h2.blk k hk).2
  · exact (h3.blk k hk).2
theorem MkB.self {w : World} {g : Nat} {s : Mk} {S : Nat → Prop} (h : MkB w g s S) : S g := by
  obtain ⟨A, c, B, d, h1, h2, h3, h4⟩ := h
  exact (h4 g).2 (.inl rfl)
theorem MkB.touch {w w' : World} {g : Nat} {s : Mk} {S S' : Nat → Prop} (h : MkB w g s S) (k : Touch w w' S') (hd : ∀ j, S j → ¬ S' j) : MkB w' g s S := by
  obtain ⟨A, c, B, d, h1, h2, h3, h4⟩ := h
  exact ⟨A, c, B, d, h1.touch k (hd g ((h4 g).2 (.inl rfl))), h2.touch k fun j hj => hd j ((h4 j).2 (.inr (.inl hj))), h3.touch k fun j hj => hd j ((h4 j).2 (.inr (.inr hj))), h4⟩
theorem MkB.below {w w' : World} {g : Nat} {s : Mk} {S : Nat → Prop} (h : MkB w g s S) (k : Below w.heap.size w w') : MkB w' g s S :=
  h.touch (Touch.of_below k fun _ => False) fun _ _ hf => hf

/-- The maker g has turned to s; nothing else that was there has. -/
def Turned (g : Nat) (s : Mk) (S : Nat → Prop) (w w' : World) : Prop := ∃ S', MkB w' g s S' ∧ Touch w w' S ∧ Sub w S' S
def TurnOut (v : Value) (g : Nat) (s : Mk) (S : Nat → Prop) (w : World) (e : Ending) (w' : World) : Prop := e = .returned v ∧ Turned g s S w w'
theorem Turned.trans {g : Nat} {s1 s2 : Mk} {S : Nat → Prop} {w w1 w2 : World} (h : Turned g s1 S w w1) (k : ∀ S', MkB w1 g s1 S' → Turned g s2 S' w1 w2) : Turned g s2 S w w2 := by
  obtain ⟨S1, m1, t1, b1⟩ := h
  obtain ⟨S2, m2, t2, b2⟩ := k S1 m1
  exact ⟨S2, m2, t1.trans b1 t2, b1.trans t1.size b2⟩

/-- What put leaves. -/
theorem put_end {w w' : World} {g : Nat} {s : Mk} {A B B' : Option Addr} {c d d' : Nat} {S : Nat → Prop} (h1 : StB w g 100 (mkCells s A c B d)) (h2 : SlOwn w 0 5 A s.fd.length c (u8s s.fd)) (h3 : SlOwn w 0 9 B s.rc.length d (strs s.rc)) (h4 : ∀ k, S k ↔ (k = g ∨ blkOf A = some k ∨ blkOf B = some k))
    (u : Value) (hown : SlOwn w' 0 9 B' (s.rc.length + 1) d' (strs s.rc ++ [.string (toBA s.fd)])) (hg : ((w.drew).alloc (.cells #[u] 9)).grownBy w' (blkOf B)) (hat : B' = B ∨ B' = some ⟨w.heap.size, 0, none⟩ ∨ B' = some ⟨w.heap.size + 1, 0, none⟩) :
    Turned g (mPut s) S w ((w'.setCell ⟨g, 5, none⟩ (.slice B' (s.rc.length + 1) d')).setCell ⟨g, 4, none⟩ (.slice A 0 c)) := by
  have hlt := h1.lt
  have b0 : Below w.heap.size w ((w.drew).alloc (.cells #[u] 9)) := up_alloc ((Below.refl _ w).drew) _
  have hgB : ∀ k, blkOf B = some k → k ≠ g := h3.unlike_st h1 (by decide)
  have hAB : ∀ k, blkOf A = some k → blkOf B ≠ some k := h2.unlike h3 (by decide)
  have hAg : ∀ k, blkOf A = some k → k ≠ g := h2.unlike_st h1 (by decide)
  have st : StB w' g 100 (mkCells s A c B d) := (h1.below b0).grown hg (fun e => hgB g e.symm rfl)
  have oA : SlOwn w' 0 5 A s.fd.length c (u8s s.fd) := (h2.below b0).grown hg (fun k hk e => hAB k hk e.symm)
  have t0 : Touch w w' S := (Touch.of_below b0 S).then_grown hg fun j hj => .inl ((h4 j).2 (.inr (.inr hj)))
  have hB' : ∀ k, blkOf B' = some k → k ≠ g := hown.unlike_st st (by decide)
  refine ⟨fun k => k = g ∨ blkOf A = some k ∨ blkOf B' = some k, ⟨A, c, B', d', ?_, ?_, ?_, fun k => Iff.rfl⟩, ?_, ?_⟩
  · have := (st.set_ 5 (.slice B' (s.rc.length + 1) d')).set_ 4 (.slice A 0 c)
    simpa [mkCells, mPut] using this
  · have k1 := oA.keep (w' := (w'.setCell ⟨g, 5, none⟩ (.slice B' (s.rc.length + 1) d')).setCell ⟨g, 4, none⟩ (.slice A 0 c)) fun k hk => by
      rw [Below.heap_setCell _ _ _ k (hAg k hk), Below.heap_setCell _ _ _ k (hAg k hk)]
    obtain ⟨l1, l2, l3, l4⟩ := k1
    refine ⟨rfl, Nat.zero_le _, l3, ?_⟩
    rcases l4 with l4 | ⟨q, cur, fz, ha, hb, hh, hs, hf, hx⟩
    · exact .inl l4
    · exact .inr ⟨q, cur, fz, ha, hb, hh, hs, hf, fun j v hv => by simp [mPut, u8s] at hv⟩
  · have k1 := hown.keep (w' := (w'.setCell ⟨g, 5, none⟩ (.slice B' (s.rc.length + 1) d')).setCell ⟨g, 4, none⟩ (.slice A 0 c)) fun k hk => by
      rw [Below.heap_setCell _ _ _ k (hB' k hk), Below.heap_setCell _ _ _ k (hB' k hk)]
    simpa [mPut, strs] using k1
  · exact (t0.then_set (.inl ((h4 g).2 (.inl rfl))) _).then_set (.inl ((h4 g).2 (.inl rfl))) _
  · intro k hk
    rcases hk with rfl | hk | hk
    · exact .inl ((h4 _).2 (.inl rfl))
    · exact .inl ((h4 _).2 (.inr (.inl hk)))
    · rcases hat with rfl | rfl | rfl
      · exact .inl ((h4 _).2 (.inr (.inr hk)))
      · simp [blkOf] at hk; exact .inr (by omega)
      · simp [blkOf] at hk; exact .inr (by omega)

set_option maxHeartbeats 1600000 in
theorem put_any (g : Nat) (s : Mk) (S : Nat → Prop) (w : World) (h : MkB w g s S) (hr : s.rc.length ≤ 1000000) :
    Calls Try.prog 75 #[.pointer (some ⟨g, 0, none⟩)] w (TurnOut (.tuple #[]) g (mPut s) S w) := by
  obtain ⟨A, c, B, d, h1, h2, h3, h4⟩ := h
  obtain ⟨i0, hi, hz0, hz1, hz2⟩ := info_parts infoS
  have Hi := Lib.hid hi
  have Hz0 := Lib.hid hz0
  have Hz1 := Lib.hid hz1
  have Hz2 := Lib.hid hz2
  have c4 : w.cell? ⟨g, 4, none⟩ = some (.slice A s.fd.length c) := h1.cell 4
  have c5 : w.cell? ⟨g, 5, none⟩ = some (.slice B s.rc.length d) := h1.cell 5
  have hg := h1.lt
  have b0 : Below w.heap.size w ((w.drew).alloc (.cells #[.string (toBA s.fd)] 9)) := up_alloc ((Below.refl _ w).drew) _
  have kx : (convert 98 9 (.slice A s.fd.length c)).run Try.prog w.drew = .ok (.string (toBA s.fd)) w.drew := conv_text c Try.underlying98 Try.underlying5 Try.underlying9 (SlIn.drew h2.toIn)
  have hfr := run_front8
  have H1 := Lib.hid h1
  have H2 := Lib.hid h2
  have H3 := Lib.hid h3
  have H4 := Lib.hid h4
  have B0 := Lib.hid b0
  have hgB := Lib.hid (h3.unlike_st h1 (by decide))
  clear h1 h2 h3 h4 b0 hi hz0 hz1 hz2
  go_enter Try.func75, Try.ntmps75
  go_wp2_with fail
  go_region_law ((refine step_append_sl rfl (.tmp 6) (.tmp 12) 50 rfl 9 i0 (.string ⟨#[]⟩) 16 Try.underlying50 Hi.out Hz0.out Hz1.out Hz2.out rfl 0 B s.rc.length d (strs s.rc) (by simp [Act.eval, Act.put]) (H3.out.below B0.out) (some ⟨w.heap.size, 0, none⟩) 1 1 [.string (toBA s.fd)] (by simp [Act.eval, Act.put]) (slIn_new1 w.drew 9 _) (by intro u hu; simp at hu; subst hu; rfl) (by unfold maxLen; omega) (by omega) (Nat.zero_le _) ?_); intro B' d' w' hown hgrow hat; have st := (H1.out.below B0.out).grown hgrow (fun e => hgB.out g e.symm rfl); have e4 : w'.cell? ⟨g, 4, none⟩ = some (.slice A s.fd.length c) := st.cell 4; have e5 : w'.cell? ⟨g, 5, none⟩ = some (.slice B s.rc.length d) := st.cell 5; have f4 := st.free 4; have f5 := st.free 5; have HO := Lib.hid hown; have HG := Lib.hid hgrow; have HA := Lib.hid hat; clear st hown hgrow hat)
  all_goals
    go_wp2_with fail
    go_end0
    refine ⟨rfl, ?_⟩
    exact put_end H1.out H2.out H3.out H4.out (.string (toBA s.fd)) HO.out HG.out (by have := HA.out; simp at this; rcases this with h | h <;> simp [h])
end Go.Proofs.Ytbglecaahopgdaa

/- Layer 5: the document's own maker in memory (RkB); the contract of its put. -/
import Derived.Test.YtghlacpjnehdfaaFim
namespace Go.Proofs.Ytghlacpjnehdfaa
open Go.ChangeShapes Go.WideShapes Go.ChangeAt Go.RowKit
set_option linter.unusedVariables false
set_option linter.unusedSimpArgs false

def bitI (u : Bool) : Int := if u = true then 1 else 0
def rkCells (s : Mk) (B : Option Addr) (d : Nat) : Array Value :=
  #[.int .i64 s.lf, .int .i64 s.ls, .int .i64 s.lr, .int .i64 (bitI s.u), .string (toBA s.fd), .slice B s.rc.length d, .int .i64 s.bg, .int .i64 s.ct, .int .i64 s.wd, .int .i64 s.er]
/-- Block g is the document's maker that has s; S are the blocks that it alone has. -/
def RkB (w : World) (g : Nat) (s : Mk) (S : Nat → Prop) : Prop :=
  ∃ (B : Option Addr) (d : Nat), StB w g 47 (rkCells s B d) ∧ SlOwn w 0 9 B s.rc.length d (strs s.rc) ∧ ∀ k, S k ↔ (k = g ∨ blkOf B = some k)
theorem RkB.lt {w : World} {g : Nat} {s : Mk} {S : Nat → Prop} (h : RkB w g s S) : ∀ k, S k → k < w.heap.size := by
  obtain ⟨B, d, h1, h3, h4⟩ := h
  intro k hk
  rcases (h4 k).1 hk with rfl | hk
  · exact h1.lt
  · exact (h3.blk k hk).2
theorem RkB.touch {w w' : World} {g : Nat} {s : Mk} {S S' : Nat → Prop} (h : RkB w g s S) (k : Touch w w' S') (hd : ∀ j, S j → ¬ S' j) : RkB w' g s S := by
  obtain ⟨B, d, h1, h3, h4⟩ := h
  exact ⟨B, d, h1.touch k (hd g ((h4 g).2 (.inl rfl))), h3.touch k fun j hj => hd j ((h4 j).2 (.inr hj)), h4⟩
theorem RkB.below {w w' : World} {g : Nat} {s : Mk} {S : Nat → Prop} (h : RkB w g s S) (k : Below w.heap.size w w') : RkB w' g s S :=
  h.touch (Touch.of_below k fun _ => False) fun _ _ hf => hf
/-- The document's maker g has turned to s; nothing else that was there has. -/
def RTurned (g : Nat) (s : Mk) (S : Nat → Prop) (w w' : World) : Prop := ∃ S', RkB w' g s S' ∧ Touch w w' S ∧ Sub w S' S
section
variable {g : Nat} {s s2 : Mk} {S S1 : Nat → Prop} {w w1 w2 W : World}
theorem RTurned.refl (h : RkB w g s S) : RTurned g s S w w := ⟨S, h, Touch.refl w S, Sub.refl w S⟩
theorem RTurned.glue (t : Touch w w1 S) (c : Sub w S1 S) (k : RTurned g s2 S1 w1 w2) : RTurned g s2 S w w2 := by
  obtain ⟨S2, m2, t2, b2⟩ := k
  exact ⟨S2, m2, t.trans c t2, c.trans t.size b2⟩
theorem RTurned.then_below (h : RTurned g s S w w1) (hb : Below w1.heap.size w1 w2) : RTurned g s S w w2 := by
  obtain ⟨S1, m1, t1, b1⟩ := h
  exact ⟨S1, m1.below hb, t1.then_below hb, b1⟩
theorem RTurned.from_alloc {o : Obj} (h : RTurned g s S (w.alloc o) w1) : RTurned g s S w w1 :=
  RTurned.glue (w1 := w.alloc o) (S1 := S) ((Touch.refl w S).then_alloc o) (Sub.refl w S) h
theorem RTurned.from_alloc' {o : Obj} (h : RTurned g s S W w1) (hW : W = w.alloc o) : RTurned g s S w w1 := by subst hW; exact h.from_alloc
theorem RTurned.trans (h : RTurned g s S w w1) (k : ∀ S', RkB w1 g s S' → RTurned g s2 S' w1 w2) : RTurned g s2 S w w2 := by
  obtain ⟨S1, m1, t1, b1⟩ := h
  exact RTurned.glue t1 b1 (k S1 m1)
/-- One cell of it written. -/
theorem RkB.set_ (h : RkB w g s S) (i : Nat) (u : Value) (s2 : Mk) (hr : s2.rc = s.rc) (hc : ∀ B d, (rkCells s B d).setIfInBounds i u = rkCells s2 B d) : RTurned g s2 S w (w.setCell ⟨g, i, none⟩ u) := by
  obtain ⟨B, d, h1, h3, h4⟩ := h
  refine ⟨S, ⟨B, d, ?_, ?_, h4⟩, (Touch.refl w S).then_set (.inl ((h4 g).2 (.inl rfl))) _, Sub.refl w S⟩
  · have := h1.set_ i u; rw [hc] at this; exact this
  · rw [hr]; exact h3.keep fun k hk => Below.heap_setCell w ⟨g, i, none⟩ _ k (h3.unlike_st h1 (by decide) k hk)
theorem RkB.cells (h : RkB w g s S) : g < w.heap.size ∧ w.cell? ⟨g, 0, none⟩ = some (.int .i64 s.lf) ∧ w.cell? ⟨g, 1, none⟩ = some (.int .i64 s.ls) ∧ w.cell? ⟨g, 2, none⟩ = some (.int .i64 s.lr) ∧ w.cell? ⟨g, 3, none⟩ = some (.int .i64 (bitI s.u)) ∧
    w.cell? ⟨g, 4, none⟩ = some (.string (toBA s.fd)) ∧ (∃ B d, w.cell? ⟨g, 5, none⟩ = some (.slice B s.rc.length d)) ∧ w.cell? ⟨g, 6, none⟩ = some (.int .i64 s.bg) ∧ w.cell? ⟨g, 7, none⟩ = some (.int .i64 s.ct) ∧ w.cell? ⟨g, 8, none⟩ = some (.int .i64 s.wd) ∧ w.cell? ⟨g, 9, none⟩ = some (.int .i64 s.er) := by
  obtain ⟨B, d, h1, h3, h4⟩ := h
  exact ⟨h1.lt, h1.cell 0, h1.cell 1, h1.cell 2, h1.cell 3, h1.cell 4, ⟨B, d, h1.cell 5⟩, h1.cell 6, h1.cell 7, h1.cell 8, h1.cell 9⟩
theorem RkB.free (h : RkB w g s S) (i : Nat) : w.frozen? ⟨g, i, none⟩ = false := by
  obtain ⟨B, d, h1, h3, h4⟩ := h
  exact h1.free i
end

/-- What put leaves. -/
theorem rput_end {w w' : World} {g : Nat} {s : Mk} {B B' : Option Addr} {d d' : Nat} {S : Nat → Prop} (h1 : StB w g 47 (rkCells s B d)) (h3 : SlOwn w 0 9 B s.rc.length d (strs s.rc)) (h4 : ∀ k, S k ↔ (k = g ∨ blkOf B = some k))
    (u : Value) (hown : SlOwn w' 0 9 B' (s.rc.length + 1) d' (strs s.rc ++ [.string (toBA s.fd)])) (hg : ((w.drew).alloc (.cells #[u] 9)).grownBy w' (blkOf B)) (hat : B' = B ∨ B' = some ⟨w.heap.size, 0, none⟩ ∨ B' = some ⟨w.heap.size + 1, 0, none⟩) :
    RTurned g (mPut s) S w ((w'.setCell ⟨g, 5, none⟩ (.slice B' (s.rc.length + 1) d')).setCell ⟨g, 4, none⟩ (.string ⟨#[]⟩)) := by
  have hlt := h1.lt
  have b0 : Below w.heap.size w ((w.drew).alloc (.cells #[u] 9)) := up_alloc ((Below.refl _ w).drew) _
  have hgB : ∀ k, blkOf B = some k → k ≠ g := h3.unlike_st h1 (by decide)
  have st : StB w' g 47 (rkCells s B d) := (h1.below b0).grown hg (fun e => hgB g e.symm rfl)
  have t0 : Touch w w' S := (Touch.of_below b0 S).then_grown hg fun j hj => .inl ((h4 j).2 (.inr hj))
  have hB' : ∀ k, blkOf B' = some k → k ≠ g := hown.unlike_st st (by decide)
  refine ⟨fun k => k = g ∨ blkOf B' = some k, ⟨B', d', ?_, ?_, fun k => Iff.rfl⟩, ?_, ?_⟩
  · have := (st.set_ 5 (.slice B' (s.rc.length + 1) d')).set_ 4 (.string ⟨#[]⟩)
    simpa [rkCells, mPut, toBA] using this
  · have k1 := hown.keep (w' := (w'.setCell ⟨g, 5, none⟩ (.slice B' (s.rc.length + 1) d')).setCell ⟨g, 4, none⟩ (.string ⟨#[]⟩)) fun k hk => by
      rw [Below.heap_setCell _ _ _ k (hB' k hk), Below.heap_setCell _ _ _ k (hB' k hk)]
    simpa [mPut, strs] using k1
  · exact (t0.then_set (.inl ((h4 g).2 (.inl rfl))) _).then_set (.inl ((h4 g).2 (.inl rfl))) _
  · intro k hk
    rcases hk with rfl | hk
    · exact .inl ((h4 _).2 (.inl rfl))
    · rcases hat with rfl | rfl | rfl
      · exact .inl ((h4 _).2 (.inr hk))
      · simp [blkOf] at hk; exact .inr (by omega)
      · simp [blkOf] at hk; exact .inr (by omega)

set_option maxHeartbeats 1600000 in
theorem rput_any (g : Nat) (s : Mk) (S : Nat → Prop) (w : World) (h : RkB w g s S) (hr : s.rc.length ≤ 1000000) :
    Calls Try.prog 21 #[.pointer (some ⟨g, 0, none⟩)] w fun x w' => x = .returned (.tuple #[]) ∧ RTurned g (mPut s) S w w' := by
  obtain ⟨B, d, h1, h3, h4⟩ := h
  obtain ⟨i0, hi, hz0, hz1, hz2⟩ := info_parts infoS
  have Hi := Lib.hid hi
  have Hz0 := Lib.hid hz0
  have Hz1 := Lib.hid hz1
  have Hz2 := Lib.hid hz2
  have c4 : w.cell? ⟨g, 4, none⟩ = some (.string (toBA s.fd)) := h1.cell 4
  have c5 : w.cell? ⟨g, 5, none⟩ = some (.slice B s.rc.length d) := h1.cell 5
  have hg := h1.lt
  have b0 : Below w.heap.size w ((w.drew).alloc (.cells #[.string (toBA s.fd)] 9)) := up_alloc ((Below.refl _ w).drew) _
  have H1 := Lib.hid h1
  have H3 := Lib.hid h3
  have H4 := Lib.hid h4
  have B0 := Lib.hid b0
  have hgB := Lib.hid (h3.unlike_st h1 (by decide))
  clear h1 h3 h4 b0 hi hz0 hz1 hz2
  go_enter Try.func21, Try.ntmps21
  go_wp2_with fail
  go_region_law ((refine step_append_sl rfl (.tmp 6) (.tmp 11) 32 rfl 9 i0 (.string ⟨#[]⟩) 16 Try.underlying32 Hi.out Hz0.out Hz1.out Hz2.out rfl 0 B s.rc.length d (strs s.rc) (by simp [Act.eval, Act.put]) (H3.out.below B0.out) (some ⟨w.heap.size, 0, none⟩) 1 1 [.string (toBA s.fd)] (by simp [Act.eval, Act.put]) (slIn_new1 w.drew 9 _) (by intro u hu; simp at hu; subst hu; rfl) (by unfold maxLen; omega) (by omega) (Nat.zero_le _) ?_); intro B' d' w' hown hgrow hat; have st := (H1.out.below B0.out).grown hgrow (fun e => hgB.out g e.symm rfl); have e4 : w'.cell? ⟨g, 4, none⟩ = some (.string (toBA s.fd)) := st.cell 4; have e5 : w'.cell? ⟨g, 5, none⟩ = some (.slice B s.rc.length d) := st.cell 5; have f4 := st.free 4; have f5 := st.free 5; have HO := Lib.hid hown; have HG := Lib.hid hgrow; have HA := Lib.hid hat; clear st hown hgrow hat)
  all_goals
    go_wp2_with fail
    go_end0
    refine ⟨rfl, ?_⟩
    exact rput_end H1.out H3.out H4.out (.string (toBA s.fd)) HO.out HG.out (by have := HA.out; simp at this; rcases this with h | h <;> simp [h])
end Go.Proofs.Ytghlacpjnehdfaa

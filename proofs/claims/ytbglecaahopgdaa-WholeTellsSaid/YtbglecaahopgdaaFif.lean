/- Layer 5: what a maker keeps, as plain facts; contracts of the program's handOut and Take. -/
import Derived.Test.YtbglecaahopgdaaFie
namespace Go.Proofs.Ytbglecaahopgdaa
open Go.ChangeShapes Go.WideShapes Go.ChangeAt Go.RowKit
set_option linter.unusedVariables false
set_option linter.unusedSimpArgs false

theorem MkB.set9 {w : World} {g : Nat} {s : Mk} {S : Nat → Prop} (h : MkB w g s S) (v : Int) : Turned g { s with er := v } S w (w.setCell ⟨g, 9, none⟩ (.int .i64 v)) := by
  obtain ⟨A, c, B, d, h1, h2, h3, h4⟩ := h
  refine ⟨S, ⟨A, c, B, d, ?_, ?_, ?_, h4⟩, (Touch.refl w S).then_set (.inl ((h4 g).2 (.inl rfl))) _, Sub.refl w S⟩
  · have := h1.set_ 9 (.int .i64 v); simpa [mkCells] using this
  · exact h2.keep fun k hk => Below.heap_setCell w ⟨g, 9, none⟩ _ k (h2.unlike_st h1 (by decide) k hk)
  · exact h3.keep fun k hk => Below.heap_setCell w ⟨g, 9, none⟩ _ k (h3.unlike_st h1 (by decide) k hk)

/-- A record handed out: whose it is. -/
def Handed (A : Option Addr) (c : Nat) (l : List ByteArray) (g : Nat) (s : Mk) (S : Nat → Prop) (w w' : World) : Prop :=
  SlOwn w' 0 9 A l.length c (strs l) ∧ ∃ S', MkB w' g s S' ∧ Touch w w' S ∧ Sub w S' S ∧ ∀ k, blkOf A = some k → ¬ S' k ∧ (S k ∨ w.heap.size ≤ k)
theorem Handed.glue {A : Option Addr} {c g : Nat} {l : List ByteArray} {s : Mk} {S S1 : Nat → Prop} {w w1 w2 : World} (t : Touch w w1 S) (c1 : Sub w S1 S) (k : Handed A c l g s S1 w1 w2) : Handed A c l g s S w w2 := by
  obtain ⟨o, S2, m2, t2, b2, d2⟩ := k
  refine ⟨o, S2, m2, t.trans c1 t2, c1.trans t.size b2, fun j hj => ⟨(d2 j hj).1, ?_⟩⟩
  rcases (d2 j hj).2 with h | h
  · exact c1 j h
  · have := t.size; exact .inr (by omega)
theorem Handed.none_ {g : Nat} {s : Mk} {S : Nat → Prop} {w w' : World} (h : Turned g s S w w') : Handed none 0 [] g s S w w' := by
  obtain ⟨S', m, t, b⟩ := h
  exact ⟨SlOwn.nothing _ _ _, S', m, t, b, fun k hk => by cases hk⟩
theorem Handed.from_alloc {A : Option Addr} {c g : Nat} {l : List ByteArray} {s : Mk} {S : Nat → Prop} {w w' : World} {o : Obj} (h : Handed A c l g s S (w.alloc o) w') : Handed A c l g s S w w' := by
  refine Handed.glue (w1 := w.alloc o) (S1 := S) ((Touch.refl w S).then_alloc o) (Sub.refl w S) h
theorem Handed.then_below {A : Option Addr} {c g : Nat} {l : List ByteArray} {s : Mk} {S : Nat → Prop} {w w1 w2 : World} (h : Handed A c l g s S w w1) (hb : Below w1.heap.size w1 w2) : Handed A c l g s S w w2 := by
  obtain ⟨o, S', m, t, b, d⟩ := h
  exact ⟨o.below hb, S', m.below hb, t.then_below hb, b, d⟩

theorem Touch.then_self {w w' : World} {g : Nat} (h : Touch w w' (fun k => k = g)) (i : Nat) (u : Value) : Touch w (w'.setCell ⟨g, i, none⟩ u) (fun k => k = g) :=
  Touch.then_set (S := fun k => k = g) h (p := ⟨g, i, none⟩) (.inl (show g = g from rfl)) u
def OutOut (g : Nat) (s : Mk) (S : Nat → Prop) (w : World) (x : Ending) (w' : World) : Prop := ∃ A c, x = .returned (.slice A s.rc.length c) ∧ Handed A c s.rc g (mOut s) S w w'
theorem out_end {w w' : World} {g : Nat} {s : Mk} {A B : Option Addr} {c d : Nat} {S : Nat → Prop} (h1 : StB w g 100 (mkCells s A c B d)) (h2 : SlOwn w 0 5 A s.fd.length c (u8s s.fd)) (h3 : SlOwn w 0 9 B s.rc.length d (strs s.rc)) (h4 : ∀ k, S k ↔ (k = g ∨ blkOf A = some k ∨ blkOf B = some k))
    (t : Touch w w' (fun k => k = g)) (st : StB w' g 100 (mkCells (mOut s) A c none 0)) : Handed B d s.rc g (mOut s) S w w' := by
  have hA := h2.unlike_st h1 (by decide)
  have hB := h3.unlike_st h1 (by decide)
  refine ⟨h3.touch t hB, fun k => k = g ∨ blkOf A = some k ∨ blkOf none = some k, ⟨A, c, none, 0, st, h2.touch t hA, SlOwn.nothing _ _ _, fun k => Iff.rfl⟩, t.mono fun k hk => (h4 k).2 (.inl hk), ?_, ?_⟩
  · intro k hk
    rcases hk with rfl | hk | hk
    · exact .inl ((h4 _).2 (.inl rfl))
    · exact .inl ((h4 _).2 (.inr (.inl hk)))
    · cases hk
  · intro k hk
    refine ⟨?_, .inl ((h4 _).2 (.inr (.inr hk)))⟩
    rintro (rfl | hk' | hk')
    · exact hB _ hk rfl
    · exact h3.unlike h2 (by decide) k hk hk'
    · cases hk'

set_option maxHeartbeats 1600000 in
theorem handOut_any (g : Nat) (s : Mk) (S : Nat → Prop) (w : World) (h : MkB w g s S) (ct0 : 0 ≤ s.ct) (ct1 : s.ct ≤ 1000000) (rc1 : s.rc.length ≤ 1000000) :
    Calls Try.prog 61 #[.pointer (some ⟨g, 0, none⟩)] w (OutOut g s S w) := by
  obtain ⟨A, c, B, d, h1, h2, h3, h4⟩ := h
  have hg := h1.lt
  have k5 : w.cell? ⟨g, 5, none⟩ = some (.slice B s.rc.length d) := h1.cell 5
  have k7 : w.cell? ⟨g, 7, none⟩ = some (.int .i64 s.ct) := h1.cell 7
  have k8 : w.cell? ⟨g, 8, none⟩ = some (.int .i64 s.wd) := h1.cell 8
  have f5 := h1.free 5
  have f7 := h1.free 7
  have f8 := h1.free 8
  have H1 := Lib.hid h1
  have H2 := Lib.hid h2
  have H3 := Lib.hid h3
  have H4 := Lib.hid h4
  clear h1 h2 h3 h4
  by_cases hz : s.ct = 0
  · have hd : (s.ct == 0) = true := by simpa using hz
    have HZ := Lib.hid hz
    clear hz
    go_enter Try.func61, Try.ntmps61
    go_wp2_with fail
    go_ret
    refine ⟨B, d, rfl, out_end H1.out H2.out H3.out H4.out ((((Touch.refl w _).then_self 8 _).then_self 5 _).then_self 7 _) ?_⟩
    have := (((H1.out.set_ 8 (.int .i64 (s.rc.length : Nat))).set_ 5 (.slice none 0 0)).set_ 7 (.int .i64 (s.ct + 1)))
    simpa [mkCells, mOut, HZ.out] using this
  · have hd : (s.ct == 0) = false := by simpa using hz
    have HZ := Lib.hid hz
    clear hz
    go_enter Try.func61, Try.ntmps61
    go_wp2_with fail
    go_ret
    refine ⟨B, d, rfl, out_end H1.out H2.out H3.out H4.out (((Touch.refl w _).then_self 5 _).then_self 7 _) ?_⟩
    have := ((H1.out.set_ 5 (.slice none 0 0)).set_ 7 (.int .i64 (s.ct + 1)))
    simpa [mkCells, mOut, HZ.out] using this
end Go.Proofs.Ytbglecaahopgdaa

/- Layer 5: the contract of the program's gather. -/
import Derived.Test.YtbglecaahopgdaaFic
import Derived.Deep.DeepCutAuto
namespace Go.Proofs.Ytbglecaahopgdaa
open Go.ChangeShapes Go.WideShapes Go.ChangeAt Go.RowKit
set_option linter.unusedVariables false
set_option linter.unusedSimpArgs false

theorem Turned.refl {g : Nat} {s : Mk} {S : Nat → Prop} {w : World} (h : MkB w g s S) : Turned g s S w w := ⟨S, h, Touch.refl w S, Sub.refl w S⟩
theorem Turned.from_alloc {g : Nat} {s : Mk} {S : Nat → Prop} {w w' : World} {o : Obj} (h : Turned g s S (w.alloc o) w') : Turned g s S w w' := by
  obtain ⟨S1, m1, t1, b1⟩ := h
  exact ⟨S1, m1, ((Touch.refl w S).then_alloc o).trans (Sub.refl w S) t1, fun k hk => by
    rcases b1 k hk with h | h
    · exact .inl h
    · simp at h; exact .inr (by omega)⟩
theorem MkB.set6 {w : World} {g : Nat} {s : Mk} {S : Nat → Prop} (h : MkB w g s S) (v : Int) : Turned g { s with bg := v } S w (w.setCell ⟨g, 6, none⟩ (.int .i64 v)) := by
  obtain ⟨A, c, B, d, h1, h2, h3, h4⟩ := h
  refine ⟨S, ⟨A, c, B, d, ?_, ?_, ?_, h4⟩, (Touch.refl w S).then_set (.inl ((h4 g).2 (.inl rfl))) _, Sub.refl w S⟩
  · have := h1.set_ 6 (.int .i64 v); simpa [mkCells] using this
  · exact h2.keep fun k hk => Below.heap_setCell w ⟨g, 6, none⟩ _ k (h2.unlike_st h1 (by decide) k hk)
  · exact h3.keep fun k hk => Below.heap_setCell w ⟨g, 6, none⟩ _ k (h3.unlike_st h1 (by decide) k hk)

/-- The event in its box, behind whatever turned the maker alone. -/
theorem ev_cells {w wx : World} {g : Nat} {s s1 : Mk} {S : Nat → Prop} {t : TypeId} (x : Ev) (h : MkB w g s S) (T : Turned g s1 S (w.alloc (.cells (evArr x) t)) wx) :
    wx.cell? ⟨w.heap.size, 0, none⟩ = some (.bool x.bg) ∧ wx.cell? ⟨w.heap.size, 1, none⟩ = some (.bool x.ad) ∧ wx.cell? ⟨w.heap.size, 2, none⟩ = some (.bool x.fi) ∧ wx.cell? ⟨w.heap.size, 3, none⟩ = some (.bool x.li) ∧
    wx.cell? ⟨w.heap.size, 4, none⟩ = some (.bool x.re) ∧ wx.cell? ⟨w.heap.size, 5, none⟩ = some (.int .u8 x.b) ∧ w.heap.size < wx.heap.size := by
  obtain ⟨S1, m1, t1, b1⟩ := T
  have st : StB wx w.heap.size t (evArr x) := (StB.new w t (evArr x)).touch t1 (fun hs => by have := h.lt _ hs; omega)
  exact ⟨st.cell 0, st.cell 1, st.cell 2, st.cell 3, st.cell 4, st.cell 5, st.lt⟩

/-- A byte put behind the field's. -/
theorem add_end {w w' : World} {g : Nat} {s : Mk} {A A' B : Option Addr} {c c' d : Nat} {S : Nat → Prop} {v : Int} (h1 : StB w g 100 (mkCells s A c B d)) (h2 : SlOwn w 0 5 A s.fd.length c (u8s s.fd)) (h3 : SlOwn w 0 9 B s.rc.length d (strs s.rc)) (h4 : ∀ k, S k ↔ (k = g ∨ blkOf A = some k ∨ blkOf B = some k))
    (u : Value) (hown : SlOwn w' 0 5 A' (s.fd.length + 1) c' (u8s s.fd ++ [.int .u8 v])) (hg : ((w.drew).alloc (.cells #[u] 5)).grownBy w' (blkOf A)) (hat : A' = A ∨ A' = some ⟨w.heap.size, 0, none⟩ ∨ A' = some ⟨w.heap.size + 1, 0, none⟩) :
    Turned g { s with fd := s.fd ++ [v] } S w (w'.setCell ⟨g, 4, none⟩ (.slice A' (s.fd.length + 1) c')) := by
  have hlt := h1.lt
  have b0 : Below w.heap.size w ((w.drew).alloc (.cells #[u] 5)) := up_alloc ((Below.refl _ w).drew) _
  have hgA : ∀ k, blkOf A = some k → k ≠ g := h2.unlike_st h1 (by decide)
  have hBA : ∀ k, blkOf B = some k → blkOf A ≠ some k := h3.unlike h2 (by decide)
  have hgB : ∀ k, blkOf B = some k → k ≠ g := h3.unlike_st h1 (by decide)
  have st : StB w' g 100 (mkCells s A c B d) := (h1.below b0).grown hg (fun e => hgA g e.symm rfl)
  have oB : SlOwn w' 0 9 B s.rc.length d (strs s.rc) := (h3.below b0).grown hg (fun k hk e => hBA k hk e.symm)
  have t0 : Touch w w' S := (Touch.of_below b0 S).then_grown hg fun j hj => .inl ((h4 j).2 (.inr (.inl hj)))
  have hA' : ∀ k, blkOf A' = some k → k ≠ g := hown.unlike_st st (by decide)
  refine ⟨fun k => k = g ∨ blkOf A' = some k ∨ blkOf B = some k, ⟨A', c', B, d, ?_, ?_, ?_, fun k => Iff.rfl⟩, ?_, ?_⟩
  · have := st.set_ 4 (.slice A' (s.fd.length + 1) c')
    simpa [mkCells] using this
  · have k1 := hown.keep (w' := w'.setCell ⟨g, 4, none⟩ (.slice A' (s.fd.length + 1) c')) fun k hk => Below.heap_setCell _ _ _ k (hA' k hk)
    simpa [u8s] using k1
  · exact oB.keep fun k hk => Below.heap_setCell _ _ _ k (hgB k hk)
  · exact t0.then_set (.inl ((h4 g).2 (.inl rfl))) _
  · intro k hk
    rcases hk with rfl | hk | hk
    · exact .inl ((h4 _).2 (.inl rfl))
    · rcases hat with rfl | rfl | rfl
      · exact .inl ((h4 _).2 (.inr (.inl hk)))
      · simp [blkOf] at hk; exact .inr (by omega)
      · simp [blkOf] at hk; exact .inr (by omega)
    · exact .inl ((h4 _).2 (.inr (.inr hk)))
end Go.Proofs.Ytbglecaahopgdaa

/- Layer 6, plain: what the grammar tells is bounded, and its kinds are other than 1; the document's Parse, said of what Read told (rpK, rpA, rpRs). -/
import Derived.Test.YtngdmkhinebbdaaDoorPwb
namespace Go.Proofs.YtngdmkhinebbdaaDoor
open Go.RowKit
set_option linter.unusedVariables false
set_option linter.unusedSimpArgs false

section
variable {s : Mk}
theorem not1_B (b : Bool) (h : s.er ≠ 1) : (mB b s).er ≠ 1 := by unfold mB; split <;> (try split) <;> simp_all
theorem not1_A (b : Bool) (v : Int) (h : s.er ≠ 1) : (mA b v s).er ≠ 1 := by unfold mA; split <;> (try split) <;> simp_all
theorem not1_F (b : Bool) (h : s.er ≠ 1) : (mF b s).er ≠ 1 := by unfold mF mEndF; (repeat' split) <;> simp_all [mPut]
theorem not1_L (b : Bool) (h : s.er ≠ 1) : (mL b s).er ≠ 1 := by unfold mL mEndL; (repeat' split) <;> simp_all [mPut]
theorem not1_then {f : Mk → Mk} (h : s.er ≠ 1) (hf : ∀ t : Mk, t.er ≠ 1 → (f t).er ≠ 1) : (mThen s f).er ≠ 1 := by unfold mThen; split; exact hf s h; exact h
theorem not1_gather (e : Ev) (h : s.er ≠ 1) : (mGather e s).er ≠ 1 :=
  not1_then (not1_then (not1_then (not1_B _ h) fun t ht => not1_A _ _ ht) fun t ht => not1_F _ ht) fun t ht => not1_L _ ht
theorem not1_take (e : Ev) (h : s.er ≠ 1) : (mTake e s).er ≠ 1 :=
  not1_then h fun t ht => not1_then (not1_gather e ht) fun v hv => by split <;> exact hv
end
theorem not1_close (t : Int) : closeK t ≠ 1 := by unfold closeK; (repeat' split) <;> simp
theorem not1_first (d q b : Int) : (firstR d q b).k ≠ 1 := by unfold firstR; (repeat' split) <;> simp
theorem not1_step (d q e t b : Int) : (stepR d q e t b).k ≠ 1 := by
  have h1 := not1_first d q b
  have h2 : (bareR d q b).k ≠ 1 := by unfold bareR; split; simp; exact h1
  have h3 : (quotedR q b).k ≠ 1 := by unfold quotedR; split <;> simp
  have h4 : (closingR d q b).k ≠ 1 := by unfold closingR; (repeat' split) <;> simp
  have h5 : (aheadR d q b).k ≠ 1 := by
    unfold aheadR; split
    · simp
    · split
      · simp
      · exact h1
  have h6 : ∀ v, (feedR v b).k ≠ 1 := fun v => by unfold feedR; split <;> simp
  unfold stepR
  split
  · split; simp; exact h5
  · split
    · split; simp; exact h1
    · split
      · split; simp; exact h2
      · split
        · exact h3
        · split
          · split; simp; exact h4
          · split <;> exact h6 _
theorem mch_kinds {d q e : Int} : ∀ (l : List Int) (t : Int) (m : Mk) (i : Nat), m.er ≠ 1 → (mch d q e t m i l).k ≠ 1 ∧ (∀ p ∈ (mch d q e t m i l).rs, p.2 ≤ i + l.length) ∧ (mch d q e t m i l).rs.length ≤ l.length + 1 ∧ (mch d q e t m i l).at_ ≤ i + l.length
  | [], t, m, i, h => by
    rw [mch]
    split
    · exact ⟨not1_close t, by simp, by simp, by simp⟩
    · split
      · exact ⟨not1_take _ h, by simp, by simp, by simp⟩
      · split
        · exact ⟨by simp, by simp, by simp, by simp⟩
        · exact ⟨by simp, by simp, by simp, by simp⟩
  | b :: r, t, m, i, h => by
    obtain ⟨i1, i2, i3, i4⟩ := mch_kinds r (stepR d q e t b).n (mTake (stepR d q e t b).ev m) (i + 1) (not1_take _ h)
    rw [mch]
    split
    · exact ⟨not1_step d q e t b, by simp, by simp, by simp⟩
    · split
      · exact ⟨not1_take _ h, by simp, by simp, by simp⟩
      · split
        · refine ⟨i1, fun p hp => ?_, by simp [Got.more]; omega, by simp [Got.more]; omega⟩
          rcases List.mem_cons.1 hp with rfl | hp
          · simp
          · have := i2 p hp; simp; omega
        · exact ⟨i1, fun p hp => by have := i2 p hp; simp; omega, by simp; omega, by simp; omega⟩

/-- A maker of these limits, ahead of a text; what the grammar tells of it. -/
structure GotOk (G : Got) (n : Nat) : Prop where
  k : G.k ≠ 1
  e : ∀ p ∈ G.rs, p.2 ≤ n
  len : G.rs.length ≤ n + 1
  a : G.at_ ≤ n
  z : G.k = 0 → G.at_ = 0
theorem got_ok {d q e : Int} (hd : Dia d q e) (m : Mk) (s : List Int) (h0 : m.er = 0) (hf : m.fd = []) (hr : m.rc = []) (hlf : 0 ≤ m.lf) (hls : 0 < m.ls) (hbg : m.bg ≤ m.lr) (n : Nat) (hn : s.length < n) : GotOk (rdGo d q e n m 0 s) s.length := by
  rw [← mch_all hd n s m 0 hn h0 hf hr hlf hls hbg]
  obtain ⟨h1, h2, h3, h4⟩ := mch_kinds (d := d) (q := q) (e := e) s 0 m 0 (by rw [h0]; decide)
  exact ⟨h1, fun p hp => by have := h2 p hp; omega, h3, by omega, (mch_facts s 0 m 0).2.1⟩
end Go.Proofs.YtngdmkhinebbdaaDoor

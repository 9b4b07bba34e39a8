/- Layer 6: what one pass comes to (Pas), and mchU said by it; the contract of pass, of a byte and of the end. -/
import Derived.Test.YtbglecaahopgdaaWkb
namespace Go.Proofs.Ytbglecaahopgdaa
open Go.ChangeShapes Go.WideShapes Go.ChangeAt Go.RowKit
set_option linter.unusedVariables false
set_option linter.unusedSimpArgs false

structure Pas where
  u : Int
  t : Int
  m : Mk
  l : List ByteArray
  told : Bool
  k : Int
def pasT (u t : Int) (ev : Ev) (m : Mk) : Pas := ⟨u, t, mTake ev m, mRec ev m, mTold ev m, (mTake ev m).er⟩
def pasB (d q e u t : Int) (m : Mk) (b : Int) : Pas :=
  if utOk u b = false then ⟨u, t, m, [], false, 3⟩
  else if (stepR d q e t b).k ≠ 0 then ⟨utNx u b, (stepR d q e t b).n, m, [], false, (stepR d q e t b).k⟩
  else pasT (utNx u b) (stepR d q e t b).n (stepR d q e t b).ev m
def pasE (u t : Int) (m : Mk) : Pas :=
  if u ≠ 0 then ⟨u, t, m, [], false, 12⟩ else if closeK t ≠ 0 then ⟨u, t, m, [], false, closeK t⟩ else pasT u t (closeE t) m
theorem mchU_cons {d q e u t : Int} {m : Mk} {i : Nat} {b : Int} {r : List Int} {v : Pas} (h : pasB d q e u t m b = v) :
    mchU d q e u t m i (b :: r) = if v.k ≠ 0 then ⟨[], v.k, i⟩ else if v.told = true then (mchU d q e v.u v.t v.m (i + 1) r).more v.l i else mchU d q e v.u v.t v.m (i + 1) r := by
  rw [mchU, ← h, pasB]
  by_cases h1 : utOk u b = false
  · rw [if_pos h1, if_pos h1, if_pos (by show (3 : Int) ≠ 0; omega)]
  · rw [if_neg h1, if_neg h1]
    by_cases h2 : (stepR d q e t b).k ≠ 0
    · rw [if_pos h2, if_pos h2, if_pos h2]
    · rw [if_neg h2, if_neg h2]; rfl
theorem mchU_nil {d q e u t : Int} {m : Mk} {i : Nat} {v : Pas} (h : pasE u t m = v) :
    mchU d q e u t m i [] = if v.k ≠ 0 then ⟨[], v.k, i⟩ else if v.told = true then ⟨[(v.l, i)], 0, 0⟩ else ⟨[], 0, 0⟩ := by
  rw [mchU, ← h, pasE]
  by_cases h1 : u ≠ 0
  · rw [if_pos h1, if_pos h1, if_pos (by show (12 : Int) ≠ 0; omega)]
  · rw [if_neg h1, if_neg h1]
    by_cases h2 : closeK t ≠ 0
    · rw [if_pos h2, if_pos h2, if_pos h2]
    · rw [if_neg h2, if_neg h2]; rfl
theorem pasB_facts {d q e u t : Int} {m : Mk} {b : Int} {v : Pas} {N : Nat} (ok : m.Ok N) (t0 : 0 ≤ t) (t6 : t ≤ 6) (h : pasB d q e u t m b = v) : v.m.Ok (N + 1) ∧ 0 ≤ v.t ∧ v.t ≤ 6 := by
  have hn := stepR_n (d := d) (q := q) (e := e) (s := t) (b := b)
  have h0 : m.Ok (N + 1) := (Few.refl m 1 1 2).ok ok
  rw [← h, pasB]
  split
  · exact ⟨h0, t0, t6⟩
  · split
    · exact ⟨h0, hn⟩
    · exact ⟨ok_take _ ok, hn⟩

theorem pasE_facts {u t : Int} {m : Mk} {v : Pas} {N : Nat} (ok : m.Ok N) (t0 : 0 ≤ t) (t6 : t ≤ 6) (h : pasE u t m = v) : v.m.Ok (N + 1) ∧ 0 ≤ v.t ∧ v.t ≤ 6 := by
  have h0 : m.Ok (N + 1) := (Few.refl m 1 1 2).ok ok
  rw [← h, pasE]
  split
  · exact ⟨h0, t0, t6⟩
  · split
    · exact ⟨h0, t0, t6⟩
    · exact ⟨ok_take _ ok, t0, t6⟩

section
variable {p : Nat} {d q e u t u' t' : Int} {g : Nat} {w w' : World} {m : Mk} {S Z : Nat → Prop}
theorem bad_end (hm : MkB w g m S) (hpS : ¬ S p) (hp : StB w' p 86 (wkArr d q e u' t' g)) (ht : Touch w w' (fun k => k = p)) (hZ : ∀ k, Z k ↔ (k = p ∨ S k)) :
    ∃ Z', WkB w' p d q e u' t' m Z' ∧ Touch w w' Z ∧ Sub w Z' Z ∧ SlOwn w' 0 9 none ([] : List ByteArray).length 0 (strs []) ∧ ∀ j, blkOf none = some j → ¬ Z' j ∧ (Z j ∨ w.heap.size ≤ j) :=
  ⟨Z, ⟨g, S, hp, hm.touch ht (fun j hj e => hpS (e ▸ hj)), hpS, hZ⟩, ht.mono (fun k hk => (hZ k).2 (.inl hk)), Sub.refl _ _, SlOwn.nothing _ _ _, fun j hj => by cases hj⟩

theorem pass_b (s : ByteArray) (hs : s.size ≤ 1000) (at_ : Nat) (hlt : at_ < s.size) (N : Nat) (hN : N ≤ 1000) (ok : Hid (m.Ok N)) (t0 : 0 ≤ t) (t6 : t ≤ 6) (u' t' : Int) (m' : Mk) (l : List ByteArray) (n : Nat) (told : Bool) (k : Int)
    (hv : Hid (pasB d q e u t m ((s[at_].toNat : Nat) : Int) = ⟨u', t', m', l, told, k⟩)) (hn : Hid (l.length = n)) (w : World) (h : Hid (WkB w p d q e u t m Z)) :
    Calls Try.prog 39 #[.pointer (some ⟨p, 0, none⟩), .string s, .int .i64 at_] w (PassOut p d q e u' t' m' l n told k Z w) := by
  obtain ⟨g, S, h1, h2, h3, h4⟩ := h.out
  obtain ⟨b, hb⟩ : ∃ b, ((s[at_].toNat : Nat) : Int) = b := ⟨_, rfl⟩
  have b0 : 0 ≤ b := by omega
  have b1 : b ≤ 255 := by have := s[at_].toNat_lt; omega
  have hv' := hv.out
  have hn' := hn.out
  rw [hb] at hv'
  rw [pasB] at hv'
  by_cases c1 : utOk u b = false
  · rw [if_pos c1] at hv'
    cases hv'
    subst hn'
    refine (pass_bad at_ s b (by omega) hlt (Lib.hid hb) (fun V hV => step_no p d q e u t b g V hV b0 b1 (Lib.hid c1)) rfl (Lib.hid h1)).mono ?_
    rintro x w' ⟨rfl, HH⟩
    exact ⟨none, 0, rfl, Lib.hid (bad_end h2 h3 HH.out.1 HH.out.2 h4)⟩
  · rw [if_neg c1] at hv'
    have c1' : utOk u b = true := by simpa using c1
    obtain ⟨⟨⟨bg, ad, fi, li, re, pb⟩, tn, kk⟩, hr⟩ : ∃ v, stepR d q e t b = v := ⟨_, rfl⟩
    have hpb := stepR_b (d := d) (q := q) (e := e) (s := t) b0 b1
    rw [hr] at hv' hpb
    by_cases c2 : kk ≠ 0
    · rw [if_pos c2] at hv'
      cases hv'
      subst hn'
      refine (pass_bad at_ s b (by omega) hlt (Lib.hid hb) (fun V hV => step_yes p d q e u t b g V hV b0 b1 t0 t6 _ (Lib.hid rfl) (Lib.hid c1') bg ad fi li re pb _ _ (Lib.hid hr)) (by simpa using c2) (Lib.hid h1)).mono ?_
      rintro x w' ⟨rfl, HH⟩
      exact ⟨none, 0, rfl, Lib.hid (bad_end h2 h3 HH.out.1 HH.out.2 h4)⟩
    · have c2' : kk = 0 := by omega
      subst c2'
      rw [if_neg c2] at hv'
      cases hv'
      refine (pass_take at_ s b (by omega) hlt (Lib.hid hb) (fun V hV => step_yes p d q e u t b g V hV b0 b1 t0 t6 _ (Lib.hid rfl) (Lib.hid c1') bg ad fi li re pb _ _ (Lib.hid hr)) hpb.1 hpb.2 (Lib.hid h1) m S N hN ok (Lib.hid h2) (Lib.hid h3) _ _ n _ _ (Lib.hid rfl) (Lib.hid rfl) hn (Lib.hid rfl) (Lib.hid rfl)).mono ?_
      rintro x w' ⟨A, c, rfl, HH⟩
      obtain ⟨Z', z1, z2, z3, z4, z5⟩ := HH.out
      exact ⟨A, c, rfl, Lib.hid ⟨Z', z1, z2.mono (fun k hk => (h4 k).2 hk), fun k hk => (z3 k hk).imp (fun h' => (h4 k).2 h') id, z4, fun j hj => ⟨(z5 j hj).1, (z5 j hj).2.imp (fun h' => (h4 j).2 h') id⟩⟩⟩
theorem pass_e (s : ByteArray) (hs : s.size ≤ 1000) (N : Nat) (hN : N ≤ 1000) (ok : Hid (m.Ok N)) (t0 : 0 ≤ t) (t6 : t ≤ 6) (u' t' : Int) (m' : Mk) (l : List ByteArray) (n : Nat) (told : Bool) (k : Int)
    (hv : Hid (pasE u t m = ⟨u', t', m', l, told, k⟩)) (hn : Hid (l.length = n)) (w : World) (h : Hid (WkB w p d q e u t m Z)) :
    Calls Try.prog 39 #[.pointer (some ⟨p, 0, none⟩), .string s, .int .i64 s.size] w (PassOut p d q e u' t' m' l n told k Z w) := by
  obtain ⟨g, S, h1, h2, h3, h4⟩ := h.out
  have hv' := hv.out
  have hn' := hn.out
  rw [pasE] at hv'
  by_cases c1 : u ≠ 0
  · rw [if_pos c1] at hv'
    cases hv'
    subst hn'
    refine (pass_bad_end s (by omega) (fun V hV => end_no p d q e u t g V hV (by simpa using c1)) rfl (Lib.hid h1)).mono ?_
    rintro x w' ⟨rfl, HH⟩
    exact ⟨none, 0, rfl, Lib.hid (bad_end h2 h3 HH.out.1 HH.out.2 h4)⟩
  · rw [if_neg c1] at hv'
    have c1' : u = 0 := by omega
    subst c1'
    obtain ⟨⟨bg, ad, fi, li, re, pb⟩, hr⟩ : ∃ v, closeE t = v := ⟨_, rfl⟩
    have hpb := closeE_b t
    rw [hr] at hv' hpb
    by_cases c2 : closeK t ≠ 0
    · rw [if_pos c2] at hv'
      cases hv'
      subst hn'
      refine (pass_bad_end s (by omega) (fun V hV => end_yes p d q e t g V hV t0 t6 bg ad fi li re pb _ (Lib.hid hr) (Lib.hid rfl)) (by simpa using c2) (Lib.hid h1)).mono ?_
      rintro x w' ⟨rfl, HH⟩
      exact ⟨none, 0, rfl, Lib.hid (bad_end h2 h3 HH.out.1 HH.out.2 h4)⟩
    · have c2' : closeK t = 0 := by omega
      rw [if_neg c2] at hv'
      cases hv'
      have hpb' : pb = 0 := hpb
      refine (pass_take_end s (by omega) (fun V hV => end_yes p d q e t g V hV t0 t6 bg ad fi li re pb _ (Lib.hid hr) (Lib.hid c2')) (by omega) (by omega) (Lib.hid h1) m S N hN ok (Lib.hid h2) (Lib.hid h3) _ _ n _ _ (Lib.hid rfl) (Lib.hid rfl) hn (Lib.hid rfl) (Lib.hid rfl)).mono ?_
      rintro x w' ⟨A, c, rfl, HH⟩
      obtain ⟨Z', z1, z2, z3, z4, z5⟩ := HH.out
      exact ⟨A, c, rfl, Lib.hid ⟨Z', z1, z2.mono (fun k hk => (h4 k).2 hk), fun k hk => (z3 k hk).imp (fun h' => (h4 k).2 h') id, z4, fun j hj => ⟨(z5 j hj).1, (z5 j hj).2.imp (fun h' => (h4 j).2 h') id⟩⟩⟩
end
end Go.Proofs.Ytbglecaahopgdaa

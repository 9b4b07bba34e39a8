/- Layer 8, plain: all of a text: what is laid bare though it need not be quoted is read as it was (nd_plain). No program. -/
import Derived.Test.YtngdmkhinebbdaaDoorPna
namespace Go.Proofs.YtngdmkhinebbdaaDoor
open Go.RowKit
set_option linter.unusedVariables false
set_option linter.unusedSimpArgs false

theorem utWhole_all {l : List Int} (h : utWhole l = l.length) : utRn 0 l = l.length ∧ utRs 0 l = 0 := by
  obtain ⟨_, _, _, h4, h5⟩ := utWhole_spec l.length l (Nat.le_refl _)
  rw [h, List.drop_length] at h4 h5
  exact ⟨by rw [h4]; simp [utRn], by rw [h5]; rfl⟩
theorem utAll_whole {l : List Int} (h : utRn 0 l = l.length) (h0 : utRs 0 l = 0) : ¬ utWhole l < l.length := fun hlt => (utWhole_iff l h).1 hlt h0
theorem ut_ascii {b : Int} (h : b ≤ 127) : utRn 0 [b] = 1 ∧ utRs 0 [b] = 0 := by
  have h1 : utOk 0 b = true := by rw [ut_ok0]; exact .inl h
  have h2 : utNx 0 b = 0 := (ut_nx0 b h1).2 h
  simp [utRn, utRs, h1, h2]
theorem ut_two_ok {a b : List Int} (h1 : utRn 0 a = a.length ∧ utRs 0 a = 0) (h2 : utRn 0 b = b.length ∧ utRs 0 b = 0) : utRn 0 (a ++ b) = (a ++ b).length ∧ utRs 0 (a ++ b) = 0 := by
  obtain ⟨g1, g2⟩ := utR_app 0 a b h1.1
  rw [h1.2] at g1 g2
  exact ⟨by rw [g2, h2.1]; simp, by rw [g1, h2.2]⟩
section
variable {d q e : Int}
theorem ut_lay (hd : d ≤ 127) : ∀ r : List (List Int), (∀ f ∈ r, utWhole f = f.length) → utRn 0 (layL d r) = (layL d r).length ∧ utRs 0 (layL d r) = 0
  | [], _ => by simp [layL, utRn, utRs]
  | [f], h => utWhole_all (h f (List.mem_cons_self ..))
  | f :: g :: r, h => by
    have h1 := utWhole_all (h f (List.mem_cons_self ..))
    have h2 := ut_two_ok (a := [d]) (by simpa using ut_ascii hd) (ut_lay hd (g :: r) (fun x hx => h x (List.mem_cons_of_mem _ hx)))
    rw [layL]
    exact ut_two_ok h1 h2
theorem ut_end (e : Int) : utRn 0 (endL e) = (endL e).length ∧ utRs 0 (endL e) = 0 := by
  unfold endL; split
  · exact ut_two_ok (a := [13]) (b := [10]) (by simpa using ut_ascii (b := 13) (by decide)) (by simpa using ut_ascii (b := 10) (by decide))
  · simpa using ut_ascii (b := 10) (by decide)
/-- A text whose first byte of 127 or below stands within a mark's length has no mark. -/
theorem no_mark {a : List Int} {c : Int} {rest : List Int} (hc : c ≤ 127) (ha : bomHad a = false) : bomHad (a ++ c :: rest) = false := by
  unfold bomHad bomMk at ha ⊢
  have h1 : (239 == c) = false := by simp; omega
  have h2 : (187 == c) = false := by simp; omega
  have h3 : (191 == c) = false := by simp; omega
  match a, ha with
  | [], _ => simp [List.isPrefixOf, h1]
  | [x], _ => simp [List.isPrefixOf, h2]
  | [x, y], _ => simp [List.isPrefixOf, h3]
  | x :: y :: z :: r, ha => simpa [List.isPrefixOf] using ha
theorem toBA_bl (s : ByteArray) : toBA (bl s) = s := bl_inj (bl_toBA (bl s) (fun x hx => by
  unfold bl at hx
  obtain ⟨c, _, rfl⟩ := List.mem_map.1 hx
  exact ⟨byte_lo c, byte_hi c⟩))
/-- WHAT NEED NOT BE QUOTED IS READ AS IT STANDS. -/
theorem nd_plain (hd : Dia d q e) (hd7 : d ≤ 127) (he : e = 1 ∨ e = 2 ∨ e = 3) (r : List ByteArray) (W : Int) (hW : 1000 ≤ W) (h0 : r ≠ []) (h1 : ¬ (r.length = 1 ∧ ∀ f ∈ r, f.size = 0)) (hf : ∀ f ∈ r, bareL d q (bl f) ∧ f.size ≤ 900 ∧ utWhole (bl f) = (bl f).length) (hl : r.length ≤ 900)
    (hb : ∀ f t, r = f :: t → bomHad (bl f) = false) (n : Nat) (hn : 2 ≤ n) (T : List Int) (hT : T = layL d (r.map bl) ++ endL e) :
    whRs (rdGo d q e n (mk0 W W W false) 0 (bomStrip T)) T = [r] ∧ (whKA (rdGo d q e n (mk0 W W W false) 0 (bomStrip T)) T).1 = 0 := by
  have hnm : bomHad T = false := by
    subst hT
    obtain ⟨c, rest, hE, hc⟩ := endL_cons e
    match r, h0, hb with
    | [f], _, hb =>
      rw [hE]
      exact no_mark (by omega) (hb f [] rfl)
    | f :: g :: r, _, hb =>
      simp only [List.map_cons, layL, List.append_assoc, List.cons_append]
      exact no_mark hd7 (hb f _ rfl)
  have hst : bomStrip T = T := by unfold bomStrip; rw [hnm]; simp
  have hoff : whOff T = 0 := by unfold whOff; rw [hnm]; simp
  obtain ⟨j, hj⟩ := rdGo_run hd he (r.map bl) n (mk0 W W W false) 0 (by simpa using h0) (fun h => h1 (by
      match r, h with
      | [f], h =>
        simp only [List.map_cons, List.map_nil, List.cons.injEq, and_true] at h
        exact ⟨rfl, fun x hx => by
          obtain rfl : x = f := by simpa using hx
          have := congrArg List.length h
          rw [bl_length] at this
          simpa using this⟩
      | [], h => simp at h
      | _ :: _ :: _, h => simp at h))
    (fun f hm => by
      obtain ⟨x, hx, rfl⟩ := List.mem_map.1 hm
      obtain ⟨g1, g2, _⟩ := hf x hx
      exact ⟨g1, by rw [bl_length]; show (x.size : Int) < W + 1; omega⟩) rfl rfl (by show ((r.map bl).length : Int) < W + 1; simp; omega) (by show ¬ (0 : Int) = W; omega) hn
  have hu := ut_two_ok (ut_lay hd7 (r.map bl) (fun f hm => by obtain ⟨x, hx, rfl⟩ := List.mem_map.1 hm; exact (hf x hx).2.2)) (ut_end e)
  rw [← hT] at hu hj
  have hk : (whKA ⟨[((r.map bl).map toBA, j)], 0, 0⟩ T).1 = 0 := by
    unfold whKA
    simp only [if_true]
    rw [if_neg (by omega), if_neg (fun h => utAll_whole hu.1 hu.2 h.1)]
  rw [hst, hj]
  refine ⟨?_, hk⟩
  unfold whRs
  rw [hk]
  simp only [decide_true, Bool.true_or, List.filter_cons, if_true, List.filter_nil, List.map_cons, List.map_nil, List.map_map]
  congr 1
  have : (toBA ∘ bl) = id := by funext x; exact toBA_bl x
  rw [this, List.map_id]
end
end Go.Proofs.YtngdmkhinebbdaaDoor

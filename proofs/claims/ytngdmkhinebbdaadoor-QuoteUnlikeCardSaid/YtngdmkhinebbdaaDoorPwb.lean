/- Layer 6: the mark taken away, all bytes of a text (whP), and what the document's definition tells (whR). -/
import Derived.Test.YtngdmkhinebbdaaDoorPwa
import Derived.Test.YtngdmkhinebbdaaDoorBoa
namespace Go.Proofs.YtngdmkhinebbdaaDoor
open Go.RowKit
set_option linter.unusedVariables false
set_option linter.unusedSimpArgs false

def Got.shift (g : Got) (o : Nat) : Got := ⟨g.rs.map fun p => (p.1, p.2 + o), g.k, if g.k = 0 then 0 else g.at_ + o⟩
section
variable {d q e : Int}
theorem mch_facts : ∀ (l : List Int) (t : Int) (m : Mk) (i : Nat), ((mch d q e t m i l).k ≠ 0 → (mch d q e t m i l).at_ ≤ i + l.length) ∧ ((mch d q e t m i l).k = 0 → (mch d q e t m i l).at_ = 0) ∧
    ∀ p ∈ (mch d q e t m i l).rs, (mch d q e t m i l).k ≠ 0 → p.2 < (mch d q e t m i l).at_
  | [], t, m, i => by
    rw [mch]
    split
    · rename_i h; exact ⟨fun _ => by simp, fun h' => absurd h' h, by simp⟩
    · split
      · rename_i h; exact ⟨fun _ => by simp, fun h' => absurd h' h, by simp⟩
      · split
        · exact ⟨fun h => absurd rfl h, fun _ => rfl, fun p _ h => absurd rfl h⟩
        · exact ⟨fun h => absurd rfl h, fun _ => rfl, by simp⟩
  | b :: r, t, m, i => by
    obtain ⟨i1, i2, i3⟩ := mch_facts r (stepR d q e t b).n (mTake (stepR d q e t b).ev m) (i + 1)
    have hf := (mch_from (d := d) (q := q) (e := e) r (stepR d q e t b).n (mTake (stepR d q e t b).ev m) (i + 1)).1
    rw [mch]
    split
    · rename_i h; exact ⟨fun _ => by simp, fun h' => absurd h' h, by simp⟩
    · split
      · rename_i h; exact ⟨fun _ => by simp, fun h' => absurd h' h, by simp⟩
      · split
        · refine ⟨fun h => Nat.le_trans (i1 h) (by simp; omega), i2, fun p hp h => ?_⟩
          rcases List.mem_cons.1 hp with rfl | hp
          · exact hf h
          · exact i3 p hp h
        · exact ⟨fun h => Nat.le_trans (i1 h) (by simp; omega), i2, i3⟩
theorem shift_more (g : Got) (r : List ByteArray) (i o : Nat) : (g.more r i).shift o = (g.shift o).more r (i + o) := rfl
theorem mch_shift : ∀ (l : List Int) (t : Int) (m : Mk) (i o : Nat), mch d q e t m (i + o) l = (mch d q e t m i l).shift o
  | [], t, m, i, o => by
    rw [mch, mch]
    split
    · rename_i h; simp [Got.shift, h]
    · split
      · rename_i h; simp [Got.shift, h]
      · split <;> simp [Got.shift]
  | b :: r, t, m, i, o => by
    have ih := mch_shift r (stepR d q e t b).n (mTake (stepR d q e t b).ev m) (i + 1) o
    rw [show i + 1 + o = i + o + 1 by omega] at ih
    rw [mch, mch, ih]
    split
    · rename_i h; simp [Got.shift, h]
    · split
      · rename_i h; simp [Got.shift, h]
      · split
        · rw [shift_more]
        · rfl
end

def whOff (s : List Int) : Nat := if bomHad s = true then 3 else 0
/-- All of a text: its records, and its first fault, its place in the text. -/
def whP (d q e : Int) (m : Mk) (s : List Int) : Got := mchU d q e 0 0 m (whOff s) (bomStrip s)

theorem bom_split {s : List Int} (h : bomHad s = true) : s = bomMk ++ bomStrip s := by
  unfold bomStrip
  rw [if_pos h]
  unfold bomHad at h
  obtain ⟨t, rfl⟩ := List.isPrefixOf_iff_prefix.1 h
  simp [bomMk]
theorem whOff_len (s : List Int) : whOff s + (bomStrip s).length = s.length := by
  unfold whOff
  cases h : bomHad s
  · simp [bomStrip, h]
  · have := congrArg List.length (bom_split h)
    simp [bomMk] at this
    simp; omega
theorem utRn_strip (s : List Int) : utRn 0 s = whOff s + utRn 0 (bomStrip s) ∧ utRs 0 s = utRs 0 (bomStrip s) := by
  unfold whOff
  cases h : bomHad s
  · simp [bomStrip, h]
  · have hs := bom_split h
    obtain ⟨a1, a2⟩ := utR_app 0 bomMk (bomStrip s) (by decide)
    rw [← hs] at a1 a2
    rw [show utRs 0 bomMk = 0 by decide] at a1 a2
    exact ⟨a2, a1⟩
theorem utWhole_iff (s : List Int) (h : utRn 0 s = s.length) : utWhole s < s.length ↔ utRs 0 s ≠ 0 := by
  obtain ⟨h1, h2, h3, h4, h5⟩ := utWhole_spec s.length s (Nat.le_refl _)
  have hl : (s.drop (utWhole s)).length = s.length - utWhole s := List.length_drop
  constructor
  · intro hlt
    rw [h5]
    rcases (ut_F2 _ h3).2.2 with h0 | h0
    · omega
    · exact h0
  · intro hne
    rcases Nat.lt_or_ge (utWhole s) s.length with h' | h'
    · exact h'
    · exfalso
      apply hne
      rw [h5, List.drop_eq_nil_of_le h', utRs]

/-- The document's definition, of what its grammar told (places without the mark). -/
def whKA (g : Got) (s : List Int) : Int × Nat :=
  let at1 := if g.k = 0 then s.length else g.at_ + whOff s
  if utRn 0 s < s.length then (if g.k = 0 ∨ utRn 0 s ≤ at1 then (3, utRn 0 s) else (g.k, at1))
  else if utWhole s < s.length ∧ at1 = s.length then (12, at1) else (g.k, at1)
def whRs (g : Got) (s : List Int) : List (List ByteArray) :=
  (g.rs.filter fun p => decide ((whKA g s).1 = 0) || decide (p.2 + whOff s < (whKA g s).2)).map (·.1)
theorem wh_is {d q e : Int} (hd : Dia d q e) (m : Mk) (s : List Int) (h0 : m.er = 0) (hf : m.fd = []) (hr : m.rc = []) (hlf : 0 ≤ m.lf) (hls : 0 < m.ls) (hbg : m.bg ≤ m.lr) (n : Nat) (hn : (bomStrip s).length < n) :
    (whP d q e m s).rs.map (·.1) = whRs (rdGo d q e n m 0 (bomStrip s)) s ∧ (whP d q e m s).k = (whKA (rdGo d q e n m 0 (bomStrip s)) s).1 ∧ ((whP d q e m s).k ≠ 0 → (whP d q e m s).at_ = (whKA (rdGo d q e n m 0 (bomStrip s)) s).2) := by
  rw [← mch_all hd n (bomStrip s) m 0 hn h0 hf hr hlf hls hbg]
  unfold whP
  rw [mchU_is, show whOff s = 0 + whOff s by omega, mch_shift, show 0 + whOff s = whOff s by omega]
  obtain ⟨f1, f2, f3⟩ := mch_facts (d := d) (q := q) (e := e) (bomStrip s) 0 m 0
  generalize mch d q e 0 m 0 (bomStrip s) = g at f1 f2 f3 ⊢
  obtain ⟨u1, u2⟩ := utRn_strip s
  have hw := utWhole_iff s
  have hlen := whOff_len s
  have hle := utRn_le 0 s
  rw [← u1, ← u2, hlen]
  have hat : g.k ≠ 0 → (g.shift (whOff s)).at_ = g.at_ + whOff s := fun h => if_neg h
  unfold Got.merge
  by_cases h1 : utRn 0 s < s.length
  · rw [if_pos h1]
    by_cases hk : g.k = 0
    · have hka : whKA g s = (3, utRn 0 s) := by unfold whKA; simp only [h1, hk, if_true, true_or]
      rw [if_neg (by rintro ⟨h, _⟩; exact h hk)]
      unfold whRs
      rw [hka]
      refine ⟨?_, rfl, fun _ => rfl⟩
      simp [Got.upto, Got.shift, List.filter_map, Function.comp_def]
    · by_cases ha : utRn 0 s ≤ g.at_ + whOff s
      · have hka : whKA g s = (3, utRn 0 s) := by unfold whKA; simp only [h1, hk, if_true, if_false, ha, or_true]
        rw [if_neg (by rintro ⟨_, h⟩; rw [hat hk] at h; omega)]
        unfold whRs
        rw [hka]
        refine ⟨?_, rfl, fun _ => rfl⟩
        simp [Got.upto, Got.shift, List.filter_map, Function.comp_def]
      · have hka : whKA g s = (g.k, g.at_ + whOff s) := by unfold whKA; simp only [h1, hk, if_true, if_false, ha, or_self]
        rw [if_pos ⟨hk, by rw [hat hk]; omega⟩]
        unfold whRs
        rw [hka]
        refine ⟨?_, rfl, fun _ => hat hk⟩
        have : g.rs.filter (fun p => decide (g.k = 0) || decide (p.2 + whOff s < g.at_ + whOff s)) = g.rs := by
          rw [List.filter_eq_self]
          intro p hp
          have := f3 p hp hk
          simp [hk]; omega
        dsimp only
        rw [this]
        simp [Got.shift, Function.comp_def]
  · rw [if_neg h1]
    have hw' := hw (by omega)
    by_cases hk : g.k = 0
    · by_cases hu : utRs 0 s = 0
      · have hka : whKA g s = (0, s.length) := by
          unfold whKA
          simp only [hk, if_true, h1, if_false]
          rw [if_neg (by rintro ⟨h, _⟩; exact hw'.1 h hu)]
        rw [if_neg (by rintro ⟨h, _⟩; exact h hu)]
        unfold whRs
        rw [hka]
        refine ⟨?_, hk, fun h => absurd hk h⟩
        simp [Got.shift, Function.comp_def]
        rw [List.filter_eq_self.2 (fun _ _ => rfl)]
      · have hka : whKA g s = (12, s.length) := by
          unfold whKA
          simp only [hk, if_true, h1, if_false]
          rw [if_pos ⟨hw'.2 hu, trivial⟩]
        rw [if_pos ⟨hu, by rintro ⟨h, _⟩; exact h hk⟩]
        unfold whRs
        rw [hka]
        refine ⟨?_, rfl, fun _ => rfl⟩
        simp [Got.upto, Got.shift, List.filter_map, Function.comp_def]
    · have hbd := f1 hk
      by_cases hu : utRs 0 s = 0 ∨ g.at_ + whOff s < s.length
      · have hka : whKA g s = (g.k, g.at_ + whOff s) := by
          unfold whKA
          simp only [hk, h1, if_false]
          rw [if_neg (by
            rintro ⟨h, h'⟩
            rcases hu with hu | hu
            · exact hw'.1 h hu
            · omega)]
        rw [if_neg (by
          rintro ⟨h, h'⟩
          rcases hu with hu | hu
          · exact h hu
          · exact h' ⟨hk, by rw [hat hk]; exact hu⟩)]
        unfold whRs
        rw [hka]
        refine ⟨?_, rfl, fun _ => hat hk⟩
        have : g.rs.filter (fun p => decide (g.k = 0) || decide (p.2 + whOff s < g.at_ + whOff s)) = g.rs := by
          rw [List.filter_eq_self]
          intro p hp
          have := f3 p hp hk
          simp [hk]; omega
        dsimp only
        rw [this]
        simp [Got.shift, Function.comp_def]
      · have hN : g.at_ + whOff s = s.length := by omega
        have hka : whKA g s = (12, s.length) := by
          unfold whKA
          simp only [hk, h1, if_false]
          rw [if_pos ⟨hw'.2 (fun h => hu (.inl h)), hN⟩, hN]
        rw [if_pos ⟨fun h => hu (.inl h), by rintro ⟨_, h⟩; rw [hat hk] at h; omega⟩]
        unfold whRs
        rw [hka]
        refine ⟨?_, rfl, fun _ => rfl⟩
        simp [Got.upto, Got.shift, List.filter_map, Function.comp_def]
end Go.Proofs.YtngdmkhinebbdaaDoor

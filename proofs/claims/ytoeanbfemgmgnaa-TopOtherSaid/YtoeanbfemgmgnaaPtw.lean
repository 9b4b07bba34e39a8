/- Layer 12, plain: whatever text is read without a fault: its records may be written, and have no more bytes and fields than the text. -/
import Derived.Test.YtoeanbfemgmgnaaZp
import Derived.Test.YtoeanbfemgmgnaaQrf
import Derived.Test.YtoeanbfemgmgnaaPtr
namespace Go.Proofs.Ytoeanbfemgmgnaa
open Go.RowKit
set_option linter.unusedVariables false
set_option linter.unusedSimpArgs false

section
variable {d q e : Int}
/-- Bytes and fields. -/
def wgtR : Wrs → Nat
  | [] => 0
  | p :: r => p.1.length + 1 + wgtR r
def wgtT : List Wrs → Nat
  | [] => 0
  | r :: t => wgtR r + wgtT t
theorem wr_le {f t : List Int} (h : Wr d q f t) : f.length ≤ t.length := by
  rcases h with ⟨_, rfl⟩ | rfl
  · exact Nat.le_refl _
  · rw [quoL_len]; have := (dbl_len q f).1; omega
theorem wgtR_le : ∀ r : Wrs, (∀ p ∈ r, Wr d q p.1 p.2) → wgtR r ≤ (layL d (r.map (·.2))).length + 1
  | [], _ => by simp [wgtR]
  | p :: r, h => by
    have ih := wgtR_le r (fun x hx => h x (List.mem_cons_of_mem _ hx))
    have h1 := wr_le (h p (List.mem_cons_self ..))
    rw [List.map_cons, layL_cons, wgtR]
    cases r with
    | nil => simp [wgtR]; omega
    | cons g r => rw [if_neg (by simp)]; omega
theorem tab_wgt {l : List Int} {t : List Wrs} (h : TabIs d q e l t) : wgtT t ≤ l.length + 1 ∧ (l = [] → wgtT t = 0) := by
  induction h with
  | done => exact ⟨by simp [wgtT], fun _ => rfl⟩
  | lf _ _ ih => exact ⟨by rw [List.length_cons]; omega, fun h => by cases h⟩
  | crlf _ _ ih => exact ⟨by rw [List.length_cons, List.length_cons]; omega, fun h => by cases h⟩
  | @line r b x eol l t hr hw hx _ _ hE _ ih =>
    have h1 := wgtR_le r hw
    have h2 := congrArg List.length hx
    rw [List.length_append, List.length_append] at h2
    refine ⟨?_, fun h => by cases h⟩
    rw [wgtT]
    rcases hE with ⟨rfl, rfl⟩ | ⟨rfl, _⟩ | ⟨rfl, _⟩
    · rw [ih.2 rfl]; simp at h2; simp; omega
    · simp at h2; simp; omega
    · simp at h2; simp; omega
theorem wgtT_none : ∀ t : List Wrs, fldN (t.map fun r => r.map fun p => toBA p.1) + bytN (t.map fun r => r.map fun p => toBA p.1) = wgtT t
  | [] => rfl
  | r :: t => by
    have ih := wgtT_none t
    have hr : ∀ r : Wrs, (r.map fun p => toBA p.1).length + lenL (r.map fun p => toBA p.1) = wgtR r := by
      intro r
      induction r with
      | nil => rfl
      | cons p r ih => rw [List.map_cons, List.length_cons, lenL, wgtR, toBA_size]; omega
    rw [List.map_cons, fldN, bytN, wgtT]
    have := hr r
    omega
/-- A TEXT WITHOUT A FAULT. -/
theorem read_wrs (hd : Dia d q e) (hd7 : d ≤ 127) (hq7 : q ≤ 127) (T : List Int) (n : Nat) (m : Mk) (hrc : m.rc = []) (hn : (bomStrip T).length < n) (hk : (whKA (rdGo d q e n m 0 (bomStrip T)) T).1 = 0) :
    ∃ t : List Wrs, whRs (rdGo d q e n m 0 (bomStrip T)) T = t.map (fun r => r.map fun p => toBA p.1) ∧ (∀ r ∈ t, r ≠ [] ∧ ∀ p ∈ r, Wr d q p.1 p.2 ∧ utWhole p.1 = p.1.length) ∧ (∀ r ∈ t, ∀ p ∈ r, ∀ x ∈ p.1, x ∈ T) ∧ wgtT t ≤ T.length + 1 := by
  have hg : (rdGo d q e n m 0 (bomStrip T)).k = 0 := by
    have h0 := hk
    by_cases hg : (rdGo d q e n m 0 (bomStrip T)).k = 0
    · exact hg
    · exfalso
      unfold whKA at h0
      dsimp only at h0
      split at h0
      · split at h0
        · simp at h0
        · exact hg h0
      · split at h0
        · simp at h0
        · exact hg h0
  have hu : UOk T := by
    have h0 := hk
    unfold whKA at h0
    simp only [hg, if_true, true_or, and_true] at h0
    have hle := utRn_le 0 T
    by_cases hr : utRn 0 T < T.length
    · rw [if_pos hr] at h0; simp at h0
    · rw [if_neg hr] at h0
      have hl : utRn 0 T = T.length := by omega
      refine ⟨hl, ?_⟩
      by_cases hs : utRs 0 T = 0
      · exact hs
      · rw [if_pos ((utWhole_iff T hl).2 hs)] at h0
        simp at h0
  obtain ⟨t, h1, h2⟩ := rdGo_inv n m 0 (bomStrip T) hrc hn hg
  have hrs : whRs (rdGo d q e n m 0 (bomStrip T)) T = t.map (fun r => r.map fun p => toBA p.1) := by
    rw [← h2]
    unfold whRs
    rw [hk]
    congr 1
    rw [List.filter_eq_self]
    intro p _
    simp
  have hlen := whOff_len T
  refine ⟨t, hrs, ?_, ?_, by have := (tab_wgt h1).1; omega⟩
  · cases hh : bomHad T
    · have hst : bomStrip T = T := by unfold bomStrip; rw [hh]; simp
      rw [hst] at h1
      exact uok_tab hd7 hq7 h1 hu
    · have hsp := bom_split hh
      have h3 : utRn 0 bomMk = bomMk.length := by decide
      obtain ⟨g1, g2⟩ := utR_app 0 bomMk (bomStrip T) h3
      have h4 : utRs 0 bomMk = 0 := by decide
      rw [← hsp] at g1 g2
      rw [h4, hu.2] at g1
      rw [h4, hu.1] at g2
      refine uok_tab hd7 hq7 h1 ⟨?_, g1.symm⟩
      have := congrArg List.length hsp
      simp at this
      omega
  · intro r hr p hp x hx
    have h3 := tab_mem h1 r hr p hp x hx
    cases hh : bomHad T
    · rw [show bomStrip T = T by unfold bomStrip; rw [hh]; simp] at h3; exact h3
    · rw [bom_split hh]; exact List.mem_append_right _ h3
end
/-- What a reader without a fault tells may be written. -/
theorem RdS.Ok.may {X : RdS} (h : X.Ok) (hk : X.K.1 = 0) : AllMay X.rs ∧ fldN X.rs + bytN X.rs ≤ X.x.size + 1 := by
  have hb := right_bytes h.right
  have hlen : (bomStrip (bl X.x)).length < X.x.size + 1 := by have := whOff_len (bl X.x); rw [bl_length] at this; omega
  obtain ⟨t1, t2, _⟩ := h.told (X.x.size + 1) (Nat.lt_succ_self _)
  rw [hk] at t2
  obtain ⟨t, h1, h2, h3, h4⟩ := read_wrs (right_dia h.right) (by omega) (by omega) (bl X.x) (X.x.size + 1) (mk0 X.lf X.ls X.lr X.un) rfl hlen t2.symm
  rw [t1, h1]
  refine ⟨?_, by rw [wgtT_none, ← bl_length]; exact h4⟩
  intro r hr
  obtain ⟨z, hz, rfl⟩ := List.mem_map.1 hr
  obtain ⟨hne, hf⟩ := h2 z hz
  unfold mayN
  rw [if_neg (by simpa using hne), if_pos]
  rw [List.all_eq_true]
  intro f hfm
  obtain ⟨p, hp, rfl⟩ := List.mem_map.1 hfm
  unfold utfB
  refine decide_eq_true ?_
  rw [bl_toBA p.1 (fun x hx => bl_bytes X.x x (h3 z hz p hp x hx)), (hf p hp).2, toBA_size]
end Go.Proofs.Ytoeanbfemgmgnaa

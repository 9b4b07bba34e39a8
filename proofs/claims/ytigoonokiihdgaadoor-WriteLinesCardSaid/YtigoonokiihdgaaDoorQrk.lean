/- Layer 10: the document's example over what Table answers. -/
import Derived.Test.YtigoonokiihdgaaDoorQrf
import Derived.Test.YtigoonokiihdgaaDoorQre
namespace Go.Proofs.YtigoonokiihdgaaDoor
open Go.ChangeShapes Go.WideShapes Go.ChangeAt Go.RowKit
set_option linter.unusedVariables false
set_option linter.unusedSimpArgs false

def exT : List (List ByteArray) := [[⟨#[97]⟩, ⟨#[]⟩], [⟨#[]⟩]]
theorem utfB_a : utfB ⟨#[97]⟩ = true := by
  unfold utfB
  refine decide_eq_true ?_
  rw [uok_whole (show UOk (bl ⟨#[97]⟩) from ⟨by decide, by decide⟩)]
  rfl
theorem utfB_e : utfB ⟨#[]⟩ = true := by
  unfold utfB
  refine decide_eq_true ?_
  rw [uok_whole (show UOk (bl ⟨#[]⟩) from ⟨by decide, by decide⟩)]
  rfl
theorem exT_may : AllMay exT := by
  intro r hr
  simp only [exT, List.mem_cons, List.not_mem_nil, or_false] at hr
  rcases hr with rfl | rfl
  · unfold mayN; rw [if_neg (by simp), if_pos (by simp [utfB_a, utfB_e])]
  · unfold mayN; rw [if_neg (by simp), if_pos (by simp [utfB_e])]
theorem exT_front : frontN exT = 2 := by rw [front_all exT_may]; rfl
theorem exT_E : tabE 44 34 1 exT = 0 := by
  unfold tabE
  rw [if_pos (by decide), exT_front]
  rfl
theorem exT_S : tabS 44 34 1 exT = ⟨#[97, 44, 10, 34, 34, 10]⟩ := by
  unfold tabS
  rw [exT_E, if_pos rfl]
  unfold textO
  rw [exT_front]
  kernel_rfl
theorem exT_N : tabN 44 34 1 exT = 2 := by
  unfold tabN
  rw [if_pos (by decide), exT_front]
theorem cells_row {W : World} {g : Nat} {t : TypeId} {l : List ByteArray} (h : StB W g t (strs l).toArray) : SlIn W (some ⟨g, 0, none⟩) l.length (strs l) := by
  refine ⟨by rw [strs_length], fun j u hu => ⟨_, rfl, ?_⟩⟩
  have : (Addr.add ⟨g, 0, none⟩ j : Addr) = ⟨g, j, none⟩ := by simp [Addr.add]; intro h; exact h.symm
  rw [this, h.cell j]
  simpa using hu
theorem cells_in2 {W : World} {g : Nat} {t : TypeId} {u v : Value} (h : StB W g t #[u, v]) : SlIn W (some ⟨g, 0, none⟩) 2 [u, v] := by
  refine ⟨rfl, fun j x hx => ⟨_, rfl, ?_⟩⟩
  have : (Addr.add ⟨g, 0, none⟩ j : Addr) = ⟨g, j, none⟩ := by simp [Addr.add]; intro h; exact h.symm
  rw [this, h.cell j]
  simpa using hx
set_option maxHeartbeats 1600000 in
theorem awake10_any (hT : Hid TableSays) : AwakeSays10 := by
  intro w
  obtain ⟨h, hh⟩ : ∃ h, w.heap.size = h := ⟨_, rfl⟩
  obtain ⟨W, hW⟩ : ∃ W, W = (((w.alloc (.cells #[.int .u8 44, .int .u8 34, .int .i64 1] 23)).alloc (.cells #[.string ⟨#[97]⟩, .string ⟨#[]⟩] 9)).alloc (.cells #[.string ⟨#[]⟩] 9)).alloc (.cells #[.slice (some ⟨h + 1, 0, none⟩) 2 2, .slice (some ⟨h + 2, 0, none⟩) 1 1] 24) := ⟨_, rfl⟩
  have HB := Lib.hid (show Below w.heap.size w W by rw [hW]; exact up_alloc (up_alloc (up_alloc (up_alloc (Below.refl _ _) _) _) _) _)
  have s1 : StB W (h + 1) 9 (strs [⟨#[97]⟩, ⟨#[]⟩]).toArray := by rw [hW]; exact ((StB.made _ (by simp; omega) _ _).alloc _).alloc _
  have s2 : StB W (h + 2) 9 (strs [⟨#[]⟩]).toArray := by rw [hW]; exact (StB.made _ (by simp; omega) _ _).alloc _
  have s3 : StB W (h + 3) 24 #[.slice (some ⟨h + 1, 0, none⟩) 2 2, .slice (some ⟨h + 2, 0, none⟩) 1 1] := by rw [hW]; exact StB.made _ (by simp; omega) _ _
  have htab : TabIn W (some ⟨h + 3, 0, none⟩) 2 [.slice (some ⟨h + 1, 0, none⟩) 2 2, .slice (some ⟨h + 2, 0, none⟩) 1 1] exT := by
    refine ⟨cells_in2 s3, rfl, fun j x hx => ?_⟩
    match j, hx with
    | 0, hx => simp [exT] at hx; subst hx; exact ⟨_, 2, rfl, cells_row s1⟩
    | 1, hx => simp [exT] at hx; subst hx; exact ⟨_, 1, rfl, cells_row s2⟩
    | j + 2, hx => simp [exT] at hx
  have hsz : Sizes exT := by
    intro x hx
    simp only [exT, List.mem_cons, List.not_mem_nil, or_false] at hx
    rcases hx with rfl | rfl
    · exact ⟨by unfold maxLen; simp, fun s hs => by simp at hs; rcases hs with rfl | rfl <;> decide⟩
    · exact ⟨by unfold maxLen; simp, fun s hs => by simp at hs; subst hs; decide⟩
  have HT := Lib.hid (hT.out 44 34 1 exT (some ⟨h + 3, 0, none⟩) 2 2 _ W (by omega) (by omega) (by omega) (by omega) (by omega) (by decide) (by decide) (Lib.hid htab) (Lib.hid hsz))
  rw [exT_S, exT_N, exT_E] at HT
  clear s1 s2 s3 htab hsz
  go_enter Tryd.func8, Tryd.ntmps8
  go_wp2_with fail
  rw [← hW]
  clear hW hh
  refine HT.out.mono ?_
  rintro x W2 ⟨rfl, hb⟩
  have HB2 := Lib.hid (HB.out.trans (hb.mono HB.out.size))
  clear hb
  go_wp2_with fail
  go_ret
  exact ⟨rfl, HB2.out⟩
end Go.Proofs.YtigoonokiihdgaaDoor

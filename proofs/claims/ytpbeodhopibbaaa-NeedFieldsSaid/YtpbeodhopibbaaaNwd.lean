/- Layer 8: the document's example over the program's Fields. -/
import Derived.Test.YtpbeodhopibbaaaNwc
import Derived.Test.YtpbeodhopibbaaaKit16
namespace Go.Proofs.Ytpbeodhopibbaaa
open Go.ChangeShapes Go.WideShapes Go.ChangeAt Go.RowKit
set_option linter.unusedVariables false
set_option linter.unusedSimpArgs false

theorem slin_of {w : World} {g : Nat} {t : TypeId} {cs : Array Value} (h : StB w g t cs) (n : Nat) (hn : cs.size = n) : SlIn w (some ⟨g, 0, none⟩) n cs.toList := by
  refine ⟨by rw [← hn]; simp, fun j u hu => ⟨_, rfl, ?_⟩⟩
  have : (Addr.add ⟨g, 0, none⟩ j : Addr) = ⟨g, j, none⟩ := by simp [Addr.add]; intro h; exact h.symm
  rw [this, h.cell j]
  simpa using hu
theorem dia3 {w : World} {g : Nat} {t : TypeId} {a b c : Value} (h : StB w g t #[a, b, c]) : w.cell? ⟨g, 0, none⟩ = some a ∧ w.cell? ⟨g, 1, none⟩ = some b ∧ w.cell? ⟨g, 2, none⟩ = some c ∧ g < w.heap.size :=
  ⟨h.cell 0, h.cell 1, h.cell 2, h.lt⟩
theorem slin1 {w : World} {g : Nat} {t : TypeId} {v : Value} (h : StB w g t #[v]) : SlIn w (some ⟨g, 0, none⟩) 1 [v] := slin_of h 1 rfl
theorem slin2 {w : World} {g : Nat} {t : TypeId} {v u : Value} (h : StB w g t #[v, u]) : SlIn w (some ⟨g, 0, none⟩) 2 [v, u] := slin_of h 2 rfl
theorem add0 (a : Addr) : a.add 0 = a := by cases a; simp [Addr.add]
def ex1 : List ByteArray := [⟨#[]⟩]
def ex2 : List ByteArray := [⟨#[]⟩, ⟨#[]⟩]
theorem ex1_is : needL 44 34 false 1 0 ex1 = [true] := by decide
theorem ex2_is : needL 44 34 false 2 0 ex2 = [false, false] := by decide
theorem fields_one (w : World) (A : Option Addr) (c : Nat) (h : SlIn w A 1 [.string ⟨#[]⟩]) :
    Calls Try.prog 15 #[.agg #[.int .u8 44, .int .u8 34, .int .i64 1], .slice A 1 c, .bool false] w fun x w' => ∃ (a : Addr) (co : Nat), x = .returned (.slice (some a) 1 co) ∧ w'.cell? a = some (.bool true) ∧ Below w.heap.size w w' := by
  refine (fields_any8 44 34 1 ex1 A 1 c false w (by omega) (by omega) (by omega) (by omega) (by decide) (Lib.hid h) (by omega) (Lib.hid (by intro x hx; simp [ex1] at hx; subst hx; decide))).mono ?_
  rintro x w' ⟨O, co, rfl, HO, HB⟩
  rw [ex1_is] at HO
  obtain ⟨a, rfl, hc⟩ := HO.out.at_ (k := 0) rfl
  exact ⟨a, co, rfl, add0 a ▸ hc, HB.out⟩
theorem fields_two (w : World) (A : Option Addr) (c : Nat) (h : SlIn w A 2 [.string ⟨#[]⟩, .string ⟨#[]⟩]) :
    Calls Try.prog 15 #[.agg #[.int .u8 44, .int .u8 34, .int .i64 1], .slice A 2 c, .bool false] w fun x w' => ∃ (a : Addr) (co : Nat), x = .returned (.slice (some a) 2 co) ∧ w'.cell? a = some (.bool false) ∧ w'.cell? ⟨a.block, a.off + 1, none⟩ = some (.bool false) ∧ Below w.heap.size w w' := by
  refine (fields_any8 44 34 1 ex2 A 2 c false w (by omega) (by omega) (by omega) (by omega) (by decide) (Lib.hid h) (by omega) (Lib.hid (by intro x hx; simp [ex2] at hx; subst hx; decide))).mono ?_
  rintro x w' ⟨O, co, rfl, HO, HB⟩
  rw [ex2_is] at HO
  obtain ⟨a, rfl, hc⟩ := HO.out.at_ (k := 0) rfl
  obtain ⟨b, hab, hd⟩ := HO.out.at_ (k := 1) rfl
  obtain rfl : a = b := by injection hab
  exact ⟨a, co, rfl, add0 a ▸ hc, hd, HB.out⟩
set_option maxRecDepth 100000 in
set_option maxHeartbeats 1600000 in
theorem awake8_any : AwakeSays8 := by
  intro w
  go_enter Try.func9, Try.ntmps9
  go_wp2_with fail
  refine region_W 5 (fun w' => StB w' w.heap.size 23 #[.int .u8 44, .int .u8 34, .int .i64 1]) (by kernel_rfl) ?_
  obtain ⟨h, hh⟩ : ∃ h, h = w.heap.size := ⟨_, rfl⟩
  have hX := (StB.new w 23 #[.int .u8 44, .int .u8 34, .int .i64 1]).drew
  have hB := (up_alloc (Below.refl _ w) (.cells #[.int .u8 44, .int .u8 34, .int .i64 1] 23)).drew
  obtain ⟨V, hV⟩ : ∃ V, V = (w.alloc (.cells #[.int .u8 44, .int .u8 34, .int .i64 1] 23)).drew := ⟨_, rfl⟩
  rw [← hV] at hX hB ⊢
  clear hV hh
  refine takeC (i := 0) (v := .agg #[.int .u8 44, .int .u8 34, .int .i64 1]) rfl (by kernel_rfl) (by kernel_rfl) (by kernel_rfl) (by kernel_rfl) (fun _ _ _ h => h) hX (.inl ⟨by rfl, fun w hw => by obtain ⟨k0, k1, k2, k3⟩ := dia3 hw; go_simp⟩) ?_
  refine takeC (i := 3) (v := .agg #[.int .u8 44, .int .u8 34, .int .i64 1]) rfl (by kernel_rfl) (by kernel_rfl) (by kernel_rfl) (by kernel_rfl) (fun _ _ _ h => h) hX (.inl ⟨by rfl, fun w hw => by obtain ⟨k0, k1, k2, k3⟩ := dia3 hw; go_simp⟩) ?_
  refine twoC (i := 1) (j := 4) (by kernel_rfl) rfl rfl (by kernel_rfl) (fun K hK => ?_) (fun K hK => ?_)
  · skip
    go_simp
    refine hK _ _ (hX.alloc _) ?_
    clear hK K
    replace hX := hX.alloc (.cells #[.string ⟨#[]⟩] 9)
    have hN := StB.made V rfl 9 #[.string ⟨#[]⟩]
    replace hB := hB.alloc hB.size (.cells #[.string ⟨#[]⟩] 9)
    obtain ⟨V1, eV1⟩ : ∃ V1, V1 = V.alloc (.cells #[.string ⟨#[]⟩] 9) := ⟨_, rfl⟩
    rw [← eV1] at hX hN hB ⊢
    clear eV1
    have hM := hN
    clear hN
    refine twoC (i := 2) (j := 4) (by kernel_rfl) rfl rfl (by kernel_rfl) (fun K hK => ?_) (fun K hK => ?_)
    · skip
      go_simp
      refine callsIn_wide.2 ((fields_one _ _ _ (slin1 hM)).mono ?_)
      rintro x V3 ⟨a1, c1, rfl, ha1, HB1⟩
      refine hK _ _ (hX.below HB1) ?_
      clear hK K
      replace hX := hX.below HB1
      replace hB := hB.trans (HB1.mono hB.size)
      clear HB1
      refine onlyC (i := 4) (by kernel_rfl) rfl (by kernel_rfl) (fun K hK => ?_)
      go_simp
      refine hK _ _ (hX.alloc _) ?_
      clear hK K
      replace hX := hX.alloc (.cells #[.string ⟨#[]⟩, .string ⟨#[]⟩] 9)
      have hN := StB.made V3 rfl 9 #[.string ⟨#[]⟩, .string ⟨#[]⟩]
      replace hB := hB.alloc hB.size (.cells #[.string ⟨#[]⟩, .string ⟨#[]⟩] 9)
      replace ha1 := mem_cell ((Below.refl _ _).alloc (Nat.le_refl _) (.cells #[.string ⟨#[]⟩, .string ⟨#[]⟩] 9)) ha1
      obtain ⟨V4, eV4⟩ : ∃ V4, V4 = V3.alloc (.cells #[.string ⟨#[]⟩, .string ⟨#[]⟩] 9) := ⟨_, rfl⟩
      rw [← eV4] at hX hN hB ha1 ⊢
      clear eV4
      refine onlyC (i := 5) (by kernel_rfl) rfl (by kernel_rfl) (fun K hK => ?_)
      go_simp
      refine callsIn_wide.2 ((fields_two _ _ _ (slin2 hN)).mono ?_)
      rintro x V5 ⟨a2, c2, rfl, ha2, hb2, HB2⟩
      refine hK _ _ (hX.below HB2) ?_
      clear hK K
      replace hX := hX.below HB2
      replace hB := hB.trans (HB2.mono hB.size)
      replace ha1 := mem_cell HB2 ha1
      clear HB2
      refine takeC (i := 6) (v := .slice (some a1) 1 c1) rfl (by kernel_rfl) (by kernel_rfl) (by kernel_rfl) (by kernel_rfl) (fun _ _ _ h => h) hX (.inl ⟨by rfl, fun w hw => by go_simp⟩) ?_
      refine takeC (i := 7) (v := .slice (some a2) 2 c2) rfl (by kernel_rfl) (by kernel_rfl) (by kernel_rfl) (by kernel_rfl) (fun _ _ _ h => h) hX (.inl ⟨by rfl, fun w hw => by go_simp⟩) ?_
      refine doneC (by kernel_rfl) ?_
      go_wp2
      go_ret
      exact ⟨rfl, hB⟩
    · skip
      go_simp
      refine hK _ _ (hX.alloc _) ?_
      clear hK K
      replace hX := hX.alloc (.cells #[.string ⟨#[]⟩, .string ⟨#[]⟩] 9)
      have hN := StB.made V1 rfl 9 #[.string ⟨#[]⟩, .string ⟨#[]⟩]
      replace hB := hB.alloc hB.size (.cells #[.string ⟨#[]⟩, .string ⟨#[]⟩] 9)
      replace hM := hM.alloc (.cells #[.string ⟨#[]⟩, .string ⟨#[]⟩] 9)
      obtain ⟨V2, eV2⟩ : ∃ V2, V2 = V1.alloc (.cells #[.string ⟨#[]⟩, .string ⟨#[]⟩] 9) := ⟨_, rfl⟩
      rw [← eV2] at hX hN hB hM ⊢
      clear eV2
      refine onlyC (i := 2) (by kernel_rfl) rfl (by kernel_rfl) (fun K hK => ?_)
      go_simp
      refine callsIn_wide.2 ((fields_one _ _ _ (slin1 hM)).mono ?_)
      rintro x V3 ⟨a1, c1, rfl, ha1, HB1⟩
      refine hK _ _ (hX.below HB1) ?_
      clear hK K
      replace hX := hX.below HB1
      replace hB := hB.trans (HB1.mono hB.size)
      replace hN := hN.below HB1
      clear HB1
      refine onlyC (i := 5) (by kernel_rfl) rfl (by kernel_rfl) (fun K hK => ?_)
      go_simp
      refine callsIn_wide.2 ((fields_two _ _ _ (slin2 hN)).mono ?_)
      rintro x V5 ⟨a2, c2, rfl, ha2, hb2, HB2⟩
      refine hK _ _ (hX.below HB2) ?_
      clear hK K
      replace hX := hX.below HB2
      replace hB := hB.trans (HB2.mono hB.size)
      replace ha1 := mem_cell HB2 ha1
      clear HB2
      refine takeC (i := 6) (v := .slice (some a1) 1 c1) rfl (by kernel_rfl) (by kernel_rfl) (by kernel_rfl) (by kernel_rfl) (fun _ _ _ h => h) hX (.inl ⟨by rfl, fun w hw => by go_simp⟩) ?_
      refine takeC (i := 7) (v := .slice (some a2) 2 c2) rfl (by kernel_rfl) (by kernel_rfl) (by kernel_rfl) (by kernel_rfl) (fun _ _ _ h => h) hX (.inl ⟨by rfl, fun w hw => by go_simp⟩) ?_
      refine doneC (by kernel_rfl) ?_
      go_wp2
      go_ret
      exact ⟨rfl, hB⟩
  · skip
    go_simp
    refine hK _ _ (hX.alloc _) ?_
    clear hK K
    replace hX := hX.alloc (.cells #[.string ⟨#[]⟩, .string ⟨#[]⟩] 9)
    have hN := StB.made V rfl 9 #[.string ⟨#[]⟩, .string ⟨#[]⟩]
    replace hB := hB.alloc hB.size (.cells #[.string ⟨#[]⟩, .string ⟨#[]⟩] 9)
    obtain ⟨V1, eV1⟩ : ∃ V1, V1 = V.alloc (.cells #[.string ⟨#[]⟩, .string ⟨#[]⟩] 9) := ⟨_, rfl⟩
    rw [← eV1] at hX hN hB ⊢
    clear eV1
    have hM := hN
    clear hN
    refine onlyC (i := 1) (by kernel_rfl) rfl (by kernel_rfl) (fun K hK => ?_)
    go_simp
    refine hK _ _ (hX.alloc _) ?_
    clear hK K
    replace hX := hX.alloc (.cells #[.string ⟨#[]⟩] 9)
    have hN := StB.made V1 rfl 9 #[.string ⟨#[]⟩]
    replace hB := hB.alloc hB.size (.cells #[.string ⟨#[]⟩] 9)
    replace hM := hM.alloc (.cells #[.string ⟨#[]⟩] 9)
    obtain ⟨V2, eV2⟩ : ∃ V2, V2 = V1.alloc (.cells #[.string ⟨#[]⟩] 9) := ⟨_, rfl⟩
    rw [← eV2] at hX hN hB hM ⊢
    clear eV2
    refine onlyC (i := 2) (by kernel_rfl) rfl (by kernel_rfl) (fun K hK => ?_)
    go_simp
    refine callsIn_wide.2 ((fields_one _ _ _ (slin1 hN)).mono ?_)
    rintro x V3 ⟨a1, c1, rfl, ha1, HB1⟩
    refine hK _ _ (hX.below HB1) ?_
    clear hK K
    replace hX := hX.below HB1
    replace hB := hB.trans (HB1.mono hB.size)
    replace hM := hM.below HB1
    clear HB1
    refine onlyC (i := 5) (by kernel_rfl) rfl (by kernel_rfl) (fun K hK => ?_)
    go_simp
    refine callsIn_wide.2 ((fields_two _ _ _ (slin2 hM)).mono ?_)
    rintro x V5 ⟨a2, c2, rfl, ha2, hb2, HB2⟩
    refine hK _ _ (hX.below HB2) ?_
    clear hK K
    replace hX := hX.below HB2
    replace hB := hB.trans (HB2.mono hB.size)
    replace ha1 := mem_cell HB2 ha1
    clear HB2
    refine takeC (i := 6) (v := .slice (some a1) 1 c1) rfl (by kernel_rfl) (by kernel_rfl) (by kernel_rfl) (by kernel_rfl) (fun _ _ _ h => h) hX (.inl ⟨by rfl, fun w hw => by go_simp⟩) ?_
    refine takeC (i := 7) (v := .slice (some a2) 2 c2) rfl (by kernel_rfl) (by kernel_rfl) (by kernel_rfl) (by kernel_rfl) (fun _ _ _ h => h) hX (.inl ⟨by rfl, fun w hw => by go_simp⟩) ?_
    refine doneC (by kernel_rfl) ?_
    go_wp2
    go_ret
    exact ⟨rfl, hB⟩
end Go.Proofs.Ytpbeodhopibbaaa

/- Layer 6: the contract of the document's reader of a field that isn't quoted. -/
import Derived.Test.YtigoonokiihdgaaDoorRxc
namespace Go.Proofs.YtigoonokiihdgaaDoor
open Go.ChangeShapes Go.WideShapes Go.ChangeAt Go.RowKit
set_option linter.unusedVariables false
set_option linter.unusedSimpArgs false

/-- What a field leaves: F. -/
def FieldOut (g : Nat) (r : Rd) (F : Fld) (w : World) (x : Ending) (w' : World) : Prop :=
  ∃ (t : ByteArray) (ok : Bool) (i' : Nat), x = .returned (.tuple #[.string t, .bool ok]) ∧ (F.k = 0 → ok = true ∧ t = toBA F.f ∧ Only g { r with i := F.i } w w') ∧ (F.k ≠ 0 → ok = false ∧ Only g { r with i := i', k := F.k, at_ := F.i } w w')
def strLen : Value → Nat
  | .string t => t.size
  | _ => 0
theorem isB_drop {s : ByteArray} {k : Nat} {b : Int} {l : List Int} (h : (bl s).drop k = b :: l) (c : Int) : isB s k c = (b == c) := by
  unfold isB
  have : (bl s)[k]? = some b := by
    have := congrArg (fun z => z[0]?) h
    simpa [List.getElem?_drop] using this
  rw [this]; rfl
theorem isB_end {s : ByteArray} {k : Nat} (h : s.size ≤ k) (c : Int) : isB s k c = false := by
  unfold isB
  rw [List.getElem?_eq_none (by rw [bl_length]; exact h)]; rfl
theorem get_drop {s : ByteArray} {k : Nat} {b : Int} {l : List Int} (h : (bl s).drop k = b :: l) : (bl s)[k]? = some b ∧ (bl s).drop (k + 1) = l ∧ k < s.size := by
  have h1 : (bl s)[k]? = some b := by
    have := congrArg (fun z => z[0]?) h
    simpa [List.getElem?_drop] using this
  refine ⟨h1, ?_, ?_⟩
  · have := congrArg List.tail h
    rw [List.tail_drop] at this
    simpa using this
  · have := (List.getElem?_eq_some_iff.1 h1).1
    rwa [bl_length] at this

set_option maxHeartbeats 3200000 in
set_option maxRecDepth 100000 in
theorem bare_any6 (g : Nat) (r : Rd) (hi : r.i ≤ r.s.size) (hs : r.s.size ≤ 980) (h0 : Hid (r.k = 0)) (w : World) (h : Hid (RB w g r)) (F : Fld) (hF : Hid (bGo r.d r.q r.lf [] r.i ((bl r.s).drop r.i) = F)) :
    Calls Tryd.prog 63 #[.pointer (some ⟨g, 0, none⟩)] w (FieldOut g r F w) := by
  have hs1 : r.s.size ≤ 1000 := by omega
  go_enter Tryd.func63, Tryd.ntmps63
  go_wp2_with fail
  go_loopw [4] (fun f wr => ∃ (k : Nat) (l0 : List Int), k ≤ r.s.size ∧ l0.length ≤ k ∧ Hid (k = r.i + l0.length) ∧ f = .string (toBA l0) ∧ Hid (bGo r.d r.q r.lf l0 k ((bl r.s).drop k) = F) ∧ Hid (Only g { r with i := k } w wr)) (fun f _ => r.s.size - strLen f)
  case atStart => exact ⟨r.i, [], hi, Nat.zero_le _, Lib.hid rfl, rfl, hF, Lib.hid (Only.refl h.out)⟩
  case round =>
    obtain ⟨k, l0, hk, hl0, HKL, rfl, HE, HO⟩ := hrel
    have HR := Lib.hid (show RB wr g { r with i := k } from HO.out.1)
    obtain ⟨hg, kd, kq, _, _, _, _, _, k7, k8, _⟩ := HR.out.cells
    dsimp only at kd kq k7 k8
    by_cases hlt : k < r.s.size
    · obtain ⟨b, rest, hbr⟩ : ∃ b rest, (bl r.s).drop k = b :: rest := ⟨_, _, bl_drop r.s k hlt⟩
      obtain ⟨hget, hdr, _⟩ := get_drop hbr
      have HG := Lib.hid hget
      have HD := Lib.hid hdr
      have hd : decide (k < r.s.size) = true := by simpa using hlt
      have V1 := Lib.hid (isB_drop hbr r.d)
      have V2 := Lib.hid (isB_drop hbr 10)
      have V3 := Lib.hid (isB_drop hbr 13)
      have VQ := Lib.hid (isB_drop hbr r.q)
      have HB := Lib.hid hbr
      clear hbr hget hdr
      cases hst : stops r.d b
      · -- the byte belongs to the field, or is a quote
        have hs3 : (b == r.d) = false ∧ (b == 10) = false ∧ (b == 13) = false := by simpa [stops] using hst
        have U1 := Lib.hid (V1.out.trans hs3.1)
        have U2 := Lib.hid (V2.out.trans hs3.2.1)
        have U3 := Lib.hid (V3.out.trans hs3.2.2)
        have HST := Lib.hid hst
        clear V1 V2 V3 hs3 hst
        go_wp2_with fail
        refine wp_region_onto (by kernel_rfl) (by kernel_rfl) ?_
        repeat (go_big_quiet_step (first
          | (go_at_call 49; with_reducible exact calls_onto (is_any g { r with i := k } r.d false U1 hs1 _ (Lib.hid (HR.out.below (onto_below wr _)))))
          | (go_at_call 49; with_reducible exact calls_onto (is_any g { r with i := k } 10 false U2 hs1 _ (Lib.hid (HR.out.below (onto_below wr _)))))
          | (go_at_call 49; with_reducible exact calls_onto (is_any g { r with i := k } 13 false U3 hs1 _ (Lib.hid (HR.out.below (onto_below wr _)))))))
        refine wpQuiet_nil ?_
        intro _ hw'
        obtain ⟨y1, hw''⟩ := hw'
        subst hw''
        have HR1 := Lib.hid (HR.out.below (onto_below wr y1))
        have HO1 := Lib.hid (HO.out.below (onto_below wr y1))
        obtain ⟨hg1, _, kq1, _, _, _, _, _, _, k81, _⟩ := HR1.out.cells
        dsimp only at kq1 k81
        by_cases hbq : b = r.q
        · have UQ := Lib.hid (VQ.out.trans (show (b == r.q) = true by simpa using hbq))
          have hF4 := Lib.hid (show F = ⟨4, l0, k, []⟩ by rw [← HE.out, HB.out, bGo, HST.out, if_neg (by simp), if_pos hbq])
          clear hbq
          go_wp2_with fail
          refine (above (is_any g { r with i := k } r.q true UQ hs1 _ HR1)).mono ?_
          rintro x _ ⟨rfl, y2, rfl⟩
          have HR2 := Lib.hid (HR1.out.below (onto_below _ y2))
          have HO2 := Lib.hid (HO1.out.below (onto_below _ y2))
          obtain ⟨hg2, _, _, _, _, _, _, _, _, k82, _⟩ := HR2.out.cells
          dsimp only at k82
          go_wp2_with fail
          refine (wrong_any g { r with i := k } 4 k h0 _ HR2).mono ?_
          rintro x w3 ⟨rfl, ho⟩
          have HO3 := Lib.hid (HO2.out.trans ho)
          clear ho
          go_wp2_with fail
          go_ret2
          refine ⟨toBA l0, false, k, rfl, ?_, ?_⟩
          · rw [hF4.out]; intro h; cases h
          · rw [hF4.out]; intro _; exact ⟨rfl, HO3.out⟩
        · have UQ := Lib.hid (VQ.out.trans (show (b == r.q) = false by simpa using hbq))
          have HNQ := Lib.hid hbq
          clear hbq
          go_wp2_with fail
          refine (above (is_any g { r with i := k } r.q false UQ hs1 _ HR1)).mono ?_
          rintro x _ ⟨rfl, y2, rfl⟩
          have HR2 := Lib.hid (HR1.out.below (onto_below _ y2))
          have HO2 := Lib.hid (HO1.out.below (onto_below _ y2))
          obtain ⟨hg2, _, _, _, _, _, _, _, _, k82, _⟩ := HR2.out.cells
          dsimp only at k82
          by_cases hlf : (l0.length : Int) = r.lf
          · have HLF := Lib.hid hlf
            have hF7 := Lib.hid (show F = ⟨7, l0, k, []⟩ by rw [← HE.out, HB.out, bGo, HST.out, if_neg (by simp), if_neg HNQ.out, if_pos hlf])
            clear hlf
            go_wp2_with fail
            refine (add_no6 g { r with i := k } l0 k HLF h0 (by omega) _ HR2).mono ?_
            rintro x w3 ⟨rfl, ho⟩
            have HO3 := Lib.hid (HO2.out.trans ho)
            clear ho
            go_wp2_with fail
            go_ret2
            refine ⟨toBA l0, false, k, rfl, ?_, ?_⟩
            · rw [hF7.out]; intro h; cases h
            · rw [hF7.out]; intro _; exact ⟨rfl, HO3.out⟩
          · have HLF := Lib.hid hlf
            have hE2 := Lib.hid (show bGo r.d r.q r.lf (l0 ++ [b]) (k + 1) ((bl r.s).drop (k + 1)) = F by rw [← HE.out, HB.out, HD.out]; conv => rhs; rw [bGo, HST.out, if_neg (by simp), if_neg HNQ.out, if_neg hlf])
            clear hlf
            go_wp2_with fail
            refine (add_yes6 g { r with i := k } l0 k b HG HLF (by omega) hs1 _ HR2).mono ?_
            rintro x _ ⟨rfl, rfl⟩
            have hg2' := HR.out.free 8
            go_wp2_with fail
            have hcast : ((k + 1 : Nat) : Int) = (k : Int) + 1 := by omega
            have ho3 := HO2.out.trans (HR2.out.set8 (k + 1))
            rw [hcast] at ho3
            have HO3 := Lib.hid ho3
            clear ho3 hcast
            go_roundw
            case rel => exact ⟨k + 1, l0 ++ [b], by omega, by simp; omega, Lib.hid (by have := HKL.out; simp; omega), rfl, hE2, HO3⟩
            case measure => simp [strLen, toBA_size]; omega
      · have hF0 := Lib.hid (show F = ⟨0, l0, k, b :: rest⟩ by rw [← HE.out, HB.out, bGo, if_pos hst])
        have hc : (b == r.d) = true ∨ ((b == r.d) = false ∧ (b == 10) = true) ∨ ((b == r.d) = false ∧ (b == 10) = false ∧ (b == 13) = true) := by
          unfold stops at hst
          cases h1 : (b == r.d) <;> cases h2 : (b == 10) <;> simp_all
        rcases hc with c1 | ⟨c1, c2⟩ | ⟨c1, c2, c3⟩
        · have U1 := Lib.hid (V1.out.trans c1)
          clear V1 V2 V3 c1 hst
          go_wp2_with fail
          refine wp_region_onto (by kernel_rfl) (by kernel_rfl) ?_
          repeat (go_big_quiet_step ((go_at_call 49; with_reducible exact calls_onto (is_any g { r with i := k } r.d true U1 hs1 _ (Lib.hid (HR.out.below (onto_below wr _)))))))
          refine wpQuiet_nil ?_
          intro _ hw'
          obtain ⟨y1, hw''⟩ := hw'
          subst hw''
          have HO1 := Lib.hid (HO.out.below (onto_below wr y1))
          go_wp2_with fail
          go_ret2
          refine ⟨toBA l0, true, k, rfl, ?_, ?_⟩
          · rw [hF0.out]; intro _; exact ⟨rfl, rfl, HO1.out⟩
          · rw [hF0.out]; intro h; exact absurd rfl h
        · have U1 := Lib.hid (V1.out.trans c1)
          have U2 := Lib.hid (V2.out.trans c2)
          clear V1 V2 V3 c1 c2 hst
          go_wp2_with fail
          refine wp_region_onto (by kernel_rfl) (by kernel_rfl) ?_
          repeat (go_big_quiet_step (first | (go_at_call 49; with_reducible exact calls_onto (is_any g { r with i := k } r.d false U1 hs1 _ (Lib.hid (HR.out.below (onto_below wr _))))) | (go_at_call 49; with_reducible exact calls_onto (is_any g { r with i := k } 10 true U2 hs1 _ (Lib.hid (HR.out.below (onto_below wr _)))))))
          refine wpQuiet_nil ?_
          intro _ hw'
          obtain ⟨y1, hw''⟩ := hw'
          subst hw''
          have HO1 := Lib.hid (HO.out.below (onto_below wr y1))
          go_wp2_with fail
          go_ret2
          refine ⟨toBA l0, true, k, rfl, ?_, ?_⟩
          · rw [hF0.out]; intro _; exact ⟨rfl, rfl, HO1.out⟩
          · rw [hF0.out]; intro h; exact absurd rfl h
        · have U1 := Lib.hid (V1.out.trans c1)
          have U2 := Lib.hid (V2.out.trans c2)
          have U3 := Lib.hid (V3.out.trans c3)
          clear V1 V2 V3 c1 c2 c3 hst
          go_wp2_with fail
          refine wp_region_onto (by kernel_rfl) (by kernel_rfl) ?_
          repeat (go_big_quiet_step (first | (go_at_call 49; with_reducible exact calls_onto (is_any g { r with i := k } r.d false U1 hs1 _ (Lib.hid (HR.out.below (onto_below wr _))))) | (go_at_call 49; with_reducible exact calls_onto (is_any g { r with i := k } 10 false U2 hs1 _ (Lib.hid (HR.out.below (onto_below wr _))))) | (go_at_call 49; with_reducible exact calls_onto (is_any g { r with i := k } 13 true U3 hs1 _ (Lib.hid (HR.out.below (onto_below wr _)))))))
          refine wpQuiet_nil ?_
          intro _ hw'
          obtain ⟨y1, hw''⟩ := hw'
          subst hw''
          have HO1 := Lib.hid (HO.out.below (onto_below wr y1))
          go_wp2_with fail
          go_ret2
          refine ⟨toBA l0, true, k, rfl, ?_, ?_⟩
          · rw [hF0.out]; intro _; exact ⟨rfl, rfl, HO1.out⟩
          · rw [hF0.out]; intro h; exact absurd rfl h
    · have hd : decide (k < r.s.size) = false := by simpa using hlt
      have hF0 := Lib.hid (show F = ⟨0, l0, k, []⟩ by rw [← HE.out, bl_end r.s k (by omega), bGo])
      clear hlt
      go_wp2_with fail
      refine wp_region_onto (by kernel_rfl) (by kernel_rfl) ?_
      repeat (go_big_quiet_step (fail))
      refine wpQuiet_nil ?_
      intro _ hw'
      obtain ⟨y1, hw''⟩ := hw'
      subst hw''
      have HO1 := Lib.hid (HO.out.below (onto_below wr y1))
      go_wp2_with fail
      go_ret2
      refine ⟨toBA l0, true, k, rfl, ?_, ?_⟩
      · rw [hF0.out]; intro _; exact ⟨rfl, rfl, HO1.out⟩
      · rw [hF0.out]; intro h; exact absurd rfl h
end Go.Proofs.YtigoonokiihdgaaDoor

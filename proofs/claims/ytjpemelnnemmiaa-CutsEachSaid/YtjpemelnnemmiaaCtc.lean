/- Layer 7: the contract of the document's At. -/
import Derived.Test.YtjpemelnnemmiaaCtb
namespace Go.Proofs.Ytjpemelnnemmiaa
open Go.ChangeShapes Go.WideShapes Go.ChangeAt Go.RowKit
set_option linter.unusedVariables false
set_option linter.unusedSimpArgs false

def slLen : Value → Nat
  | .slice _ n _ => n
  | _ => 0
theorem SlOwn.grow_other {w w' : World} {base base' : Nat} {e e' : TypeId} {A O : Option Addr} {n c n' c' : Nat} {xs xs' : List Value} (h : SlOwn w base e A n c xs) (h' : SlOwn w base' e' O n' c' xs') (he : e ≠ e') (hg : w.grownBy w' (blkOf O)) : SlOwn w' base e A n c xs :=
  h.grown hg fun k hk hk' => h.unlike h' he k hk hk'.symm

set_option maxRecDepth 100000 in
set_option maxHeartbeats 1600000 in
theorem refAt_any (s : ByteArray) (ps : List Int) (P : Option Addr) (n c : Nat) (hs : s.size ≤ 1000) (hn : n ≤ 1000) (w : World) (hp : Hid (SlIn w P n (ps.map (Value.int .i64)))) :
    Calls Try.prog 11 #[.string s, .slice P n c] w fun x w' => ∃ O co, x = .returned (.slice O (n + 1) co) ∧ Hid (SlIn w' O (n + 1) (strs (cutAt s ps))) ∧ Hid (Below w.heap.size w w') := by
  obtain ⟨j0, hj, hy0, hy1, hy2⟩ := info_parts infoInt7
  obtain ⟨i0, hi, hz0, hz1, hz2⟩ := info_parts infoStr7
  have Hj := Lib.hid hj
  have Hy0 := Lib.hid hy0
  have Hy1 := Lib.hid hy1
  have Hy2 := Lib.hid hy2
  have Hi := Lib.hid hi
  have Hz0 := Lib.hid hz0
  have Hz1 := Lib.hid hz1
  have Hz2 := Lib.hid hz2
  clear hj hy0 hy1 hy2 hi hz0 hz1 hz2
  have HLN := Lib.hid (show ps.length = n by have := hp.out.1; simpa using this)
  go_enter Try.func11, Try.ntmps11
  go_wp2_with fail
  go_loopw [5, 16] (fun left i wr => ∃ (k : Nat) (A : Option Addr) (cA : Nat), k ≤ n ∧ i = .int .i64 k ∧ left = .slice A k cA ∧ Hid (SlOwn wr w.heap.size 3 A k cA (ints ((ps.take k).map (holdN s.size)))) ∧ Hid (Below w.heap.size w wr)) (fun _ i _ => n - (intOf i).toNat)
  case atStart => exact ⟨0, none, 0, Nat.zero_le _, rfl, rfl, Lib.hid (SlOwn.nothing _ _ _), Lib.hid (Below.refl _ _)⟩
  case round =>
    obtain ⟨k, A, cA, hk, rfl, rfl, HO, HB⟩ := hrel
    obtain ⟨W, hW⟩ : ∃ W, W = wr := ⟨_, rfl⟩
    subst hW
    by_cases hlt : k < n
    · obtain ⟨x, hx⟩ : ∃ x, ps[k]? = some x := ⟨_, List.getElem?_eq_getElem (by rw [HLN.out]; exact hlt)⟩
      obtain ⟨a, rfl, hca⟩ := hp.out.at_ (show (ps.map (Value.int .i64))[k]? = some (.int .i64 x) by simp [hx])
      have hca2 : W.cell? (a.add k) = some (.int .i64 x) := mem_cell HB.out hca
      have HX := Lib.hid hx
      clear hx hca
      go_wp2_with fail
      refine (above (refHeld_any x s.size _)).mono ?_
      rintro _ _ ⟨rfl, y, rfl⟩
      have HO1 := Lib.hid (HO.out.below (onto_below W y))
      have HB1 := Lib.hid (HB.out.trans ((onto_below W y).mono HB.out.size))
      obtain ⟨W2, hW2⟩ : ∃ W2, W2 = onto W y := ⟨_, rfl⟩
      rw [← hW2] at HO1 HB1
      rw [← hW2]
      clear hW2 hca2
      have HO2 := Lib.hid (HO1.out.below (up_alloc (Below.refl _ W2) (.cells #[.int .i64 ((holdN s.size x : Nat) : Int)] 3)))
      have HBW := Lib.hid (Nat.le_trans HB1.out.size (up_alloc (Below.refl _ W2) (.cells #[.int .i64 ((holdN s.size x : Nat) : Int)] 3)).size)
      go_wp2_with (at_builtin; refine wpList_append_sl _ rfl (.tmp 20) (.tmp 25) 22 rfl 3 j0 (.int .i64 0) 8 Try.underlying22 Hj.out Hy0.out Hy1.out Hy2.out rfl w.heap.size A k cA (ints ((ps.take k).map (holdN s.size))) rfl HO2.out (some ⟨W2.heap.size, 0, none⟩) 1 1 [.int .i64 ((holdN s.size x : Nat) : Int)] rfl (slIn_new1 W2 3 _) (by intro u hu; simp at hu; subst hu; rfl) (by unfold maxLen; omega) (by omega) HBW.out ?_; intro A' c' w3 hown hgrow _; have HO3 := Lib.hid hown; have HG3 := Lib.hid hgrow; clear hown hgrow)
      go_roundw
      case rel =>
        refine ⟨k + 1, A', c', by omega, by go_num, rfl, Lib.hid ?_, Lib.hid ?_⟩
        · rw [List.take_add_one, HX.out, List.map_append, ints_append]; exact HO3.out
        · exact (HB1.out.trans ((up_alloc (Below.refl _ W2) (.cells #[.int .i64 ((holdN s.size x : Nat) : Int)] 3)).mono HB1.out.size)).grown HG3.out HBW.out (fun j hj => (HO.out.blk j hj).1)
      case measure => simp [intOf]; omega
    · obtain rfl : k = n := by omega
      have HO1 := Lib.hid (show SlOwn W w.heap.size 3 A k cA (ints (ps.map (holdN s.size))) by have := HO.out; rwa [List.take_of_length_le (by rw [HLN.out]; omega)] at this)
      clear HO hlt
      go_wp2_with fail
      go_loopw [5, 8, 9] (fun left out f wr => ∃ (m r fN : Nat) (A O : Option Addr) (cA cO : Nat) (L : List Nat) (X : List ByteArray), r + m = k ∧ left = .slice A m cA ∧ out = .slice O r cO ∧ f = .int .i64 fN ∧ fN ≤ s.size ∧ Hid (L.length = m ∧ (∀ x ∈ L, fN ≤ x ∧ x ≤ s.size) ∧ X.length = r ∧ X ++ pcs s fN (srt L) = cutAt s ps) ∧ Hid (SlOwn wr w.heap.size 3 A m cA (ints L)) ∧ Hid (SlOwn wr w.heap.size 9 O r cO (strs X)) ∧ Hid (Below w.heap.size w wr)) (fun left _ _ _ => slLen left)
      case atStart =>
        refine ⟨k, 0, 0, A, none, cA, 0, ps.map (holdN s.size), [], by omega, rfl, rfl, rfl, Nat.zero_le _, Lib.hid ⟨by rw [List.length_map]; exact HLN.out, ?_, rfl, rfl⟩, HO1, Lib.hid (SlOwn.nothing _ _ _), HB⟩
        intro x hx
        obtain ⟨y, _, rfl⟩ := List.mem_map.1 hx
        exact ⟨Nat.zero_le _, holdN_le _ _⟩
      case round =>
        clear HO1 HB
        obtain ⟨m, r, fN, A1, O, cA1, cO, L, X, hrm, rfl, rfl, rfl, hf, HL, HA, HX, HB⟩ := hrel
        obtain ⟨W3, hW3⟩ : ∃ W3, W3 = wr := ⟨_, rfl⟩
        subst hW3
        by_cases hlt : 0 < m
        · go_wp2_with fail
          go_loopw [10, 33] (fun kk i wr3 => ∃ (q j : Nat), j ≤ m ∧ q < m ∧ i = .int .i64 j ∧ kk = .int .i64 q ∧ Hid (∀ z x y, z < j → L[z]? = some x → L[q]? = some y → y ≤ x) ∧ Hid (∃ y, wr3 = onto W3 y)) (fun _ i _ => m - (intOf i).toNat)
          case atStart => exact ⟨0, 0, by omega, by omega, rfl, rfl, Lib.hid (fun z x y hz => by omega), Lib.hid (onto_self W3)⟩
          case round =>
            obtain ⟨q, j, hj, hq, rfl, rfl, HQ, HY⟩ := hrel
            obtain ⟨y3, rfl⟩ := HY.out
            clear HY
            by_cases hlt3 : j < m
            · obtain ⟨x, hx⟩ : ∃ x, L[j]? = some x := ⟨_, List.getElem?_eq_getElem (by rw [HL.out.1]; exact hlt3)⟩
              obtain ⟨y, hy⟩ : ∃ y, L[q]? = some y := ⟨_, List.getElem?_eq_getElem (by rw [HL.out.1]; exact hq)⟩
              obtain ⟨a, rfl, hca⟩ := HA.out.toIn.at_ (ints_get hx)
              obtain ⟨a', hae, hcb⟩ := HA.out.toIn.at_ (ints_get hy)
              obtain rfl : a = a' := by injection hae
              have za : ∀ z, (onto W3 z).cell? (a.add j) = some (.int .i64 (x : Int)) := fun z => mem_cell (onto_below W3 z) hca
              have zb : ∀ z, (onto W3 z).cell? (a.add q) = some (.int .i64 (y : Int)) := fun z => mem_cell (onto_below W3 z) hcb
              have HXY := Lib.hid (And.intro hx hy)
              clear hx hy hca hcb hae
              have hstep : ∀ q', (q' = q ∧ y ≤ x) ∨ (q' = j ∧ x < y) → ∀ z x' y', z < j + 1 → L[z]? = some x' → L[q']? = some y' → y' ≤ x' := fun q' hq' z x' y' hz h1 h2 => by
                rcases hq' with ⟨rfl, hle⟩ | ⟨rfl, hle⟩
                · obtain rfl : y = y' := by have := HXY.out.2.symm.trans h2; injection this
                  by_cases hzj : z = j
                  · subst hzj
                    obtain rfl : x = x' := by have := HXY.out.1.symm.trans h1; injection this
                    exact hle
                  · exact HQ.out z x' y (by omega) h1 h2
                · obtain rfl : x = y' := by have := HXY.out.1.symm.trans h2; injection this
                  by_cases hzj : z = q'
                  · subst hzj
                    obtain rfl : x = x' := by have := HXY.out.1.symm.trans h1; injection this
                    exact Nat.le_refl _
                  · have := HQ.out z x' y (by omega) h1 HXY.out.2; omega
              have HST := Lib.hid hstep
              clear hstep
              go_wp2_with fail
              refine wp_region_onto (by kernel_rfl) (by kernel_rfl) ?_
              repeat (go_big_quiet_step (fail))
              refine wpQuiet_nil ?_
              intro _ hw'
              obtain ⟨x1, hw''⟩ := hw'
              subst hw''
              by_cases hxy : x < y
              · have hxi : decide ((x : Int) < (y : Int)) = true := by simp; omega
                go_wp2_with fail
                go_roundw
                case rel => exact ⟨j, j + 1, by omega, by omega, by go_num, rfl, Lib.hid (HST.out j (.inr ⟨rfl, hxy⟩)), Lib.hid ⟨y3.up x1, rfl⟩⟩
                case measure => simp [intOf]; omega
              · have hxi : decide ((x : Int) < (y : Int)) = false := by simp; omega
                go_wp2_with fail
                go_roundw
                case rel => exact ⟨q, j + 1, by omega, by omega, by go_num, rfl, Lib.hid (HST.out q (.inl ⟨rfl, by omega⟩)), Lib.hid ⟨y3.up x1, rfl⟩⟩
                case measure => simp [intOf]; omega
            · obtain rfl : j = m := by omega
              clear hlt3
              obtain ⟨y, hy⟩ : ∃ y, L[q]? = some y := ⟨_, List.getElem?_eq_getElem (by rw [HL.out.1]; exact hq)⟩
              have hleast : ∀ x ∈ L, y ≤ x := fun x hx => by
                obtain ⟨z, hz, he⟩ := List.mem_iff_getElem.1 hx
                exact HQ.out z x y (by rw [HL.out.1] at hz; exact hz) (by rw [← he]; exact List.getElem?_eq_getElem hz) hy
              have hyb := HL.out.2.1 y (List.mem_of_getElem? hy)
              have hfy : fN ≤ y := hyb.1
              have hys : y ≤ s.size := hyb.2
              have HSR := Lib.hid (srt_least hy hleast)
              have HLB := Lib.hid hleast
              have HYQ := Lib.hid hy
              have HA4 := Lib.hid (HA.out.below (onto_below W3 y3))
              have HX4 := Lib.hid (HX.out.below (onto_below W3 y3))
              have HB4 := Lib.hid (HB.out.trans ((onto_below W3 y3).mono HB.out.size))
              obtain ⟨W4, hW4⟩ : ∃ W4, W4 = onto W3 y3 := ⟨_, rfl⟩
              rw [← hW4] at HA4 HX4 HB4
              rw [← hW4]
              clear hW4 HQ hleast hyb
              obtain ⟨a, rfl, hca⟩ := HA4.out.toIn.at_ (ints_get hy)
              clear hy HA HX HB
              have hsl := fun (V : World) => run_sub (P := Try.prog) V 9 s fN y (fN : Int) (y : Int) rfl rfl hfy hys Try.underlying9
              have B0 := Lib.hid (up_alloc (Below.refl _ W4) (.cells #[.string (s.extract fN y)] 9))
              have HBW := Lib.hid (Nat.le_trans HB4.out.size B0.out.size)
              go_wp2_with (at_builtin; refine wpList_append_sl _ rfl (.tmp 47) (.tmp 55) 24 rfl 9 i0 (.string ⟨#[]⟩) 16 Try.underlying24 Hi.out Hz0.out Hz1.out Hz2.out rfl w.heap.size O r cO (strs X) rfl (HX4.out.below B0.out) (some ⟨W4.heap.size, 0, none⟩) 1 1 [.string (s.extract fN y)] rfl (slIn_new1 W4 9 _) (by intro u hu; simp at hu; subst hu; rfl) (by unfold maxLen; omega) (by omega) HBW.out ?_; intro O' cO' w5 hown hgrow _; have HA5 := Lib.hid ((HA4.out.below B0.out).grow_other (HX4.out.below B0.out) (by decide) hgrow); have hc5 : w5.cell? (a.add q) = some (.int .i64 (y : Int)) := (by obtain ⟨a5, e5, h5⟩ := HA5.out.toIn.at_ (ints_get HYQ.out); injection e5 with e5; subst e5; exact h5); have HO5 := Lib.hid hown; have HG5 := Lib.hid hgrow; clear hown hgrow)
              have HB5 := Lib.hid ((HB4.out.trans (B0.out.mono HB4.out.size)).grown HG5.out HBW.out (fun j hj => (HX4.out.blk j hj).1))
              clear hca hsl B0 HBW HG5 HA4 HB4 HX4 hc5
              go_loopw [12, 63] (fun rest i wr4 => ∃ (z g : Nat) (R : Option Addr) (cR : Nat), z ≤ j ∧ g ≤ z ∧ i = .int .i64 z ∧ rest = .slice R g cR ∧ Hid ((gone L q z).length = g) ∧ Hid (SlOwn wr4 w5.heap.size 3 R g cR (ints (gone L q z))) ∧ Hid (Below w5.heap.size w5 wr4)) (fun _ i _ => j - (intOf i).toNat)
              case atStart => exact ⟨0, 0, none, 0, Nat.zero_le _, by omega, rfl, rfl, Lib.hid (by rw [gone_zero]; rfl), Lib.hid (by rw [gone_zero]; exact SlOwn.nothing _ _ _), Lib.hid (Below.refl _ _)⟩
              case round =>
                obtain ⟨z, g, R, cR, hz, hg, rfl, rfl, HGL, HR, HBR⟩ := hrel
                obtain ⟨W6, hW6⟩ : ∃ W6, W6 = wr := ⟨_, rfl⟩
                subst hW6
                by_cases hlt4 : z < j
                · by_cases hzq : z = q
                  · have hzi : ((z : Int) != (q : Int)) = false := by simp; omega
                    go_wp2_with fail
                    go_roundw
                    case rel => exact ⟨z + 1, g, R, cR, by omega, by omega, by go_num, rfl, Lib.hid (by have h1 := HGL.out; rw [hzq] at h1 ⊢; rw [gone_at]; exact h1), Lib.hid (by have h1 := HR.out; rw [hzq] at h1 ⊢; rw [gone_at]; exact h1), HBR⟩
                    case measure => simp [intOf]; omega
                  · have hzi : ((z : Int) != (q : Int)) = true := by simp; omega
                    obtain ⟨x, hx⟩ : ∃ x, L[z]? = some x := ⟨_, List.getElem?_eq_getElem (by rw [HL.out.1]; exact hlt4)⟩
                    have HXZ := Lib.hid hx
                    have hcz : W6.cell? (a.add z) = some (.int .i64 (x : Int)) := by
                      obtain ⟨a5, e5, h5⟩ := (HA5.out.below HBR.out).toIn.at_ (ints_get hx)
                      injection e5 with e5; subst e5; exact h5
                    have B1 := Lib.hid (up_alloc (Below.refl _ W6) (.cells #[.int .i64 (x : Int)] 3))
                    have HBZ := Lib.hid (Nat.le_trans HBR.out.size B1.out.size)
                    clear hx
                    go_wp2_with (at_builtin; refine wpList_append_sl _ rfl (.tmp 69) (.tmp 74) 22 rfl 3 j0 (.int .i64 0) 8 Try.underlying22 Hj.out Hy0.out Hy1.out Hy2.out rfl w5.heap.size R g cR (ints (gone L q z)) rfl (HR.out.below B1.out) (some ⟨W6.heap.size, 0, none⟩) 1 1 [.int .i64 (x : Int)] rfl (slIn_new1 W6 3 _) (by intro u hu; simp at hu; subst hu; rfl) (by unfold maxLen; omega) (by omega) HBZ.out ?_; intro R' cR' w7 hown hgrow _; have HR7 := Lib.hid hown; have HG7 := Lib.hid hgrow; clear hown hgrow)
                    go_roundw
                    case rel =>
                      refine ⟨z + 1, g + 1, R', cR', by omega, by omega, by go_num, rfl, Lib.hid ?_, Lib.hid ?_, Lib.hid ?_⟩
                      · rw [gone_on L q z x HXZ.out hzq, List.length_append, HGL.out]; rfl
                      · rw [gone_on L q z x HXZ.out hzq, ints_append]; exact HR7.out
                      · exact (HBR.out.trans (B1.out.mono HBR.out.size)).grown HG7.out HBZ.out (fun j hj => (HR.out.blk j hj).1)
                    case measure => simp [intOf]; omega
                · obtain rfl : z = j := by omega
                  have hga : gone L q z = L.eraseIdx q := by have := gone_all L q (by rw [HL.out.1]; exact hq); rwa [HL.out.1] at this
                  have hgl : g = z - 1 := by have h1 := HGL.out; rw [hga, List.length_eraseIdx, HL.out.1, if_pos hq] at h1; exact h1.symm
                  have HR8 := Lib.hid (show SlOwn W6 w.heap.size 3 R g cR (ints (L.eraseIdx q)) by rw [← hga]; exact HR.out.mono HB5.out.size)
                  have HGL8 := Lib.hid (show (L.eraseIdx q).length = g by rw [← hga]; exact HGL.out)
                  clear hga HR HGL hlt4
                  go_wp2_with fail
                  go_roundw
                  case rel =>
                    refine ⟨g, r + 1, y, R, O', cR, cO', L.eraseIdx q, X ++ [s.extract fN y], by omega, rfl, rfl, rfl, hys, Lib.hid ⟨HGL8.out, ?_, by simp [HL.out.2.2.1], ?_⟩, HR8, Lib.hid ?_, Lib.hid (HB5.out.trans (HBR.out.mono HB5.out.size))⟩
                    · intro x hx
                      have hm := List.mem_of_mem_eraseIdx hx
                      exact ⟨HLB.out x hm, (HL.out.2.1 x hm).2⟩
                    · rw [← HL.out.2.2.2, HSR.out, pcs]; simp
                    · rw [strs_append]; exact HO5.out.below HBR.out
                  case measure => simp [slLen]; omega
        · obtain rfl : m = 0 := by omega
          have B0 := Lib.hid (up_alloc (Below.refl _ W3) (.cells #[.string (s.extract fN s.size)] 9))
          have HBW := Lib.hid (Nat.le_trans HB.out.size B0.out.size)
          go_wp2_with (at_builtin; refine wpList_append_sl _ rfl (.tmp 78) (.tmp 82) 24 rfl 9 i0 (.string ⟨#[]⟩) 16 Try.underlying24 Hi.out Hz0.out Hz1.out Hz2.out rfl w.heap.size O r cO (strs X) rfl (HX.out.below B0.out) (some ⟨W3.heap.size, 0, none⟩) 1 1 [.string (s.extract fN s.size)] rfl (slIn_new1 W3 9 _) (by intro u hu; simp at hu; subst hu; rfl) (by unfold maxLen; omega) (by omega) HBW.out ?_; intro O' cO' w5 hown hgrow _; have HO5 := Lib.hid hown; have HG5 := Lib.hid hgrow; clear hown hgrow)
          go_ret
          have hL0 : L = [] := List.eq_nil_of_length_eq_zero HL.out.1
          refine ⟨O', cO', ?_, Lib.hid ?_, Lib.hid ?_⟩
          · have : r = k := by omega
            subst this; rfl
          · have h1 := HL.out.2.2.2
            rw [hL0] at h1
            rw [← h1]
            have : r = k := by omega
            subst this
            have h2 := HO5.out.toIn
            simpa [srt, pcs, strs_append, strs] using h2
          · exact (HB.out.trans (B0.out.mono HB.out.size)).grown HG5.out HBW.out (fun j hj => (HX.out.blk j hj).1)
end Go.Proofs.Ytjpemelnnemmiaa

/- Layer 7: the contract of the document's Held; numbers as cells. Layer 7: the contract of the document's By. -/
import Derived.Test.YtoeanbfemgmgnaaGreatDoorRows
import Derived.Test.YtoeanbfemgmgnaaGreatDoorZk
import Derived.Test.YtoeanbfemgmgnaaGreatDoorZp
namespace Go.Proofs.YtoeanbfemgmgnaaGreatDoor
open Go.ChangeShapes Go.WideShapes Go.ChangeAt Go.RowKit
set_option linter.unusedVariables false
set_option linter.unusedSimpArgs false

theorem refHeld_any (n : Int) (m : Nat) (w : World) : Calls Tryz.prog 40 #[.int .i64 n, .int .i64 (m : Int)] w fun x w' => x = .returned (.int .i64 ((holdN m n : Nat) : Int)) ∧ Below w.heap.size w w' := by
  by_cases h0 : n < 0
  · have HV := Lib.hid (show holdN m n = 0 by unfold holdN; rw [if_pos h0])
    go_enter Tryz.func40, Tryz.ntmps40
    go_wp2_with fail
    go_ret
    exact ⟨by rw [HV.out]; rfl, Below.refl _ _⟩
  · by_cases h1 : (m : Int) < n
    · have HV := Lib.hid (show holdN m n = m by unfold holdN; rw [if_neg h0, if_pos h1])
      go_enter Tryz.func40, Tryz.ntmps40
      go_wp2_with fail
      go_ret
      exact ⟨by rw [HV.out]; rfl, Below.refl _ _⟩
    · have HV := Lib.hid (show ((holdN m n : Nat) : Int) = n by unfold holdN; rw [if_neg h0, if_neg h1]; omega)
      go_enter Tryz.func40, Tryz.ntmps40
      go_wp2_with fail
      go_ret
      exact ⟨by rw [HV.out]; rfl, Below.refl _ _⟩

theorem infoStr7 : (Tryz.prog.info? 9).map (fun i => (i.zero, i.size, i.bytes)) = some (some (.string ⟨#[]⟩), 1, 16) := by kernel_rfl

end Go.Proofs.YtoeanbfemgmgnaaGreatDoor

namespace Go.Proofs.YtoeanbfemgmgnaaGreatDoor
open Go.ChangeShapes Go.WideShapes Go.ChangeAt Go.RowKit
set_option linter.unusedVariables false
set_option linter.unusedSimpArgs false

theorem some_pos {z : List Int} (h : z.any (fun n => decide (0 < n)) = true) : ∃ (j : Nat) (n : Int), j < z.length ∧ z[j]? = some n ∧ 0 < n := by
  obtain ⟨n, hn, hp⟩ := List.any_eq_true.1 h
  obtain ⟨j, hj, he⟩ := List.mem_iff_getElem.1 hn
  exact ⟨j, n, hj, by rw [List.getElem?_eq_getElem hj, he], by simpa using hp⟩
theorem str_empty (s : ByteArray) : s.toList = [] ↔ s.size = 0 := by
  rw [ByteArray.toList_eq]
  constructor
  · intro h; have := congrArg List.length h; simpa using this
  · intro h; have : s.data = #[] := Array.eq_empty_of_size_eq_zero h
    rw [this]

set_option maxRecDepth 100000 in
set_option maxHeartbeats 1600000 in
theorem refBy_new (s : ByteArray) (ps : List Int) (P : Option Addr) (n c : Nat) (hs : s.size ≤ 2500) (hn : n ≤ 100) (w : World) (hp : Hid (SlIn w P n (ps.map (Value.int .i64)))) :
    Calls Tryz.prog 25 #[.string s, .slice P n c] w fun x w' => ∃ X O co, x = .returned (.slice O (List.length X) co) ∧ Hid (ByOut s ps X) ∧ Hid (X.length ≤ 300000) ∧ Hid (SlIn w' O X.length (strs X)) ∧ Hid (∀ k, blkOf O = some k → w.heap.size ≤ k ∧ k < w'.heap.size) ∧ Hid (Below w.heap.size w w') := by
  obtain ⟨i0, hi, hz0, hz1, hz2⟩ := info_parts infoStr7
  have Hi := Lib.hid hi
  have Hz0 := Lib.hid hz0
  have Hz1 := Lib.hid hz1
  have Hz2 := Lib.hid hz2
  clear hi hz0 hz1 hz2
  have HLN := Lib.hid (show ps.length = n by have := hp.out.1; simpa using this)
  go_enter Tryz.func25, Tryz.ntmps25
  go_wp2_with fail
  go_loopw [5, 15] (fun so i wr => ∃ (k : Nat) (v : Bool), k ≤ n ∧ i = .int .i64 k ∧ so = .bool v ∧ Hid ((ps.take k).any (fun n => decide (0 < n)) = v) ∧ Hid (∃ y, wr = onto w y)) (fun _ i _ => n - (intOf i).toNat)
  case atStart => exact ⟨0, false, Nat.zero_le _, rfl, rfl, Lib.hid rfl, Lib.hid (onto_self w)⟩
  case round =>
    obtain ⟨k, v, hk, rfl, rfl, HV, HY⟩ := hrel
    obtain ⟨y, rfl⟩ := HY.out
    clear HY
    by_cases hlt : k < n
    · obtain ⟨x, hx⟩ : ∃ x, ps[k]? = some x := ⟨_, List.getElem?_eq_getElem (by rw [HLN.out]; exact hlt)⟩
      obtain ⟨a, rfl, hca⟩ := hp.out.at_ (show (ps.map (Value.int .i64))[k]? = some (.int .i64 x) by simp [hx])
      have za : ∀ z, (onto w z).cell? (a.add k) = some (.int .i64 x) := fun z => mem_cell (onto_below w z) hca
      have hnx : (ps.take (k + 1)).any (fun n => decide (0 < n)) = (v || decide (0 < x)) := by
        rw [List.take_add_one, hx, List.any_append, HV.out]; simp
      have HNX := Lib.hid hnx
      clear hx hca hnx
      cases v
      · obtain ⟨v2, hv2⟩ : ∃ v2, decide (0 < x) = v2 := ⟨_, rfl⟩
        rw [hv2] at HNX
        go_wp2_with fail
        go_roundw
        case rel => exact ⟨k + 1, v2, by omega, by go_num, by simp [← hv2], Lib.hid HNX.out, Lib.hid ⟨y, rfl⟩⟩
        case measure => simp [intOf]; omega
      · go_wp2_with fail
        go_roundw
        case rel => exact ⟨k + 1, true, by omega, by go_num, rfl, Lib.hid HNX.out, Lib.hid ⟨y, rfl⟩⟩
        case measure => simp [intOf]; omega
    · obtain rfl : k = n := by omega
      rw [List.take_of_length_le (by rw [HLN.out]; omega)] at HV
      have hb0 := Lib.hid (onto_below w y)
      obtain ⟨W, hW⟩ : ∃ W, W = onto w y := ⟨_, rfl⟩
      rw [← hW] at hb0
      rw [← hW]
      clear hW hlt
      by_cases h0 : s.size = 0
      · have hse := (str_empty s).2 h0
        have hse2 : s.toList.isEmpty = true := by rw [hse]; rfl
        go_wp2_with fail
        go_ret
        exact ⟨[s], _, 1, rfl, Lib.hid (by unfold ByOut; rw [if_pos (.inl h0)]), Lib.hid (by simp), Lib.hid (slIn_new1 W 9 (.string s)), Lib.hid (fun k hk => by simp [blkOf] at hk; have := hb0.out.size; simp; omega), Lib.hid (hb0.out.trans ((up_alloc (Below.refl _ W) _).mono hb0.out.size))⟩
      · have hse : ¬ s.toList = [] := fun h => h0 ((str_empty s).1 h)
        have hse2 : s.toList.isEmpty = false := by simpa using hse
        cases v
        · go_wp2_with fail
          go_ret
          exact ⟨[s], _, 1, rfl, Lib.hid (by unfold ByOut; rw [if_pos (.inr HV.out)]), Lib.hid (by simp), Lib.hid (slIn_new1 W 9 (.string s)), Lib.hid (fun k hk => by simp [blkOf] at hk; have := hb0.out.size; simp; omega), Lib.hid (hb0.out.trans ((up_alloc (Below.refl _ W) _).mono hb0.out.size))⟩
        · obtain ⟨jp, np, hjp, hnp, hpos⟩ := some_pos HV.out
          have HJP := Lib.hid (show jp < k ∧ ps[jp]? = some np ∧ 0 < np from ⟨by rw [HLN.out] at hjp; exact hjp, hnp, hpos⟩)
          have HOUT := Lib.hid (show ∀ X, ByR s ps 0 ps X → ByOut s ps X from fun X h => by unfold ByOut; rw [if_neg (by rintro (h1 | h1); exact h0 h1; rw [HV.out] at h1; cases h1)]; exact h)
          clear hjp hnp hpos
          go_wp2_with fail
          go_loopw [8, 9] (fun out f wr => ∃ (p r : Nat) (O : Option Addr) (cO : Nat) (X : List ByteArray), p ≤ s.size ∧ out = .slice O r cO ∧ f = .int .i64 p ∧ Hid (X.length = r ∧ r ≤ p * k ∧ ∀ Y, ByR s ps p ps Y → ByR s ps 0 ps (X ++ Y)) ∧ Hid (SlOwn wr w.heap.size 9 O r cO (strs X)) ∧ Hid (Below w.heap.size w wr)) (fun _ f _ => s.size - (intOf f).toNat)
          case atStart => exact ⟨0, 0, none, 0, [], Nat.zero_le _, rfl, rfl, Lib.hid ⟨rfl, Nat.zero_le _, fun Y h => h⟩, Lib.hid (SlOwn.nothing _ _ _), hb0⟩
          case round =>
            clear hb0
            obtain ⟨p, r, O, cO, X, hps, rfl, rfl, HX, HO, HB⟩ := hrel
            obtain ⟨W3, hW3⟩ : ∃ W3, W3 = wr := ⟨_, rfl⟩
            subst hW3
            by_cases hlt : p < s.size
            · go_wp2_with fail
              go_loopw [8, 9, 39] (fun out f i wr3 => ∃ (j p2 r2 : Nat) (O2 : Option Addr) (cO2 : Nat) (X2 : List ByteArray), j ≤ k ∧ p ≤ p2 ∧ p2 ≤ s.size ∧ out = .slice O2 r2 cO2 ∧ f = .int .i64 p2 ∧ i = .int .i64 j ∧ Hid (X2.length = r2 ∧ r2 ≤ p * k + j ∧ (∀ Y, ByR s ps p2 (ps.drop j) Y → ByR s ps 0 ps (X2 ++ Y)) ∧ (jp < j → p < p2)) ∧ Hid (SlOwn wr3 w.heap.size 9 O2 r2 cO2 (strs X2)) ∧ Hid (Below w.heap.size w wr3)) (fun _ _ i _ => k - (intOf i).toNat)
              case atStart => exact ⟨0, p, r, O, cO, X, Nat.zero_le _, Nat.le_refl _, hps, rfl, rfl, rfl, Lib.hid ⟨HX.out.1, by have := HX.out.2.1; omega, HX.out.2.2, fun h => by omega⟩, HO, HB⟩
              case round =>
                obtain ⟨j, p2, r2, O2, cO2, X2, hj, hp2, hp2s, rfl, rfl, rfl, HX2, HO2, HB2⟩ := hrel
                obtain ⟨W4, hW4⟩ : ∃ W4, W4 = wr := ⟨_, rfl⟩
                subst hW4
                by_cases hlt2 : j < k
                · obtain ⟨x, hx⟩ : ∃ x, ps[j]? = some x := ⟨_, List.getElem?_eq_getElem (by rw [HLN.out]; exact hlt2)⟩
                  obtain ⟨a, rfl, hca⟩ := hp.out.at_ (show (ps.map (Value.int .i64))[j]? = some (.int .i64 x) by simp [hx])
                  have hca2 : W4.cell? (a.add j) = some (.int .i64 x) := mem_cell HB2.out hca
                  have hdr : ps.drop j = x :: ps.drop (j + 1) := by
                    obtain ⟨h1, h2⟩ := List.getElem?_eq_some_iff.1 hx
                    rw [List.drop_eq_getElem_cons h1, h2]
                  have HDR := Lib.hid hdr
                  have HXJ := Lib.hid hx
                  clear hx hca hdr
                  by_cases hin : p2 < s.size
                  · go_wp2_with fail
                    have hsub : ((s.size : Int) - (p2 : Int)) = ((s.size - p2 : Nat) : Int) := by omega
                    rw [hsub]
                    refine (above (refHeld_any x (s.size - p2) _)).mono ?_
                    rintro _ _ ⟨rfl, y4, rfl⟩
                    obtain ⟨g, hg⟩ : ∃ g, holdN (s.size - p2) x = g := ⟨_, rfl⟩
                    have hgle : g ≤ s.size - p2 := by rw [← hg]; exact holdN_le _ _
                    have hgpos : 0 < x → 0 < g := fun h => by rw [← hg]; unfold holdN; split; omega; split <;> omega
                    rw [hg]
                    have HG := Lib.hid hg
                    have HGP := Lib.hid hgpos
                    have HO3 := Lib.hid (HO2.out.below (onto_below W4 y4))
                    have HB3 := Lib.hid (HB2.out.trans ((onto_below W4 y4).mono HB2.out.size))
                    obtain ⟨W5, hW5⟩ : ∃ W5, W5 = onto W4 y4 := ⟨_, rfl⟩
                    rw [← hW5] at HO3 HB3
                    rw [← hW5]
                    clear hW5 hca2 hg hgpos
                    have hr2 : r2 ≤ 250200 := by
                      have h1 := HX2.out.2.1
                      have h2 : p * k ≤ 2500 * 100 := Nat.mul_le_mul (by omega) hn
                      omega
                    have hsl := fun (V : World) => run_sub (P := Tryz.prog) V 9 s p2 (p2 + g) (p2 : Int) ((p2 : Int) + (g : Int)) rfl (by omega) (by omega) (by omega) Tryz.underlying9
                    have B0 := Lib.hid (up_alloc (Below.refl _ W5) (.cells #[.string (s.extract p2 (p2 + g))] 9))
                    have HBW := Lib.hid (Nat.le_trans HB3.out.size B0.out.size)
                    go_wp2_with (at_builtin; refine wpList_append_sl _ rfl (.tmp 55) (.tmp 60) 38 rfl 9 i0 (.string ⟨#[]⟩) 16 Tryz.underlying38 Hi.out Hz0.out Hz1.out Hz2.out rfl w.heap.size O2 r2 cO2 (strs X2) rfl (HO3.out.below B0.out) (some ⟨W5.heap.size, 0, none⟩) 1 1 [.string (s.extract p2 (p2 + g))] rfl (slIn_new1 W5 9 _) (by intro u hu; simp at hu; subst hu; rfl) (by unfold maxLen; omega) (by omega) HBW.out ?_; intro O' cO' w6 hown hgrow _; have HO6 := Lib.hid hown; have HG6 := Lib.hid hgrow; clear hown hgrow)
                    go_roundw
                    case rel =>
                      refine ⟨j + 1, p2 + g, r2 + 1, O', cO', X2 ++ [s.extract p2 (p2 + g)], by omega, by omega, by omega, rfl, by go_num, by go_num, Lib.hid ⟨by simp [HX2.out.1], by have := HX2.out.2.1; omega, fun Y hY => ?_, fun hj1 => ?_⟩, Lib.hid ?_, Lib.hid ?_⟩
                      · rw [List.append_assoc]
                        refine HX2.out.2.2.1 _ ?_
                        rw [HDR.out, List.singleton_append, ← HG.out]
                        refine .step hin ?_
                        rw [HG.out]; exact hY
                      · by_cases hjj : jp < j
                        · have := HX2.out.2.2.2 hjj; omega
                        · have hje : jp = j := by omega
                          have h1 := HJP.out.2.1
                          rw [hje, HXJ.out] at h1
                          have hxn : x = np := by injection h1
                          have := HGP.out (by rw [hxn]; exact HJP.out.2.2)
                          omega
                      · rw [strs_append]; exact HO6.out
                      · exact (HB3.out.trans (B0.out.mono HB3.out.size)).grown HG6.out HBW.out (fun j hj => (HO3.out.blk j hj).1)
                    case measure => simp [intOf]; omega
                  · go_wp2_with fail
                    go_roundw
                    case rel =>
                      refine ⟨j + 1, p2, r2, O2, cO2, X2, by omega, hp2, hp2s, rfl, rfl, by go_num, Lib.hid ⟨HX2.out.1, by have := HX2.out.2.1; omega, fun Y hY => ?_, fun _ => by omega⟩, HO2, HB2⟩
                      obtain rfl := hY.at_end (by omega)
                      exact HX2.out.2.2.1 [] (.done (by omega))
                    case measure => simp [intOf]; omega
                · obtain rfl : j = k := by omega
                  have hpp : p < p2 := HX2.out.2.2.2 HJP.out.1
                  go_wp2_with fail
                  go_roundw
                  case rel =>
                    refine ⟨p2, r2, O2, cO2, X2, hp2s, rfl, rfl, Lib.hid ⟨HX2.out.1, ?_, fun Y hY => ?_⟩, HO2, HB2⟩
                    · have h1 := HX2.out.2.1
                      have h2 : (p + 1) * j ≤ p2 * j := Nat.mul_le_mul_right j hpp
                      rw [Nat.add_mul] at h2; omega
                    · refine HX2.out.2.2.1 Y ?_
                      rw [List.drop_of_length_le (by rw [HLN.out]; omega)]
                      by_cases h : p2 < s.size
                      · exact .wrap h hY
                      · obtain rfl := hY.at_end (by omega)
                        exact .done (by omega)
                  case measure => simp [intOf]; omega
            · go_wp2_with fail
              go_ret
              have hr : r ≤ 250000 := by
                have h1 := HX.out.2.1
                have h2 : p * k ≤ 2500 * 100 := Nat.mul_le_mul (by omega) hn
                omega
              have h3 := HX.out.2.2 [] (.done (by omega))
              rw [List.append_nil] at h3
              refine ⟨X, O, cO, ?_, Lib.hid (HOUT.out X h3), Lib.hid (by rw [HX.out.1]; omega), Lib.hid (by rw [HX.out.1]; exact HO.out.toIn), Lib.hid (fun k hk => HO.out.blk k hk), HB⟩
              rw [HX.out.1]; rfl
end Go.Proofs.YtoeanbfemgmgnaaGreatDoor

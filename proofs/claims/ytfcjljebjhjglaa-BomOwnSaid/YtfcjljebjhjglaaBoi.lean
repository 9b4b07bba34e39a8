/- Layer 3: the walk of the statement BomPieces: the Go text returns true and leaves all that was there as it was. -/
import Derived.Test.YtfcjljebjhjglaaBoh
import Derived.Test.YtfcjljebjhjglaaKit5
namespace Go.Proofs.Ytfcjljebjhjglaa
open Go.ChangeShapes Go.WideShapes Go.ChangeAt Go.RowKit
set_option linter.unusedVariables false

theorem bomTold_mem {t : List Int} {x : Int} (h : x ∈ bomTold t) : x ∈ t := by
  unfold bomTold bomStrip at h
  split at h
  · cases h
  · split at h
    · exact List.mem_of_mem_drop h
    · exact h
theorem bomTold_length (t : List Int) : (bomTold t).length ≤ t.length := by
  unfold bomTold bomStrip
  split
  · simp
  · split
    · rw [List.length_drop]; omega
    · exact Nat.le_refl _
theorem bl_bytes (s : ByteArray) : ∀ x ∈ bl s, 0 ≤ x ∧ x ≤ 255 := by
  intro x hx
  unfold bl at hx
  obtain ⟨c, _, rfl⟩ := List.mem_map.1 hx
  exact ⟨byte_lo c, byte_hi c⟩
theorem bom_closes (t : List Int) : bomTold t ++ bomMk.take (bomHeld t) = bomStrip t := by
  unfold bomTold bomHeld
  cases h : bomPre t
  · simp
  · have := (bomPre_take h).1
    unfold bomStrip
    rw [bom_had_pre h]
    simp
    exact this.symm
theorem bomHeld_le (t : List Int) : bomHeld t ≤ 2 := by
  unfold bomHeld
  split
  · rename_i h; exact (bomPre_take h).2
  · omega
theorem toldO_of {s o : ByteArray} (h : bl o = bomTold (bl s)) : toldO s = o := bl_inj (by rw [bl_toldO, h])
theorem bomO_of {s o : ByteArray} (h : bl o = bomStrip (bl s)) : bomO s = o := bl_inj (by rw [bl_bomO, h])

/-- What holds ahead of each piece. -/
structure BomAt (w : World) (S T : ByteArray) (wr : World) : Prop where
  told : bl T = bomTold (bl S)
  st : StB wr w.heap.size 42 (bomCells (bl S))
  old : Below w.heap.size w wr
  least : S.size ≤ 400

set_option maxHeartbeats 1600000 in
theorem bomPieces_walk (A : Option Addr) (n c : Nat) (rs : List Row8) (w : World) (hnc : n ≤ c) (hc : c ≤ maxLen) (hin : SlIn w A n (rs.map Row8.v)) (hrs : ∀ R ∈ rs, R.Ok w) :
    Calls Try.prog 4 #[.slice A n c] w fun e w' => e = .returned (.bool true) ∧ Below w.heap.size w w' := by
  have hl : rs.length = n := by rw [← hin.1, List.length_map]
  have HL := Lib.hid hl
  have HIN := Lib.hid hin
  have HRS := Lib.hid hrs
  have hn9 : n ≤ 9223372036854775807 := by unfold maxLen at hc; omega
  clear hl hin hrs
  by_cases h40 : n ≤ 40
  · have d40 : decide ((40 : Int) < n) = false := decide_eq_false (by omega)
    go_enter Try.func4, Try.ntmps4
    go_wp2_with fail
    refine (bomNew_any _).mono ?_
    rintro e _ ⟨rfl, rfl⟩
    have AT : BomAt w ⟨#[]⟩ ⟨#[]⟩ (w.alloc (.cells (bomCells []) 42)) := ⟨rfl, StB.new w _ _, (Below.refl _ w).alloc (Nat.le_refl _) _, by decide⟩
    generalize hw0 : w.alloc (.cells (bomCells []) 42) = w0 at *
    clear hw0
    have HAT := Lib.hid AT
    clear AT
    go_wp2_with fail
    go_loopw [4, 5, 27] (fun all told i wr => ∃ (k : Nat) (S T : ByteArray), k ≤ n ∧ i = .int .i64 k ∧ all = .string S ∧ told = .string T ∧ Hid (BomAt w S T wr)) (fun _ _ i _ => n - (intOf i).toNat)
    case atStart => exact ⟨0, ⟨#[]⟩, ⟨#[]⟩, by omega, rfl, rfl, rfl, HAT⟩
    case round =>
      obtain ⟨k, S, T, hk, rfl, rfl, rfl, HB⟩ := hrel
      have hS : S.size ≤ 400 := HB.out.least
      by_cases hlt : k < n
      · obtain ⟨R, hR⟩ : ∃ R, rs[k]? = some R := ⟨_, List.getElem?_eq_getElem (by rw [HL.out]; exact hlt)⟩
        have hok := HRS.out R (List.mem_of_getElem? hR)
        obtain ⟨a, rfl, hcell⟩ := HIN.out.at_ (u := R.v) (by rw [List.getElem?_map, hR]; rfl)
        obtain ⟨ra, rn, rc, rl⟩ := R
        have hcr : wr.cell? (a.add k) = some (.slice ra rn rc) := (HB.out.old.cell (lt_of_cell hcell)).trans hcell
        obtain ⟨o1, o2, o3, o4⟩ := hok
        simp only at o1 o2 o3 o4
        have O1 := Lib.hid o1
        have O2 := Lib.hid o2
        clear o1 o2 hcell hR
        by_cases hsz : S.size + rn ≤ 400
        · have hrl : rl.length = rn := O1.out.len8
          have hwr := O1.out.below HB.out.old
          have kx := conv_text (P := Try.prog) rc Try.underlying31 Try.underlying5 Try.underlying9 hwr
          have hbS : bl (S ++ toBA rl) = bl S ++ rl := by rw [bl_append, bl_toBA rl O2.out]
          have hzS : (S ++ toBA rl).size ≤ 400 := by rw [ByteArray.size_append, toBA_size, hrl]; exact hsz
          have hzM : (S ++ toBA rl).size ≤ maxLen := by unfold maxLen; omega
          have hz1 : S.size + rl.length ≤ 400 := by omega
          have HWR := Lib.hid hwr
          have HBS := Lib.hid hbS
          have HZS := Lib.hid hzS
          clear hrl hwr hbS hzS
          go_wp2_with fail
          refine (feed_any w.heap.size (bl S) rl ra rn rc wr HB.out.st HWR.out (by omega) o3).mono ?_
          rintro e w1 ⟨A1, c1, out, rfl, h1, h2, h3, h4⟩
          have kx2 := conv_text (P := Try.prog) c1 Try.underlying31 Try.underlying5 Try.underlying9 h1.toIn
          have hob : ∀ x ∈ out, 0 ≤ x ∧ x ≤ 255 := fun x hx => by
            have : x ∈ bomTold (bl S ++ rl) := by rw [h2]; exact List.mem_append_right _ hx
            rw [← HBS.out] at this
            exact bl_bytes _ x (bomTold_mem this)
          have hbT : bl (T ++ toBA out) = bomTold (bl (S ++ toBA rl)) := by rw [bl_append, bl_toBA out hob, HB.out.told, HBS.out, h2]
          have hz2 : T.size + out.length ≤ 400 := by
            have := bomTold_length (bl S ++ rl)
            rw [h2, List.length_append, ← HB.out.told, bl_length, List.length_append, bl_length] at this
            omega
          rw [← HBS.out] at h3
          have HTB := Lib.hid hbT
          have HTO := Lib.hid (toldO_of hbT)
          have HOL := Lib.hid (below_only HB.out.old h4 HB.out.old.size (Nat.le_refl _))
          have HST := Lib.hid h3
          obtain ⟨o, ho⟩ : ∃ o, bomO (S ++ toBA rl) = o := ⟨_, rfl⟩
          have HO := Lib.hid ho
          obtain ⟨hd, hhd⟩ : ∃ hd, bomHeld (bl (S ++ toBA rl)) = hd := ⟨_, rfl⟩
          have hcells : bomCells (bl (S ++ toBA rl)) = #[.int .i64 (bomStage (bl (S ++ toBA rl))), .int .i64 (hd : Nat), .bool (bomHad (bl (S ++ toBA rl)))] := by rw [← hhd]; rfl
          have HHD := Lib.hid hhd
          rw [hcells] at h3
          clear h1 h2 h4 hob hbT ho hhd hcells hz1
          cases hq : bomHad (bl (S ++ toBA rl))
          all_goals
            rw [hq] at h3
            have HS3 := Lib.hid h3
            clear h3
          · have HN := Lib.hid (show had01 (bl (S ++ toBA rl)) = 0 by unfold had01; rw [hq]; rfl)
            clear hq
            go_wp2_with (first
              | (go_at_call 7; ((refine (above (refStrip_is _ hzM o _ HO HN _)).mono ?_); rintro e _ ⟨rfl, y, rfl⟩))
              | (go_at_call 11; ((refine (above (refTold_is _ hzM _ HTO _)).mono ?_); rintro e _ ⟨rfl, y, rfl⟩))
              | (go_at_call 13; ((refine (above (refHeld_is _ hzM hd HHD _)).mono ?_); rintro e _ ⟨rfl, y, rfl⟩))
              | (go_at_call 12; ((refine (bomHeld_any _ _ _ _ _ (HS3.out.onto _)).mono ?_); rintro e w' ⟨rfl, rfl⟩))
              | (go_at_call 14; ((refine (bomStripped_any _ _ _ _ _ (HS3.out.onto _)).mono ?_); rintro e w' ⟨rfl, rfl⟩)))
            go_roundw
            case rel => exact ⟨k + 1, S ++ toBA rl, T ++ toBA out, by omega, by go_num, rfl, rfl, Lib.hid ⟨HTB.out, HST.out.onto _, below_onto HOL.out HOL.out.size _, HZS.out⟩⟩
            case measure => simp [intOf]; omega
          · have HN := Lib.hid (show had01 (bl (S ++ toBA rl)) = 1 by unfold had01; rw [hq]; rfl)
            clear hq
            go_wp2_with (first
              | (go_at_call 7; ((refine (above (refStrip_is _ hzM o _ HO HN _)).mono ?_); rintro e _ ⟨rfl, y, rfl⟩))
              | (go_at_call 11; ((refine (above (refTold_is _ hzM _ HTO _)).mono ?_); rintro e _ ⟨rfl, y, rfl⟩))
              | (go_at_call 13; ((refine (above (refHeld_is _ hzM hd HHD _)).mono ?_); rintro e _ ⟨rfl, y, rfl⟩))
              | (go_at_call 12; ((refine (bomHeld_any _ _ _ _ _ (HS3.out.onto _)).mono ?_); rintro e w' ⟨rfl, rfl⟩))
              | (go_at_call 14; ((refine (bomStripped_any _ _ _ _ _ (HS3.out.onto _)).mono ?_); rintro e w' ⟨rfl, rfl⟩)))
            go_roundw
            case rel => exact ⟨k + 1, S ++ toBA rl, T ++ toBA out, by omega, by go_num, rfl, rfl, Lib.hid ⟨HTB.out, HST.out.onto _, below_onto HOL.out HOL.out.size _, HZS.out⟩⟩
            case measure => simp [intOf]; omega
        · have hsz' : 400 < S.size + rn := by omega
          clear hsz
          go_wp2_with (go_at_call 8; ((refine (above (bomAwake_any _)).mono ?_); rintro x _ ⟨rfl, y, rfl⟩))
          go_ret
          exact ⟨rfl, below_onto HB.out.old HB.out.old.size y⟩
      · obtain rfl : k = n := by omega
        have hSM : S.size ≤ maxLen := by unfold maxLen; omega
        have hT : T.size ≤ 400 := by
          have := bomTold_length (bl S)
          rw [← HB.out.told, bl_length, bl_length] at this
          omega
        obtain ⟨hd, hhd⟩ : ∃ hd, bomHeld (bl S) = hd := ⟨_, rfl⟩
        have hd3 : hd ≤ 3 := by have := bomHeld_le (bl S); omega
        have hO : bomO S = T ++ toBA (bomMk.take hd) := bomO_of (by
          rw [bl_append, bl_toBA _ (fun x hx => by have := List.mem_of_mem_take hx; simp [bomMk] at this; omega), HB.out.told, ← hhd]
          exact bom_closes _)
        have HO := Lib.hid hO
        have h3 := HB.out.st
        rw [show bomCells (bl S) = #[.int .i64 (bomStage (bl S)), .int .i64 (hd : Nat), .bool (bomHad (bl S))] from by rw [← hhd]; rfl] at h3
        clear hO hhd
        cases hq : bomHad (bl S)
        all_goals
          rw [hq] at h3
          have HS3 := Lib.hid h3
          clear h3
        · have HN := Lib.hid (show had01 (bl S) = 0 by unfold had01; rw [hq]; rfl)
          clear hq
          go_wp2_with fail
          refine (close_any w.heap.size hd _ _ hd3 wr HS3.out).mono ?_
          rintro e w1 ⟨A1, c1, rfl, h1, h2, h3⟩
          have kx2 := conv_text (P := Try.prog) c1 Try.underlying31 Try.underlying5 Try.underlying9 h1.toIn
          have HOL := Lib.hid (below_only HB.out.old h3 HB.out.old.size (Nat.le_refl _))
          have HS := Lib.hid h2
          have hz2 : T.size + (bomMk.take hd).length ≤ 403 := by rw [List.length_take]; omega
          clear h1 h2 h3
          go_wp2_with (first
            | (go_at_call 7; ((refine (above (refStrip_is _ hSM _ _ HO HN _)).mono ?_); rintro e _ ⟨rfl, y, rfl⟩))
            | (go_at_call 12; ((refine (bomHeld_any _ _ _ _ _ (HS.out.onto _)).mono ?_); rintro e w' ⟨rfl, rfl⟩))
            | (go_at_call 14; ((refine (bomStripped_any _ _ _ _ _ (HS.out.onto _)).mono ?_); rintro e w' ⟨rfl, rfl⟩)))
          refine (close_any w.heap.size 0 _ _ (by omega) _ (HS.out.onto _)).mono ?_
          rintro e w2 ⟨A2, c2, rfl, h1, h2, h3⟩
          have HOL2 := Lib.hid (below_only (below_onto HOL.out HOL.out.size y) h3 (below_onto HOL.out HOL.out.size y).size (Nat.le_refl _))
          have HS2 := Lib.hid h2
          clear h1 h2 h3
          have kc := fun (w : World) (C : Array Value) (n c : Nat) => Lib.run_convert_bytes_const (P := Try.prog) w 31 5 C n c Try.underlying31 Try.underlying5
          go_wp2_with fail
          refine (feed_closed w.heap.size _ _ _ _ _ _ (HS2.out.below ((Below.refl _ _).alloc (Nat.le_refl _) _))).mono ?_
          rintro e w' ⟨rfl, rfl⟩
          go_wp2_with (go_at_call 8; ((refine (above (bomAwake_any _)).mono ?_); rintro x _ ⟨rfl, y2, rfl⟩))
          go_ret
          exact ⟨rfl, below_onto (HOL2.out.alloc HOL2.out.size _) (HOL2.out.alloc HOL2.out.size _).size y2⟩
        · have HN := Lib.hid (show had01 (bl S) = 1 by unfold had01; rw [hq]; rfl)
          clear hq
          go_wp2_with fail
          refine (close_any w.heap.size hd _ _ hd3 wr HS3.out).mono ?_
          rintro e w1 ⟨A1, c1, rfl, h1, h2, h3⟩
          have kx2 := conv_text (P := Try.prog) c1 Try.underlying31 Try.underlying5 Try.underlying9 h1.toIn
          have HOL := Lib.hid (below_only HB.out.old h3 HB.out.old.size (Nat.le_refl _))
          have HS := Lib.hid h2
          have hz2 : T.size + (bomMk.take hd).length ≤ 403 := by rw [List.length_take]; omega
          clear h1 h2 h3
          go_wp2_with (first
            | (go_at_call 7; ((refine (above (refStrip_is _ hSM _ _ HO HN _)).mono ?_); rintro e _ ⟨rfl, y, rfl⟩))
            | (go_at_call 12; ((refine (bomHeld_any _ _ _ _ _ (HS.out.onto _)).mono ?_); rintro e w' ⟨rfl, rfl⟩))
            | (go_at_call 14; ((refine (bomStripped_any _ _ _ _ _ (HS.out.onto _)).mono ?_); rintro e w' ⟨rfl, rfl⟩)))
          refine (close_any w.heap.size 0 _ _ (by omega) _ (HS.out.onto _)).mono ?_
          rintro e w2 ⟨A2, c2, rfl, h1, h2, h3⟩
          have HOL2 := Lib.hid (below_only (below_onto HOL.out HOL.out.size y) h3 (below_onto HOL.out HOL.out.size y).size (Nat.le_refl _))
          have HS2 := Lib.hid h2
          clear h1 h2 h3
          have kc := fun (w : World) (C : Array Value) (n c : Nat) => Lib.run_convert_bytes_const (P := Try.prog) w 31 5 C n c Try.underlying31 Try.underlying5
          go_wp2_with fail
          refine (feed_closed w.heap.size _ _ _ _ _ _ (HS2.out.below ((Below.refl _ _).alloc (Nat.le_refl _) _))).mono ?_
          rintro e w' ⟨rfl, rfl⟩
          go_wp2_with (go_at_call 8; ((refine (above (bomAwake_any _)).mono ?_); rintro x _ ⟨rfl, y2, rfl⟩))
          go_ret
          exact ⟨rfl, below_onto (HOL2.out.alloc HOL2.out.size _) (HOL2.out.alloc HOL2.out.size _).size y2⟩
  · have h40' : 40 < n := by omega
    clear h40
    go_enter Try.func4, Try.ntmps4
    go_wp2_with (first
      | (go_at_call 9; ((with_reducible refine (bomNew_any _).mono ?_); rintro e _ ⟨rfl, rfl⟩))
      | (go_at_call 8; ((with_reducible refine (above (bomAwake_any _)).mono ?_); rintro x _ ⟨rfl, y, rfl⟩)))
    go_ret
    exact ⟨rfl, (by (repeat (first | exact Below.refl _ _ | refine up_alloc ?_ _ | refine up_onto ?_ _)))⟩
end Go.Proofs.Ytfcjljebjhjglaa

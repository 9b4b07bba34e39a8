/- Layer 3: contracts of the program's: Feed, Close; the document's example. -/
import Derived.Test.YtfcjljebjhjglaaBof
namespace Go.Proofs.Ytfcjljebjhjglaa
open Go.ChangeShapes Go.WideShapes Go.ChangeAt Go.RowKit
set_option linter.unusedVariables false

set_option maxHeartbeats 800000 in
theorem feed_any (g : Nat) (t b : List Int) (A : Option Addr) (n c : Nat) (w : World) (hst : StB w g 42 (bomCells t)) (hin : SlIn w A n (u8s b)) (hn : n ≤ 1000000000) (hnc : n ≤ c) :
    Calls Try.prog 10 #[.pointer (some ⟨g, 0, none⟩), .slice A n c] w (FeedOut g t b w) := by
  cases hp : bomPre t
  · have hs2 := hst
    rw [bomPost_cells hp] at hs2
    have c0 := hs2.cell 0
    simp at c0
    obtain ⟨p1, p2, p3⟩ := bom_settled b hp
    have P := Lib.hid hp
    have P1 := Lib.hid p1
    have P2 := Lib.hid p2
    have P3 := Lib.hid p3
    have HST := Lib.hid hs2
    have HIN := Lib.hid hin
    have HL := Lib.hid hin.len8
    clear hst hs2 hin p1 p2 p3 hp
    go_enter Try.func10, Try.ntmps10
    go_wp2_with fail
    refine (clone_any A n c b _ HIN.out hn).mono ?_
    rintro e w1 ⟨A1, c1, rfl, hown, hb⟩
    have HO := Lib.hid hown
    have HB := Lib.hid hb
    clear hown hb
    go_wp2_with fail
    go_ret
    refine ⟨A1, c1, b, rfl, HO.out, P3.out, ?_, only_of HB.out _⟩
    rw [bomPost_cells P1.out, P2.out]
    exact HST.out.below HB.out
  · have hs2 := hst
    rw [bomPre_cells hp] at hs2
    have c0 := hs2.cell 0
    simp at c0
    have P := Lib.hid hp
    have HST := Lib.hid hst
    have HIN := Lib.hid hin
    clear hst hs2 hin hp
    go_enter Try.func10, Try.ntmps10
    go_wp2_with fail
    refine (begin_any g t b A n c _ HST.out P.out HIN.out hn hnc).mono ?_
    rintro e w1 ⟨A1, c1, out, rfl, h1, h2, h3, h4⟩
    have H1 := Lib.hid h1
    have H2 := Lib.hid h2
    have H3 := Lib.hid h3
    have H4 := Lib.hid h4
    clear h1 h2 h3 h4
    go_wp2_with fail
    go_ret
    exact ⟨A1, c1, out, rfl, H1.out, H2.out, H3.out, H4.out⟩

theorem feed_closed (g : Nat) (A : Option Addr) (n c : Nat) (y z : Value) (w : World) (hst : StB w g 42 #[.int .i64 2, y, z]) :
    Calls Try.prog 10 #[.pointer (some ⟨g, 0, none⟩), .slice A n c] w fun e w' => e = .returned (.slice none 0 0) ∧ w = w' := by
  have c0 := hst.cell 0
  simp at c0
  go_enter Try.func10, Try.ntmps10
  go_wp2_with fail
  go_ret
  exact ⟨rfl, rfl⟩

/-- What Close answers. -/
def CloseOut (g h : Nat) (z : Value) (w : World) (e : Ending) (w' : World) : Prop :=
  ∃ A c, e = .returned (.slice A h c) ∧ SlOwn w' w.heap.size 5 A h c (u8s (bomMk.take h)) ∧ StB w' g 42 #[.int .i64 2, .int .i64 0, z] ∧ w.grownBy w' (some g)
set_option maxHeartbeats 800000 in
theorem close_any (g h : Nat) (x z : Value) (hh : h ≤ 3) (w : World) (hst : StB w g 42 #[x, .int .i64 h, z]) :
    Calls Try.prog 15 #[.pointer (some ⟨g, 0, none⟩)] w (CloseOut g h z w) := by
  have HST := Lib.hid hst
  have HG := Lib.hid hst.lt
  clear hst
  go_enter Try.func15, Try.ntmps15
  go_wp2_with fail
  refine (release_any g h x z hh _ HST.out).mono ?_
  rintro e w1 ⟨A1, c1, rfl, h1, h2, h3⟩
  have k0 := h2.cell 0
  have f0 := h2.free 0
  simp at k0
  have H1 := Lib.hid h1
  have H2 := Lib.hid h2
  have H3 := Lib.hid h3
  clear h1 h2 h3
  go_wp2_with fail
  go_ret
  refine ⟨A1, c1, rfl, H1.out.keep (fun k hk => ?_), H2.out.set_ 0 _, only_set H3.out 0 _⟩
  refine Below.heap_setCell _ _ _ _ ?_
  have := (H1.out.blk k hk).1
  have := HG.out
  show k ≠ g
  omega

set_option maxHeartbeats 1600000 in
theorem bomAwake_any (w : World) : Calls Try.prog 8 #[] w fun e w' => e = .returned (.bool true) ∧ Below w.heap.size w w' := by
  go_enter Try.func8, Try.ntmps8
  go_wp2_with fail
  refine (bomNew_any _).mono ?_
  rintro e _ ⟨rfl, rfl⟩
  have S0 : Hid (StB (w.alloc (.cells (bomCells []) 42)) w.heap.size 42 (bomCells [])) := Lib.hid (StB.new w _ _)
  have B0 : Hid (Below w.heap.size w (w.alloc (.cells (bomCells []) 42))) := Lib.hid ((Below.refl _ w).alloc (Nat.le_refl _) _)
  generalize hw0 : w.alloc (.cells (bomCells []) 42) = w0 at *
  clear hw0
  go_wp2_with fail
  refine (feed_any w.heap.size [] [239] _ 1 1 _ (S0.out.below ((Below.refl _ _).alloc (Nat.le_refl _) _)) ((SlOwn.made w0 0 (Nat.zero_le _) 5 [.int .u8 239] (by decide)).toIn) (by omega) (by omega)).mono ?_
  rintro e w1 ⟨A1, c1, out1, rfl, h1, h2, h3, h4⟩
  obtain rfl : out1 = [] := by
    have e1 : bomTold ([] ++ [239]) = [] := by decide
    have e2 : bomTold [] = [] := by decide
    rw [e1, e2] at h2; exact h2.symm
  have S1 := Lib.hid h3
  have B1 := Lib.hid (below_only (B0.out.alloc B0.out.size (.cells #[.int .u8 239] 5)) h4 (Nat.le_trans B0.out.size (by simp)) (Nat.le_refl _))
  clear h1 h2 h3 h4
  go_wp2_with fail
  refine (feed_any w.heap.size [239] [187] _ 1 1 _ (S1.out.below ((Below.refl _ _).alloc (Nat.le_refl _) _)) ((SlOwn.made w1 0 (Nat.zero_le _) 5 [.int .u8 187] (by decide)).toIn) (by omega) (by omega)).mono ?_
  rintro e w2 ⟨A2, c2, out2, rfl, h1, h2, h3, h4⟩
  obtain rfl : out2 = [] := by
    have e1 : bomTold ([239] ++ [187]) = [] := by decide
    have e2 : bomTold [239] = [] := by decide
    rw [e1, e2] at h2; exact h2.symm
  have S2 := Lib.hid h3
  have B2 := Lib.hid (below_only (B1.out.alloc B1.out.size (.cells #[.int .u8 187] 5)) h4 (Nat.le_trans B1.out.size (by simp)) (Nat.le_refl _))
  clear h1 h2 h3 h4
  go_wp2_with fail
  refine (feed_any w.heap.size [239, 187] [65] _ 1 1 _ (S2.out.below ((Below.refl _ _).alloc (Nat.le_refl _) _)) ((SlOwn.made w2 0 (Nat.zero_le _) 5 [.int .u8 65] (by decide)).toIn) (by omega) (by omega)).mono ?_
  rintro e w3 ⟨A3, c3, out3, rfl, h1, h2, h3, h4⟩
  obtain rfl : out3 = [239, 187, 65] := by
    have e1 : bomTold ([239, 187] ++ [65]) = [239, 187, 65] := by decide
    have e2 : bomTold [239, 187] = [] := by decide
    rw [e1, e2] at h2; exact h2.symm
  have B3 := Lib.hid (below_only (B2.out.alloc B2.out.size (.cells #[.int .u8 65] 5)) h4 (Nat.le_trans B2.out.size (by simp)) (Nat.le_refl _))
  have kx : (convert 31 9 (.slice A3 3 c3)).run Try.prog w3 = .ok (.string (toBA [239, 187, 65])) w3 := conv_text (P := Try.prog) c3 Try.underlying31 Try.underlying5 Try.underlying9 h1.toIn
  have kc : ((toBA [239, 187, 65]).toList == ([239, 187, 65] : List UInt8)) = true := by rw [ByteArray.toList_eq]; decide
  clear h1 h2 h3 h4
  go_wp2_with fail
  go_ret
  exact ⟨ret_bool (by first | rfl | exact kc), B3.out⟩
end Go.Proofs.Ytfcjljebjhjglaa

/- Layer 3: contracts of the program's: begin, Feed, Close; the document's example. -/
import Derived.Test.YtfcjljebjhjglaaBoe
namespace Go.Proofs.Ytfcjljebjhjglaa
open Go.ChangeShapes Go.WideShapes Go.ChangeAt Go.RowKit
set_option linter.unusedVariables false

/-- Bytes that were there are there still where only a block turned that holds no byte. -/
theorem in8_keep {w w' : World} {A : Option Addr} {n g : Nat} {l : List Int} {T : TypeId} {cs : Array Value} (hin : SlIn w A n (u8s l)) (hst : StB w g T cs) (hcs : ∀ x : Int, ∀ i : Nat, cs[i]? ≠ some (.int .u8 x)) (hg : w.grownBy w' (some g)) : SlIn w' A n (u8s l) := by
  refine ⟨hin.1, fun j u hu => ?_⟩
  obtain ⟨a, ha, hc⟩ := hin.2 j u hu
  refine ⟨a, ha, hg.cell hc ?_⟩
  intro e
  injection e with e
  obtain ⟨x, _, rfl⟩ := u8s_get_inv hu
  unfold World.cell? at hc
  unfold StB at hst
  rw [e, hst] at hc
  simp only at hc
  split at hc
  · cases hc
  · exact hcs x _ hc
theorem bomCells_no8 (a b : Int) (c : Bool) (x : Int) (i : Nat) : (#[Value.int .i64 a, .int .i64 b, .bool c] : Array Value)[i]? ≠ some (.int .u8 x) := by
  match i with
  | 0 => simp
  | 1 => simp
  | 2 => simp
  | i + 3 => simp

theorem cut8 {w : World} {A : Option Addr} {n c k : Nat} {b : List Int} (h : SlIn w A n (u8s b)) (hk : k ≤ n) (hc : n ≤ c) : SlIn w (cutA A c k) (n - k) (u8s (b.drop k)) := by
  have := h.cut hk hc
  unfold cutA u8s at *
  rw [← List.map_drop] at this
  exact this

/-- What Feed answers: what more of the text without its mark can be told; only the stripper has turned. -/
def FeedOut (g : Nat) (t b : List Int) (w : World) (e : Ending) (w' : World) : Prop :=
  ∃ A c out, e = .returned (.slice A out.length c) ∧ SlOwn w' w.heap.size 5 A out.length c (u8s out) ∧ bomTold (t ++ b) = bomTold t ++ out ∧ StB w' g 42 (bomCells (t ++ b)) ∧ w.grownBy w' (some g)

theorem common_is (t : ByteArray) (A : Option Addr) (n c : Nat) (l : List Int) (k : Nat) (hk : Hid (cpl (bl t) l = k)) (w : World) (hin : Hid (SlIn w A n (u8s l))) (ht : t.size ≤ maxLen) (hn : n ≤ maxLen) :
    Calls Try.prog 22 #[.string t, .slice A n c] w fun e w' => e = .returned (.int .i64 k) ∧ Below w.heap.size w w' := by
  rw [← hk.out]; exact common_any t A n c l w hin.out ht hn

theorem bomPre_cells {t : List Int} (h : bomPre t = true) : bomCells t = #[.int .i64 0, .int .i64 (t.length : Nat), .bool false] := by
  unfold bomCells bomStage bomHeld; rw [bom_had_pre h, h]; rfl
theorem bomPost_cells {t : List Int} (h : bomPre t = false) : bomCells t = #[.int .i64 1, .int .i64 0, .bool (bomHad t)] := by
  unfold bomCells bomStage bomHeld; rw [h]; rfl

set_option maxHeartbeats 1600000 in
theorem begin_any (g : Nat) (t b : List Int) (A : Option Addr) (n c : Nat) (w : World) (hst : StB w g 42 (bomCells t)) (hp : bomPre t = true) (hin : SlIn w A n (u8s b)) (hn : n ≤ 1000000000) (hnc : n ≤ c) :
    Calls Try.prog 18 #[.pointer (some ⟨g, 0, none⟩), .slice A n c] w (FeedOut g t b w) := by
  have hlen := hin.len8
  obtain ⟨htk, h2⟩ := bomPre_take hp
  rw [bomPre_cells hp] at hst
  obtain ⟨h, hh⟩ : ∃ h, t.length = h := ⟨_, rfl⟩
  rw [hh] at hst h2 htk
  obtain ⟨k, hk⟩ : ∃ k, cpl (bomMk.drop h) b = k := ⟨_, rfl⟩
  obtain ⟨k1, k2⟩ := cpl_le (bomMk.drop h) b
  rw [hk, List.length_drop] at k1
  rw [hk, hlen] at k2
  have hmk : bomMk.length = 3 := rfl
  rw [hmk] at k1
  clear hmk
  have HK := Lib.hid (show cpl (bl (bomM.extract h 3)) b = k by rw [bl_bom_from]; exact hk)
  have hfrom := bom_from h (by omega)
  have hsm : (bomM.extract h 3).size ≤ maxLen := by rw [ByteArray.size_extract]; show min 3 3 - h ≤ maxLen; unfold maxLen; omega
  have hnm : n ≤ maxLen := by unfold maxLen; omega
  have c0 := hst.cell 0
  have c1 := hst.cell 1
  have c2 := hst.cell 2
  have f0 := hst.free 0
  have f1 := hst.free 1
  have f2 := hst.free 2
  have hg := hst.lt
  simp at c0 c1 c2
  have HST := Lib.hid hst
  have HIN := Lib.hid hin
  clear hst hin
  by_cases e3 : h + k = 3
  · have hf := bom_feed1 hp (by rw [hh, hk]; exact e3)
    rw [hh, hk] at hf
    obtain ⟨p1, p2, p3⟩ := hf
    have P1 := Lib.hid p1
    have P2 := Lib.hid p2
    have P3 := Lib.hid p3
    have PT := Lib.hid (show bomTold t = [] by unfold bomTold; rw [hp, if_pos rfl])
    have heq : (((h : Nat) : Int) + ((k : Nat) : Int) == 3) = true := by rw [beq_iff_eq]; omega
    have hcut := run_cut8 A n c k k2
    have HLEN := Lib.hid hlen
    clear p1 p2 p3 e3 hp htk hh hk hlen
    go_enter Try.func18, Try.ntmps18
    go_wp2_with fail
    refine (above (common_is _ A n c b k HK w HIN hsm hnm)).mono ?_
    rintro e _ ⟨rfl, y, rfl⟩
    have G : w.grownBy ((((onto w y).setCell ⟨g, 0, none⟩ (.int .i64 1)).setCell ⟨g, 2, none⟩ (.bool true)).setCell ⟨g, 1, none⟩ (.int .i64 0)) (some g) := only_set (only_set (only_set (only_of (onto_below w y) _) 0 _) 2 _) 1 _
    have ST : StB ((((onto w y).setCell ⟨g, 0, none⟩ (.int .i64 1)).setCell ⟨g, 2, none⟩ (.bool true)).setCell ⟨g, 1, none⟩ (.int .i64 0)) g 42 #[.int .i64 1, .int .i64 0, .bool true] := (((HST.out.onto y).set_ 0 _).set_ 2 _).set_ 1 _
    have HG := Lib.hid G
    have HS := Lib.hid ST
    have HI := Lib.hid (cut8 (in8_keep HIN.out HST.out (bomCells_no8 _ _ _) G) k2 hnc)
    clear G ST
    go_wp2_with fail
    refine (clone_any (cutA A c k) (n - k) (c - k) (b.drop k) _ HI.out (by omega)).mono ?_
    rintro e w3 ⟨A3, c3, rfl, hown, hb⟩
    have HO := Lib.hid hown
    have HB := Lib.hid hb
    clear hown hb
    go_wp2_with fail
    go_ret
    refine ⟨A3, c3, b.drop k, by rw [List.length_drop]; rfl, HO.out.mono HG.out.size, by rw [P3.out, PT.out]; rfl, ?_, only_call HG.out HB.out⟩
    rw [bomPost_cells P2.out, P1.out]
    exact HS.out.below HB.out
  · by_cases ek : k = n
    · have hf := bom_feed2 hp (by rw [hh, hk]; exact e3) (by rw [hh, hk, hlen]; exact ek)
      have P2 := Lib.hid hf
      have PT := Lib.hid (show bomTold t = [] by unfold bomTold; rw [hp, if_pos rfl])
      have PT2 := Lib.hid (show bomTold (t ++ b) = [] by unfold bomTold; rw [hf, if_pos rfl])
      have PL := Lib.hid (show (t ++ b).length = h + n by rw [List.length_append, hh, hlen])
      have heq : (((h : Nat) : Int) + ((k : Nat) : Int) == 3) = false := by rw [beq_eq_false_iff_ne]; omega
      have heq2 : (((k : Nat) : Int) == (n : Int)) = true := by rw [beq_iff_eq]; omega
      have heq3 : (k == n) = true := by rw [beq_iff_eq]; omega
      have hval : ((h : Nat) : Int) + ((k : Nat) : Int) = ((h + n : Nat) : Int) := by omega
      have HV := Lib.hid hval
      clear hf hp hh hk hlen hval e3 ek htk
      go_enter Try.func18, Try.ntmps18
      go_wp2_with fail
      refine (above (common_is _ A n c b k HK w HIN hsm hnm)).mono ?_
      rintro e _ ⟨rfl, y, rfl⟩
      go_wp2_with fail
      go_ret
      refine ⟨none, 0, [], rfl, SlOwn.nothing _ _ _, by rw [PT.out, PT2.out]; rfl, ?_, only_set (only_of (onto_below w y) _) 1 _⟩
      rw [bomPre_cells P2.out, PL.out, ← HV.out]
      exact (HST.out.onto y).set_ 1 _
    · have hf := bom_feed3 hp (by rw [hh, hk]; exact e3) (by rw [hh, hk, hlen]; exact ek)
      obtain ⟨p1, p2, p3⟩ := hf
      have P1 := Lib.hid p1
      have P2 := Lib.hid p2
      have P3 := Lib.hid p3
      have PT := Lib.hid (show bomTold t = [] by unfold bomTold; rw [hp, if_pos rfl])
      have PL := Lib.hid (show bomMk.take h = t from htk.symm)
      have heq : (((h : Nat) : Int) + ((k : Nat) : Int) == 3) = false := by rw [beq_eq_false_iff_ne]; omega
      have heq2 : (((k : Nat) : Int) == (n : Int)) = false := by rw [beq_eq_false_iff_ne]; omega
      have heq3 : (k == n) = false := by rw [beq_eq_false_iff_ne]; omega
      have HHH := Lib.hid hh
      have HLEN := Lib.hid hlen
      obtain ⟨i0, hi, hz0, hz1, hz2⟩ := info_parts info8
      have Hi := Lib.hid hi
      have Hz0 := Lib.hid hz0
      have Hz1 := Lib.hid hz1
      have Hz2 := Lib.hid hz2
      clear hi hz0 hz1 hz2
      clear p1 p2 p3 hp hh hk hlen e3 ek htk
      go_enter Try.func18, Try.ntmps18
      go_wp2_with fail
      refine (above (common_is _ A n c b k HK w HIN hsm hnm)).mono ?_
      rintro e _ ⟨rfl, y, rfl⟩
      have G : w.grownBy ((onto w y).setCell ⟨g, 0, none⟩ (.int .i64 1)) (some g) := only_set (only_of (onto_below w y) _) 0 _
      have ST : StB ((onto w y).setCell ⟨g, 0, none⟩ (.int .i64 1)) g 42 #[.int .i64 1, .int .i64 (h : Nat), .bool false] := (HST.out.onto y).set_ 0 _
      have HG := Lib.hid G
      have HS := Lib.hid ST
      clear G ST
      go_wp2_with fail
      refine (release_any g h _ _ (by omega) _ HS.out).mono ?_
      rintro e w2 ⟨A2, c2', rfl, hown, hst2, hg2⟩
      have G2 := World.grownBy.trans HG.out hg2
      have HO := Lib.hid (hown.mono HG.out.size)
      have HS2 := Lib.hid hst2
      have HG2 := Lib.hid G2
      have HIN2 := Lib.hid (in8_keep HIN.out HST.out (bomCells_no8 _ _ _) G2)
      have HGS := Lib.hid G2.size
      clear hown hst2 hg2 G2
      go_wp2_with (at_builtin; refine wpList_append_sl _ rfl (.tmp 49) (.tmp 50) 31 rfl 5 i0 (.int .u8 0) 1 Try.underlying31 Hi.out Hz0.out Hz1.out Hz2.out rfl w.heap.size A2 h c2' (u8s (bomMk.take h)) rfl HO.out A n c (u8s b) rfl HIN2.out u8s_one (by unfold maxLen; omega) (by omega) HGS.out ?_; intro A3 c3 w3 hown3 hgrow3 hat3)
      have HO3 := Lib.hid hown3
      have HG3 := Lib.hid hgrow3
      clear hown3 hgrow3 hat3
      go_wp2_with fail
      go_ret
      have hnew : ∀ j, blkOf A2 = some j → w.heap.size ≤ j := fun j hj => (HO.out.blk j hj).1
      refine ⟨A3, c3, t ++ b, by rw [List.length_append, HHH.out, HLEN.out]; rfl, ?_, by rw [P3.out, PT.out]; rfl, ?_, only_new HG2.out HG3.out hnew⟩
      · have := HO3.out
        rw [PL.out, ← u8s_append] at this
        rw [List.length_append, HHH.out, HLEN.out]; exact this
      · rw [bomPost_cells P1.out, P2.out]
        exact HS2.out.grown HG3.out (fun e => by have := hnew g e.symm; omega)
end Go.Proofs.Ytfcjljebjhjglaa

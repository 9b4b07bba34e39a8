/- Layer 3: the walk of the statement BomOwn: the Go text returns true and leaves all that was there as it was. -/
import Derived.Test.YtfcjljebjhjglaaBoi
import Derived.Deep.RegionWith
namespace Go.Proofs.Ytfcjljebjhjglaa
open Go.ChangeShapes Go.WideShapes Go.ChangeAt Go.RowKit
set_option linter.unusedVariables false

/-- One cell written: the slice is one's own still. -/
theorem SlOwn.stored {w : World} {base : Nat} {e : TypeId} {g n c : Nat} {xs : List Value} (h : SlOwn w base e (some ⟨g, 0, none⟩) n c xs) (k : Nat) (u : Value) :
    SlOwn (w.setCell ⟨g, k, none⟩ u) base e (some ⟨g, 0, none⟩) n c (xs.set k u) := by
  obtain ⟨h1, h2, h3, h4⟩ := h
  refine ⟨by rw [List.length_set]; exact h1, h2, h3, ?_⟩
  rcases h4 with ⟨h4, _⟩ | ⟨g', cur, fz, hA, hb, hg, hs, hf, hx⟩
  · cases h4
  · obtain rfl : g = g' := by injection hA with hA; injection hA
    refine .inr ⟨g, cur.setIfInBounds k u, fz, rfl, hb, by simp [World.setCell, Array.getElem?_modify, hg], by simpa using hs, hf, fun j v hv => ?_⟩
    rw [List.getElem?_set] at hv
    rw [Array.getElem?_setIfInBounds]
    by_cases e : k = j
    · subst e
      rw [if_pos rfl] at hv ⊢
      by_cases hk : k < xs.length
      · rw [if_pos hk] at hv
        rw [if_pos (by omega)]; exact hv
      · rw [if_neg hk] at hv; cases hv
    · rw [if_neg e] at hv ⊢
      exact hx j v hv
theorem u8s_set (l : List Int) (k : Nat) (x : Int) : (u8s l).set k (.int .u8 x) = u8s (l.set k x) := by unfold u8s; rw [List.map_set]
theorem SlOwn.stored8 {w : World} {base : Nat} {e : TypeId} {g n c : Nat} {ys : List Int} (h : SlOwn w base e (some ⟨g, 0, none⟩) n c (u8s ys)) (k : Nat) (x : Int) :
    SlOwn (w.setCell ⟨g, k, none⟩ (.int .u8 x)) base e (some ⟨g, 0, none⟩) n c (u8s (ys.set k x)) := by
  have := h.stored k (.int .u8 x); rw [u8s_set] at this; exact this

/-- Only the slice's own block has turned since w, and its bytes are bytes. -/
structure Scr (base : Nat) (w : World) (A : Option Addr) (n c : Nat) (wr : World) : Prop where
  own : ∃ ys, SlOwn wr base 5 A n c (u8s ys)
  only : w.grownBy wr (blkOf A)

theorem bom_own_len {al bb out2 : List Int} (h : bomTold (al ++ bb) = bomTold al ++ out2) : out2.length ≤ al.length + bb.length := by
  have := bomTold_length (al ++ bb)
  rw [h, List.length_append, List.length_append] at this
  omega
theorem bom_own_is {al bb out1 out2 : List Int} (ha : ∀ x ∈ al, 0 ≤ x ∧ x ≤ 255) (hb : ∀ x ∈ bb, 0 ≤ x ∧ x ≤ 255) (h1 : out1 = bomTold al) (h : bomTold (al ++ bb) = bomTold al ++ out2) :
    bomO (toBA al ++ toBA bb) = toBA out1 ++ toBA out2 ++ toBA (bomMk.take (bomHeld (al ++ bb))) := by
  have hab : ∀ x ∈ al ++ bb, 0 ≤ x ∧ x ≤ 255 := fun x hx => (List.mem_append.1 hx).elim (ha x) (hb x)
  refine bomO_of ?_
  rw [bl_append, bl_append, bl_append, bl_toBA al ha, bl_toBA bb hb, bl_toBA out1 (fun x hx => ha x (bomTold_mem (by rw [← h1]; exact hx))),
    bl_toBA out2 (fun x hx => hab x (bomTold_mem (by rw [h]; exact List.mem_append_right _ hx))),
    bl_toBA _ (fun x hx => by have := List.mem_of_mem_take hx; simp [bomMk] at this; omega), h1, ← h]
  exact bom_closes _

theorem close_is (g h : Nat) (x z : Value) (hh : h ≤ 3) (l : List Int) (hl : Hid (bomMk.take h = l)) (w : World) (hst : StB w g 42 #[x, .int .i64 h, z]) :
    Calls Try.prog 15 #[.pointer (some ⟨g, 0, none⟩)] w fun e w' => ∃ A c, e = .returned (.slice A h c) ∧ SlOwn w' w.heap.size 5 A h c (u8s l) ∧ w.grownBy w' (some g) := by
  refine (close_any g h x z hh w hst).mono ?_
  rintro e w' ⟨A, c, rfl, a, _, b⟩
  exact ⟨A, c, rfl, hl.out ▸ a, b⟩

theorem bomOwn_no (ra rb : Row8) (w : World) (hno : 100 < ra.n ∨ (ra.n ≤ 100 ∧ 100 < rb.n)) (ha : ra.n ≤ 140737488351232) (hb : rb.n ≤ 140737488351232) : Calls Try.prog 5 #[ra.v, rb.v] w fun e w' => e = .returned (.bool true) ∧ Below w.heap.size w w' := by
  obtain ⟨aa, an, ac, al⟩ := ra
  obtain ⟨ba, bn, bc, bl⟩ := rb
  simp only [Row8.v] at *
  rcases hno with h | ⟨h1, h2⟩
  all_goals
    go_enter Try.func5, Try.ntmps5
    go_wp2_with (first
      | (go_at_call 9; ((with_reducible refine (bomNew_any _).mono ?_); rintro e _ ⟨rfl, rfl⟩))
      | (go_at_call 8; ((with_reducible refine (above (bomAwake_any _)).mono ?_); rintro x _ ⟨rfl, y, rfl⟩)))
    go_ret
    exact ⟨rfl, (by (repeat (first | exact Below.refl _ _ | refine up_alloc ?_ _ | refine up_onto ?_ _)))⟩

set_option maxRecDepth 100000 in
set_option maxHeartbeats 1600000 in
theorem bomOwn_yes (ra rb : Row8) (w : World) (oka : ra.Ok w) (okb : rb.Ok w) (h1 : ra.n ≤ 100) (h2 : rb.n ≤ 100) : Calls Try.prog 5 #[ra.v, rb.v] w fun e w' => e = .returned (.bool true) ∧ Below w.heap.size w w' := by
  obtain ⟨aa, an, ac, al⟩ := ra
  obtain ⟨ba, bn, bc, bb⟩ := rb
  obtain ⟨a1, a2, a3, a4⟩ := oka
  obtain ⟨b1, b2, b3, b4⟩ := okb
  simp only [Row8.v] at *
  have A1 := Lib.hid a1
  have A2 := Lib.hid a2
  have B1 := Lib.hid b1
  have B2 := Lib.hid b2
  have hal : al.length ≤ 100 := by rw [a1.len8]; exact h1
  have hbl : bb.length ≤ 100 := by rw [b1.len8]; exact h2
  clear a1 a2 b1 b2
  obtain ⟨i0, hi, hz0, hz1, hz2⟩ := info_parts info8
  have Hi := Lib.hid hi
  have Hz0 := Lib.hid hz0
  have Hz1 := Lib.hid hz1
  have Hz2 := Lib.hid hz2
  clear hi hz0 hz1 hz2
  go_enter Try.func5, Try.ntmps5
  go_wp2_with fail
  refine (bomNew_any _).mono ?_
  rintro e _ ⟨rfl, rfl⟩
  have S0 : Hid (StB (w.alloc (.cells (bomCells []) 42)) w.heap.size 42 (bomCells [])) := Lib.hid (StB.new w _ _)
  have O0 : Hid (Below w.heap.size w (w.alloc (.cells (bomCells []) 42))) := Lib.hid ((Below.refl _ w).alloc (Nat.le_refl _) _)
  generalize hw0 : w.alloc (.cells (bomCells []) 42) = w0 at *
  clear hw0
  go_wp2_with (at_builtin; refine wpList_append_sl _ rfl (.tmp 32) (.tmp 33) 31 rfl 5 i0 (.int .u8 0) 1 Try.underlying31 Hi.out Hz0.out Hz1.out Hz2.out rfl w0.heap.size (some ⟨w0.heap.size, 0, none⟩) 0 0 [] rfl (SlOwn.made w0 w0.heap.size (Nat.le_refl _) 5 [] (Nat.zero_le _)) aa an ac (u8s al) rfl ((A1.out.below O0.out).alloc _) u8s_one (by unfold maxLen; omega) (by omega) (by simp) ?_; intro A' c' w1 hown hgrow hat)
  simp only [Nat.zero_add, List.nil_append] at hown
  have N1 := Lib.hid hown
  have O1 := Lib.hid ((Below.refl w0.heap.size w0).alloc (Nat.le_refl _) (.cells #[] 5) |>.grown hgrow (by simp) (by intro k hk; simp [blkOf] at hk; omega))
  have S1 := Lib.hid (S0.out.below O1.out)
  have hnc := hown.2.1
  clear hown hgrow hat
  go_wp2_with fail
  refine (feed_any w.heap.size [] al A' an c' w1 S1.out N1.out.toIn (by omega) hnc).mono ?_
  rintro e w2 ⟨A2', c2, out1, rfl, p1, p2, p3, p4⟩
  have hx1 : out1 = bomTold al := by
    have e2 : bomTold [] = [] := by decide
    rw [e2] at p2; exact p2.symm
  have hl1 : out1.length ≤ 100 := by have := bomTold_length al; rw [← hx1] at this; omega
  have kx := conv_text (P := Try.prog) c2 Try.underlying31 Try.underlying5 Try.underlying9 p1.toIn
  have HX1 := Lib.hid hx1
  have N2 := Lib.hid p1
  have S2 : Hid (StB w2 w.heap.size 42 (bomCells al)) := Lib.hid p3
  have G2 := Lib.hid p4
  have hnc2 := p1.2.1
  have hnin : ∀ k, blkOf A' = some k → some k ≠ some w.heap.size := fun k hk e => by
    injection e with e
    have := (N1.out.blk k hk).1
    have := S0.out.lt
    omega
  have I2 := Lib.hid (N1.out.grown p4 hnin)
  have SC : Hid (Scr w0.heap.size w2 A' an c' w2) := Lib.hid ⟨⟨al, I2.out⟩, World.grownBy.refl _ _⟩
  clear p1 p2 p3 p4 hx1
  go_wp2_with fail
  go_loopw [9, 42] (fun j i wr => ∃ k : Nat, k ≤ an ∧ i = .int .i64 k ∧ Hid (Scr w0.heap.size w2 A' an c' wr)) (fun _ i _ => an - (intOf i).toNat)
  case atStart => exact ⟨0, by omega, rfl, SC⟩
  case round =>
    obtain ⟨k, hk, rfl, HSC⟩ := hrel
    by_cases hlt : k < an
    · obtain ⟨⟨ys, hys⟩, honly⟩ := HSC.out
      obtain ⟨g, u, rfl, hbg, hgl, hu, hcell, hfree⟩ := hys.cellAt hlt
      obtain ⟨x, hx, rfl⟩ := u8s_get_inv hu
      have HY := Lib.hid hys
      have HON := Lib.hid honly
      clear hys honly hu hx
      go_wp2_with fail
      go_roundw
      case rel => exact ⟨k + 1, by omega, by go_num, Lib.hid ⟨⟨_, HY.out.stored8 k _⟩, only_set HON.out k _⟩⟩
      case measure => simp [intOf]; omega
    · obtain ⟨⟨ys, hys⟩, honly⟩ := HSC.out
      have N3 := Lib.hid (N2.out.grown honly (fun k hk e => by
        have := (N2.out.blk k hk).1
        have := (N1.out.blk k e.symm).2
        omega))
      have S3 := Lib.hid (S2.out.grown honly (fun e => (hnin _ e.symm) rfl))
      have kx2 := conv_text (P := Try.prog) c2 Try.underlying31 Try.underlying5 Try.underlying9 N3.out.toIn
      have O2 := Lib.hid (below_only O0.out (World.grownBy.trans (only_of O1.out _) G2.out) O0.out.size (Nat.le_refl _))
      have O3 := Lib.hid (O2.out.grown honly O2.out.size (fun k hk => by have := (N1.out.blk k hk).1; have := O0.out.size; omega))
      have SC2 : Hid (Scr w1.heap.size wr A2' out1.length c2 wr) := Lib.hid ⟨⟨out1, N3.out⟩, World.grownBy.refl _ _⟩
      clear hys honly
      go_wp2_with fail
      go_loopw [10, 58] (fun j i wt => ∃ k : Nat, k ≤ out1.length ∧ i = .int .i64 k ∧ Hid (Scr w1.heap.size wr A2' out1.length c2 wt)) (fun _ i _ => out1.length - (intOf i).toNat)
      case atStart => exact ⟨0, by omega, rfl, SC2⟩
      case round =>
        obtain ⟨m, hm, rfl, HSD⟩ := hrel
        by_cases hlm : m < out1.length
        · obtain ⟨⟨ys, hys⟩, honly⟩ := HSD.out
          obtain ⟨g, u, rfl, hbg, hgl, hu, hcell, hfree⟩ := hys.cellAt hlm
          obtain ⟨x, hx, rfl⟩ := u8s_get_inv hu
          have HY := Lib.hid hys
          have HON := Lib.hid honly
          clear hys honly hu hx
          go_wp2_with fail
          go_roundw
          case rel => exact ⟨m + 1, by omega, by go_num, Lib.hid ⟨⟨_, HY.out.stored8 m _⟩, only_set HON.out m _⟩⟩
          case measure => simp [intOf]; omega
        · obtain ⟨⟨ys, hys⟩, honly⟩ := HSD.out
          have S4 := Lib.hid (S3.out.grown honly (fun e => by
            have := (N2.out.blk _ e.symm).1
            have := S1.out.lt
            omega))
          have O4 := Lib.hid (O3.out.grown honly O3.out.size (fun k hk => by have := (N2.out.blk k hk).1; have := O0.out.size; have := O1.out.size; omega))
          clear hys honly
          have HB8 := Lib.hid (B1.out.below O4.out)
          have hm8 : (toBA al ++ toBA bb).size ≤ maxLen := by rw [ByteArray.size_append, toBA_size, toBA_size]; unfold maxLen; omega
          go_wp2_with fail
          go_region_with (first
            | (go_at_call 10
               refine (feed_any w.heap.size al bb ba bn bc _ S4.out.drew HB8.out.drew (by omega) b3).mono ?_
               rintro e w5 ⟨A5, c5, out2, rfl, p1, p2, p3, p4⟩
               have kx5 := conv_text (P := Try.prog) c5 Try.underlying31 Try.underlying5 Try.underlying9 p1.toIn
               have N5 := Lib.hid p1
               have S5 := Lib.hid p3
               have Z5 := Lib.hid S4.out.lt
               have O5 := Lib.hid (below_only O4.out.drew p4 O4.out.size (Nat.le_refl _))
               have HO := Lib.hid (bom_own_is A2.out B2.out HX1.out p2)
               have hl2 := bom_own_len p2
               obtain ⟨tk, htk⟩ : ∃ tk, bomMk.take (bomHeld (al ++ bb)) = tk := ⟨_, rfl⟩
               have HTK := Lib.hid htk
               have hl3 : tk.length ≤ 3 := by rw [← htk, List.length_take]; exact Nat.min_le_right _ _
               rw [htk] at HO
               clear p1 p2 p3 p4 htk)
            | (go_at_call 15
               refine (close_is w.heap.size (bomHeld (al ++ bb)) (.int .i64 (bomStage (al ++ bb))) (.bool (bomHad (al ++ bb))) (Nat.le_succ_of_le (bomHeld_le _)) tk HTK _ S5.out).mono ?_
               rintro e w6 ⟨A6, c6, rfl, q1, q3⟩
               have kx6 := conv_text (P := Try.prog) c5 Try.underlying31 Try.underlying5 Try.underlying9 (N5.out.grown q3 (fun k hk e => by have := (N5.out.blk k hk).1; injection e with e; have := Z5.out; simp at *; omega)).toIn
               have kx7 := conv_text (P := Try.prog) c6 Try.underlying31 Try.underlying5 Try.underlying9 q1.toIn
               have O6 := Lib.hid (below_only O5.out q3 O5.out.size (Nat.le_refl _))
               have kx8 := conv_text (P := Try.prog) ac Try.underlying31 Try.underlying5 Try.underlying9 (A1.out.below O6.out)
               have kx9 := conv_text (P := Try.prog) bc Try.underlying31 Try.underlying5 Try.underlying9 (B1.out.below O6.out)
               clear q1 q3))
          all_goals
            go_wp2_with (first
              | (go_at_call 7; ((refine (above (refStrip_is (toBA al ++ toBA bb) hm8 _ _ HO (Lib.hid rfl) _)).mono ?_); rintro e _ ⟨rfl, y, rfl⟩))
              | (go_at_call 8; ((refine (above (bomAwake_any _)).mono ?_); rintro x _ ⟨rfl, y2, rfl⟩)))
            go_ret
            exact ⟨rfl, below_onto O6.out O6.out.size _⟩

theorem bomOwn_walk (ra rb : Row8) (w : World) (oka : ra.Ok w) (okb : rb.Ok w) : Calls Try.prog 5 #[ra.v, rb.v] w fun e w' => e = .returned (.bool true) ∧ Below w.heap.size w w' := by
  have h1 := oka.room
  have h2 := oka.least
  have h3 := okb.room
  have h4 := okb.least
  by_cases ha : ra.n ≤ 100
  · by_cases hb : rb.n ≤ 100
    · exact bomOwn_yes ra rb w oka okb ha hb
    · exact bomOwn_no ra rb w (.inr ⟨ha, by omega⟩) (by omega) (by omega)
  · exact bomOwn_no ra rb w (.inl (by omega)) (by omega) (by omega)
end Go.Proofs.Ytfcjljebjhjglaa

/- Layer 11: the program's writer: own, drop. -/
import Derived.Test.YtaoncnlhilpgfaaDoorWrb
import Derived.Test.YtaoncnlhilpgfaaDoorZk
namespace Go.Proofs.YtaoncnlhilpgfaaDoor
open Go.ChangeShapes Go.WideShapes Go.ChangeAt Go.RowKit
set_option linter.unusedVariables false
set_option linter.unusedSimpArgs false

theorem infoB11 : (Tryd.prog.info? 5).map (fun i => (i.zero, i.size, i.bytes)) = some (some (.int .u8 0), 1, 1) := by kernel_rfl
/-- The program's writer, its cells. -/
def wcs (d q e : Int) (A : Option Addr) (m c : Nat) (k ct sz : Int) (cl : Bool) : Array Value := #[.int .u8 d, .int .u8 q, .int .i64 e, .slice A m c, .int .i64 k, .int .i64 ct, .int .i64 sz, .bool cl]
theorem slAt_unlike {w : World} {e T : TypeId} {A : Option Addr} {n c g : Nat} {xs : List Value} {cs : Array Value} (h : SlAt w e A n c xs) (hs : StB w g T cs) (he : e ≠ T) : ∀ k, blkOf A = some k → k ≠ g := by
  intro k hk hkg
  rcases h.2.2.2 with ⟨rfl, _⟩ | ⟨q, off, cur, fz, rfl, hg, _⟩
  · cases hk
  · have : q = k := by simpa [blkOf] using hk
    subst this hkg
    unfold StB at hs
    rw [hs] at hg
    injection hg with hg
    injection hg with _ h2 _
    exact he h2.symm

set_option maxRecDepth 100000 in
set_option maxHeartbeats 800000 in
theorem own_pc (A : Option Addr) (n c : Nat) (l : List Int) (w : World) (hn : n ≤ 2000000) (hs : Hid (SlIn w A n (u8s l))) :
    Calls Tryd.prog 29 #[.slice A n c] w fun y w' => ∃ O c', y = .returned (.slice O n c') ∧ Hid (SlOwn w' w.heap.size 5 O n c' (u8s l)) ∧ Below w.heap.size w w' := by
  obtain ⟨i0, hi, hz0, hz1, hz2⟩ := info_parts infoB11
  have Hi := Lib.hid hi
  have Hz0 := Lib.hid hz0
  have Hz1 := Lib.hid hz1
  have Hz2 := Lib.hid hz2
  clear hi hz0 hz1 hz2
  go_enter Tryd.func29, Tryd.ntmps29
  go_wp2_with (at_builtin; refine wpList_append_sl _ rfl (.const (.slice none 0 0)) (.tmp 3) 43 rfl 5 i0 (.int .u8 0) 1 Tryd.underlying43 Hi.out Hz0.out Hz1.out Hz2.out rfl w.heap.size none 0 0 [] rfl (SlOwn.nothing _ _ _) A n c (u8s l) rfl hs.out u8s_one (by unfold maxLen; omega) (by omega) (Nat.le_refl _) ?_; intro O c' w' ho hg hor)
  rw [List.nil_append, Nat.zero_add] at ho
  go_ret
  exact ⟨O, c', rfl, Lib.hid ho, ⟨hg.os, hg.tape, hg.output, hg.size, fun k hk => hg.block k hk (by simp [blkOf])⟩⟩

/-- What drop leaves. -/
def DropOut (d q e : Int) (g : Nat) (A : Option Addr) (m N : Nat) (ct sz : Int) (cl : Bool) (l : List Int) (w : World) (y : Ending) (w' : World) : Prop :=
  y = .returned (.tuple #[]) ∧ ∃ (A' : Option Addr) (c' k' : Nat), k' ≤ m - N ∧ Hid (StB w' g 62 (wcs d q e A' (m - N) c' k' ct sz cl)) ∧ Hid (SlAt w' 5 A' (m - N) c' (u8s (l.drop N))) ∧ Hid (Touch w w' (fun j => j = g)) ∧ Hid (∀ j, blkOf A' = some j → blkOf A = some j ∨ w.heap.size ≤ j)
set_option maxRecDepth 100000 in
set_option maxHeartbeats 1600000 in
theorem drop_pc (d q e : Int) (g : Nat) (A : Option Addr) (m c k N : Nat) (ct sz : Int) (cl : Bool) (l : List Int) (w : World) (hm : m ≤ 1000000) (hk : k ≤ m) (hN : N ≤ m) (hst : Hid (StB w g 62 (wcs d q e A m c k ct sz cl))) (hs : Hid (SlAt w 5 A m c (u8s l))) :
    Calls Tryd.prog 30 #[.pointer (some ⟨g, 0, none⟩), .int .i64 N] w (DropOut d q e g A m N ct sz cl l w) := by
  have g0 := hst.out.lt
  have c3 : w.cell? ⟨g, 3, none⟩ = some (.slice A m c) := hst.out.cell 3
  have c4 : w.cell? ⟨g, 4, none⟩ = some (.int .i64 k) := hst.out.cell 4
  have f3 := hst.out.free 3
  have f4 := hst.out.free 4
  have hmc : m ≤ c := hs.out.2.1
  obtain ⟨A1, hA1⟩ : ∃ A1, (if c = N then A else A.map (·.add N)) = A1 := ⟨_, rfl⟩
  obtain ⟨hcut, hblk⟩ := hs.out.cut hN
  rw [hA1] at hcut hblk
  have HCUT := Lib.hid hcut
  have HBLK := Lib.hid hblk
  clear hcut hblk
  go_enter Tryd.func30, Tryd.ntmps30
  go_upto_region 2 with fail
  obtain ⟨W, hW⟩ : ∃ W, W = (w.setCell ⟨g, 3, none⟩ (.slice A1 (m - N) (c - N))).setCell ⟨g, 4, none⟩ (.int .i64 ((k : Int) + (N : Int))) := ⟨_, rfl⟩
  have HSW := Lib.hid (show StB W g 62 (wcs d q e A1 (m - N) (c - N) ((k + N : Nat) : Int) ct sz cl) by rw [hW]; exact (hst.out.set_ 3 _).set_ 4 _)
  have HTW := Lib.hid (show Touch w W (fun j => j = g) by rw [hW]; exact ((Touch.refl w (fun j => j = g)).then_set (p := ⟨g, 3, none⟩) (.inl rfl) _).then_set (p := ⟨g, 4, none⟩) (.inl rfl) _)
  have HAW := Lib.hid (HCUT.out.touch HTW.out (fun j hj => slAt_unlike hs.out hst.out (by decide) j (HBLK.out j hj)))
  rw [← hW]
  obtain ⟨k2, hk2⟩ : ∃ k2, k + N = k2 := ⟨_, rfl⟩
  rw [show (k : Int) + (N : Int) = (k2 : Int) by rw [← hk2]; rfl]
  rw [hk2] at HSW
  obtain ⟨m2, hm2⟩ : ∃ m2, m - N = m2 := ⟨_, rfl⟩
  obtain ⟨c2, hc2⟩ : ∃ c2, c - N = c2 := ⟨_, rfl⟩
  rw [hm2, hc2] at HSW HAW ⊢
  have HM2 := Lib.hid hm2
  have hm2b : m2 ≤ 1000000 := by omega
  clear hW c3 c4 f3 f4 hA1 hk2 hm2 hc2
  have d3 : W.cell? ⟨g, 3, none⟩ = some (.slice A1 m2 c2) := HSW.out.cell 3
  have d4 : W.cell? ⟨g, 4, none⟩ = some (.int .i64 k2) := HSW.out.cell 4
  have dl := HSW.out.lt
  by_cases hge : (m2 : Int) ≤ (k2 : Int)
  · have hbool : decide ((k2 : Int) ≥ (m2 : Int)) = true := decide_eq_true hge
    refine wp_region_onto (by kernel_rfl) (by kernel_rfl) ?_
    repeat (go_big_quiet_step (fail))
    refine wpQuiet_nil ?_
    intro _ hw'
    obtain ⟨z1, hw''⟩ := hw'
    subst hw''
    obtain ⟨W1, hW1⟩ : ∃ W1, W1 = onto W z1 := ⟨_, rfl⟩
    have HBW := Lib.hid (show Below W.heap.size W W1 by rw [hW1]; exact onto_below W z1)
    rw [← hW1]
    have HS1 := Lib.hid (HSW.out.below HBW.out)
    have HA1 := Lib.hid (HAW.out.below HBW.out)
    have HT1 := Lib.hid (HTW.out.then_below HBW.out)
    clear hW1 d3 d4 dl
    have d3 : W1.cell? ⟨g, 3, none⟩ = some (.slice A1 m2 c2) := HS1.out.cell 3
    have dl := HS1.out.lt
    have hl' : List.drop N (u8s l) = u8s (l.drop N) := by unfold u8s; rw [List.map_drop]
    rw [hl'] at HA1
    have HOWN := Lib.hid (own_pc A1 m2 c2 (l.drop N) W1 (by omega) (Lib.hid HA1.out.toIn))
    clear hl' hbool hge
    go_wp2_with fail
    refine HOWN.out.mono ?_
    rintro y W2 ⟨O, c3, rfl, HO, hb2⟩
    have HB2 := Lib.hid hb2
    have HS2 := Lib.hid (HS1.out.below hb2)
    have HT2 := Lib.hid (HT1.out.then_below hb2)
    clear HOWN d3 dl hb2
    have f3 := HS2.out.free 3
    have f4 := HS2.out.free 4
    have e3 : W2.cell? ⟨g, 3, none⟩ = some (.slice A1 m2 c2) := HS2.out.cell 3
    have e4 : W2.cell? ⟨g, 4, none⟩ = some (.int .i64 k2) := HS2.out.cell 4
    have dl := HS2.out.lt
    have hs3 := (HS2.out.set_ 3 (.slice O m2 c3)).set_ 4 (.int .i64 0)
    have HS3 := Lib.hid (show StB ((W2.setCell ⟨g, 3, none⟩ (.slice O m2 c3)).setCell ⟨g, 4, none⟩ (.int .i64 0)) g 62 (wcs d q e O m2 c3 ((0 : Nat) : Int) ct sz cl) from hs3)
    have HT3 := Lib.hid ((HT2.out.then_set (p := ⟨g, 3, none⟩) (.inl rfl) (.slice O m2 c3)).then_set (p := ⟨g, 4, none⟩) (.inl rfl) (.int .i64 0))
    have hun := slAt_unlike HO.out.toAt HS2.out (by decide)
    have HO3 := Lib.hid ((HO.out.toAt.touch (((Touch.refl W2 (fun j => j = g)).then_set (p := ⟨g, 3, none⟩) (.inl rfl) (.slice O m2 c3)).then_set (p := ⟨g, 4, none⟩) (.inl rfl) (.int .i64 0)) (fun j hj => hun j hj)))
    have HOB := Lib.hid (show ∀ j, blkOf O = some j → w.heap.size ≤ j from fun j hj => Nat.le_trans HT1.out.size (HO.out.blk j hj).1)
    clear hs3 hun
    go_wp2_with fail
    go_end0
    exact ⟨rfl, O, c3, 0, Nat.zero_le _, by rw [HM2.out]; exact HS3, by rw [HM2.out]; exact HO3, HT3, Lib.hid (fun j hj => .inr (HOB.out j hj))⟩
  · have hbool : decide ((k2 : Int) ≥ (m2 : Int)) = false := decide_eq_false hge
    refine wp_region_onto (by kernel_rfl) (by kernel_rfl) ?_
    repeat (go_big_quiet_step (fail))
    refine wpQuiet_nil ?_
    intro _ hw'
    obtain ⟨z1, hw''⟩ := hw'
    subst hw''
    have HBW := Lib.hid (onto_below W z1)
    have hkm : k2 ≤ m2 := by omega
    have hl' : List.drop N (u8s l) = u8s (l.drop N) := by unfold u8s; rw [List.map_drop]
    rw [hl'] at HAW
    clear hge
    go_wp2_with fail
    go_end0
    exact ⟨rfl, A1, c2, k2, by rw [HM2.out]; exact hkm, by rw [HM2.out]; exact Lib.hid (HSW.out.below HBW.out), by rw [HM2.out]; exact Lib.hid (HAW.out.below HBW.out), Lib.hid (HTW.out.then_below HBW.out), Lib.hid (fun j hj => .inl (HBLK.out j hj))⟩
end Go.Proofs.YtaoncnlhilpgfaaDoor

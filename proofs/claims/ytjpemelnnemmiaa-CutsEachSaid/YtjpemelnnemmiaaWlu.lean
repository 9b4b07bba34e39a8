/- Layer 7: the walk of the statement CutsEach: the Go text returns true and leaves all that was there as it was. -/
import Derived.Test.YtjpemelnnemmiaaCec
import Derived.Test.YtjpemelnnemmiaaCam
import Derived.Deep.DeepCutAuto
import Derived.Deep.CutRange
import Derived.Deep.CutBlock
import Derived.Deep.RegionWith
namespace Go.Proofs.Ytjpemelnnemmiaa
open Go.ChangeShapes Go.WideShapes Go.ChangeAt Go.RowKit
set_option linter.unusedVariables false
set_option linter.unusedSimpArgs false
attribute [local go_sem] Oper.semAt_some

/-- What holds in the loop: as many have come as box nb says; nothing else of W6 has turned. -/
def ChI (W6 : World) (nb : Nat) (pre : List (List ByteArray)) (W : World) (T : Nat → Prop) : Prop :=
  T nb ∧ (∀ k, T k → k = nb) ∧ Touch W6 W (fun k => k = nb) ∧ StB W nb 3 #[.int .i64 (pre.length : Int)]
theorem ch_touch {W6 W1 W2 : World} {nb B : Nat} {T S : Nat → Prop} (hB : W6.heap.size ≤ B) (h1 : T nb) (h3 : Touch W6 W1 (fun k => k = nb)) (ht : Touch W1 W2 S) (hS : ∀ k, S k → ¬ T k ∧ B ≤ k) : Touch W6 W2 (fun k => k = nb) := by
  refine ⟨ht.os.trans h3.os, ht.tape.trans h3.tape, ht.output.trans h3.output, Nat.le_trans h3.size ht.size, fun k hk hn => ?_⟩
  exact (ht.block k (Nat.lt_of_lt_of_le hk h3.size) (fun hs => by have := (hS k hs).2; omega)).trans (h3.block k hk hn)
theorem chI_ab (W6 : World) (nb B : Nat) (hB : W6.heap.size ≤ B) : AbT B (ChI W6 nb) := fun s W1 W2 T S h hl ht hS => by
  obtain ⟨h1, h2, h3, h4⟩ := h
  exact ⟨h1, h2, ch_touch hB h1 h3 ht hS, h4.touch ht (fun hs => (hS _ hs).1 h1)⟩
theorem eachL_at {s : ByteArray} {pre : List (List ByteArray)} {x : List ByteArray} (h : pre ++ [x] <+: eachL s) : pre.length < waysC (s.size : Int) ∧ x = pieceOf s (wayN s.size pre.length) := by
  obtain ⟨t, ht⟩ := h
  have hl : pre.length < waysC (s.size : Int) := by have := congrArg List.length ht; simp [eachL, waysL] at this; omega
  refine ⟨hl, ?_⟩
  have h1 : (eachL s)[pre.length]? = some x := by rw [← ht]; simp
  unfold eachL waysL at h1
  simp [hl] at h1
  exact h1.symm

set_option maxRecDepth 100000 in
set_option maxHeartbeats 3200000 in
theorem cutsEach_walk (s : ByteArray) (w : World) (hs : s.size ≤ maxLen) :
    Calls Try.prog 7 #[.string s] w fun x w' => x = .returned (.bool true) ∧ Below w.heap.size w w' := by
  have hs0 : s.size ≤ 9223372036854775807 := hs
  by_cases h8 : s.size ≤ 8
  · obtain ⟨M, hM⟩ : ∃ M, waysC (s.size : Int) = M := ⟨_, rfl⟩
    obtain ⟨E, hE⟩ : ∃ E, waysE (s.size : Int) = E := ⟨_, rfl⟩
    have HM := Lib.hid hM
    have hM32 : M ≤ 32768 := by rw [← hM]; exact waysC_le _
    have hrc := fun w => refCount_any (s.size : Int) w
    rw [hM, hE] at hrc
    have HRC := Lib.hid hrc
    clear hM hE hrc
    refine (callsIn_wide (n := 20)).1 ?_
    refine callsIn_of_wp_marks Try.func7 rfl trivial ?_ rfl
    simp only [Try.ntmps7, List.size_toArray, List.length_cons, List.length_nil, Nat.reduceAdd, Nat.reduceSub, Array.replicate_succ, Array.replicate_zero, List.push_toArray, List.append_toArray, List.nil_append, List.cons_append]
    refine wpIn_wide.2 ?_
    have hd8 : decide (8 < (s.size : Int)) = false := by simp; omega
    go_wp2_with fail
    refine (each_any s _).mono ?_
    rintro y w4 ⟨rfl, rfl⟩
    go_upto_region 4 with fail
    obtain ⟨W4, hW4⟩ : ∃ W4, ((w.alloc (.cells #[.string s] 9)).alloc (.cells #[.bool false] 4)).alloc (.cells #[.string s] 9) = W4 := ⟨_, rfl⟩
    obtain ⟨h, hh⟩ : ∃ h, w.heap.size = h := ⟨_, rfl⟩
    rw [hW4, hh]
    obtain ⟨rb, hrb⟩ : ∃ h', h + 1 = h' := ⟨_, rfl⟩
    obtain ⟨r0, hr0⟩ : ∃ h', rb + 1 = h' := ⟨_, rfl⟩
    rw [hrb, hr0]
    have HH := Lib.hid hh
    have HBB := Lib.hid (show w.heap.size ≤ rb by omega)
    have HB4 := Lib.hid (show Below w.heap.size w W4 by rw [← hW4]; exact up_alloc (up_alloc (up_alloc (Below.refl _ _) _) _) _)
    have HN4 := Lib.hid (show StB W4 h 9 #[.string s] by rw [← hW4]; exact ((StB.made _ hh.symm _ _).alloc _).alloc _)
    have HR4 := Lib.hid (show StB W4 rb 4 #[.bool false] by rw [← hW4]; exact (StB.made _ (by simp; omega) _ _).alloc _)
    have s40 := Lib.hid (show StB W4 r0 9 #[.string s] by rw [← hW4]; exact StB.made _ (by simp; omega) _ _)
    clear hW4
    have hfn : ∀ w, (binOp .eql 42 (.func (.func 29) #[] #[.pointer (some ⟨r0, 0, none⟩)]) Value.nilFunc).run Try.prog w = .ok (.bool false) w := fun w => by kernel_rfl
    go_wp2_with fail
    obtain ⟨W6, hW6⟩ : ∃ W6, W4.alloc (.cells #[.int .i64 0] 3) = W6 := ⟨_, rfl⟩
    obtain ⟨nb, hnb⟩ : ∃ nb, W4.heap.size = nb := ⟨_, rfl⟩
    rw [hW6, hnb]
    have hb46 : Below W4.heap.size W4 W6 := by rw [← hW6]; exact up_alloc (Below.refl _ _) _
    have hN6 : StB W6 nb 3 #[.int .i64 0] := by rw [← hW6]; exact StB.made _ hnb.symm _ _
    have hz6 : W6.heap.size = nb + 1 := by rw [← hW6]; simp; omega
    have s60 := s40.out.below hb46
    have HN6 := Lib.hid (HN4.out.below hb46)
    have HR6 := Lib.hid (HR4.out.below hb46)
    have HB6 := Lib.hid (HB4.out.trans (hb46.mono HB4.out.size))
    have hrn : r0 < nb := by have := s40.out.lt; omega
    have hhn : h < nb := by have := HN4.out.lt; omega
    have hrbn : rb < nb := by have := HR4.out.lt; omega
    have start : ChI W6 nb [] W6 (fun k => k = nb) := ⟨rfl, (fun k hk => hk), Touch.refl _ _, hN6⟩
    have lies : Lies W6 (fun k => k = nb) := fun k hk => by have : k = nb := hk; omega
    clear hW6 hfn hb46 HN4 HR4 HB4 s40 hd8
    refine (wpIn_wide (n := 20)).1 ?_
    refine wpIn_range_W rfl (by simp [Fence.wide]) (gf := 29) (lb := #[.pointer (some ⟨r0, 0, none⟩)]) rfl trivial (enters_of Try.func29 (by kernel_rfl) rfl)
      (encs := Ex.args) (gh := Ex.gh) (hand := Ex.hand) (blk := Ex.blk) (evs := eachL s) (Kp := fun k => k = r0) (fun W1 hb => each_seq (by omega) hs (s60.below hb)) ehand_keep (fun _ => rfl)
      (ChI W6 nb) (fun _ _ _ _ => False) (chI_ab _ _ _ (Nat.le_refl _)) (fun _ _ _ _ _ _ h _ _ _ => h) _ start lies (fun k hk => ⟨fun e => by omega, by omega⟩)
      (fun y V => { tmps := #[.string s, .pointer (some ⟨h, 0, none⟩), .pointer (some ⟨rb, 0, none⟩), .func (.func 29) #[] #[.pointer (some ⟨r0, 0, none⟩)], .pointer (some ⟨nb, 0, none⟩), .slice y.A y.l.length y.c, undef, undef, .string s, .int .i64 (s.size : Int), .bool false, undef, .string s, .func (.func 29) #[] #[.pointer (some ⟨r0, 0, none⟩)], .func (.func 29) #[] #[.pointer (some ⟨r0, 0, none⟩)], .bool false, .func (.func 29) #[] #[.pointer (some ⟨r0, 0, none⟩)], .slice y.A y.l.length y.c, undef, undef, undef, undef, undef, undef, undef, undef, undef, undef, undef, undef, undef, undef, undef, undef, undef, undef, undef, undef, undef, undef, undef, undef, undef, undef, undef, undef, undef], defers := [] })
      (fun y V => V) (fun y V => Below.refl _ V) ?assign ?body ?done ?stop
    case assign =>
      rintro l ⟨xA, xc, xl⟩ W K hK
      dsimp only [Ex.args] at hK ⊢
      gi_wp2
      exact hK
    case body =>
      rintro l pre ⟨xA, xc, xl⟩ V W T ⟨hTn, hT, ht6, hN⟩ hlT hpre hhand hblk hge htouch hl
      obtain ⟨hlen, hxl0⟩ := eachL_at hpre
      have hxl : xl = pieceOf s (wayN s.size pre.length) := hxl0
      clear hxl0
      obtain ⟨p, hp⟩ : ∃ p, pre.length = p := ⟨_, rfl⟩
      have HP1 := Lib.hid (show ((pre ++ [Ex.gh ⟨xA, xc, xl⟩]).length : Int) = (p : Int) + 1 by simp; omega)
      rw [hp] at hN hlen hxl
      rw [HM.out] at hlen
      obtain ⟨m, hm⟩ : ∃ m, (wayN s.size p).length = m := ⟨_, rfl⟩
      have hm16 : m ≤ 16 := by rw [← hm]; exact Nat.le_trans (wayGo_length _ _ _) (by omega)
      have hlx : xl.length = m + 1 := by rw [hxl, pieceOf_length, hm]
      have HX := Lib.hid (show SlIn W xA (m + 1) (strs (pieceOf s (wayN s.size p))) by
        have h1 : SlIn W xA xl.length (strs xl) := hhand.toIn
        rw [hlx, hxl] at h1; exact h1)
      have HJN := Lib.hid (show jn (pieceOf s (wayN s.size p)) = s from jn_cutAt _ _)
      have hnN : StB W h 9 #[.string s] := HN6.out.touch ht6 (fun e => by have : h = nb := e; omega)
      have HT6W := Lib.hid ht6
      have HNW := Lib.hid hN
      have HNS := Lib.hid hnN
      have HLW := Lib.hid (show Lies W T from hlT.later htouch.size)
      have HTN := Lib.hid (And.intro hTn hT)
      have k0 : W.cell? ⟨nb, 0, none⟩ = some (.int .i64 (p : Int)) := hN.cell 0
      have k1 : W.cell? ⟨h, 0, none⟩ = some (.string s) := hnN.cell 0
      have l0 := hN.lt
      have l1 := hnN.lt
      have hwz : W6.heap.size ≤ W.heap.size := Nat.le_trans hge htouch.size
      have hse : (s.toList != s.toList) = false := by simp
      have HWY := Lib.hid hm
      rw [hlx]
      clear hhand hblk hlT hpre htouch hl hp hnN ht6 hN hTn hT hm hxl hlx
      gi_wp2
      refine region_C (fun w' => Below W.heap.size W w') (by kernel_rfl) (by kernel_rfl) ?_
      have hC1 : Below W.heap.size W W.drew := (Below.refl _ W).drew
      refine takeC (i := 0) (v := .slice xA (m + 1) xc) rfl (by kernel_rfl) (by kernel_rfl) (by kernel_rfl) (by kernel_rfl) (fun _ _ _ h => h) hC1 (.inl ⟨by rfl, fun w hw => by go_simp⟩) ?_
      refine takeC (i := 1) (v := .string s) rfl (by kernel_rfl) (by kernel_rfl) (by kernel_rfl) (by kernel_rfl) (fun _ _ _ h => h) hC1 (.inl ⟨by rfl, fun w hw => by have h1 := (hw.cell (p := ⟨h, 0, none⟩) l1).trans k1; go_simp⟩) ?_
      refine takeC (i := 2) (v := .string s) rfl (by kernel_rfl) (by kernel_rfl) (by kernel_rfl) (by kernel_rfl) (fun _ _ _ h => h) hC1 (.inl ⟨by rfl, fun w hw => by have h1 := (hw.cell (p := ⟨h, 0, none⟩) l1).trans k1; go_simp⟩) ?_
      refine takeC (i := 3) (v := .int .i64 (s.size : Int)) rfl (by kernel_rfl) (by kernel_rfl) (by kernel_rfl) (by kernel_rfl) (fun _ _ _ h => h) hC1 (.inl ⟨by rfl, fun w hw => by go_simp⟩) ?_
      refine takeC (i := 4) (v := .int .i64 (p : Int)) rfl (by kernel_rfl) (by kernel_rfl) (by kernel_rfl) (by kernel_rfl) (fun _ _ _ h => h) hC1 (.inl ⟨by rfl, fun w hw => by have h1 := (hw.cell (p := ⟨nb, 0, none⟩) l0).trans k0; go_simp⟩) ?_
      refine oneC (i := 5) (by kernel_rfl) rfl (by kernel_rfl) (fun K hK => ?_)
      go_simp
      refine callsIn_wide.2 ((refWay_any s.size p (by omega) (by omega) W.drew).mono ?_)
      rintro x W2 ⟨A2, c2, rfl, HO2, HB2⟩
      rw [HWY.out] at HO2
      rw [HWY.out]
      have hC2 : Below W.heap.size W W2 := hC1.trans HB2.out
      refine hK _ _ hC2 ?_
      clear hK K
      refine oneC (i := 6) (by kernel_rfl) rfl (by kernel_rfl) (fun K hK => ?_)
      go_simp
      refine callsIn_wide.2 ((refAt_any s (intOfs (wayN s.size p)) A2 m c2 (by omega) (by omega) W2 (Lib.hid (by rw [intOfs_ints]; exact HO2.out.toIn))).mono ?_)
      rintro x W3 ⟨O, co, rfl, HO3, HB3⟩
      have HO3 : Hid (SlIn W3 O (m + 1) (strs (pieceOf s (wayN s.size p)))) := HO3
      have hC3 : Below W.heap.size W W3 := hC2.trans (HB3.out.mono hC2.size)
      refine hK _ _ hC3 ?_
      clear hK K
      have HX3 := Lib.hid (HX.out.below hC3)
      refine oneC (i := 7) (by kernel_rfl) rfl (by kernel_rfl) (fun K hK => ?_)
      go_simp
      refine callsIn_wide.2 ((same_yes xA O (m + 1) xc co (pieceOf s (wayN s.size p)) W3 HX3.out HO3.out (by omega)).mono ?_)
      rintro x W4 ⟨rfl, hb4⟩
      have hC4 : Below W.heap.size W W4 := hC3.trans (hb4.mono hC3.size)
      refine hK _ _ hC4 ?_
      clear hK K
      have HX4 := Lib.hid (HX.out.below hC4)
      refine takeC (i := 8) (v := .bool false) rfl (by kernel_rfl) (by kernel_rfl) (by kernel_rfl) (by kernel_rfl) (fun _ _ _ h => h) hC4 (.inl ⟨by rfl, fun w hw => by go_simp⟩) ?_
      refine takeC (i := 9) (v := .bool false) rfl (by kernel_rfl) (by kernel_rfl) (by kernel_rfl) (by kernel_rfl) (fun _ _ _ h => h) hC4 (.inl ⟨by rfl, fun w hw => by go_simp⟩) ?_
      refine takeC (i := 10) (v := .slice xA (m + 1) xc) rfl (by kernel_rfl) (by kernel_rfl) (by kernel_rfl) (by kernel_rfl) (fun _ _ _ h => h) hC4 (.inl ⟨by rfl, fun w hw => by go_simp⟩) ?_
      refine takeC (i := 12) (v := .string s) rfl (by kernel_rfl) (by kernel_rfl) (by kernel_rfl) (by kernel_rfl) (fun _ _ _ h => h) hC4 (.inl ⟨by rfl, fun w hw => by have h1 := (hw.cell (p := ⟨h, 0, none⟩) l1).trans k1; go_simp⟩) ?_
      refine oneC (i := 11) (by kernel_rfl) rfl (by kernel_rfl) (fun K hK => ?_)
      go_simp
      refine callsIn_wide.2 ((joined_any xA (m + 1) xc (pieceOf s (wayN s.size p)) W4 HX4 (by omega) (Lib.hid (by rw [HJN.out]; omega))).mono ?_)
      rintro x W5 ⟨rfl, hb5⟩
      rw [HJN.out]
      have hC5 : Below W.heap.size W W5 := hC4.trans (hb5.mono hC4.size)
      refine hK _ _ hC5 ?_
      clear hK K
      refine takeC (i := 13) (v := .bool false) rfl (by kernel_rfl) (by kernel_rfl) (by kernel_rfl) (by kernel_rfl) (fun _ _ _ h => h) hC5 (.inl ⟨by rfl, fun w hw => by go_simp⟩) ?_
      refine takeC (i := 14) (v := .bool false) rfl (by kernel_rfl) (by kernel_rfl) (by kernel_rfl) (by kernel_rfl) (fun _ _ _ h => h) hC5 (.inl ⟨by rfl, fun w hw => by go_simp⟩) ?_
      refine doneC (by kernel_rfl) ?_
      have HC5 := Lib.hid hC5
      have hnN5 := HNW.out.below hC5
      have j0 : W5.cell? ⟨nb, 0, none⟩ = some (.int .i64 (p : Int)) := hnN5.cell 0
      have j1 := hnN5.lt
      have j2 := hnN5.free 0
      have HN5 := Lib.hid hnN5
      clear hC1 hC2 hC3 hC4 hC5 k0 k1 l0 l1 hb4 hb5 HB2 HB3 HO2 HO3 HX3 HX4 HX hnN5
      gi_wp2
      have T1 := (Touch.of_below HC5.out (fun j => T j ∨ Ex.blk ⟨xA, xc, xl⟩ j)).then_set (p := ⟨nb, 0, none⟩) (.inl (.inl HTN.out.1)) (.int .i64 ((p : Int) + 1))
      have T6 := HT6W.out.trans (S' := fun k => k = nb) (Sub.refl _ _) ((Touch.of_below HC5.out (fun j => j = nb)).then_set (p := ⟨nb, 0, none⟩) (.inl rfl) (.int .i64 ((p : Int) + 1)))
      exact ⟨T, HLW.out.later T1.size, (fun k hk => .inl (.inl hk)), T1, HTN.out.1, HTN.out.2, T6, by rw [HP1.out]; exact HN5.out.set_ 0 _⟩
    case done =>
      rintro D W T hD ⟨hTn, hT, ht6, hN⟩ hlT hTD hK
      rw [show ((eachL s).length : Int) = (M : Int) by rw [← HM.out]; simp [eachL, waysL]] at hN
      have hnS : StB W h 9 #[.string s] := HN6.out.touch ht6 (fun e => by have : h = nb := e; omega)
      have HRW := Lib.hid (show StB W rb 4 #[.bool false] from HR6.out.touch ht6 (fun e => by have : rb = nb := e; omega))
      have HNW := Lib.hid hN
      have k0 : W.cell? ⟨h, 0, none⟩ = some (.string s) := hnS.cell 0
      have HKD := Lib.hid hK
      have HDN := Lib.hid (show ¬ D = rb by omega)
      have HDW := Lib.hid (show w.heap.size ≤ D by have := HB6.out.size; omega)
      have HBW := Lib.hid (HB6.out.trans (ht6.below HB6.out.size (fun k hk => by have : k = nb := hk; have := HBB.out; omega)))
      clear hnS hN ht6 hK
      go_wp2_with fail
      refine (HRC.out W).mono ?_
      rintro x W9 ⟨rfl, hb9⟩
      have HRW9 := Lib.hid (HRW.out.below hb9)
      have hn9 := HNW.out.below hb9
      have k1 : W9.cell? ⟨nb, 0, none⟩ = some (.int .i64 (M : Int)) := hn9.cell 0
      have k2 := hn9.lt
      have k3 : W9.cell? ⟨rb, 0, none⟩ = some (.bool false) := HRW9.out.cell 0
      have k4 := HRW9.out.free 0
      have k5 := HRW9.out.lt
      have HKD9 := Lib.hid ((hb9.block D (Array.getElem?_eq_some_iff.1 HKD.out).1).trans HKD.out)
      have HBW9 := Lib.hid (HBW.out.trans (hb9.mono HBW.out.size))
      clear hb9 hn9 k0
      go_wp2_with (go_at_call 8; ((with_reducible refine (above (awake_calls _)).mono ?_); rintro x _ ⟨rfl, y, rfl⟩))
      all_goals
        have T1 := (Touch.of_below (onto_below W9 y) (fun k => k = rb)).then_set (p := ⟨rb, 0, none⟩) (.inl rfl) (.bool true)
        have hK' := (T1.block D (Array.getElem?_eq_some_iff.1 HKD9.out).1 HDN.out).trans HKD9.out
        have s8 := (HRW9.out.below (onto_below W9 y)).set_ 0 (.bool true)
        have s9 := s8.touch (Touch.putObj _ D (.deferred none)) (fun e => HDN.out e.symm)
        have hb1 := HBW9.out.trans (T1.below HBW9.out.size (fun k hk => by have : k = rb := hk; have := HBB.out; omega))
        have hb2 := hb1.trans ((Touch.putObj ((onto W9 y).setCell ⟨rb, 0, none⟩ (.bool true)) D (.deferred none)).below hb1.size (fun k hk => by have : k = D := hk; have := HDW.out; omega))
        have y0 := s9.cell 0
        have HB2 := Lib.hid hb2
        clear T1 s8 s9 hb1 hb2
        refine ⟨by simp, .inl ⟨_, _, rfl, run_takeDeferred hK', ?_⟩⟩
        refine ⟨.bool true, by simp [results, Try.results7, go_sem, y0], rfl, by first | exact HB2.out | (have hz := HB2.out; rw [HH.out] at hz; exact hz)⟩
    case stop =>
      rintro D code pre W T hD hpre hX hlT hTD hK
      exact hX.elim
  · go_enter Try.func7, Try.ntmps7
    go_wp2_with (go_at_call 8; ((with_reducible refine (above (awake_calls _)).mono ?_); rintro x _ ⟨rfl, y, rfl⟩))
    obtain ⟨A, hA⟩ : ∃ A, (w.alloc (.cells #[.string s] 9)).alloc (.cells #[.bool false] 4) = A := ⟨_, rfl⟩
    have hwA : Below w.heap.size w A := by rw [← hA]; exact up_alloc (up_alloc (Below.refl _ _) _) _
    have hS : StB A (w.heap.size + 1) 4 #[.bool false] := by rw [← hA]; exact StB.made _ (by simp) _ _
    revert y
    rw [hA]
    intro y
    have hS2 := (hS.below (onto_below A y)).set_ 0 (.bool true)
    have T1 := (Touch.of_below (onto_below A y) (fun k => k = w.heap.size + 1)).then_set (p := ⟨w.heap.size + 1, 0, none⟩) (.inl rfl) (.bool true)
    have y0 := hS2.cell 0
    exact bodyPost_ret (v := .bool true) (by simp [results, Try.results7, go_sem, y0]) rfl ⟨rfl, hwA.trans (T1.below hwA.size (fun k hk => by have : k = w.heap.size + 1 := hk; omega))⟩
end Go.Proofs.Ytjpemelnnemmiaa

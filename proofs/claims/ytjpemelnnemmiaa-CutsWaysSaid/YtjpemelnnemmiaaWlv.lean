/- Layer 7: the walk of the statement CutsWays: the Go text returns true and leaves all that was there as it was. -/
import Derived.Test.YtjpemelnnemmiaaCwb
import Derived.Test.YtjpemelnnemmiaaKit13
import Derived.Test.YtjpemelnnemmiaaCam
import Derived.Deep.DeepCutAuto
import Derived.Deep.CutRange
import Derived.Deep.CutBlock
import Derived.Deep.RegionWith
namespace Go.Proofs.Ytjpemelnnemmiaa
open Go.ChangeShapes Go.WideShapes Go.ChangeAt Go.RowKit
set_option linter.unusedVariables false
set_option linter.unusedSimpArgs false
attribute [local go_sem] Oper.semAt_some

/-- What holds in the loop: as many ways have come as box nb says; nothing else of W6 has turned. -/
def CwI (W6 : World) (nb : Nat) (pre : List (List Nat)) (W : World) (T : Nat → Prop) : Prop :=
  T nb ∧ (∀ k, T k → k = nb) ∧ Touch W6 W (fun k => k = nb) ∧ StB W nb 3 #[.int .i64 (pre.length : Int)]
def CwX (W6 : World) (nb : Nat) (st : Int) (code : Code) (pre : List (List Nat)) (W : World) (T : Nat → Prop) : Prop :=
  code = .exit 0 ∧ CwI W6 nb pre W T ∧ ((pre.length : Int) = st ∨ pre.length = 1000)
theorem cw_touch {W6 W1 W2 : World} {nb B : Nat} {T S : Nat → Prop} (hB : W6.heap.size ≤ B) (h1 : T nb) (h3 : Touch W6 W1 (fun k => k = nb)) (ht : Touch W1 W2 S) (hS : ∀ k, S k → ¬ T k ∧ B ≤ k) : Touch W6 W2 (fun k => k = nb) := by
  refine ⟨ht.os.trans h3.os, ht.tape.trans h3.tape, ht.output.trans h3.output, Nat.le_trans h3.size ht.size, fun k hk hn => ?_⟩
  exact (ht.block k (Nat.lt_of_lt_of_le hk h3.size) (fun hs => by have := (hS k hs).2; omega)).trans (h3.block k hk hn)
theorem cwI_ab (W6 : World) (nb B : Nat) (hB : W6.heap.size ≤ B) : AbT B (CwI W6 nb) := fun s W1 W2 T S h hl ht hS => by
  obtain ⟨h1, h2, h3, h4⟩ := h
  exact ⟨h1, h2, cw_touch hB h1 h3 ht hS, h4.touch ht (fun hs => (hS _ hs).1 h1)⟩
theorem cwX_ab (W6 : World) (nb B : Nat) (st : Int) (hB : W6.heap.size ≤ B) (code : Code) : AbT B (CwX W6 nb st code) := fun s W1 W2 T S h hl ht hS =>
  ⟨h.1, cwI_ab W6 nb B hB s W1 W2 T S h.2.1 hl ht hS, h.2.2⟩
theorem touch_grown {w w' : World} {A : Option Addr} (h : w.grownBy w' (blkOf A)) : Touch w w' (fun j => blkOf A = some j) :=
  ⟨h.os, h.tape, h.output, h.size, fun k hk hn => h.block k hk (fun e => hn e.symm)⟩
theorem set_mid {z : Value} {xs : List Value} {k : Nat} (hk : k < xs.length) : (List.replicate k z ++ xs.drop k).set k z = List.replicate (k + 1) z ++ xs.drop (k + 1) := by
  rw [List.set_append_right _ _ (by simp), List.length_replicate, Nat.sub_self, List.drop_eq_getElem_cons hk, List.set_cons_zero, List.replicate_succ', List.append_assoc]
  rfl
theorem waysL_at {nn : Int} {pre : List (List Nat)} {x : List Nat} (h : pre ++ [x] <+: waysL nn) : pre.length < waysC nn ∧ x = wayN nn.toNat pre.length := by
  obtain ⟨t, ht⟩ := h
  have hl : pre.length < waysC nn := by have := congrArg List.length ht; simp [waysL] at this; omega
  refine ⟨hl, ?_⟩
  have h1 : (waysL nn)[pre.length]? = some x := by rw [← ht]; simp
  unfold waysL at h1
  simp [hl] at h1
  exact h1.symm

set_option maxRecDepth 100000 in
set_option maxHeartbeats 3200000 in
theorem cutsWays_walk (nn st : Int) (w : World) (hwn : (Lit.int .i64 nn).wf = true) (hws : (Lit.int .i64 st).wf = true) :
    Calls Try.prog 6 #[.int .i64 nn, .int .i64 st] w fun x w' => x = .returned (.bool true) ∧ Below w.heap.size w w' := by
  obtain ⟨M, hM⟩ : ∃ M, waysC nn = M := ⟨_, rfl⟩
  obtain ⟨E, hE⟩ : ∃ E, waysE nn = E := ⟨_, rfl⟩
  have HM := Lib.hid hM
  have HE := Lib.hid hE
  have hM32 : M ≤ 32768 := by rw [← hM]; exact waysC_le nn
  have HC := Lib.hid (waysE_cases nn)
  have hrc := fun w => refCount_any nn w
  have hpc := fun w => count_any nn hwn w
  rw [hM, hE] at hrc hpc
  have HRC := Lib.hid hrc
  have HPC := Lib.hid hpc
  clear hM hE hrc hpc
  refine (callsIn_wide (n := 20)).1 ?_
  refine callsIn_of_wp_marks Try.func6 rfl trivial ?_ rfl
  simp only [Try.ntmps6, List.size_toArray, List.length_cons, List.length_nil, Nat.reduceAdd, Nat.reduceSub, Array.replicate_succ, Array.replicate_zero, List.push_toArray, List.append_toArray, List.nil_append, List.cons_append]
  refine wpIn_wide.2 ?_
  go_wp2_with fail
  obtain ⟨W0, hW0⟩ : ∃ W0, ((w.alloc (.cells #[.int .i64 nn] 3)).alloc (.cells #[.int .i64 st] 3)).alloc (.cells #[.bool false] 4) = W0 := ⟨_, rfl⟩
  obtain ⟨h, hh⟩ : ∃ h, w.heap.size = h := ⟨_, rfl⟩
  rw [hW0, hh]
  obtain ⟨sb, hsb⟩ : ∃ h', h + 1 = h' := ⟨_, rfl⟩
  obtain ⟨rb, hrb⟩ : ∃ h', sb + 1 = h' := ⟨_, rfl⟩
  rw [hsb, hrb]
  have HH := Lib.hid hh
  have HBB := Lib.hid (show w.heap.size ≤ rb by omega)
  have HB0 := Lib.hid (show Below w.heap.size w W0 by rw [← hW0]; exact up_alloc (up_alloc (up_alloc (Below.refl _ _) _) _) _)
  have HN0 := Lib.hid (show StB W0 h 3 #[.int .i64 nn] by rw [← hW0]; exact ((StB.made _ hh.symm _ _).alloc _).alloc _)
  have HS0 := Lib.hid (show StB W0 sb 3 #[.int .i64 st] by rw [← hW0]; exact (StB.made _ (by simp; omega) _ _).alloc _)
  have HR0 := Lib.hid (show StB W0 rb 4 #[.bool false] by rw [← hW0]; exact StB.made _ (by simp; omega) _ _)
  clear hW0
  refine (HRC.out _).mono ?_
  rintro y w1 ⟨rfl, hb⟩
  go_upto_region 2 with fail
  obtain ⟨W3, hW3⟩ : ∃ W3, w1.alloc (.cells #[.int .i64 (M : Int)] 3) = W3 := ⟨_, rfl⟩
  obtain ⟨tb, htb⟩ : ∃ tb, w1.heap.size = tb := ⟨_, rfl⟩
  rw [hW3, htb]
  have hb03 : Below W0.heap.size W0 W3 := by rw [← hW3]; exact up_alloc hb _
  have HB3 := Lib.hid (HB0.out.trans (hb03.mono HB0.out.size))
  have HN3 := Lib.hid (HN0.out.below hb03)
  have HS3 := Lib.hid (HS0.out.below hb03)
  have HR3 := Lib.hid (HR0.out.below hb03)
  have HT3 := Lib.hid (show StB W3 tb 3 #[.int .i64 (M : Int)] by rw [← hW3]; exact StB.made _ htb.symm _ _)
  have HTR := Lib.hid (show rb < tb by have := HR0.out.lt; have := hb.size; omega)
  clear hW3 hb hb03 HB0 HN0 HS0 HR0
  have k0 : W3.cell? ⟨h, 0, none⟩ = some (.int .i64 nn) := HN3.out.cell 0
  have k1 := HN3.out.lt
  go_wp2_with fail
  refine (HPC.out _).mono ?_
  rintro y _ ⟨rfl, rfl⟩
  go_upto_region 3 with fail
  go_wp2_with fail
  refine (ways_any nn W3).mono ?_
  rintro y w4 ⟨rfl, rfl⟩
  go_upto_region 4 with fail
  obtain ⟨W4, hW4⟩ : ∃ W4, W3.alloc (.cells #[.int .i64 nn] 3) = W4 := ⟨_, rfl⟩
  obtain ⟨r0, hr0⟩ : ∃ r0, W3.heap.size = r0 := ⟨_, rfl⟩
  rw [hW4, hr0]
  have hb34 : Below W3.heap.size W3 W4 := by rw [← hW4]; exact up_alloc (Below.refl _ _) _
  have HB4 := Lib.hid (HB3.out.trans (hb34.mono HB3.out.size))
  have HN4 := Lib.hid (HN3.out.below hb34)
  have HS4 := Lib.hid (HS3.out.below hb34)
  have HR4 := Lib.hid (HR3.out.below hb34)
  have HT4 := Lib.hid (HT3.out.below hb34)
  have s40 := Lib.hid (show StB W4 r0 3 #[.int .i64 nn] by rw [← hW4]; exact StB.made _ hr0.symm _ _)
  clear hW4 hb34 HB3 HN3 HS3 HR3 HT3 k0 k1
  have k0 : W4.cell? ⟨tb, 0, none⟩ = some (.int .i64 (M : Int)) := HT4.out.cell 0
  have k1 := HT4.out.lt
  have hfn : ∀ w, (binOp .eql 37 (.func (.func 27) #[] #[.pointer (some ⟨r0, 0, none⟩)]) Value.nilFunc).run Try.prog w = .ok (.bool false) w := fun w => by kernel_rfl
  go_wp2_with fail
  obtain ⟨W6, hW6⟩ : ∃ W6, W4.alloc (.cells #[.int .i64 0] 3) = W6 := ⟨_, rfl⟩
  obtain ⟨nb, hnb⟩ : ∃ nb, W4.heap.size = nb := ⟨_, rfl⟩
  rw [hW6, hnb]
  have hb46 : Below W4.heap.size W4 W6 := by rw [← hW6]; exact up_alloc (Below.refl _ _) _
  have hN6 : StB W6 nb 3 #[.int .i64 0] := by rw [← hW6]; exact StB.made _ hnb.symm _ _
  have hz6 : W6.heap.size = nb + 1 := by rw [← hW6]; simp; omega
  have s60 := s40.out.below hb46
  have HN6 := Lib.hid (HN4.out.below hb46)
  have HS6 := Lib.hid (HS4.out.below hb46)
  have HR6 := Lib.hid (HR4.out.below hb46)
  have HT6 := Lib.hid (HT4.out.below hb46)
  have HB6 := Lib.hid (HB4.out.trans (hb46.mono HB4.out.size))
  have hrn : r0 < nb := by have := s40.out.lt; omega
  have htn : tb < nb := by have := HT4.out.lt; omega
  have hsn : sb < nb := by have := HS4.out.lt; omega
  have hhn : h < nb := by have := HN4.out.lt; omega
  have hrbn : rb < nb := by have := HR4.out.lt; omega
  have start : CwI W6 nb [] W6 (fun k => k = nb) := ⟨rfl, (fun k hk => hk), Touch.refl _ _, hN6⟩
  have lies : Lies W6 (fun k => k = nb) := fun k hk => by have : k = nb := hk; omega
  clear hW6 k0 k1 hfn hb46 HN4 HS4 HR4 HT4 HB4
  refine (wpIn_wide (n := 20)).1 ?_
  refine wpIn_range_W rfl (by simp [Fence.wide]) (gf := 27) (lb := #[.pointer (some ⟨r0, 0, none⟩)]) rfl trivial (enters_of Try.func27 (by kernel_rfl) rfl)
    (encs := Vx.args) (gh := Vx.gh) (hand := Vx.hand) (blk := Vx.blk) (evs := waysL nn) (Kp := fun k => k = r0) (fun W1 hb => ways_seq (by omega) hwn (s60.below hb)) vhand_keep (fun _ => rfl)
    (CwI W6 nb) (CwX W6 nb st) (cwI_ab _ _ _ (Nat.le_refl _)) (cwX_ab _ _ _ _ (Nat.le_refl _)) _ start lies (fun k hk => ⟨fun e => by omega, by omega⟩)
    (fun y V => { tmps := #[.int .i64 nn, .int .i64 st, .pointer (some ⟨h, 0, none⟩), .pointer (some ⟨sb, 0, none⟩), .pointer (some ⟨rb, 0, none⟩), .pointer (some ⟨tb, 0, none⟩), .int .i64 E, .int .i64 (M : Int), .int .i64 E, .func (.func 27) #[] #[.pointer (some ⟨r0, 0, none⟩)], .pointer (some ⟨nb, 0, none⟩), .slice y.A y.l.length y.c, undef, undef, .tuple #[.int .i64 (M : Int), .int .i64 E], .int .i64 nn, .tuple #[.int .i64 (M : Int), .int .i64 E], .int .i64 (M : Int), .int .i64 E, .tuple #[.int .i64 (M : Int), .int .i64 E], .int .i64 nn, .tuple #[.int .i64 (M : Int), .int .i64 E], .int .i64 (M : Int), .int .i64 E, .int .i64 nn, .func (.func 27) #[] #[.pointer (some ⟨r0, 0, none⟩)], .int .i64 (M : Int), .int .i64 (M : Int), .bool false, .bool false, .int .i64 E, .int .i64 E, .bool false, .bool false, .bool false, .func (.func 27) #[] #[.pointer (some ⟨r0, 0, none⟩)], .bool false, .bool false, .func (.func 27) #[] #[.pointer (some ⟨r0, 0, none⟩)], .slice y.A y.l.length y.c, undef, undef, undef, undef, undef, undef, undef, undef, undef, undef, undef, undef, undef, undef, undef, undef, undef, undef, undef, undef, undef, undef, undef, undef, undef, undef, undef, undef, undef, undef, undef, undef, undef, undef, undef, undef, undef, undef, undef, undef, undef, undef, undef, undef, undef, undef, undef, undef, undef, undef, undef, undef, undef], defers := [] })
    (fun y V => V) (fun y V => Below.refl _ V) ?assign ?body ?done ?stop
  case assign =>
    rintro l ⟨xA, xc, xl⟩ W K hK
    dsimp only [Vx.args] at hK ⊢
    gi_wp2
    exact hK
  case body =>
    rintro l pre ⟨xA, xc, xl⟩ V W T ⟨hTn, hT, ht6, hN⟩ hlT hpre hhand hblk hge htouch hl
    obtain ⟨hlen, hxl⟩ := waysL_at hpre
    have hx2 : xl = wayN nn.toNat pre.length := hxl
    obtain ⟨N, rfl⟩ : ∃ N : Nat, nn = N := ⟨nn.toNat, by rcases HC.out with h | h; rw [h.2] at hlen; omega; omega⟩
    have hN16 : N ≤ 16 := by rcases HC.out with h | h; rw [h.2] at hlen; omega; omega
    rw [HM.out] at hlen
    rw [Int.toNat_natCast] at hx2
    obtain ⟨p, hp⟩ : ∃ p, pre.length = p := ⟨_, rfl⟩
    have hp1 : ((pre ++ [Vx.gh ⟨xA, xc, xl⟩]).length : Int) = (p : Int) + 1 := by simp; omega
    have HP1 := Lib.hid hp1
    have HLP := Lib.hid (show (pre ++ [Vx.gh ⟨xA, xc, xl⟩]).length = p + 1 by simp; omega)
    rw [hp] at hN hlen hx2
    subst hx2
    have hpM : (p : Int) < (M : Int) := by omega
    have hpd : decide ((M : Int) ≤ (p : Int)) = false := by simp; omega
    obtain ⟨m, hm⟩ : ∃ m, (wayN N p).length = m := ⟨_, rfl⟩
    have hm16 : m ≤ 16 := by rw [← hm]; exact Nat.le_trans (wayGo_length _ _ _) (by omega)
    have HT6W := Lib.hid ht6
    have HNW := Lib.hid hN
    have HXW := Lib.hid (show SlOwn W 0 3 xA m xc (ints (wayN N p)) by rw [← hm]; exact hhand)
    have hnN : StB W h 3 #[.int .i64 (N : Int)] := HN6.out.touch ht6 (fun e => by have : h = nb := e; omega)
    have hnT : StB W tb 3 #[.int .i64 (M : Int)] := HT6.out.touch ht6 (fun e => by have : tb = nb := e; omega)
    have HSW := Lib.hid (show StB W sb 3 #[.int .i64 st] from HS6.out.touch ht6 (fun e => by have : sb = nb := e; omega))
    have HBK := Lib.hid (show ∀ k, blkOf xA = some k → ¬ T k ∧ W6.heap.size ≤ k ∧ k < W.heap.size from fun k hk => ⟨(hblk k hk).1, (hblk k hk).2.1, by have := (hblk k hk).2.2; have := htouch.size; omega⟩)
    have HLW := Lib.hid (show Lies W T from hlT.later htouch.size)
    have HTN := Lib.hid (And.intro hTn hT)
    have k0 : W.cell? ⟨nb, 0, none⟩ = some (.int .i64 (p : Int)) := hN.cell 0
    have k1 := hN.lt
    have k2 : W.cell? ⟨tb, 0, none⟩ = some (.int .i64 (M : Int)) := hnT.cell 0
    have k3 : W.cell? ⟨h, 0, none⟩ = some (.int .i64 (N : Int)) := hnN.cell 0
    have hwz : W6.heap.size ≤ W.heap.size := Nat.le_trans hge htouch.size
    rw [hm]
    clear hhand hblk hlT hpre htouch hl hxl hp hp1 hnN hnT ht6 hN hTn hT
    gi_wp2
    refine ⟨trivial, CallsIn.inRound l (callsIn_wide.2 ((refWay_any N p (by omega) (by omega) W).mono ?_))⟩
    rintro x W7 ⟨A2, c2, rfl, HO7, HB7⟩
    rw [hm] at HO7
    rw [hm]
    have HX7 := Lib.hid (HXW.out.below HB7.out)
    clear k0 k2 k3 k1 HXW
    gi_wp2
    gi_loopw [53] (fun i wr => ∃ k : Nat, k ≤ m ∧ i = .int .i64 k ∧ Hid (SlOwn wr 0 3 xA m xc (List.replicate k (.int .i64 99) ++ (ints (wayN N p)).drop k)) ∧ Hid (Touch W7 wr (fun j => blkOf xA = some j))) (fun i _ => m - (intOf i).toNat)
    case atStart => exact ⟨0, Nat.zero_le _, rfl, Lib.hid (by simpa using HX7.out), Lib.hid (Touch.refl _ _)⟩
    case round =>
      clear HX7
      obtain ⟨k, hk, rfl, HX8, HG8⟩ := hrel
      obtain ⟨W8, hW8⟩ : ∃ W8, W8 = wr := ⟨_, rfl⟩
      subst hW8
      by_cases hlt : k < m
      · obtain ⟨z, hz⟩ : ∃ z, (wayN N p)[k]? = some z := ⟨_, List.getElem?_eq_getElem (by rw [hm]; exact hlt)⟩
        have HZ := Lib.hid hz
        obtain ⟨g, u, rfl, _, hgw, hxu, hcu, hfu⟩ := HX8.out.cellAt hlt
        obtain rfl : u = .int .i64 (z : Int) := by
          rw [List.getElem?_append_right (by simp), List.length_replicate, Nat.sub_self, List.getElem?_drop, Nat.add_zero, ints_get hz] at hxu
          injection hxu with h1; exact h1.symm
        have h2own := HO7.out.touch HG8.out (fun j hj he => by have := (HO7.out.blk j hj).1; have := (HBK.out j he).2.2; omega)
        obtain ⟨g2, u2, rfl, _, hg2w, hxu2, hcu2, _⟩ := h2own.cellAt hlt
        obtain rfl : u2 = .int .i64 (z : Int) := by
          rw [ints_get hz] at hxu2
          injection hxu2 with h1; exact h1.symm
        have hne : ((z : Int) != (z : Int)) = false := by simp
        have HU := Lib.hid (And.intro hcu hfu)
        clear hz hxu hxu2 h2own
        gi_wp2
        refine quiet_round (by kernel_rfl) (by kernel_rfl) (by kernel_rfl) (no_way_out (fun _ _ h => h)) ?_
        repeat (go_big_quiet_step (fail))
        refine wpQuiet_nil ?_
        intro _ hw'
        obtain ⟨x1, hw''⟩ := hw'
        subst hw''
        gi_wp2
        go_roundw
        case rel =>
          refine ⟨k + 1, by omega, by go_num, Lib.hid ?_, Lib.hid ?_⟩
          · have h1 := (HX8.out.below (onto_below W8 x1)).store k (.int .i64 99) hlt
            rw [set_mid (by rw [ints_length, hm]; exact hlt)] at h1
            exact h1
          · exact (HG8.out.then_below (onto_below W8 x1)).then_set (p := ⟨g, k, none⟩) (.inl rfl) _
        case measure => simp [intOf]; omega
      · obtain rfl : k = m := by omega
        clear hlt
        have hnN8 := (HNW.out.below HB7.out).touch HG8.out (fun e => (HBK.out nb e).1 HTN.out.1)
        have HS8 := Lib.hid ((HSW.out.below HB7.out).touch HG8.out (fun e => by have := (HBK.out sb e).2.1; omega))
        have k0 : W8.cell? ⟨nb, 0, none⟩ = some (.int .i64 (p : Int)) := hnN8.cell 0
        have k1 := hnN8.lt
        have k2 := hnN8.free 0
        have k3 : W8.cell? ⟨sb, 0, none⟩ = some (.int .i64 st) := HS8.out.cell 0
        have k4 := HS8.out.lt
        have k5 : ¬ nb = sb := by omega
        have k6 : ¬ sb = nb := by omega
        have TB := Lib.hid (show Touch W (W8.setCell ⟨nb, 0, none⟩ (.int .i64 ((p : Int) + 1))) (fun j => T j ∨ blkOf xA = some j) from
          (((Touch.of_below HB7.out (fun j => T j ∨ blkOf xA = some j)).trans (Sub.refl _ _) (HG8.out.mono (fun j hj => .inr hj)))).then_set (p := ⟨nb, 0, none⟩) (.inl (.inl HTN.out.1)) _)
        have T6 := Lib.hid (show Touch W6 (W8.setCell ⟨nb, 0, none⟩ (.int .i64 ((p : Int) + 1))) (fun j => j = nb) from HT6W.out.trans (fun j hj => by
          rcases hj with hj | hj
          · exact .inl (HTN.out.2 j hj)
          · exact .inr (HBK.out j hj).2.1) TB.out)
        have SN := Lib.hid (show StB (W8.setCell ⟨nb, 0, none⟩ (.int .i64 ((p : Int) + 1))) nb 3 #[.int .i64 ((pre ++ [Vx.gh ⟨xA, xc, wayN N p⟩]).length : Int)] by rw [HP1.out]; exact hnN8.set_ 0 _)
        have HLZ := Lib.hid (show Lies (W8.setCell ⟨nb, 0, none⟩ (.int .i64 ((p : Int) + 1))) T from HLW.out.later TB.out.size)
        have HFIN := Lib.hid (show LeftW W T (Vx.blk ⟨xA, xc, wayN N p⟩) (CwI W6 nb) (pre ++ [Vx.gh ⟨xA, xc, wayN N p⟩]) (W8.setCell ⟨nb, 0, none⟩ (.int .i64 ((p : Int) + 1))) from
          ⟨T, HLZ.out, (fun j hj => .inl (.inl hj)), TB.out, HTN.out.1, HTN.out.2, T6.out, SN.out⟩)
        have HFX := Lib.hid (show ((p : Int) + 1 = st ∨ p + 1 = 1000) → LeftW W T (Vx.blk ⟨xA, xc, wayN N p⟩) (CwX W6 nb st (.exit 0)) (pre ++ [Vx.gh ⟨xA, xc, wayN N p⟩]) (W8.setCell ⟨nb, 0, none⟩ (.int .i64 ((p : Int) + 1))) from fun hor =>
          ⟨T, HLZ.out, (fun j hj => .inl (.inl hj)), TB.out, rfl, ⟨HTN.out.1, HTN.out.2, T6.out, SN.out⟩, by rw [HP1.out, HLP.out]; exact hor⟩)
        clear hnN8 TB T6 SN HLZ HX8 HG8 HO7 HB7 HNW HSW HBK HLW HTN
        by_cases e1 : (p : Int) + 1 = st
        · have d1 : ((p : Int) + 1 == st) = true := by simpa using e1
          have HE1 := Lib.hid e1
          clear e1
          gi_wp2
          exact HFX.out (.inl HE1.out)
        · have d1 : ((p : Int) + 1 == st) = false := by simpa using e1
          by_cases e2 : p + 1 = 1000
          · have d2 : ((p : Int) + 1 == 1000) = true := by simp; omega
            gi_wp2
            exact HFX.out (.inr e2)
          · have d2 : ((p : Int) + 1 == 1000) = false := by simp; omega
            gi_wp2
            exact HFIN.out
  case done =>
    rintro D W T hD ⟨hTn, hT, ht6, hN⟩ hlT hTD hK
    rw [show ((waysL nn).length : Int) = (M : Int) by rw [← HM.out]; simp [waysL]] at hN
    have hnT : StB W tb 3 #[.int .i64 (M : Int)] := HT6.out.touch ht6 (fun e => by have : tb = nb := e; omega)
    have HRW := Lib.hid (show StB W rb 4 #[.bool false] from HR6.out.touch ht6 (fun e => by have : rb = nb := e; omega))
    have k0 : W.cell? ⟨nb, 0, none⟩ = some (.int .i64 (M : Int)) := hN.cell 0
    have k1 : W.cell? ⟨tb, 0, none⟩ = some (.int .i64 (M : Int)) := hnT.cell 0
    have k3 : W.cell? ⟨rb, 0, none⟩ = some (.bool false) := HRW.out.cell 0
    have k4 := HRW.out.free 0
    have k5 := HRW.out.lt
    have HKD := Lib.hid hK
    have HDN := Lib.hid (show ¬ D = rb by omega)
    have HDW := Lib.hid (show w.heap.size ≤ D by have := HB6.out.size; omega)
    have HBW := Lib.hid (HB6.out.trans (ht6.below HB6.out.size (fun k hk => by have : k = nb := hk; have := HBB.out; omega)))
    clear hnT hN ht6 hK
    go_wp2_with (go_at_call 8; ((with_reducible refine (above (awake_calls _)).mono ?_); rintro x _ ⟨rfl, y, rfl⟩))
    all_goals
      have T1 := (Touch.of_below (onto_below W y) (fun k => k = rb)).then_set (p := ⟨rb, 0, none⟩) (.inl rfl) (.bool true)
      have hK' := (T1.block D (Array.getElem?_eq_some_iff.1 HKD.out).1 HDN.out).trans HKD.out
      have s8 := (HRW.out.below (onto_below W y)).set_ 0 (.bool true)
      have s9 := s8.touch (Touch.putObj _ D (.deferred none)) (fun e => HDN.out e.symm)
      have hb1 := HBW.out.trans (T1.below HBW.out.size (fun k hk => by have : k = rb := hk; have := HBB.out; omega))
      have hb2 := hb1.trans ((Touch.putObj ((onto W y).setCell ⟨rb, 0, none⟩ (.bool true)) D (.deferred none)).below hb1.size (fun k hk => by have : k = D := hk; have := HDW.out; omega))
      have y0 := s9.cell 0
      have HB2 := Lib.hid hb2
      clear T1 s8 s9 hb1 hb2
      refine ⟨by simp, .inl ⟨_, _, rfl, run_takeDeferred hK', ?_⟩⟩
      refine ⟨.bool true, by simp [results, Try.results6, go_sem, y0], rfl, by first | exact HB2.out | (have hz := HB2.out; rw [HH.out] at hz; exact hz)⟩
  case stop =>
    rintro D code pre W T hD hpre ⟨rfl, ⟨hTn, hT, ht6, hN⟩, hor⟩ hlT hTD hK
    obtain ⟨p, hp⟩ : ∃ p, pre.length = p := ⟨_, rfl⟩
    rw [hp] at hN hor
    have hnT : StB W tb 3 #[.int .i64 (M : Int)] := HT6.out.touch ht6 (fun e => by have : tb = nb := e; omega)
    have hnS : StB W sb 3 #[.int .i64 st] := HS6.out.touch ht6 (fun e => by have : sb = nb := e; omega)
    have HRW := Lib.hid (show StB W rb 4 #[.bool false] from HR6.out.touch ht6 (fun e => by have : rb = nb := e; omega))
    have k0 : W.cell? ⟨nb, 0, none⟩ = some (.int .i64 (p : Int)) := hN.cell 0
    have k1 : W.cell? ⟨tb, 0, none⟩ = some (.int .i64 (M : Int)) := hnT.cell 0
    have k2 : W.cell? ⟨sb, 0, none⟩ = some (.int .i64 st) := hnS.cell 0
    have k3 : W.cell? ⟨rb, 0, none⟩ = some (.bool false) := HRW.out.cell 0
    have k4 := HRW.out.free 0
    have k5 := HRW.out.lt
    have HKD := Lib.hid hK
    have HDN := Lib.hid (show ¬ D = rb by omega)
    have HDW := Lib.hid (show w.heap.size ≤ D by have := HB6.out.size; omega)
    have HBW := Lib.hid (HB6.out.trans (ht6.below HB6.out.size (fun k hk => by have : k = nb := hk; have := HBB.out; omega)))
    obtain ⟨v1, hv1⟩ : ∃ v, ((p : Int) == (M : Int)) = v := ⟨_, rfl⟩
    obtain ⟨v2, hv2⟩ : ∃ v, ((p : Int) == st) = v := ⟨_, rfl⟩
    have hv3 : v1 = false → v2 = false → ((p : Int) == 1000) = true := fun _ h2 => by
      rcases hor with h | h
      · rw [← hv2] at h2; simp [h] at h2
      · simp; omega
    clear hnT hnS hN ht6 hK hp hor hpre
    refine wpIn_wide.2 ?_
    cases v1
    · cases v2
      · have hv4 := hv3 rfl rfl
        clear hv3
        go_wp2_with (go_at_call 8; ((with_reducible refine (above (awake_calls _)).mono ?_); rintro x _ ⟨rfl, y, rfl⟩))
        all_goals
          have T1 := (Touch.of_below (onto_below W y) (fun k => k = rb)).then_set (p := ⟨rb, 0, none⟩) (.inl rfl) (.bool true)
          have hK' := (T1.block D (Array.getElem?_eq_some_iff.1 HKD.out).1 HDN.out).trans HKD.out
          have s8 := (HRW.out.below (onto_below W y)).set_ 0 (.bool true)
          have s9 := s8.touch (Touch.putObj _ D (.deferred none)) (fun e => HDN.out e.symm)
          have hb1 := HBW.out.trans (T1.below HBW.out.size (fun k hk => by have : k = rb := hk; have := HBB.out; omega))
          have hb2 := hb1.trans ((Touch.putObj ((onto W y).setCell ⟨rb, 0, none⟩ (.bool true)) D (.deferred none)).below hb1.size (fun k hk => by have : k = D := hk; have := HDW.out; omega))
          have y0 := s9.cell 0
          have HB2 := Lib.hid hb2
          clear T1 s8 s9 hb1 hb2
          refine ⟨by simp, .inl ⟨_, _, rfl, run_takeDeferred hK', ?_⟩⟩
          refine ⟨.bool true, by simp [results, Try.results6, go_sem, y0], rfl, by first | exact HB2.out | (have hz := HB2.out; rw [HH.out] at hz; exact hz)⟩
      · clear hv3
        go_wp2_with (go_at_call 8; ((with_reducible refine (above (awake_calls _)).mono ?_); rintro x _ ⟨rfl, y, rfl⟩))
        all_goals
          have T1 := (Touch.of_below (onto_below W y) (fun k => k = rb)).then_set (p := ⟨rb, 0, none⟩) (.inl rfl) (.bool true)
          have hK' := (T1.block D (Array.getElem?_eq_some_iff.1 HKD.out).1 HDN.out).trans HKD.out
          have s8 := (HRW.out.below (onto_below W y)).set_ 0 (.bool true)
          have s9 := s8.touch (Touch.putObj _ D (.deferred none)) (fun e => HDN.out e.symm)
          have hb1 := HBW.out.trans (T1.below HBW.out.size (fun k hk => by have : k = rb := hk; have := HBB.out; omega))
          have hb2 := hb1.trans ((Touch.putObj ((onto W y).setCell ⟨rb, 0, none⟩ (.bool true)) D (.deferred none)).below hb1.size (fun k hk => by have : k = D := hk; have := HDW.out; omega))
          have y0 := s9.cell 0
          have HB2 := Lib.hid hb2
          clear T1 s8 s9 hb1 hb2
          refine ⟨by simp, .inl ⟨_, _, rfl, run_takeDeferred hK', ?_⟩⟩
          refine ⟨.bool true, by simp [results, Try.results6, go_sem, y0], rfl, by first | exact HB2.out | (have hz := HB2.out; rw [HH.out] at hz; exact hz)⟩
    · clear hv3 hv2
      go_wp2_with (go_at_call 8; ((with_reducible refine (above (awake_calls _)).mono ?_); rintro x _ ⟨rfl, y, rfl⟩))
      all_goals
        have T1 := (Touch.of_below (onto_below W y) (fun k => k = rb)).then_set (p := ⟨rb, 0, none⟩) (.inl rfl) (.bool true)
        have hK' := (T1.block D (Array.getElem?_eq_some_iff.1 HKD.out).1 HDN.out).trans HKD.out
        have s8 := (HRW.out.below (onto_below W y)).set_ 0 (.bool true)
        have s9 := s8.touch (Touch.putObj _ D (.deferred none)) (fun e => HDN.out e.symm)
        have hb1 := HBW.out.trans (T1.below HBW.out.size (fun k hk => by have : k = rb := hk; have := HBB.out; omega))
        have hb2 := hb1.trans ((Touch.putObj ((onto W y).setCell ⟨rb, 0, none⟩ (.bool true)) D (.deferred none)).below hb1.size (fun k hk => by have : k = D := hk; have := HDW.out; omega))
        have y0 := s9.cell 0
        have HB2 := Lib.hid hb2
        clear T1 s8 s9 hb1 hb2
        refine ⟨by simp, .inl ⟨_, _, rfl, run_takeDeferred hK', ?_⟩⟩
        refine ⟨.bool true, by simp [results, Try.results6, go_sem, y0], rfl, by first | exact HB2.out | (have hz := HB2.out; rw [HH.out] at hz; exact hz)⟩
end Go.Proofs.Ytjpemelnnemmiaa

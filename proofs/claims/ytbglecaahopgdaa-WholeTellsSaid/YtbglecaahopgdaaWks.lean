/- Layer 6: the walk of the statement WholeTells: the Go text returns true and leaves all that was there as it was. -/
import Derived.Test.YtbglecaahopgdaaWkp
import Derived.Test.YtbglecaahopgdaaWkq
import Derived.Test.YtbglecaahopgdaaWkk
import Derived.Deep.DeepCutAuto
import Derived.Deep.CutRange
import Derived.Deep.CutBlock
import Derived.Deep.RegionWith
namespace Go.Proofs.Ytbglecaahopgdaa
open Go.ChangeShapes Go.WideShapes Go.ChangeAt Go.RowKit
set_option linter.unusedVariables false
set_option linter.unusedSimpArgs false
attribute [local go_sem] Oper.semAt_some

/-- What holds in the loop: as many records have come as box nb says; nothing else has turned. -/
def TelI (W6 : World) (nb mo : Nat) (pre : List (List ByteArray)) (W : World) (T : Nat → Prop) : Prop :=
  T nb ∧ (∀ k, T k → k = nb) ∧ Touch W6 W (fun k => k = nb) ∧ StB W nb 3 #[.int .i64 (pre.length : Int)] ∧ pre.length ≤ mo
def TelX (W6 : World) (nb mo : Nat) (code : Code) (pre : List (List ByteArray)) (W : World) (T : Nat → Prop) : Prop :=
  code = .exit 0 ∧ T nb ∧ (∀ k, T k → k = nb) ∧ Touch W6 W (fun k => k = nb) ∧ StB W nb 3 #[.int .i64 (pre.length : Int)] ∧ pre.length = mo + 1
theorem tel_touch {W6 W1 W2 : World} {nb B : Nat} {T S : Nat → Prop} (hB : W6.heap.size ≤ B) (h1 : T nb) (h3 : Touch W6 W1 (fun k => k = nb)) (ht : Touch W1 W2 S) (hS : ∀ k, S k → ¬ T k ∧ B ≤ k) : Touch W6 W2 (fun k => k = nb) := by
  refine ⟨ht.os.trans h3.os, ht.tape.trans h3.tape, ht.output.trans h3.output, Nat.le_trans h3.size ht.size, fun k hk hn => ?_⟩
  exact (ht.block k (Nat.lt_of_lt_of_le hk h3.size) (fun hs => by have := (hS k hs).2; omega)).trans (h3.block k hk hn)
theorem telI_ab (W6 : World) (nb mo B : Nat) (hB : W6.heap.size ≤ B) : AbT B (TelI W6 nb mo) := fun s W1 W2 T S h hl ht hS => by
  obtain ⟨h1, h2, h3, h4, h5⟩ := h
  exact ⟨h1, h2, tel_touch hB h1 h3 ht hS, h4.touch ht (fun hs => (hS _ hs).1 h1), h5⟩
theorem telX_ab (W6 : World) (nb mo B : Nat) (hB : W6.heap.size ≤ B) (code : Code) : AbT B (TelX W6 nb mo code) := fun s W1 W2 T S h hl ht hS => by
  obtain ⟨h0, h1, h2, h3, h4, h5⟩ := h
  exact ⟨h0, h1, h2, tel_touch hB h1 h3 ht hS, h4.touch ht (fun hs => (hS _ hs).1 h1), h5⟩

/-- No record within 300 bytes has many fields. -/
theorem parW_thin {d q e a b c : Int} {u : Bool} {s : ByteArray} (hs : s.size ≤ 300) : ∀ r ∈ (parW d q e a b c u s).rs, r.length ≤ 1000 := by
  intro r hr
  unfold parW at hr
  split at hr
  · simp at hr
  · split at hr
    · simp at hr
    · rename_i h2
      have h3 : (withinB a && (withinB b && withinB c)) = true := by simpa using h2
      obtain ⟨p, hp, rfl⟩ := List.mem_map.1 hr
      have hlen : (bomStrip (bl s)).length ≤ s.size := by have := whOff_len (bl s); rw [bl_length] at this; omega
      have := mchU_wide (bomStrip (bl s)) 0 0 (mk0 a b c u) (whOff (bl s)) 0 (mk0_ok a b c u h3) p hp
      omega

set_option maxRecDepth 100000 in
set_option maxHeartbeats 3200000 in
theorem wholeTells_walk (d q e : Int) (s : ByteArray) (x : Int) (w : World) (hd : (Lit.int .u8 d).wf = true) (hq : (Lit.int .u8 q).wf = true) (_ : (Lit.int .i64 e).wf = true) (hs : s.size ≤ maxLen) (hx : (Lit.int .u8 x).wf = true) :
    Calls Try.prog 4 #[.agg #[.int .u8 d, .int .u8 q, .int .i64 e], .string s, .int .u8 x] w fun x w' => x = .returned (.bool true) ∧ Below w.heap.size w w' := by
  obtain ⟨d0, d1⟩ := bounds_u8 hd
  obtain ⟨q0, q1⟩ := bounds_u8 hq
  obtain ⟨x0, x1⟩ := bounds_u8 hx
  have hs0 : s.size ≤ 9223372036854775807 := hs
  clear hd hq hx
  by_cases h300 : s.size ≤ 300
  · obtain ⟨⟨rs, k, A⟩, hp⟩ : ∃ p, parW d q e 2147483648 2147483648 2147483648 false s = p := ⟨_, rfl⟩
    have hz := parW_zero d q e 2147483648 2147483648 2147483648 false s
    have hfew := parW_few d q e 2147483648 2147483648 2147483648 false s
    rw [hp] at hz hfew
    dsimp only at hz hfew
    obtain ⟨n, hn⟩ : ∃ n, rs.length = n := ⟨_, rfl⟩
    rw [hn] at hfew
    have HN := Lib.hid hn
    have HTH := Lib.hid (show ∀ r ∈ rs, r.length ≤ 1000 by have := parW_thin (d := d) (q := q) (e := e) (a := 2147483648) (b := 2147483648) (c := 2147483648) (u := false) h300; rw [hp] at this; exact this)
    have HP := Lib.hid hp
    have HZ := Lib.hid hz
    clear hp hz hn
    refine (callsIn_wide (n := 20)).1 ?_
    refine callsIn_of_wp_marks Try.func4 rfl trivial ?_ rfl
    simp only [Try.ntmps4, List.size_toArray, List.length_cons, List.length_nil, Nat.reduceAdd, Nat.reduceSub, Array.replicate_succ, Array.replicate_zero, List.push_toArray, List.append_toArray, List.nil_append, List.cons_append]
    refine wpIn_wide.2 ?_
    go_wp2_with fail
    obtain ⟨W0, hW0⟩ : ∃ W0, (((w.alloc (.cells #[.int .u8 d, .int .u8 q, .int .i64 e] 23)).alloc (.cells #[.int .u8 x] 5)).alloc (.cells #[.bool false] 4)).alloc (.cells #[.int .i64 2147483648, .int .i64 2147483648, .int .i64 2147483648, .bool false] 25) = W0 := ⟨_, rfl⟩
    obtain ⟨h, hh⟩ : ∃ h, w.heap.size = h := ⟨_, rfl⟩
    rw [hW0, hh]
    obtain ⟨mb, hmb⟩ : ∃ h', h + 1 = h' := ⟨_, rfl⟩
    obtain ⟨b6, hb6⟩ : ∃ h', mb + 1 = h' := ⟨_, rfl⟩
    obtain ⟨b7, hb7⟩ : ∃ h', b6 + 1 = h' := ⟨_, rfl⟩
    rw [hmb, hb6, hb7]
    have HH := Lib.hid hh
    have HBB := Lib.hid (show w.heap.size ≤ b6 by omega)
    have HB0 := Lib.hid (show Below w.heap.size w W0 by rw [← hW0]; exact up_alloc (up_alloc (up_alloc (up_alloc (Below.refl _ _) _) _) _) _)
    have HD0 := Lib.hid (show StB W0 h 23 #[.int .u8 d, .int .u8 q, .int .i64 e] by rw [← hW0]; exact (((StB.made _ hh.symm _ _).alloc _).alloc _).alloc _)
    have HM0 := Lib.hid (show StB W0 mb 5 #[.int .u8 x] by rw [← hW0]; exact ((StB.made _ (by simp; omega) _ _).alloc _).alloc _)
    have HR0 := Lib.hid (show StB W0 b6 4 #[.bool false] by rw [← hW0]; exact (StB.made _ (by simp; omega) _ _).alloc _)
    have HL0 := Lib.hid (show StB W0 b7 25 #[.int .i64 2147483648, .int .i64 2147483648, .int .i64 2147483648, .bool false] by rw [← hW0]; exact StB.made _ (by simp; omega) _ _)
    clear hW0
    refine (parse_is d q e 2147483648 2147483648 2147483648 false s (by omega) d0 d1 q0 q1 rs k A n HP HN _).mono ?_
    rintro y w1 ⟨C, cc, V, rfl, HX, HB⟩
    go_upto_region 5 with fail
    obtain ⟨W3, hW3⟩ : ∃ W3, (w1.alloc (.cells #[.slice C n cc] 27)).alloc (.cells #[.int .i64 k, .int .i64 A] 30) = W3 := ⟨_, rfl⟩
    obtain ⟨tb, htb⟩ : ∃ tb, w1.heap.size = tb := ⟨_, rfl⟩
    obtain ⟨fb, hfb⟩ : ∃ fb, tb + 1 = fb := ⟨_, rfl⟩
    rw [hW3, htb, hfb]
    have hb13 : Below w1.heap.size w1 W3 := by rw [← hW3]; exact up_alloc (up_alloc (Below.refl _ _) _) _
    have hb03 := HB.out.trans (hb13.mono HB.out.size)
    have HB3 := Lib.hid (HB0.out.trans (hb03.mono HB0.out.size))
    have HX3 := Lib.hid (show SlIn W3 C n V ∧ RowsIn W3 V rs from ⟨HX.out.1.below hb13, HX.out.2.below hb13⟩)
    have HD3 := Lib.hid (HD0.out.below hb03)
    have HM3 := Lib.hid (HM0.out.below hb03)
    have HR3 := Lib.hid (HR0.out.below hb03)
    have HL3 := Lib.hid (HL0.out.below hb03)
    have HT3 := Lib.hid (show StB W3 tb 27 #[.slice C n cc] by rw [← hW3]; exact (StB.made _ htb.symm _ _).alloc _)
    have HF3 := Lib.hid (show StB W3 fb 30 #[.int .i64 k, .int .i64 A] by rw [← hW3]; exact StB.made _ (by simp; omega) _ _)
    clear hW3 hb13 hb03 HB0 HD0 HM0 HR0 HL0 HB HX
    have k0 : W3.cell? ⟨h, 0, none⟩ = some (.int .u8 d) := HD3.out.cell 0
    have k1 : W3.cell? ⟨h, 1, none⟩ = some (.int .u8 q) := HD3.out.cell 1
    have k2 : W3.cell? ⟨h, 2, none⟩ = some (.int .i64 e) := HD3.out.cell 2
    have k3 : W3.cell? ⟨b7, 0, none⟩ = some (.int .i64 2147483648) := HL3.out.cell 0
    have k4 : W3.cell? ⟨b7, 1, none⟩ = some (.int .i64 2147483648) := HL3.out.cell 1
    have k5 : W3.cell? ⟨b7, 2, none⟩ = some (.int .i64 2147483648) := HL3.out.cell 2
    have k6 : W3.cell? ⟨b7, 3, none⟩ = some (.bool false) := HL3.out.cell 3
    have k7 := HD3.out.lt
    have k8 := HL3.out.lt
    go_wp2_with fail
    refine (records_any d q e 2147483648 2147483648 2147483648 false s W3).mono ?_
    rintro y w4 ⟨rfl, rfl⟩
    go_upto_region 6 with fail
    obtain ⟨W4, hW4⟩ : ∃ W4, ((W3.alloc (.cells #[.int .u8 d, .int .u8 q, .int .i64 e] 23)).alloc (.cells #[.int .i64 2147483648, .int .i64 2147483648, .int .i64 2147483648, .bool false] 25)).alloc (.cells #[.string s] 9) = W4 := ⟨_, rfl⟩
    obtain ⟨r0, hr0⟩ : ∃ r0, W3.heap.size = r0 := ⟨_, rfl⟩
    obtain ⟨r1, hr1⟩ : ∃ r1, r0 + 1 = r1 := ⟨_, rfl⟩
    obtain ⟨r2, hr2⟩ : ∃ r2, r0 + 2 = r2 := ⟨_, rfl⟩
    rw [hW4, hr0, hr1, hr2]
    have hb34 : Below W3.heap.size W3 W4 := by rw [← hW4]; exact up_alloc (up_alloc (up_alloc (Below.refl _ _) _) _) _
    have HB4 := Lib.hid (HB3.out.trans (hb34.mono HB3.out.size))
    have HX4 := Lib.hid (show SlIn W4 C n V ∧ RowsIn W4 V rs from ⟨HX3.out.1.below hb34, HX3.out.2.below hb34⟩)
    have HD4 := Lib.hid (HD3.out.below hb34)
    have HM4 := Lib.hid (HM3.out.below hb34)
    have HR4 := Lib.hid (HR3.out.below hb34)
    have HL4 := Lib.hid (HL3.out.below hb34)
    have HT4 := Lib.hid (HT3.out.below hb34)
    have HF4 := Lib.hid (HF3.out.below hb34)
    have s0 := Lib.hid (show StB W4 r0 23 #[.int .u8 d, .int .u8 q, .int .i64 e] by rw [← hW4]; exact ((StB.made _ hr0.symm _ _).alloc _).alloc _)
    have s1 := Lib.hid (show StB W4 r1 25 #[.int .i64 2147483648, .int .i64 2147483648, .int .i64 2147483648, .bool false] by rw [← hW4]; exact (StB.made _ (by simp; omega) _ _).alloc _)
    have s2 := Lib.hid (show StB W4 r2 9 #[.string s] by rw [← hW4]; exact StB.made _ (by simp; omega) _ _)
    clear hW4 hb34 HB3 HX3 HD3 HM3 HR3 HL3 HT3 HF3 k0 k1 k2 k3 k4 k5 k6 k7 k8
    have k0 : W4.cell? ⟨h, 0, none⟩ = some (.int .u8 d) := HD4.out.cell 0
    have k1 : W4.cell? ⟨h, 1, none⟩ = some (.int .u8 q) := HD4.out.cell 1
    have k2 : W4.cell? ⟨h, 2, none⟩ = some (.int .i64 e) := HD4.out.cell 2
    have k3 : W4.cell? ⟨b7, 0, none⟩ = some (.int .i64 2147483648) := HL4.out.cell 0
    have k4 : W4.cell? ⟨b7, 1, none⟩ = some (.int .i64 2147483648) := HL4.out.cell 1
    have k5 : W4.cell? ⟨b7, 2, none⟩ = some (.int .i64 2147483648) := HL4.out.cell 2
    have k6 : W4.cell? ⟨b7, 3, none⟩ = some (.bool false) := HL4.out.cell 3
    have k7 := HD4.out.lt
    have k8 := HL4.out.lt
    have k9 : W4.cell? ⟨fb, 0, none⟩ = some (.int .i64 k) := HF4.out.cell 0
    have k10 : W4.cell? ⟨fb, 1, none⟩ = some (.int .i64 A) := HF4.out.cell 1
    have k11 := HF4.out.lt
    obtain ⟨v0, hv0⟩ : ∃ v, (k == 0) = v := ⟨_, rfl⟩
    have V0 := Lib.hid hv0
    have hfe1 := fun w => fault_eq k A k A w
    have hfe2 : ∀ w, (binOp .eql 30 (.agg #[.int .i64 k, .int .i64 A]) (.agg #[.int .i64 0, .int .i64 0])).run Try.prog w = .ok (.bool v0) w := fun w => by
      rw [fault_eq k A 0 0 w]
      congr 2
      rw [← V0.out]
      by_cases h0 : k = 0
      · rw [HZ.out h0, h0]; rfl
      · have : (k == 0) = false := by simpa using h0
        rw [this]; rfl
    have hfn : ∀ w, (binOp .eql 46 (.func (.func 24) #[] #[.pointer (some ⟨r0, 0, none⟩), .pointer (some ⟨r1, 0, none⟩), .pointer (some ⟨r2, 0, none⟩)]) Value.nilFunc).run Try.prog w = .ok (.bool false) w := fun w => by kernel_rfl
    go_cut [47] from 13 to 79 (fun s47 wx => s47 = .bool false ∧ Hid (Below W4.heap.size W4 wx))
    case first =>
      have z0 : ∀ z, (onto W4 z).cell? ⟨h, 0, none⟩ = some (.int .u8 d) := fun z => mem_cell (onto_below W4 z) k0
      have z1 : ∀ z, (onto W4 z).cell? ⟨h, 1, none⟩ = some (.int .u8 q) := fun z => mem_cell (onto_below W4 z) k1
      have z2 : ∀ z, (onto W4 z).cell? ⟨h, 2, none⟩ = some (.int .i64 e) := fun z => mem_cell (onto_below W4 z) k2
      have z3 : ∀ z, (onto W4 z).cell? ⟨b7, 0, none⟩ = some (.int .i64 2147483648) := fun z => mem_cell (onto_below W4 z) k3
      have z4 : ∀ z, (onto W4 z).cell? ⟨b7, 1, none⟩ = some (.int .i64 2147483648) := fun z => mem_cell (onto_below W4 z) k4
      have z5 : ∀ z, (onto W4 z).cell? ⟨b7, 2, none⟩ = some (.int .i64 2147483648) := fun z => mem_cell (onto_below W4 z) k5
      have z6 : ∀ z, (onto W4 z).cell? ⟨b7, 3, none⟩ = some (.bool false) := fun z => mem_cell (onto_below W4 z) k6
      have z9 : ∀ z, (onto W4 z).cell? ⟨fb, 0, none⟩ = some (.int .i64 k) := fun z => mem_cell (onto_below W4 z) k9
      have z10 : ∀ z, (onto W4 z).cell? ⟨fb, 1, none⟩ = some (.int .i64 A) := fun z => mem_cell (onto_below W4 z) k10
      have hf1 := fun w => first_iz d q e 2147483648 2147483648 2147483648 false s (by omega) d0 d1 q0 q1 rs k A HP w
      have hf2 := fun w => parses_is d q e s (by omega) d0 d1 q0 q1 rs k A HP v0 hv0 w
      clear k0 k1 k2 k3 k4 k5 k6 k9 k10
      refine wp_region_onto (by kernel_rfl) (by kernel_rfl) ?_
      repeat (go_big_quiet_step (first | (go_at_call 16; with_reducible exact calls_onto (hf1 _)) | (go_at_call 17; with_reducible exact calls_onto (hf2 _))))
      refine wpQuiet_nil ?_
      intro _ hw'
      obtain ⟨y1, hw''⟩ := hw'
      subst hw''
      go_wp2_with fail
      go_meet
      exact ⟨rfl, Lib.hid (onto_below W4 y1)⟩
    case rest =>
      obtain ⟨rfl, HBC⟩ := hcut
      obtain ⟨W5, hW5⟩ : ∃ W5, W5 = wc := ⟨_, rfl⟩
      subst hW5
      have HB5 := Lib.hid (HB4.out.trans (HBC.out.mono HB4.out.size))
      have HX5 := Lib.hid (show SlIn W5 C n V ∧ RowsIn W5 V rs from ⟨HX4.out.1.below HBC.out, HX4.out.2.below HBC.out⟩)
      have HM5 := Lib.hid (HM4.out.below HBC.out)
      have HR5 := Lib.hid (HR4.out.below HBC.out)
      have HT5 := Lib.hid (HT4.out.below HBC.out)
      have s50 := Lib.hid (s0.out.below HBC.out)
      have s51 := Lib.hid (s1.out.below HBC.out)
      have s52 := Lib.hid (s2.out.below HBC.out)
      clear HBC HB4 HX4 HD4 HM4 HR4 HL4 HT4 HF4 s0 s1 s2 k0 k1 k2 k3 k4 k5 k6 k7 k8 k9 k10 k11 hfe1 hfe2 hfn hv0 V0
      go_wp2_with fail
      obtain ⟨W6, hW6⟩ : ∃ W6, W5.alloc (.cells #[.int .i64 0] 3) = W6 := ⟨_, rfl⟩
      obtain ⟨nb, hnb⟩ : ∃ nb, W5.heap.size = nb := ⟨_, rfl⟩
      rw [hW6, hnb]
      have hb56 : Below W5.heap.size W5 W6 := by rw [← hW6]; exact up_alloc (Below.refl _ _) _
      have hN6 : StB W6 nb 3 #[.int .i64 0] := by rw [← hW6]; exact StB.made _ hnb.symm _ _
      have hz6 : W6.heap.size = nb + 1 := by rw [← hW6]; simp; omega
      have s60 := s50.out.below hb56
      have s61 := s51.out.below hb56
      have s62 := s52.out.below hb56
      obtain ⟨mo, hmo⟩ : ∃ mo : Nat, x = mo := ⟨x.toNat, by omega⟩
      subst hmo
      have start : TelI W6 nb mo [] W6 (fun k => k = nb) := ⟨rfl, (fun k hk => hk), Touch.refl _ _, hN6, Nat.zero_le _⟩
      have lies : Lies W6 (fun k => k = nb) := fun k hk => by have : k = nb := hk; omega
      clear hW6
      refine (wpIn_wide (n := 20)).1 ?_
      refine wpIn_range_T rfl (by simp [Fence.wide]) (gf := 24) (lb := #[.pointer (some ⟨r0, 0, none⟩), .pointer (some ⟨r1, 0, none⟩), .pointer (some ⟨r2, 0, none⟩)]) rfl trivial (enters_of Try.func24 (by kernel_rfl) rfl)
        (encs := Rx.args) (gh := Rx.gh) (hand := Rx.hand) (blk := Rx.blk) (evs := rs) (fun W1 hb => records_seq (by omega) (by omega) d0 d1 q0 q1 rs k A HP.out (s60.below hb) (s61.below hb) (s62.below hb)) rhand_keep (fun _ => rfl)
        (TelI W6 nb mo) (TelX W6 nb mo) (telI_ab _ _ _ _ (Nat.le_refl _)) (telX_ab _ _ _ _ (Nat.le_refl _)) _ start lies
        (fun y V => { tmps := #[.agg #[.int .u8 d, .int .u8 q, .int .i64 e], .string s, .int .u8 (mo : Int), .pointer (some ⟨h, 0, none⟩), undef, .pointer (some ⟨mb, 0, none⟩), .pointer (some ⟨b6, 0, none⟩), .pointer (some ⟨b7, 0, none⟩), .pointer (some ⟨tb, 0, none⟩), .pointer (some ⟨fb, 0, none⟩), .func (.func 24) #[] #[.pointer (some ⟨r0, 0, none⟩), .pointer (some ⟨r1, 0, none⟩), .pointer (some ⟨r2, 0, none⟩)], .pointer (some ⟨nb, 0, none⟩), .slice y.A y.l.length y.c, u13, u14, u15, u16, u17, u18, u19, u20, u21, u22, u23, u24, u25, u26, u27, u28, u29, u30, u31, u32, u33, u34, u35, u36, u37, u38, u39, u40, u41, u42, u43, u44, u45, u46, .bool false, .func (.func 24) #[] #[.pointer (some ⟨r0, 0, none⟩), .pointer (some ⟨r1, 0, none⟩), .pointer (some ⟨r2, 0, none⟩)], .slice y.A y.l.length y.c, u50, u51, u52, u53, u54, u55, u56, u57, u58, u59, u60, u61, u62, u63, u64, u65, u66, u67, u68, u69, u70, u71, u72, u73, u74, u75, u76, u77, u78, u79], defers := [] })
        (fun y V => V) (fun y V => Below.refl _ V) ?assign ?body ?done ?stop
      case assign =>
        rintro l ⟨xA, xc, xl⟩ W K hK
        dsimp only [Rx.args] at hK ⊢
        gi_wp2
        exact hK
      case body =>
        rintro l pre y V2 W T ⟨hTn, hT, ht6, hN, hle⟩ hlT hpre hhand hblk hge htouch hl
        have hbW : Below W5.heap.size W5 W := hb56.trans (ht6.below hb56.size (fun k hk => by have : k = nb := hk; omega))
        obtain ⟨p, hpp⟩ : ∃ p, pre.length = p := ⟨_, rfl⟩
        have hpn : p < n := by have := hpre.length_le; simp at this; have := HN.out; omega
        have hrow : rs[p]? = some y.l := by
          obtain ⟨t, ht⟩ := hpre
          rw [← ht, ← hpp]; simp [Rx.gh]
        obtain ⟨A1, a1, hv1, hs1⟩ := HX5.out.2.2 p y.l hrow
        obtain ⟨ca, hC, hca⟩ := (HX5.out.1.below hbW).at_ hv1
        have HS1 := Lib.hid (hs1.below hbW)
        have HY1 := Lib.hid hhand.toIn
        obtain ⟨m, hm⟩ : ∃ m, y.l.length = m := ⟨_, rfl⟩
        have hm1 : m ≤ 1000000 := by rw [← hm]; have := HTH.out y.l (List.mem_of_getElem? hrow); omega
        have kT : W.cell? ⟨tb, 0, none⟩ = some (.slice C n cc) := (HT5.out.below hbW).cell 0
        have HMW := Lib.hid (HM5.out.below hbW)
        rw [hpp] at hN hle
        have HN1 := Lib.hid hN
        have HT6 := Lib.hid ht6
        have HBW := Lib.hid hbW
        have k0 : W.cell? ⟨nb, 0, none⟩ = some (.int .i64 (p : Int)) := hN.cell 0
        have k1 := hN.lt
        have hlW : Lies W T := hlT.later htouch.size
        rw [hC] at kT
        rw [hm] at hca
        rw [hm]
        have hYS : Calls Try.prog 18 #[.slice y.A m y.c, .slice A1 m a1] W fun e w' => e = .returned (.bool true) ∧ Below W.heap.size W w' := by
          rw [← hm]; exact same_yes y.A A1 y.l.length y.c a1 y.l _ HY1.out HS1.out (by omega)
        clear ht6 hN hbW hs1 hv1 hrow hhand
        gi_wp2
        refine ⟨trivial, CallsIn.inRound l (callsIn_wide.2 (hYS.mono ?_))⟩
        rintro e W7 ⟨rfl, hb7⟩
        have HB7 := Lib.hid hb7
        have HN7 := Lib.hid (HN1.out.below hb7)
        have kM : W7.cell? ⟨mb, 0, none⟩ = some (.int .u8 (mo : Int)) := (HMW.out.below hb7).cell 0
        have k2 : W7.cell? ⟨nb, 0, none⟩ = some (.int .i64 (p : Int)) := HN7.out.cell 0
        have k3 := HN7.out.free 0
        have k4 := HN7.out.lt
        have k5 : ¬ nb = mb := by have := HM5.out.lt; omega
        have k6 : ¬ mb = nb := fun e => k5 e.symm
        have T1 := Lib.hid (((Touch.of_below hb7 (fun k => k = nb)).then_set (p := ⟨nb, 0, none⟩) (.inl rfl) (.int .i64 ((p : Int) + 1))))
        have hpl : ((pre ++ [y.gh]).length : Int) = (p : Int) + 1 := by simp; omega
        have S8 := Lib.hid (show StB (W7.setCell ⟨nb, 0, none⟩ (.int .i64 ((p : Int) + 1))) nb 3 #[.int .i64 ((pre ++ [y.gh]).length : Int)] by rw [hpl]; exact HN7.out.set_ 0 _)
        have hlen2 : (pre ++ [y.gh]).length = p + 1 := by simp; omega
        have HL2 := Lib.hid hlen2
        clear k0 k1 kT hb7 hca hpl hlen2
        by_cases hmx : mo < p + 1
        · have hd1 : decide ((mo : Int) < (p : Int) + 1) = true := by simp; omega
          gi_wp2
          exact ⟨T, hlW.later T1.out.size, (fun k hk => .inl (.inl hk)), T1.out.mono (fun k hk => by have : k = nb := hk; rw [this]; exact hTn), rfl, hTn, hT, HT6.out.trans (Sub.refl _ _) T1.out, S8.out, by rw [HL2.out]; omega⟩
        · have hd1 : decide ((mo : Int) < (p : Int) + 1) = false := by simp; omega
          gi_wp2
          exact ⟨T, hlW.later T1.out.size, (fun k hk => .inl (.inl hk)), T1.out.mono (fun k hk => by have : k = nb := hk; rw [this]; exact hTn), hTn, hT, HT6.out.trans (Sub.refl _ _) T1.out, S8.out, by rw [HL2.out]; omega⟩
      case done =>
        rintro D W T hD ⟨hTn, hT, ht6, hN, hle⟩ hlT hTD hK
        rw [HN.out] at hN hle
        have hbW : Below W5.heap.size W5 W := hb56.trans (ht6.below hb56.size (fun k hk => by have : k = nb := hk; omega))
        have HBW := Lib.hid hbW
        have HRW := Lib.hid (HR5.out.below hbW)
        have k0 : W.cell? ⟨nb, 0, none⟩ = some (.int .i64 (n : Int)) := hN.cell 0
        have k1 : W.cell? ⟨tb, 0, none⟩ = some (.slice C n cc) := (HT5.out.below hbW).cell 0
        have k2 : W.cell? ⟨mb, 0, none⟩ = some (.int .u8 (mo : Int)) := (HM5.out.below hbW).cell 0
        have k3 : W.cell? ⟨b6, 0, none⟩ = some (.bool false) := HRW.out.cell 0
        have k4 := HRW.out.free 0
        have k5 := HRW.out.lt
        have hm1 : (n : Int) ≤ (mo : Int) + 1 := by omega
        have HKD := Lib.hid hK
        have HDN := Lib.hid (show ¬ D = b6 by have := HR5.out.lt; omega)
        have HDW := Lib.hid (show w.heap.size ≤ D by have := HB5.out.size; omega)
        clear hbW hN ht6 hK
        go_wp2_with (go_at_call 7; ((with_reducible refine (above (awake6_any _)).mono ?_); rintro x _ ⟨rfl, y, rfl⟩))
        all_goals
          have T1 := (Touch.of_below (onto_below W y) (fun k => k = b6)).then_set (p := ⟨b6, 0, none⟩) (.inl rfl) (.bool true)
          have hK' := (T1.block D (Array.getElem?_eq_some_iff.1 HKD.out).1 HDN.out).trans HKD.out
          have s8 := (HRW.out.below (onto_below W y)).set_ 0 (.bool true)
          have s9 := s8.touch (Touch.putObj _ D (.deferred none)) (fun e => HDN.out e.symm)
          have hb0 := HB5.out.trans (HBW.out.mono HB5.out.size)
          have hb1 := hb0.trans (T1.below hb0.size (fun k hk => by have : k = b6 := hk; have := HBB.out; omega))
          have hb2 := hb1.trans ((Touch.putObj ((onto W y).setCell ⟨b6, 0, none⟩ (.bool true)) D (.deferred none)).below hb1.size (fun k hk => by have : k = D := hk; have := HDW.out; omega))
          have y0 := s9.cell 0
          have HB2 := Lib.hid hb2
          clear T1 s8 s9 hb0 hb1 hb2
          refine ⟨by simp, .inl ⟨_, _, rfl, run_takeDeferred hK', ?_⟩⟩
          refine ⟨.bool true, by simp [results, Try.results4, go_sem, y0], rfl, by first | exact HB2.out | (have hz := HB2.out; rw [HH.out] at hz; exact hz)⟩
      case stop =>
        rintro D code pre W T hD hpre ⟨rfl, hTn, hT, ht6, hN, hle⟩ hlT hTD hK
        have hpn : mo + 1 ≤ n := by have := hpre.length_le; have := HN.out; omega
        rw [hle] at hN
        have hbW : Below W5.heap.size W5 W := hb56.trans (ht6.below hb56.size (fun k hk => by have : k = nb := hk; omega))
        have HBW := Lib.hid hbW
        have HRW := Lib.hid (HR5.out.below hbW)
        have k0 : W.cell? ⟨nb, 0, none⟩ = some (.int .i64 ((mo : Int) + 1)) := by have := hN.cell 0; simpa using this
        have k1 : W.cell? ⟨tb, 0, none⟩ = some (.slice C n cc) := (HT5.out.below hbW).cell 0
        have k2 : W.cell? ⟨mb, 0, none⟩ = some (.int .u8 (mo : Int)) := (HM5.out.below hbW).cell 0
        have k3 : W.cell? ⟨b6, 0, none⟩ = some (.bool false) := HRW.out.cell 0
        have k4 := HRW.out.free 0
        have k5 := HRW.out.lt
        have hm1 : (n : Int) ≤ (mo : Int) + 1 → (mo : Int) + 1 = n := fun _ => by omega
        have HKD := Lib.hid hK
        have HDN := Lib.hid (show ¬ D = b6 by have := HR5.out.lt; omega)
        have HDW := Lib.hid (show w.heap.size ≤ D by have := HB5.out.size; omega)
        clear hbW hN ht6 hK
        refine wpIn_wide.2 ?_
        go_wp2_with (go_at_call 7; ((with_reducible refine (above (awake6_any _)).mono ?_); rintro x _ ⟨rfl, y, rfl⟩))
        all_goals
          have T1 := (Touch.of_below (onto_below W y) (fun k => k = b6)).then_set (p := ⟨b6, 0, none⟩) (.inl rfl) (.bool true)
          have hK' := (T1.block D (Array.getElem?_eq_some_iff.1 HKD.out).1 HDN.out).trans HKD.out
          have s8 := (HRW.out.below (onto_below W y)).set_ 0 (.bool true)
          have s9 := s8.touch (Touch.putObj _ D (.deferred none)) (fun e => HDN.out e.symm)
          have hb0 := HB5.out.trans (HBW.out.mono HB5.out.size)
          have hb1 := hb0.trans (T1.below hb0.size (fun k hk => by have : k = b6 := hk; have := HBB.out; omega))
          have hb2 := hb1.trans ((Touch.putObj ((onto W y).setCell ⟨b6, 0, none⟩ (.bool true)) D (.deferred none)).below hb1.size (fun k hk => by have : k = D := hk; have := HDW.out; omega))
          have y0 := s9.cell 0
          have HB2 := Lib.hid hb2
          clear T1 s8 s9 hb0 hb1 hb2
          refine ⟨by simp, .inl ⟨_, _, rfl, run_takeDeferred hK', ?_⟩⟩
          refine ⟨.bool true, by simp [results, Try.results4, go_sem, y0], rfl, by first | exact HB2.out | (have hz := HB2.out; rw [HH.out] at hz; exact hz)⟩
  · go_enter Try.func4, Try.ntmps4
    go_wp2_with (go_at_call 7; ((with_reducible refine (above (awake6_any _)).mono ?_); rintro x _ ⟨rfl, y, rfl⟩))
    obtain ⟨A, hA⟩ : ∃ A, ((w.alloc (.cells #[.int .u8 d, .int .u8 q, .int .i64 e] 23)).alloc (.cells #[.int .u8 x] 5)).alloc (.cells #[.bool false] 4) = A := ⟨_, rfl⟩
    have hwA : Below w.heap.size w A := by rw [← hA]; exact up_alloc (up_alloc (up_alloc (Below.refl _ _) _) _) _
    have hS : StB A (w.heap.size + 1 + 1) 4 #[.bool false] := by rw [← hA]; exact StB.made _ (by simp) _ _
    revert y
    rw [hA]
    intro y
    have hS2 := (hS.below (onto_below A y)).set_ 0 (.bool true)
    have T1 := (Touch.of_below (onto_below A y) (fun k => k = w.heap.size + 1 + 1)).then_set (p := ⟨w.heap.size + 1 + 1, 0, none⟩) (.inl rfl) (.bool true)
    have y0 := hS2.cell 0
    exact bodyPost_ret (v := .bool true) (by simp [results, Try.results4, go_sem, y0]) rfl ⟨rfl, hwA.trans (T1.below hwA.size (fun k hk => by have : k = w.heap.size + 1 + 1 := hk; omega))⟩
end Go.Proofs.Ytbglecaahopgdaa

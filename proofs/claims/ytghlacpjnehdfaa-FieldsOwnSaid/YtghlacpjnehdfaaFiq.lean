/- Layer 5: the contract of the document's own Take, within wide limits. -/
import Derived.Test.YtghlacpjnehdfaaFip
import Derived.Test.YtghlacpjnehdfaaFin
import Derived.Deep.DeepCutAuto
namespace Go.Proofs.Ytghlacpjnehdfaa
open Go.ChangeShapes Go.WideShapes Go.ChangeAt Go.RowKit
set_option linter.unusedVariables false
set_option linter.unusedSimpArgs false

def rvArr (x0 x1 x2 x3 x4 b : Int) : Array Value := #[.int .i64 x0, .int .i64 x1, .int .i64 x2, .int .i64 x3, .int .i64 x4, .int .i64 b]
theorem rv_cells {w wx : World} {g : Nat} {s s1 : Mk} {S : Nat → Prop} {t : TypeId} (x0 x1 x2 x3 x4 b : Int) (h : RkB w g s S) (T : RTurned g s1 S (w.alloc (.cells (rvArr x0 x1 x2 x3 x4 b) t)) wx) :
    wx.cell? ⟨w.heap.size, 0, none⟩ = some (.int .i64 x0) ∧ wx.cell? ⟨w.heap.size, 1, none⟩ = some (.int .i64 x1) ∧ wx.cell? ⟨w.heap.size, 2, none⟩ = some (.int .i64 x2) ∧ wx.cell? ⟨w.heap.size, 3, none⟩ = some (.int .i64 x3) ∧
    wx.cell? ⟨w.heap.size, 4, none⟩ = some (.int .i64 x4) ∧ wx.cell? ⟨w.heap.size, 5, none⟩ = some (.int .i64 b) ∧ w.heap.size < wx.heap.size := by
  obtain ⟨S1, m1, t1, b1⟩ := T
  have st : StB wx w.heap.size t (rvArr x0 x1 x2 x3 x4 b) := (StB.new w t _).touch t1 (fun hs => by have := h.lt _ hs; omega)
  exact ⟨st.cell 0, st.cell 1, st.cell 2, st.cell 3, st.cell 4, st.cell 5, st.lt⟩
theorem toBA_snoc (l : List Int) (b : Int) : toBA (l ++ [b]) = toBA l ++ ⟨#[UInt8.ofNat b.toNat]⟩ := by
  apply ByteArray.ext; simp [toBA, ByteArray.data_append]

def RHanded (A : Option Addr) (c : Nat) (l : List ByteArray) (g : Nat) (s : Mk) (S : Nat → Prop) (w w' : World) : Prop :=
  SlOwn w' 0 9 A l.length c (strs l) ∧ ∃ S', RkB w' g s S' ∧ Touch w w' S ∧ Sub w S' S ∧ ∀ k, blkOf A = some k → ¬ S' k ∧ (S k ∨ w.heap.size ≤ k)
theorem RHanded.glue {A : Option Addr} {c g : Nat} {l : List ByteArray} {s : Mk} {S S1 : Nat → Prop} {w w1 w2 : World} (t : Touch w w1 S) (c1 : Sub w S1 S) (k : RHanded A c l g s S1 w1 w2) : RHanded A c l g s S w w2 := by
  obtain ⟨o, S2, m2, t2, b2, d2⟩ := k
  refine ⟨o, S2, m2, t.trans c1 t2, c1.trans t.size b2, fun j hj => ⟨(d2 j hj).1, ?_⟩⟩
  rcases (d2 j hj).2 with h | h
  · exact c1 j h
  · have := t.size; exact .inr (by omega)
theorem RHanded.none_ {g : Nat} {s : Mk} {S : Nat → Prop} {w w' : World} (h : RTurned g s S w w') : RHanded none 0 [] g s S w w' := by
  obtain ⟨S', m, t, b⟩ := h
  exact ⟨SlOwn.nothing _ _ _, S', m, t, b, fun k hk => by cases hk⟩
theorem RHanded.from_alloc {A : Option Addr} {c g : Nat} {l : List ByteArray} {s : Mk} {S : Nat → Prop} {w w' : World} {o : Obj} (h : RHanded A c l g s S (w.alloc o) w') : RHanded A c l g s S w w' :=
  RHanded.glue (w1 := w.alloc o) (S1 := S) ((Touch.refl w S).then_alloc o) (Sub.refl w S) h
theorem rout_end {w w' : World} {g : Nat} {s : Mk} {B : Option Addr} {d : Nat} {S : Nat → Prop} (h1 : StB w g 47 (rkCells s B d)) (h3 : SlOwn w 0 9 B s.rc.length d (strs s.rc)) (h4 : ∀ k, S k ↔ (k = g ∨ blkOf B = some k))
    (t : Touch w w' (fun k => k = g)) (st : StB w' g 47 (rkCells (mOut s) none 0)) : RHanded B d s.rc g (mOut s) S w w' := by
  have hB := h3.unlike_st h1 (by decide)
  refine ⟨h3.touch t hB, fun k => k = g ∨ blkOf none = some k, ⟨none, 0, st, SlOwn.nothing _ _ _, fun k => Iff.rfl⟩, t.mono fun k hk => (h4 k).2 (.inl hk), ?_, ?_⟩
  · intro k hk
    rcases hk with rfl | hk
    · exact .inl ((h4 _).2 (.inl rfl))
    · cases hk
  · intro k hk
    refine ⟨?_, .inl ((h4 _).2 (.inr hk))⟩
    rintro (rfl | hk')
    · exact hB _ hk rfl
    · cases hk'

/-- What the walk asks of the document's maker. -/
theorem RTurned.facts {w wx : World} {g : Nat} {s1 : Mk} {S : Nat → Prop} (T : RTurned g s1 S w wx) (h : Wide s1) : g < wx.heap.size ∧ wx.cell? ⟨g, 0, none⟩ = some (.int .i64 1000) ∧ wx.cell? ⟨g, 1, none⟩ = some (.int .i64 1000) ∧ wx.cell? ⟨g, 2, none⟩ = some (.int .i64 1000) ∧ wx.cell? ⟨g, 3, none⟩ = some (.int .i64 0) ∧
    wx.cell? ⟨g, 4, none⟩ = some (.string (toBA s1.fd)) ∧ (∃ B d, wx.cell? ⟨g, 5, none⟩ = some (.slice B s1.rc.length d)) ∧ wx.cell? ⟨g, 6, none⟩ = some (.int .i64 s1.bg) ∧ wx.cell? ⟨g, 7, none⟩ = some (.int .i64 s1.ct) ∧ wx.cell? ⟨g, 9, none⟩ = some (.int .i64 0) ∧ ∀ i, wx.frozen? ⟨g, i, none⟩ = false := by
  obtain ⟨S1, m1, t1, b1⟩ := T
  obtain ⟨a, k0, k1, k2, k3, k4, k5, k6, k7, k8, k9⟩ := m1.cells
  rw [h.lf] at k0
  rw [h.ls] at k1
  rw [h.lr] at k2
  rw [h.u] at k3
  rw [h.er] at k9
  exact ⟨a, k0, k1, k2, k3, k4, k5, k6, k7, k9, m1.free⟩

set_option maxHeartbeats 12800000 in
set_option maxRecDepth 100000 in
theorem rtake_any (g : Nat) (bg ad fi li re : Bool) (x0 x1 x2 x3 x4 pb : Int) (X0 : Hid ((x0 == 1) = bg)) (X1 : Hid ((x1 == 1) = ad)) (X2 : Hid ((x2 == 1) = fi)) (X3 : Hid ((x3 == 1) = li)) (X4 : Hid ((x4 == 0) = !re))
    (s : Mk) (S : Nat → Prop) (N : Nat) (hN : N ≤ 400) (ok : Hid (s.Ok N)) (hw : Hid (Wide s)) (b0 : 0 ≤ pb) (b1 : pb ≤ 255) (w : World) (h : Hid (RkB w g s S)) :
    Calls Try.prog 15 #[.pointer (some ⟨g, 0, none⟩), .agg (rvArr x0 x1 x2 x3 x4 pb)] w fun x w' =>
      ∃ A c, x = .returned (.tuple #[.slice A (wRec ⟨bg, ad, fi, li, re, pb⟩ s).length c, .int .i64 (bitI re)]) ∧ Hid (RHanded A c (wRec ⟨bg, ad, fi, li, re, pb⟩ s) g (wTake ⟨bg, ad, fi, li, re, pb⟩ s) S w w') := by
  have hM0 : RkB (w.alloc (.cells (rvArr x0 x1 x2 x3 x4 pb) 51)) g s S := h.out.below ((Below.refl _ _).alloc (Nat.le_refl _) _)
  have HT0 := Lib.hid (RTurned.refl hM0)
  obtain ⟨hg, k0, k1, k2, k3, k4, ⟨B, d, k5⟩, k6, k7, k9, fz⟩ := HT0.out.facts hw.out
  have f6 := fz 6
  obtain ⟨v0, v1, v2, v3, v4, v5, v6⟩ := rv_cells x0 x1 x2 x3 x4 pb h.out HT0.out
  obtain ⟨W, hW⟩ : ∃ W, W = w.alloc (.cells (rvArr x0 x1 x2 x3 x4 pb) 51) := ⟨_, rfl⟩
  rw [← hW] at HT0 v0 v1 v2 v3 v4 v5 v6 hg k0 k1 k2 k3 k4 k5 k6 k7 k9 f6
  have HWW := Lib.hid hW
  clear hW hM0 fz
  have bgN := ok.out.bgN
  have bg0 := ok.out.bg
  go_enter Try.func15, Try.ntmps15
  go_upto_region 1 with fail
  rw [← HWW.out]
  go_upto_if 15 with fail
  go_cut [4] (fun s4 wx => s4 = .slice none 0 0 ∧ Hid (RTurned g (wB bg s) S W wx))
  case first =>
    cases bg
    · have q := X0.out
      go_wp2_with fail
      go_meet
      exact ⟨rfl, HT0⟩
    · have q := X0.out
      have hne : (s.bg == 1000) = false := by rw [beq_eq_false_iff_ne]; omega
      go_wp2_with fail
      refine wp_region_onto (by kernel_rfl) (by kernel_rfl) ?_
      repeat (go_big_quiet_step (fail))
      refine wpQuiet_nil ?_
      intro _ hw'
      obtain ⟨x1, hw''⟩ := hw'
      subst hw''
      go_wp2_with fail
      go_meet
      refine ⟨rfl, Lib.hid ((HT0.out.then_below (onto_below W x1)).trans fun S' m => ?_)⟩
      exact m.set_ 6 _ (wB true s) rfl (fun B d => by simp [rkCells, wB])
  case rest =>
    obtain ⟨rfl, HT1⟩ := hcut
    obtain ⟨V, hV⟩ : ∃ V, V = wc := ⟨_, rfl⟩
    subst hV
    clear v0 v1 v2 v3 v4 v5 v6 k0 k1 k2 k3 k4 k5 k6 k7 k9 f6 hg bgN bg0
    have hW1 := (wide_B hw.out (by have := ok.out.bgN; omega) bg).2
    obtain ⟨z1, z2⟩ := wB_sizes bg s
    obtain ⟨s1, hs1⟩ : ∃ s1, wB bg s = s1 := ⟨_, rfl⟩
    rw [hs1] at HT1 hW1 z1 z2
    have q1 : s1.fd.length ≤ 400 := by rw [z1]; have := ok.out.fdN; omega
    have q2 : s1.rc.length ≤ 800 := by rw [z2]; have := ok.out.rcN; omega
    have HS1 := Lib.hid hs1
    have HW1 := Lib.hid hW1
    clear hs1 hW1 z1 z2
    obtain ⟨v0, v1, v2, v3, v4, v5, v6⟩ := rv_cells x0 x1 x2 x3 x4 pb h.out (HWW.out ▸ HT1.out)
    obtain ⟨hg, k0, k1, k2, k3, k4, ⟨B, d, k5⟩, k6, k7, k9, fz⟩ := HT1.out.facts HW1.out
    have f4 := fz 4
    clear fz
    go_upto_if 38 with fail
    go_cut [4] (fun s4 wx => s4 = .slice none 0 0 ∧ Hid (RTurned g (wA ad pb s1) S W wx))
    case first =>
      cases ad
      · have q := X1.out
        go_wp2_with fail
        go_meet
        exact ⟨rfl, HT1⟩
      · have q := X1.out
        obtain ⟨t, ht⟩ : ∃ t, toBA s1.fd = t := ⟨_, rfl⟩
        have hts : t.size ≤ 400 := by rw [← ht, toBA_size]; exact q1
        rw [ht] at k4
        have HTT := Lib.hid ht
        have hne : ((t.size : Int) == 1000) = false := by rw [beq_eq_false_iff_ne]; omega
        clear ht
        go_wp2_with fail
        refine wp_region_onto (by kernel_rfl) (by kernel_rfl) ?_
        repeat (go_big_quiet_step (fail))
        refine wpQuiet_nil ?_
        intro _ hw'
        obtain ⟨x1, hw''⟩ := hw'
        subst hw''
        have e4 : (onto V x1).cell? ⟨g, 4, none⟩ = some (.string t) := mem_cell (onto_below V x1) k4
        have e5 : (onto V x1).cell? ⟨w.heap.size, 5, none⟩ = some (.int .i64 pb) := mem_cell (onto_below V x1) v5
        have g4 : (onto V x1).frozen? ⟨g, 4, none⟩ = false := (mem_up (onto_below V x1) k4 f4).2
        have hg2 : g < (onto V x1).heap.size := lt_of_cell (a := ⟨g, 4, none⟩) e4
        have he2 : w.heap.size < (onto V x1).heap.size := lt_of_cell (a := ⟨w.heap.size, 5, none⟩) e5
        have HTU := Lib.hid (HT1.out.then_below (onto_below V x1))
        clear v0 v1 v2 v3 v4 v5 v6 k0 k1 k2 k3 k4 k5 k6 k7 k9 f4 hg HT1
        obtain ⟨U, hU⟩ : ∃ U, U = onto V x1 := ⟨_, rfl⟩
        rw [← hU]
        rw [← hU] at e4 e5 g4 hg2 he2 HTU
        clear hU
        have hwr : IntKind.u8.wrap pb = pb := IntWalk.u8_in _ (by omega)
        have kx : (convert 54 9 (.slice (some ⟨U.heap.size, 0, none⟩) 1 1)).run Try.prog (U.alloc (.cells #[.int .u8 pb] 5)).drew = .ok (.string ⟨#[UInt8.ofNat pb.toNat]⟩) (U.alloc (.cells #[.int .u8 pb] 5)).drew := run_string_one U _ _ _ Try.underlying54 Try.underlying5 Try.underlying9 pb _ 1
        have hs1 : (⟨#[UInt8.ofNat pb.toNat]⟩ : ByteArray).size = 1 := rfl
        go_wp2_with fail
        go_region
        all_goals
          go_wp2_with fail
          go_meet
          refine ⟨rfl, Lib.hid (HTU.out.trans fun S' m => ?_)⟩
          exact (m.set_ 4 (.string (t ++ ⟨#[UInt8.ofNat pb.toNat]⟩)) (wA true pb s1) rfl (fun B d => by simp [rkCells, wA, toBA_snoc, HTT.out])).then_below (up_drew (up_alloc (Below.refl _ _) _))
    case rest =>
      obtain ⟨rfl, HT2⟩ := hcut
      obtain ⟨V2, hV⟩ : ∃ V2, V2 = wc := ⟨_, rfl⟩
      subst hV
      clear v0 v1 v2 v3 v4 v5 v6 k0 k1 k2 k3 k4 k5 k6 k7 k9 f4 hg HT1
      have hW2 := (wide_A HW1.out (by omega) ad pb).2
      have z3 := wA_sizes ad pb s1
      obtain ⟨s2, hs2⟩ : ∃ s2, wA ad pb s1 = s2 := ⟨_, rfl⟩
      rw [hs2] at HT2 hW2 z3
      have q3 : s2.rc.length ≤ 800 := by rw [z3]; exact q2
      have HS2 := Lib.hid hs2
      have HW2 := Lib.hid hW2
      clear hs2 hW2 z3 q1 q2
      obtain ⟨v0, v1, v2, v3, v4, v5, v6⟩ := rv_cells x0 x1 x2 x3 x4 pb h.out (HWW.out ▸ HT2.out)
      obtain ⟨hg, k0, k1, k2, k3, k4, ⟨B, d, k5⟩, k6, k7, k9, fz⟩ := HT2.out.facts HW2.out
      clear fz
      go_upto_if 80 with fail
      go_cut [4] (fun s4 wx => s4 = .slice none 0 0 ∧ Hid (RTurned g (wP fi s2) S W wx))
      case first =>
        cases fi
        · have q := X2.out
          go_wp2_with fail
          go_meet
          exact ⟨rfl, HT2⟩
        · have q := X2.out
          obtain ⟨S2, m2, t2, c2⟩ := HT2.out
          have M2 := Lib.hid m2
          have T2 := Lib.hid t2
          have C2 := Lib.hid c2
          clear m2 t2 c2
          go_wp2_with fail
          refine (rput_any g s2 S2 _ M2.out (by omega)).mono ?_
          rintro x w3 ⟨rfl, ht⟩
          have HT3 := Lib.hid (RTurned.glue T2.out C2.out ht)
          clear ht v0 v1 v2 v3 v4 v5 v6 k0 k1 k2 k3 k4 k5 k6 k7 k9 hg
          obtain ⟨hg, k0, k1, k2, k3, k4, ⟨B3, d3, k5⟩, k6, k7, k9, fz⟩ := HT3.out.facts (s1 := mPut s2) (wide_F HW2.out (by omega) true).2
          clear fz
          obtain ⟨n3, hn3⟩ : ∃ n3, (mPut s2).rc.length = n3 := ⟨_, rfl⟩
          rw [hn3] at k5
          have hlt3 : decide (1000 ≤ (n3 : Int)) = false := by rw [decide_eq_false_iff_not, ← hn3, mPut_len]; omega
          clear hn3
          go_wp2_with fail
          refine wp_region_onto (by kernel_rfl) (by kernel_rfl) ?_
          repeat (go_big_quiet_step (fail))
          refine wpQuiet_nil ?_
          intro _ hw'
          obtain ⟨y1, hw''⟩ := hw'
          subst hw''
          go_wp2_with fail
          refine wp_region_onto (by kernel_rfl) (by kernel_rfl) ?_
          repeat (go_big_quiet_step (fail))
          refine wpQuiet_nil ?_
          intro _ hw'
          obtain ⟨y2, hw''⟩ := hw'
          subst hw''
          go_wp2_with fail
          go_meet
          exact ⟨rfl, Lib.hid (HT3.out.then_below (up_onto (onto_below w3 y1) y2))⟩
      case rest =>
        obtain ⟨rfl, HT3⟩ := hcut
        obtain ⟨V3, hV⟩ : ∃ V3, V3 = wc := ⟨_, rfl⟩
        subst hV
        clear v0 v1 v2 v3 v4 v5 v6 k0 k1 k2 k3 k4 k5 k6 k7 k9 hg HT2
        have hW3 := (wide_F HW2.out (by omega) fi).2
        have z4 := wP_sizes fi s2
        obtain ⟨s3, hs3⟩ : ∃ s3, wP fi s2 = s3 := ⟨_, rfl⟩
        rw [hs3] at HT3 hW3 z4
        have q4 : s3.rc.length ≤ 801 := by omega
        have HS3 := Lib.hid hs3
        have HW3 := Lib.hid hW3
        clear hs3 hW3 z4 q3
        obtain ⟨v0, v1, v2, v3, v4, v5, v6⟩ := rv_cells x0 x1 x2 x3 x4 pb h.out (HWW.out ▸ HT3.out)
        obtain ⟨hg, k0, k1, k2, k3, k4, ⟨B, d, k5⟩, k6, k7, k9, fz⟩ := HT3.out.facts HW3.out
        clear fz
        go_upto_if 115 with fail
        go_cut [4] (fun s4 wx => s4 = .slice none 0 0 ∧ Hid (RTurned g (wP li s3) S W wx))
        case first =>
          cases li
          · have q := X3.out
            go_wp2_with fail
            go_meet
            exact ⟨rfl, HT3⟩
          · have q := X3.out
            obtain ⟨S3, m3, t3, c3⟩ := HT3.out
            have M3 := Lib.hid m3
            have T3 := Lib.hid t3
            have C3 := Lib.hid c3
            clear m3 t3 c3
            go_wp2_with fail
            refine (rput_any g s3 S3 _ M3.out (by omega)).mono ?_
            rintro x w4 ⟨rfl, ht⟩
            have HT4 := Lib.hid (RTurned.glue T3.out C3.out ht)
            clear ht v0 v1 v2 v3 v4 v5 v6 k0 k1 k2 k3 k4 k5 k6 k7 k9 hg
            obtain ⟨hg, k0, k1, k2, k3, k4, ⟨B3, d3, k5⟩, k6, k7, k9, fz⟩ := HT4.out.facts (s1 := mPut s3) (wide_L HW3.out true).2
            clear fz
            go_wp2_with fail
            refine wp_region_onto (by kernel_rfl) (by kernel_rfl) ?_
            repeat (go_big_quiet_step (fail))
            refine wpQuiet_nil ?_
            intro _ hw'
            obtain ⟨y2, hw''⟩ := hw'
            subst hw''
            go_wp2_with fail
            go_meet
            exact ⟨rfl, Lib.hid (HT4.out.then_below (onto_below w4 y2))⟩
        case rest =>
          obtain ⟨rfl, HT4⟩ := hcut
          obtain ⟨V4, hV⟩ : ∃ V4, V4 = wc := ⟨_, rfl⟩
          subst hV
          clear v0 v1 v2 v3 v4 v5 v6 k0 k1 k2 k3 k4 k5 k6 k7 k9 hg HT3
          have hW4 := (wide_L HW3.out li).2
          have z4 := wP_sizes li s3
          have hg4 : wGather ⟨bg, ad, fi, li, re, pb⟩ s = wP li s3 := by
            show wP li (wP fi (wA ad pb (wB bg s))) = _
            rw [HS1.out, HS2.out, HS3.out]
          obtain ⟨s4, hs4⟩ : ∃ s4, wP li s3 = s4 := ⟨_, rfl⟩
          rw [hs4] at HT4 hW4 z4 hg4
          have q5 : s4.rc.length ≤ 802 := by omega
          have HG4 := Lib.hid hg4
          have HW4 := Lib.hid hW4
          clear hs4 hW4 z4 q4 hg4
          obtain ⟨v0, v1, v2, v3, v4, v5, v6⟩ := rv_cells x0 x1 x2 x3 x4 pb h.out (HWW.out ▸ HT4.out)
          clear v0 v1 v2 v3 v5
          have hct : s4.ct = s.ct := by
            have := (few_gather ⟨bg, ad, fi, li, re, pb⟩ s).ct
            rw [(wide_gather hw.out ok.out hN _).1, HG4.out] at this; exact this
          have ct0 : 0 ≤ s4.ct := by rw [hct]; exact ok.out.ct
          have ct1 : s4.ct ≤ 400 := by rw [hct]; have := ok.out.ctN; omega
          clear hct
          cases re
          · have q : (x4 == 0) = true := X4.out
            have e1 := Lib.hid (show wRec ⟨bg, ad, fi, li, false, pb⟩ s = [] from rfl)
            have e2 := Lib.hid (show wTake ⟨bg, ad, fi, li, false, pb⟩ s = s4 from HG4.out)
            go_wp2_with fail
            go_ret2
            rw [e1.out, e2.out]
            exact ⟨none, 0, rfl, Lib.hid (RHanded.none_ (HT4.out.from_alloc' HWW.out))⟩
          · have q : (x4 == 0) = false := X4.out
            have e1 := Lib.hid (show wRec ⟨bg, ad, fi, li, true, pb⟩ s = s4.rc by unfold wRec; rw [if_pos rfl, HG4.out])
            have e2 := Lib.hid (show wTake ⟨bg, ad, fi, li, true, pb⟩ s = mOut s4 by unfold wTake; rw [if_pos rfl, HG4.out])
            obtain ⟨S4, ⟨B, d, h1, h3, h4⟩, t4, c4⟩ := HT4.out.from_alloc' HWW.out
            have hg := h1.lt
            have k5 : V4.cell? ⟨g, 5, none⟩ = some (.slice B s4.rc.length d) := h1.cell 5
            have k7 : V4.cell? ⟨g, 7, none⟩ = some (.int .i64 s4.ct) := h1.cell 7
            have k8 : V4.cell? ⟨g, 8, none⟩ = some (.int .i64 s4.wd) := h1.cell 8
            have f5 := h1.free 5
            have f7 := h1.free 7
            have f8 := h1.free 8
            have H1 := Lib.hid h1
            have H3 := Lib.hid h3
            have H4 := Lib.hid h4
            have T4 := Lib.hid t4
            have C4 := Lib.hid c4
            clear h1 h3 h4 t4 c4
            by_cases hz : s4.ct = 0
            · have hd : (s4.ct == 0) = true := by simpa using hz
              have HZ := Lib.hid hz
              clear hz
              go_wp2_with fail
              go_ret2
              rw [e1.out, e2.out]
              refine ⟨B, d, rfl, Lib.hid (RHanded.glue T4.out C4.out (rout_end H1.out H3.out H4.out ((((Touch.refl V4 _).then_self 5 _).then_self 8 _).then_self 7 _) ?_))⟩
              have := (((H1.out.set_ 5 (.slice none 0 0)).set_ 8 (.int .i64 (s4.rc.length : Nat))).set_ 7 (.int .i64 (s4.ct + 1)))
              simpa [rkCells, mOut, HZ.out] using this
            · have hd : (s4.ct == 0) = false := by simpa using hz
              have HZ := Lib.hid hz
              clear hz
              go_wp2_with fail
              go_ret2
              rw [e1.out, e2.out]
              refine ⟨B, d, rfl, Lib.hid (RHanded.glue T4.out C4.out (rout_end H1.out H3.out H4.out (((Touch.refl V4 _).then_self 5 _).then_self 7 _) ?_))⟩
              have := ((H1.out.set_ 5 (.slice none 0 0)).set_ 7 (.int .i64 (s4.ct + 1)))
              simpa [rkCells, mOut, HZ.out] using this
end Go.Proofs.Ytghlacpjnehdfaa

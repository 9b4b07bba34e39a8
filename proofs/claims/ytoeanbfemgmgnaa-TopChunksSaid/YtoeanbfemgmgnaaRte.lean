/- Layer 12: the program's reader: New, Feed. -/
import Derived.Test.YtoeanbfemgmgnaaRtd
namespace Go.Proofs.Ytoeanbfemgmgnaa
open Go.ChangeShapes Go.WideShapes Go.ChangeAt Go.RowKit
set_option linter.unusedVariables false
set_option linter.unusedSimpArgs false

theorem run_new (d q e lf ls lr : Int) (un : Bool) : (RdS.new d q e lf ls lr un).run = (RdS.new d q e lf ls lr un).r0 := by
  unfold RdS.run
  rw [show bomTold (bl (RdS.new d q e lf ls lr un).x) = [] from rfl]
  rfl
set_option maxRecDepth 100000 in
set_option maxHeartbeats 1600000 in
theorem new_rd (d q e lf ls lr : Int) (un : Bool) (w : World) (ok : (RdS.new d q e lf ls lr un).Ok) : Calls Try.prog 14 #[.agg #[.int .u8 d, .int .u8 q, .int .i64 e], .agg #[.int .i64 lf, .int .i64 ls, .int .i64 lr, .bool un]] w fun y w' =>
    ∃ p S, y = .returned (.tuple #[.pointer (some p), .int .i64 0]) ∧ Hid (RBx w' p (RdS.new d q e lf ls lr un) S) ∧ Hid (∀ k, S k → w.heap.size ≤ k) ∧ Hid (Below w.heap.size w w') := by
  obtain ⟨V, hV⟩ : ∃ V, V = (w.alloc (.cells #[.int .u8 d, .int .u8 q, .int .i64 e] 23)).alloc (.cells #[.int .i64 lf, .int .i64 ls, .int .i64 lr, .bool un] 25) := ⟨_, rfl⟩
  obtain ⟨r, hr⟩ : ∃ r, w.heap.size = r := ⟨_, rfl⟩
  have H0 := Lib.hid (show StB V r 23 #[.int .u8 d, .int .u8 q, .int .i64 e] by rw [hV]; exact (StB.made w hr.symm _ _).alloc _)
  have H1 := Lib.hid (show StB V (r + 1) 25 #[.int .i64 lf, .int .i64 ls, .int .i64 lr, .bool un] by rw [hV]; exact StB.made _ (by simp; omega) _ _)
  have HB := Lib.hid (show Below w.heap.size w V by rw [hV]; exact up_alloc (up_alloc (Below.refl _ _) _) _)
  have k0 : V.cell? ⟨r, 0, none⟩ = some (.int .u8 d) := H0.out.cell 0
  have k1 : V.cell? ⟨r, 1, none⟩ = some (.int .u8 q) := H0.out.cell 1
  have k2 : V.cell? ⟨r, 2, none⟩ = some (.int .i64 e) := H0.out.cell 2
  have l0 : V.cell? ⟨r + 1, 0, none⟩ = some (.int .i64 lf) := H1.out.cell 0
  have l1 : V.cell? ⟨r + 1, 1, none⟩ = some (.int .i64 ls) := H1.out.cell 1
  have l2 : V.cell? ⟨r + 1, 2, none⟩ = some (.int .i64 lr) := H1.out.cell 2
  have l3 : V.cell? ⟨r + 1, 3, none⟩ = some (.bool un) := H1.out.cell 3
  have kl := H0.out.lt
  have ll := H1.out.lt
  have HNW := Lib.hid (newWalker_rd d q e lf ls lr un ok.d0 ok.d1 ok.q0 ok.q1 ok.right (Lib.hid ok.fits) V)
  go_enter Try.func14, Try.ntmps14
  go_upto_region 1 with fail
  rw [← hV]
  clear hV
  go_wp2_with fail
  refine HNW.out.mono ?_
  rintro x w1 ⟨p, sb, g, S, Z, rfl, HH⟩
  clear HNW k0 k1 k2 l0 l1 l2 l3 kl ll
  go_wp2_with fail
  refine bodyPost_ret (v := .tuple #[.pointer (some ⟨w1.heap.size, 0, none⟩), .int .i64 0]) (by simp [results, Try.results14, go_sem]) (by rfl) ?_
  obtain ⟨h1, h2, h3⟩ := HH.out
  have hb2 : Below w1.heap.size w1 (w1.alloc (.cells (rdArr (.pointer (some ⟨p, 0, none⟩)) ((0 : Nat) : Int) 0 0 false none 0 0 0 0) 79)) := up_alloc (Below.refl _ _) _
  have hbx : StB (w1.alloc (.cells (rdArr (.pointer (some ⟨p, 0, none⟩)) ((0 : Nat) : Int) 0 0 false none 0 0 0 0) 79)) w1.heap.size 79 (rdArr (.pointer (some ⟨p, 0, none⟩)) ((0 : Nat) : Int) 0 0 false none 0 0 0 0) := StB.new _ _ _
  have hw := h1.touch (Touch.of_below hb2 (fun _ => False)) (fun _ _ h => h)
  have hZ : ∀ j, Z j → j < w1.heap.size := fun j hj => h1.lies j hj
  refine ⟨⟨w1.heap.size, 0, none⟩, fun j => j = w1.heap.size ∨ Z j, rfl, Lib.hid ⟨w1.heap.size, rfl, .inl ⟨rfl, rfl, p, sb, g, 0, fun _ => rfl, .inl ⟨by rw [run_new]; rfl, ?_⟩⟩⟩, Lib.hid (fun k hk => ?_), Lib.hid ?_⟩
  · rw [run_new]
    refine ⟨none, 0, 0, [], fun _ => False, fun j => j = w1.heap.size, S, Z, ⟨hbx, SlOwn.nothing _ _ _, fun _ h => h, fun _ _ h => h, fun h => h, fun j => ?_⟩, hw, fun j hj hz => ?_, fun j => Iff.rfl⟩
    · constructor
      · intro h; exact .inl h
      · rintro (h | h | h)
        · exact h
        · cases h
        · exact h.elim
    · have hj' : j = w1.heap.size := hj
      have := hZ j hz; omega
  · have := HB.out.size
    rcases hk with hk | hk
    · have hk' : k = w1.heap.size := hk
      have := h3.size; omega
    · have := h2 k hk; omega
  · exact up_alloc (HB.out.trans (h3.mono HB.out.size)) _

theorem told_byte {s b : ByteArray} {x : Int} (h : x ∈ bomTold (bl s ++ bl b)) : 0 ≤ x ∧ x ≤ 255 := by
  have h1 : x ∈ bl s ++ bl b := by
    unfold bomTold at h
    split at h
    · cases h
    · unfold bomStrip at h
      split at h
      · exact List.mem_of_mem_drop h
      · exact h
  have h2 : ∀ t : ByteArray, x ∈ bl t → 0 ≤ x ∧ x ≤ 255 := fun t ht => by
    unfold bl at ht
    obtain ⟨y, _, rfl⟩ := List.mem_map.1 ht
    have := y.toNat_lt
    omega
  rcases List.mem_append.1 h1 with h1 | h1
  · exact h2 s h1
  · exact h2 b h1
theorem rdArr_no8 (pv : Value) (fed k a : Int) (cl : Bool) (A : Option Addr) (n c : Nat) (gone h : Int) (hp : ∀ x : Int, pv ≠ .int .u8 x) (x : Int) (i : Nat) : (rdArr pv fed k a cl A n c gone h)[i]? ≠ some (.int .u8 x) := by
  unfold rdArr
  match i with
  | 0 => simpa using hp x
  | 1 => simp
  | 2 => simp
  | 3 => simp
  | 4 => simp
  | 5 => simp
  | 6 => simp
  | 7 => simp
  | i + 8 => simp
theorem kfx_run {X : RdS} (h : X.cl = false) : kfx X = X.run.K := by unfold kfx RdS.now; rw [h, if_neg (by simp)]; rfl
set_option maxRecDepth 100000 in
set_option maxHeartbeats 6400000 in
theorem feed_of_rd (X : RdS) (p : Addr) (S : Nat → Prop) (A : Option Addr) (n c : Nat) (b : ByteArray) (w : World) (ok : X.Ok) (hcl : X.cl = false) (hsz : X.x.size + b.size ≤ 2500) (hnc : n ≤ c) (H : Hid (RBx w p X S)) (hin : Hid (SlIn w A n (u8s (bl b)))) :
    Calls Try.prog 15 #[.pointer (some p), .slice A n c] w fun y w' => y = .returned (fltV (kfx (X.feed b))) ∧ ∃ S', Hid (RBx w' p (X.feed b) S') ∧ Hid (Touch w w' S) ∧ Hid (Sub w S' S) := by
  obtain ⟨P, rfl, ⟨_, hh, wk, sb, g, fed, hfed, hat⟩ | ⟨h0, _⟩⟩ := H.out
  case inr => rw [hcl] at h0; cases h0
  have hn : n = b.size := by rw [← hin.out.len8, bl_length]
  have hkf : kfx (X.feed b) = (X.feed b).run.K := kfx_run hcl
  rw [hkf]
  obtain ⟨k2, a2, hK⟩ : ∃ k2 a2, (X.feed b).run.K = (k2, a2) := ⟨_, _, rfl⟩
  obtain ⟨r, hr⟩ : ∃ r, w.heap.size = r := ⟨_, rfl⟩
  obtain ⟨W, hW⟩ : ∃ W, W = w.alloc (.cells #[.int .i64 0, .int .i64 0] 34) := ⟨_, rfl⟩
  have HR := Lib.hid (show StB W r 34 #[.int .i64 0, .int .i64 0] by rw [hW]; exact StB.made w hr.symm _ _)
  have HB := Lib.hid (show Below w.heap.size w W by rw [hW]; exact up_alloc (Below.refl _ _) _)
  have HKK := Lib.hid hK
  have hSr : ∀ j, S j → j < r := fun j hj => by rw [← hr]; exact hat.lies j hj
  have HSR := Lib.hid hSr
  rw [hK]
  by_cases h0 : X.run.k = 0
  · obtain rfl : fed = X.x.size := hfed h0
    rcases hat with ⟨_, ht⟩ | ⟨h1, _⟩
    case inr => exact absurd h0 h1
    obtain ⟨fd, hfd⟩ : ∃ fd, X.x.size = fd := ⟨_, rfl⟩
    obtain ⟨fd2, hfd2⟩ : ∃ fd2, fd + n = fd2 := ⟨_, rfl⟩
    rw [hfd] at ht
    have ht0 := ht.touch (Touch.of_below HB.out (fun _ => False)) (fun _ _ h => h)
    obtain ⟨B, m, cb, V, SR, S1, SM, Z, q1, q2, q3, q4⟩ := ht0
    have p0 : W.cell? ⟨P, 0, none⟩ = some (.pointer (some ⟨wk, 0, none⟩)) := q1.box.cell 0
    have p1 : W.cell? ⟨P, 1, none⟩ = some (.int .i64 fd) := q1.box.cell 1
    have f1 := q1.box.free 1
    have pl := q1.box.lt
    have T1 := (Touch.refl W (fun j => j = P)).then_set (p := ⟨P, 1, none⟩) (.inl rfl) (.int .i64 fd2)
    have hwP : ¬ wk = P := fun e => by subst e; exact q3 wk q1.boxOf ((q2.all wk).2 (.inl rfl))
    have hrP : ¬ r = P := by have := hSr P ((q4 P).2 (.inl q1.boxOf)); omega
    have hS1 := q1.boxOf
    have hSP : S P := (q4 P).2 (.inl q1.boxOf)
    have hSb : S sb := (q4 sb).2 (.inr ((q2.all sb).2 (.inr (.inl rfl))))
    obtain ⟨W1, hW1⟩ : ∃ W1, W1 = W.setCell ⟨P, 1, none⟩ (.int .i64 fd2) := ⟨_, rfl⟩
    rw [← hW1] at T1
    have ht1 := (ht.touch (Touch.of_below HB.out (fun _ => False)) (fun _ _ h => h)).more (fed' := fd2) T1 (fun pv A n c hs => by rw [hW1]; exact hs.set_ 1 _)
    have hin1 : SlIn W1 A n (u8s (bl b)) := bomIn_keep (hin.out.below HB.out) q1.box (fun x i => rdArr_no8 _ _ _ _ _ _ _ _ _ _ (by intro x h; cases h) x i) (by rw [hW1]; exact only_set (only_of (Below.refl _ _) _) 1 _)
    have wb := q2.box.touch T1 (fun e => hwP e)
    have w3 : W1.cell? ⟨wk, 3, none⟩ = some (.pointer (some ⟨sb, 0, none⟩)) := wb.cell 3
    have wl := wb.lt
    have p0' : W1.cell? ⟨P, 0, none⟩ = some (.pointer (some ⟨wk, 0, none⟩)) := by rw [hW1]; exact (q1.box.set_ 1 (.int .i64 fd2)).cell 0
    have pl' : P < W1.heap.size := Nat.lt_of_lt_of_le pl T1.size
    have hstr : StB W1 sb 110 (bomCells (bl X.x)) := q2.strip.touch T1 (fun e => by have e' : sb = P := e; exact q3 P hS1 ((q2.all P).2 (.inr (.inl e'.symm))))
    have HF := Lib.hid (bomFeed_any sb (bl X.x) (bl b) A n c W1 hstr hin1 (by omega) hnc)
    have HT1 := Lib.hid ht1
    have HTT := Lib.hid T1
    have HR1 := Lib.hid (HR.out.touch T1 hrP)
    have HSTR := Lib.hid hstr
    have hfdb : fd + n ≤ 2500 := by omega
    have HFD2 := Lib.hid hfd2
    have HFD := Lib.hid hfd
    have HN := Lib.hid hn
    have hsum : (fd : Int) + (n : Int) = (fd2 : Int) := by omega
    have HOK := Lib.hid (run_ok ok)
    have HH0 := Lib.hid h0
    have HHH := Lib.hid hh
    have HCL := Lib.hid hcl
    have HSB := Lib.hid hSb
    have HSPP := Lib.hid hSP
    clear q1 q2 q3 q4 ht T1 ht1 hin1 wb hstr h0 hK hh hSb hSP hSr hkf hn hfd hfd2 hcl hfed
    go_enter Try.func15, Try.ntmps15
    go_upto_region 1 with fail
    rw [← hW]
    clear hW
    go_upto_region 3 with fail
    rw [← hW1]
    clear p0 p1 f1 pl hW1
    go_wp2_with fail
    refine HF.out.mono ?_
    rintro x w2 ⟨A2, c2, out, rfl, ho, hto, hst2, hg2⟩
    have ht2 := HT1.out.strip (Touch.of_grown hg2 (fun j hj => by injection hj with hj; exact hj.symm)) hst2
    have hsr : ¬ sb = r := by have := HSR.out sb HSB.out; omega
    have HR2 := Lib.hid (HR1.out.grown hg2 (fun e => hsr (by injection e with e; exact e.symm)))
    have hol : out.length ≤ fd2 := by
      have h1 := bomTold_length (bl X.x ++ bl b)
      rw [hto, List.length_append, List.length_append, bl_length, bl_length] at h1
      have := HFD2.out; have := HFD.out; have := HN.out; omega
    have ho8 : ∀ x ∈ out, 0 ≤ x ∧ x ≤ 255 := fun x hx => told_byte (by rw [hto]; exact List.mem_append_right _ hx)
    have hz1 : r < W1.heap.size := HR1.out.lt
    have hfd2b : fd2 ≤ 2500 := by have := HFD2.out; omega
    have HTH := Lib.hid (through_rd w2 S X.run HH0.out fd2 out.length hol (by omega) X.x.size (by have := HFD.out; omega) HOK A2 c2 out (Lib.hid ho8) (Lib.hid ho.toIn) (Lib.hid (fun j hj => ⟨fun hs => by have := HSR.out j hs; have := (ho.blk j hj).1; omega, (ho.blk j hj).2⟩)) (Lib.hid ht2))
    have HRUN := Lib.hid (show rnL X.d X.q X.e X.run (fd2 - out.length) out = (X.feed b).run by rw [run_feed X b out hto, ← HFD2.out, HFD.out, HN.out])
    have HG2 := Lib.hid hg2
    have HZ12 := Lib.hid hg2.size
    clear ht2 hol ho8 ho hto hst2 hg2 w3 wl p0' pl' HF
    go_wp2_with fail
    refine HTH.out.mono ?_
    rintro x w3 ⟨rfl, S', hr3, ht3, hs3⟩
    rw [HRUN.out] at hr3
    have hz2 : r < w2.heap.size := HR2.out.lt
    have hrS : ¬ S r := fun hs => by have := HSR.out r hs; omega
    have hrS' : ¬ S' r := fun hs => by
      rcases hs3.out r hs with h | h
      · exact hrS h
      · omega
    have HR3 := Lib.hid (HR2.out.touch ht3.out hrS)
    obtain ⟨pv, A4, n4, c4, hn4, hSP4, hbx⟩ := hr3.out.box
    rw [HKK.out] at hbx
    have b2 : w3.cell? ⟨P, 2, none⟩ = some (.int .i64 k2) := hbx.cell 2
    have b3 : w3.cell? ⟨P, 3, none⟩ = some (.int .i64 a2) := hbx.cell 3
    have bl3 := hbx.lt
    have r0 : w3.cell? ⟨r, 0, none⟩ = some (.int .i64 0) := HR3.out.cell 0
    have r1 : w3.cell? ⟨r, 1, none⟩ = some (.int .i64 0) := HR3.out.cell 1
    have e0 := HR3.out.free 0
    have e1 := HR3.out.free 1
    have rl := HR3.out.lt
    have hRS' := Lib.hid hrS'
    clear HTH hbx hrS hn4
    go_wp2_with fail
    have S2 := (HR3.out.set_ 0 (.int .i64 k2)).set_ 1 (.int .i64 a2)
    have y0 := S2.cell 0
    have y1 := S2.cell 1
    have T3 := ((Touch.refl w3 (fun j => j = r)).then_set (p := ⟨r, 0, none⟩) (.inl rfl) (.int .i64 k2)).then_set (p := ⟨r, 1, none⟩) (.inl rfl) (.int .i64 a2)
    have TA : Touch w w3 S := ((((Touch.of_below HB.out S).trans (Sub.refl _ _) (HTT.out.mono (fun j hj => by have hj' : j = P := hj; rw [hj']; exact HSPP.out))).trans (Sub.refl _ _) (Touch.of_grown HG2.out (fun j hj => by injection hj with hj; rw [← hj]; exact HSB.out))).trans (Sub.refl _ _) ht3.out)
    have hzz : w.heap.size ≤ r := by omega
    refine bodyPost_ret (v := .agg #[.int .i64 k2, .int .i64 a2]) (by simp [results, Try.results15, go_sem, y0, y1]) rfl ⟨rfl, S', Lib.hid ⟨P, rfl, .inl ⟨HCL.out, HHH.out, wk, sb, g, fd2, fun _ => ?_, ?_⟩⟩, Lib.hid ?_, Lib.hid ?_⟩
    · show fd2 = (X.x ++ b).size
      rw [ByteArray.size_append, HFD.out, ← HFD2.out, HN.out]
    · have h := hr3.out.touch T3 (fun j hj e => by have e' : j = r := e; exact hRS'.out (e' ▸ hj))
      show RdAt _ P wk sb g X.d X.q X.e (bomCells (bl (X.x ++ b))) fd2 (X.feed b).run S'
      rw [bl_append]
      exact h
    · exact (TA.then_set (p := ⟨r, 0, none⟩) (.inr hzz) _).then_set (p := ⟨r, 1, none⟩) (.inr hzz) _
    · intro j hj
      rcases hs3.out j hj with h | h
      · exact .inl h
      · have := HZ12.out; omega
  · have hrun : (X.feed b).run = X.run := by
      obtain ⟨out, ho⟩ := told_app (bl X.x) (bl b)
      rw [run_feed X b out ho, rnL_stop _ h0]
    rw [hrun] at hK HKK
    rcases hat with ⟨h1, _⟩ | ⟨_, he⟩
    · exact absurd h1 h0
    have hatw := (show RdAt w P wk sb g X.d X.q X.e (bomCells (bl X.x)) fed X.run S from .inr ⟨h0, he⟩).touch (Touch.of_below HB.out (fun _ => False)) (fun _ _ h => h)
    have hat2 : RdAt W P wk sb g X.d X.q X.e (bomCells (bl (X.x ++ b))) fed X.run S := by
      rcases hatw with ⟨h1, _⟩ | ⟨_, h1⟩
      · exact absurd h1 h0
      · exact .inr ⟨h0, h1⟩
    obtain ⟨B, m, cb, V, SR, q1⟩ := he
    have q2 := q1.touch (Touch.of_below HB.out (fun _ => False)) (fun _ _ h => h)
    have hKK : k2 = X.run.k ∧ a2 = (X.run.at_ : Int) := by
      have : X.run.K = (X.run.k, (X.run.at_ : Int)) := by unfold Rn.K; rw [if_neg h0]
      rw [this] at hK
      injection hK with h1 h2
      exact ⟨h1.symm, h2.symm⟩
    have p0 : W.cell? ⟨P, 0, none⟩ = some (.pointer none) := q2.box.cell 0
    have p2 : W.cell? ⟨P, 2, none⟩ = some (.int .i64 k2) := by rw [hKK.1]; exact q2.box.cell 2
    have p3 : W.cell? ⟨P, 3, none⟩ = some (.int .i64 a2) := by rw [hKK.2]; exact q2.box.cell 3
    have pl := q2.box.lt
    have r0 : W.cell? ⟨r, 0, none⟩ = some (.int .i64 0) := HR.out.cell 0
    have r1 : W.cell? ⟨r, 1, none⟩ = some (.int .i64 0) := HR.out.cell 1
    have e0 := HR.out.free 0
    have e1 := HR.out.free 1
    have rl := HR.out.lt
    have HAT := Lib.hid hat2
    have HRUN := Lib.hid hrun
    have HHH := Lib.hid hh
    have HCL := Lib.hid hcl
    have HH0 := Lib.hid h0
    clear hK hKK q1 q2 hatw hat2 hrun hh hcl h0 hSr hkf hn hfed
    go_enter Try.func15, Try.ntmps15
    go_upto_region 1 with fail
    rw [← hW]
    clear hW
    go_wp2_with fail
    have S2 := (HR.out.set_ 0 (.int .i64 k2)).set_ 1 (.int .i64 a2)
    have y0 := S2.cell 0
    have y1 := S2.cell 1
    have T3 := ((Touch.refl W (fun j => j = r)).then_set (p := ⟨r, 0, none⟩) (.inl rfl) (.int .i64 k2)).then_set (p := ⟨r, 1, none⟩) (.inl rfl) (.int .i64 a2)
    have hzz : w.heap.size ≤ r := by omega
    refine bodyPost_ret (v := .agg #[.int .i64 k2, .int .i64 a2]) (by simp [results, Try.results15, go_sem, y0, y1]) rfl ⟨rfl, S, Lib.hid ⟨P, rfl, .inl ⟨HCL.out, HHH.out, wk, sb, g, fed, fun hz => ?_, ?_⟩⟩, Lib.hid ?_, Lib.hid (Sub.refl _ _)⟩
    · rw [HRUN.out] at hz; exact absurd hz HH0.out
    · rw [HRUN.out]
      exact HAT.out.touch T3 (fun j hj e => by have e' : j = r := e; have := HSR.out j hj; omega)
    · exact ((Touch.of_below HB.out S).then_set (p := ⟨r, 0, none⟩) (.inr hzz) _).then_set (p := ⟨r, 1, none⟩) (.inr hzz) _
end Go.Proofs.Ytoeanbfemgmgnaa

/- Layer 12: the program's reader walks through what its stripper hands on, and comes to its end. -/
import Derived.Test.YtoeanbfemgmgnaaRtb
import Derived.Test.YtoeanbfemgmgnaaTra
namespace Go.Proofs.Ytoeanbfemgmgnaa
open Go.ChangeShapes Go.WideShapes Go.ChangeAt Go.RowKit
set_option linter.unusedVariables false
set_option linter.unusedSimpArgs false

theorem rn_round {d q e : Int} {l : List Int} {k : Nat} {x : Int} (R0 : Rn) (i : Nat) (h : l[k]? = some x) : rnL d q e R0 i (l.take (k + 1)) = rnB d q e (rnL d q e R0 i (l.take k)) (i + k) x := by
  have hk := (List.getElem?_eq_some_iff.1 h).1
  rw [List.take_add_one, h]
  show rnL d q e R0 i (l.take k ++ [x]) = _
  rw [rnL_snoc, List.length_take, Nat.min_eq_left (Nat.le_of_lt hk)]
theorem rn_break {d q e : Int} {l : List Int} {k : Nat} (R0 : Rn) (i : Nat) (h : (rnL d q e R0 i (l.take k)).k ≠ 0) : rnL d q e R0 i l = rnL d q e R0 i (l.take k) := by
  have := rnL_app (d := d) (q := q) (e := e) (l.take k) (l.drop k) R0 i
  rw [List.take_append_drop] at this
  rw [this, rnL_stop _ h]
theorem rnB_bad {d q e : Int} {R : Rn} {x : Int} {v : Pas} (hv : pasB d q e R.u R.t R.m x = v) (h0 : R.k = 0) (hk : v.k ≠ 0) (i : Nat) : rnB d q e R i x = ⟨R.u, R.t, R.m, R.rs, v.k, i⟩ := by
  unfold rnB; rw [if_neg (show ¬ R.k ≠ 0 by simpa using h0), hv, if_pos hk]
theorem rnB_good {d q e : Int} {R : Rn} {x : Int} {v : Pas} (hv : pasB d q e R.u R.t R.m x = v) (h0 : R.k = 0) (hk : v.k = 0) (i : Nat) : rnB d q e R i x = ⟨v.u, v.t, v.m, if v.told = true then R.rs ++ [v.l] else R.rs, 0, 0⟩ := by
  unfold rnB; rw [if_neg (show ¬ R.k ≠ 0 by simpa using h0), hv, if_neg (show ¬ v.k ≠ 0 by simpa using hk)]

/-- A reader that takes more. -/
def ThrAt (w : World) (P wk sb g : Nat) (d q e : Int) (xs : Array Value) (fed : Nat) (R : Rn) (S : Nat → Prop) : Prop :=
  ∃ A n c V SR S1 SM Z, RdO w P (.pointer (some ⟨wk, 0, none⟩)) fed 0 0 false R.rs A n c V SR S1 ∧ WkR w wk d q e xs sb R.u R.t g R.m SM Z ∧ (∀ j, S1 j → ¬ Z j) ∧ ∀ j, S j ↔ (S1 j ∨ Z j)
/-- A reader that takes nothing any more. -/
def EndAt (w : World) (P : Nat) (fed k a : Int) (rs : List (List ByteArray)) (S : Nat → Prop) : Prop := ∃ A n c V SR, RdO w P (.pointer none) fed k a false rs A n c V SR S
def RdAt (w : World) (P wk sb g : Nat) (d q e : Int) (xs : Array Value) (fed : Nat) (R : Rn) (S : Nat → Prop) : Prop :=
  (R.k = 0 ∧ ThrAt w P wk sb g d q e xs fed R S) ∨ (R.k ≠ 0 ∧ EndAt w P fed R.k R.at_ R.rs S)
section
variable {w w' : World} {P wk sb g : Nat} {d q e : Int} {xs : Array Value} {fed : Nat} {R : Rn} {S T : Nat → Prop}
theorem ThrAt.lies (h : ThrAt w P wk sb g d q e xs fed R S) : Lies w S := fun j hj => by
  obtain ⟨A, n, c, V, SR, S1, SM, Z, h1, h2, h3, h4⟩ := h
  rcases (h4 j).1 hj with hj | hj
  · exact h1.lies j hj
  · exact h2.lies j hj
theorem ThrAt.touch (h : ThrAt w P wk sb g d q e xs fed R S) (ht : Touch w w' T) (hn : ∀ j, S j → ¬ T j) : ThrAt w' P wk sb g d q e xs fed R S := by
  obtain ⟨A, n, c, V, SR, S1, SM, Z, h1, h2, h3, h4⟩ := h
  exact ⟨A, n, c, V, SR, S1, SM, Z, h1.touch ht (fun j hj => hn j ((h4 j).2 (.inl hj))), h2.touch ht (fun j hj => hn j ((h4 j).2 (.inr hj))), h3, h4⟩
/-- One more row waits. -/
theorem RdO.push {w1 Wa W2 : World} {pv : Value} {fd k a : Int} {cl : Bool} {rs : List (List ByteArray)} {A A' : Option Addr} {n c c' : Nat} {V : List Value} {SR S1 : Nat → Prop} {x : List ByteArray} {A3 : Option Addr} {c3 : Nat}
    (h : RdO w1 P pv fd k a cl rs A n c V SR S1) (ho : SlOwn w1 0 9 A3 x.length c3 (strs x)) (hn : ∀ j, blkOf A3 = some j → ¬ S1 j) (hba : Below w1.heap.size w1 Wa)
    (hown : SlOwn W2 0 64 A' (n + 1) c' (V ++ [.slice A3 x.length c3])) (hg : Wa.grownBy W2 (blkOf A)) (hat : A' = A ∨ A' = some ⟨Wa.heap.size, 0, none⟩) :
    ∃ S3, RdO (W2.setCell ⟨P, 5, none⟩ (.slice A' (n + 1) c')) P pv fd k a cl (rs ++ [x]) A' (n + 1) c' (V ++ [.slice A3 x.length c3]) (fun j => SR j ∨ blkOf A3 = some j) S3 ∧ Touch w1 (W2.setCell ⟨P, 5, none⟩ (.slice A' (n + 1) c')) S1 ∧ ∀ j, S3 j → S1 j ∨ blkOf A3 = some j ∨ w1.heap.size ≤ j := by
  have hAS : ∀ j, blkOf A = some j → S1 j := fun j hj => (h.all j).2 (.inr (.inl hj))
  have hPS : S1 P := h.boxOf
  have t1 : Touch w1 W2 (fun j => blkOf A = some j) := (Touch.of_below hba _).trans (Sub.refl _ _) (Touch.of_grown hg (fun j hj => hj))
  have hbox : StB W2 P 79 (rdArr pv fd k a cl A n c 0 0) := h.box.touch t1 (fun e => h.nbox P e rfl)
  have hrow : SlOwn W2 0 9 A3 x.length c3 (strs x) := ho.touch t1 (fun j hj hA => hn j hj (hAS j hA))
  have hrows : RowsB W2 V rs SR := h.rows.touch t1 (fun j hj hA => h.apart j hA hj)
  have t2 : Touch W2 (W2.setCell ⟨P, 5, none⟩ (.slice A' (n + 1) c')) (fun j => j = P) := (Touch.refl W2 (fun j => j = P)).then_set (p := ⟨P, 5, none⟩) (.inl rfl) _
  have hnP : ∀ j, blkOf A3 = some j → j ≠ P := fun j hj e => hn j hj (e ▸ hPS)
  have hne : ∀ j, blkOf A' = some j → S1 j ∨ Wa.heap.size ≤ j := fun j hj => by
    rcases hat with h1 | h1
    · rw [h1] at hj; exact .inl (hAS j hj)
    · rw [h1] at hj; injection hj with hj; exact .inr (by rw [← hj]; exact Nat.le_refl _)
  have hz := hba.size
  have hA'R : ∀ j, blkOf A' = some j → ¬ SR j := fun j hj hs => by
    rcases hat with h1 | h1
    · rw [h1] at hj; exact h.apart j hj hs
    · rw [h1] at hj; injection hj with hj
      have := h.rows.lies j hs
      have hj' : Wa.heap.size = j := hj
      omega
  have hA'3 : ∀ j, blkOf A' = some j → ¬ blkOf A3 = some j := fun j hj hs => by
    rcases hat with h1 | h1
    · rw [h1] at hj; exact hn j hs (hAS j hj)
    · rw [h1] at hj; injection hj with hj
      have := (ho.blk j hs).2
      have hj' : Wa.heap.size = j := hj
      omega
  have hA'P : ∀ j, blkOf A' = some j → ¬ j = P := fun j hj => hown.unlike_st hbox (by decide) j hj
  refine ⟨fun j => j = P ∨ blkOf A' = some j ∨ (SR j ∨ blkOf A3 = some j), ⟨hbox.set_ 5 _, hown.touch t2 hA'P, RowsB.snoc (hrow.touch t2 hnP) (hrows.touch t2 (fun j hj e => by have e' : j = P := e; exact h.far (e' ▸ hj))) (fun j hj hs => hn j hj ((h.all j).2 (.inr (.inr hs)))), fun j hj hs => ?_, fun hs => ?_, fun j => Iff.rfl⟩, ?_, fun j hj => ?_⟩
  · rcases hs with hs | hs
    · exact hA'R j hj hs
    · exact hA'3 j hj hs
  · rcases hs with hs | hs
    · exact h.far hs
    · exact hnP P hs rfl
  · exact (t1.mono hAS).trans (Sub.refl _ _) (t2.mono (fun j hj => by have hj' : j = P := hj; rw [hj']; exact hPS))
  · rcases hj with hj | hj | hj | hj
    · rw [hj]; exact .inl hPS
    · rcases hne j hj with h1 | h1
      · exact .inl h1
      · exact .inr (.inr (by omega))
    · exact .inl ((h.all j).2 (.inr (.inr hj)))
    · exact .inr (.inl hj)
end
/-- What a step leaves of a reader (S: its blocks ahead of it; it lies at P, its walker at wk). -/
theorem mid_step {w w1 : World} {P wk sb g : Nat} {d q e : Int} {xs : Array Value} {fed : Int} {rs : List (List ByteArray)} {A : Option Addr} {n c : Nat} {V : List Value} {SR S1 Z Z' : Nat → Prop} {pv : Value} {A3 : Option Addr}
    (h1 : RdO w P pv fed 0 0 false rs A n c V SR S1) (h3 : ∀ j, S1 j → ¬ Z j) (ht : Touch w w1 Z) (hs : Sub w Z' Z) (hb : ∀ j, blkOf A3 = some j → ¬ Z' j ∧ (Z j ∨ w.heap.size ≤ j)) :
    RdO w1 P pv fed 0 0 false rs A n c V SR S1 ∧ (∀ j, S1 j → ¬ Z' j) ∧ ∀ j, blkOf A3 = some j → ¬ S1 j := by
  refine ⟨h1.touch ht h3, fun j hj hz => ?_, fun j hj hs1 => ?_⟩
  · rcases hs j hz with h | h
    · exact h3 j hj h
    · have := h1.lies j hj; omega
  · rcases (hb j hj).2 with h | h
    · exact h3 j hs1 h
    · have := h1.lies j hs1; omega

section
variable {P wk sb g : Nat} {d q e : Int} {xs : Array Value}
set_option maxRecDepth 100000 in
set_option maxHeartbeats 6400000 in
theorem through_rd (w : World) (S0 : Nat → Prop) (R0 : Rn) (hk0 : R0.k = 0) (fed n : Nat) (hle : n ≤ fed) (hfed : fed ≤ 50000) (N : Nat) (hN : N + n ≤ 50000) (ok : Hid (R0.Ok N)) (B : Option Addr) (c : Nat) (l : List Int) (hb8 : Hid (∀ x ∈ l, 0 ≤ x ∧ x ≤ 255)) (hin : Hid (SlIn w B n (u8s l))) (hBS : Hid (∀ j, blkOf B = some j → ¬ S0 j ∧ j < w.heap.size)) (h : Hid (ThrAt w P wk sb g d q e xs fed R0 S0)) :
    Calls Try.prog 32 #[.pointer (some ⟨P, 0, none⟩), .slice B n c] w fun x w' => x = .returned (.tuple #[]) ∧ ∃ S', Hid (RdAt w' P wk sb g d q e xs fed (rnL d q e R0 (fed - n) l) S') ∧ Hid (Touch w w' S0) ∧ Hid (Sub w S' S0) := by
  obtain ⟨i0, hi, hz0, hz1, hz2⟩ := info_parts infoRowR
  have Hi := Lib.hid hi
  have Hz0 := Lib.hid hz0
  have Hz1 := Lib.hid hz1
  have Hz2 := Lib.hid hz2
  clear hi hz0 hz1 hz2
  have hlen := hin.out.len8
  obtain ⟨at0, hat0⟩ : ∃ at0, fed - n = at0 := ⟨_, rfl⟩
  have hat1 : at0 + n ≤ 50000 := by omega
  have hati : (fed : Int) - (n : Int) = (at0 : Int) := by omega
  have HL := Lib.hid hlen
  have hP0 : P < w.heap.size ∧ w.cell? ⟨P, 1, none⟩ = some (.int .i64 fed) := by
    obtain ⟨A, n, c, V, SR, S1, SM, Z, h1, h2, h3, h4⟩ := h.out
    exact ⟨h1.box.lt, h1.box.cell 1⟩
  obtain ⟨pl0, p1⟩ := hP0
  rw [hat0]
  clear hlen
  go_enter Try.func32, Try.ntmps32
  go_step3
  go_wp2_with fail
  go_step3
  go_wp2_with fail
  clear p1 pl0 hati hat0 hle hfed
  go_loopw [19] (fun i wr => ∃ (k : Nat) (S : Nat → Prop), k ≤ n ∧ i = .int .i64 k ∧ Hid ((rnL d q e R0 at0 (l.take k)).k = 0) ∧ Hid (ThrAt wr P wk sb g d q e xs fed (rnL d q e R0 at0 (l.take k)) S) ∧ Hid (Touch w wr S0) ∧ Hid (Sub w S S0)) (fun i _ => n - (intOf i).toNat)
  case atStart => exact ⟨0, S0, Nat.zero_le _, rfl, Lib.hid hk0, h, Lib.hid (Touch.refl _ _), Lib.hid (Sub.refl _ _)⟩
  case round =>
    obtain ⟨k, S, hk, rfl, HK, HT, HW, HS⟩ := hrel
    obtain ⟨W, hW⟩ : ∃ W, W = wr := ⟨_, rfl⟩
    subst hW
    by_cases hlt : k < n
    · obtain ⟨x, hx⟩ : ∃ x, l[k]? = some x := ⟨_, List.getElem?_eq_getElem (by rw [HL.out]; exact hlt)⟩
      obtain ⟨x0, x1⟩ := hb8.out x (List.mem_of_getElem? hx)
      obtain ⟨R, hR⟩ : ∃ R, rnL d q e R0 at0 (l.take k) = R := ⟨_, rfl⟩
      have hrd := rn_round (d := d) (q := q) (e := e) R0 at0 hx
      have hbk := fun h => rn_break (d := d) (q := q) (e := e) (l := l) (k := k + 1) R0 at0 h
      rw [hR] at HT HK hrd
      have hok : R.Ok (N + k) := by
        have := rnL_ok (d := d) (q := q) (e := e) (l.take k) ok.out at0
        rw [hR, List.length_take, Nat.min_eq_left (by rw [HL.out]; exact hk)] at this
        exact this
      have HIN := Lib.hid (hin.out.touch HW.out (fun j hj => (hBS.out j hj).1))
      obtain ⟨ad, rfl, hca⟩ := HIN.out.at_ (u8s_get hx)
      obtain ⟨A, m, cc, V, SR, S1, SM, Z, h1, h2, h3, h4⟩ := HT.out
      have hm2 : m ≤ 60000 := by have := h1.rowsLen; have := hok.few; omega
      obtain ⟨⟨u', t', m', row, told, kk⟩, hv⟩ : ∃ v, pasB d q e R.u R.t R.m x = v := ⟨_, rfl⟩
      obtain ⟨rl, hrl⟩ : ∃ rl, row.length = rl := ⟨_, rfl⟩
      have HST := Lib.hid (rstep_any W (Lib.hid h2) x x0 x1 hok.t0 hok.t6 (N + k) (by omega) (Lib.hid hok.m) row rl told kk (Lib.hid hv) (Lib.hid hrl))
      have p0 : W.cell? ⟨P, 0, none⟩ = some (.pointer (some ⟨wk, 0, none⟩)) := h1.box.cell 0
      have pl := h1.box.lt
      have H1 := Lib.hid h1
      have H3 := Lib.hid h3
      have H4 := Lib.hid h4
      have HV := Lib.hid hv
      have HRD := Lib.hid hrd
      have HBK := Lib.hid hbk
      have HRL := Lib.hid hrl
      have HZL := Lib.hid h2.lies
      clear h1 h2 h3 h4 hv hrd hbk hrl hx HT hR HIN
      go_wp2_with fail
      refine HST.out.mono ?_
      rintro y w1 ⟨A3, c3, rfl, HH⟩
      clear p0 pl hca HST
      by_cases hk0 : kk = 0
      · subst hk0
        obtain ⟨S', Z', z1, z2, z3, z4⟩ := HH.out.2 rfl
        obtain ⟨m1, m2, m3⟩ := mid_step (d := d) (q := q) (e := e) (xs := xs) (wk := wk) (sb := sb) (g := g) H1.out H3.out HH.out.1 z2 z4
        have hgd := rnB_good HV.out HK.out rfl (at0 + k)
        cases told
        · have HT2 := Lib.hid (show ThrAt w1 P wk sb g d q e xs fed (rnL d q e R0 at0 (l.take (k + 1))) (fun j => S1 j ∨ Z' j) by
            rw [HRD.out, hgd]
            exact ⟨A, m, cc, V, SR, S1, S', Z', m1, z1, m2, fun j => Iff.rfl⟩)
          have HK2 := Lib.hid (show (rnL d q e R0 at0 (l.take (k + 1))).k = 0 by rw [HRD.out, hgd])
          have HTW := Lib.hid (show Touch w w1 S0 from HW.out.trans HS.out (HH.out.1.mono (fun j hj => (H4.out j).2 (.inr hj))))
          have HSW := Lib.hid (show Sub w (fun j => S1 j ∨ Z' j) S0 from fun j hj => by
            rcases hj with hj | hj
            · exact HS.out j ((H4.out j).2 (.inl hj))
            · rcases z2 j hj with h | h
              · exact HS.out j ((H4.out j).2 (.inr h))
              · exact .inr (Nat.le_trans HW.out.size h))
          clear z1 z2 z3 z4 m1 m2 m3 hgd HH H1 H3 H4 HV HRD HBK HRL HZL HK hok
          go_wp2_with fail
          go_roundw
          case rel => exact ⟨k + 1, _, by omega, by go_num, HK2, HT2, HTW, HSW⟩
          case measure => simp [intOf]; omega
        · have p5 : w1.cell? ⟨P, 5, none⟩ = some (.slice A m cc) := m1.box.cell 5
          have f5 := m1.box.free 5
          have pl := m1.box.lt
          have M1 := Lib.hid m1
          have M2 := Lib.hid m2
          have M3 := Lib.hid m3
          have Z1 := Lib.hid z1
          have Z2 := Lib.hid z2
          have Z3 := Lib.hid z3
          have Z4 := Lib.hid z4
          have HGD := Lib.hid hgd
          obtain ⟨Wa, hWa⟩ : ∃ Wa, Wa = w1.alloc (.cells #[.slice A3 rl c3] 64) := ⟨_, rfl⟩
          have HBa := Lib.hid (show Below w1.heap.size w1 Wa by rw [hWa]; exact up_alloc (Below.refl _ _) _)
          have HCa := Lib.hid (show SlOwn (w1.alloc (.cells #[.slice A3 rl c3] 64)) 0 64 A m cc V by rw [← hWa]; exact M1.out.own.below HBa.out)
          have HIa := Lib.hid (slIn_new1 w1 64 (.slice A3 rl c3))
          clear m1 m2 m3 z1 z2 z3 z4 hgd hok
          go_wp2_with (at_builtin; refine wpList_append_sl _ rfl (.tmp 49) (.tmp 51) 31 rfl 64 i0 _ 24 Try.underlying31 Hi.out Hz0.out Hz1.out Hz2.out rfl 0 A m cc V rfl HCa.out (some ⟨w1.heap.size, 0, none⟩) 1 1 [.slice A3 rl c3] rfl HIa.out (by intro v hv; simp at hv; subst hv; rfl) (by unfold maxLen; omega) (by omega) (Nat.zero_le _) ?_; intro A' cc' W2 hown hgrow hat; rw [← hWa] at hgrow hat; obtain ⟨S3, r1, r2, r3⟩ := M1.out.push (x := row) (A3 := A3) (c3 := c3) Z3.out M3.out HBa.out (by rw [HRL.out]; exact hown) hgrow hat; rw [HRL.out] at r1; have R1 := Lib.hid r1; have R2 := Lib.hid r2; have R3 := Lib.hid r3; clear r1 r2 r3 p5 f5 pl; have HB2 := Lib.hid (M1.out.box.touch ((Touch.of_below HBa.out (fun j => blkOf A = some j)).trans (Sub.refl _ _) (Touch.of_grown hgrow (fun j hj => hj))) (fun e => M1.out.nbox P e rfl)); have p5 : W2.cell? ⟨P, 5, none⟩ = some (.slice A m cc) := HB2.out.cell 5; have f5 := HB2.out.free 5; have pl := HB2.out.lt; clear hown hgrow hat)
          have HT2 := Lib.hid (show ThrAt (W2.setCell ⟨P, 5, none⟩ (.slice A' (m + 1) cc')) P wk sb g d q e xs fed (rnL d q e R0 at0 (l.take (k + 1))) (fun j => S3 j ∨ Z' j) by
            rw [HRD.out, HGD.out]
            refine ⟨A', m + 1, cc', _, _, S3, S', Z', R1.out, Z1.out.touch R2.out (fun j hj hs => M2.out j hs hj), fun j hj hz => ?_, fun j => Iff.rfl⟩
            rcases R3.out j hj with h | h | h
            · exact M2.out j h hz
            · exact (Z4.out j h).1 hz
            · have := Z1.out.lies j hz; omega)
          have HK2 := Lib.hid (show (rnL d q e R0 at0 (l.take (k + 1))).k = 0 by rw [HRD.out, HGD.out])
          have HTW := Lib.hid (show Touch w (W2.setCell ⟨P, 5, none⟩ (.slice A' (m + 1) cc')) S0 from (HW.out.trans HS.out (HH.out.1.mono (fun j hj => (H4.out j).2 (.inr hj)))).trans (fun j hj => HS.out j ((H4.out j).2 (.inl hj))) R2.out)
          have HSW := Lib.hid (show Sub w (fun j => S3 j ∨ Z' j) S0 from fun j hj => by
            have hz := HW.out.size
            have hz1 := HH.out.1.size
            rcases hj with hj | hj
            · rcases R3.out j hj with h | h | h
              · exact HS.out j ((H4.out j).2 (.inl h))
              · rcases (Z4.out j h).2 with h | h
                · exact HS.out j ((H4.out j).2 (.inr h))
                · exact .inr (Nat.le_trans hz h)
              · exact .inr (by omega)
            · rcases Z2.out j hj with h | h
              · exact HS.out j ((H4.out j).2 (.inr h))
              · exact .inr (Nat.le_trans hz h))
          clear R1 R2 R3 HB2 p5 f5 pl HCa HIa HBa hWa M1 M2 M3 Z1 Z2 Z3 Z4 HGD HH H1 H3 H4 HV HRD HBK HRL HZL HK
          go_wp2_with fail
          go_roundw
          case rel => exact ⟨k + 1, _, by omega, by go_num, HK2, HT2, HTW, HSW⟩
          case measure => simp [intOf]; omega
      · have hk1 : (kk != 0) = true := by simpa using hk0
        have hbd := rnB_bad HV.out HK.out (by exact hk0) (at0 + k)
        have hall : rnL d q e R0 at0 l = ⟨R.u, R.t, R.m, R.rs, kk, at0 + k⟩ := by
          rw [HBK.out (by rw [HRD.out, hbd]; exact hk0), HRD.out, hbd]
        have HALL := Lib.hid hall
        have m1 := H1.out.touch HH.out.1 H3.out
        have M1 := Lib.hid m1
        have HSTOP := Lib.hid (stop_bad (Lib.hid m1.box) kk ((at0 : Int) + (k : Int)) hk0)
        clear hbd hall hok m1
        go_wp2_with fail
        refine HSTOP.out.mono ?_
        rintro y w2 ⟨rfl, HB2, HT2⟩
        clear HSTOP
        have HEND := Lib.hid (show EndAt w2 P fed kk ((at0 + k : Nat) : Int) R.rs S1 from ⟨A, m, cc, V, SR, M1.out.write HT2.out (by rw [show ((at0 + k : Nat) : Int) = (at0 : Int) + (k : Int) by omega]; exact HB2.out)⟩)
        have HTW := Lib.hid (show Touch w w2 S0 from (HW.out.trans HS.out (HH.out.1.mono (fun j hj => (H4.out j).2 (.inr hj)))).trans (fun j hj => HS.out j ((H4.out j).2 (.inl hj))) (HT2.out.mono (fun j hj => by have hj' : j = P := hj; rw [hj']; exact H1.out.boxOf)))
        go_wp2_with fail
        simp only [Exit.noGoto]
        go_end0
        refine ⟨rfl, S1, Lib.hid ?_, HTW, Lib.hid (fun j hj => HS.out j ((H4.out j).2 (.inl hj)))⟩
        rw [HALL.out]
        exact .inr ⟨hk0, HEND.out⟩
    · obtain rfl : k = n := by omega
      have ht : l.take k = l := List.take_of_length_le (by rw [HL.out]; exact Nat.le_refl _)
      rw [ht] at HK HT
      go_wp2_with fail
      simp only [Exit.noGoto]
      go_end0
      exact ⟨rfl, S, Lib.hid (.inl ⟨HK.out, HT.out⟩), HW, HS⟩

theorem pasE_told {u t : Int} {m : Mk} {v : Pas} (hv : pasE u t m = v) (hk : v.k ≠ 0) : v.told = false := by
  rw [pasE] at hv
  subst hv
  split at hk
  · rename_i h; rw [if_pos h]
  · rename_i h
    rw [if_neg h]
    split at hk
    · rename_i h2; rw [if_pos h2]
    · rename_i h2
      rw [if_neg h2]
      cases ht : mTold (closeE t) m
      · exact ht
      · exfalso
        apply hk
        unfold mTold at ht
        simp only [Bool.and_eq_true, decide_eq_true_eq] at ht
        show (mTake (closeE t) m).er = 0
        rw [mTake3 ht.1 ht.2.1 ht.2.2]
        exact ht.2.1
set_option maxRecDepth 100000 in
set_option maxHeartbeats 3200000 in
theorem end_rd (w : World) (S0 : Nat → Prop) (R : Rn) (hk0 : R.k = 0) (fed : Nat) (N : Nat) (hN : N ≤ 50000) (ok : Hid (R.Ok N)) (h : Hid (ThrAt w P wk sb g d q e xs fed R S0)) :
    Calls Try.prog 35 #[.pointer (some ⟨P, 0, none⟩)] w fun x w' => x = .returned (.tuple #[]) ∧ ∃ S', Hid (EndAt w' P fed (rnE R fed).2.1 (rnE R fed).2.2 (rnE R fed).1 S') ∧ Hid (Touch w w' S0) ∧ Hid (Sub w S' S0) := by
  obtain ⟨i0, hi, hz0, hz1, hz2⟩ := info_parts infoRowR
  have Hi := Lib.hid hi
  have Hz0 := Lib.hid hz0
  have Hz1 := Lib.hid hz1
  have Hz2 := Lib.hid hz2
  clear hi hz0 hz1 hz2
  obtain ⟨A, m, cc, V, SR, S1, SM, Z, h1, h2, h3, h4⟩ := h.out
  have hm2 : m ≤ 60000 := by have := h1.rowsLen; have := ok.out.few; omega
  obtain ⟨⟨u', t', m', row, told, kk⟩, hv⟩ : ∃ v, pasE R.u R.t R.m = v := ⟨_, rfl⟩
  obtain ⟨rl, hrl⟩ : ∃ rl, row.length = rl := ⟨_, rfl⟩
  have HST := Lib.hid (rend_any w (Lib.hid h2) ok.out.t0 ok.out.t6 N (by omega) (Lib.hid ok.out.m) row rl told kk (Lib.hid hv) (Lib.hid hrl))
  have p0 : w.cell? ⟨P, 0, none⟩ = some (.pointer (some ⟨wk, 0, none⟩)) := h1.box.cell 0
  have pl := h1.box.lt
  have H1 := Lib.hid h1
  have H3 := Lib.hid h3
  have H4 := Lib.hid h4
  have HRL := Lib.hid hrl
  have HTF := Lib.hid (fun hk : kk ≠ 0 => pasE_told hv hk)
  have HE := Lib.hid (show rnE R fed = if kk ≠ 0 then (R.rs, kk, (fed : Int)) else (if told = true then R.rs ++ [row] else R.rs, 0, 0) by
    unfold rnE; rw [if_neg (show ¬ R.k ≠ 0 by simpa using hk0), hv])
  clear h1 h2 h3 h4 hv hrl
  go_enter Try.func35, Try.ntmps35
  go_wp2_with fail
  refine HST.out.mono ?_
  rintro y w1 ⟨A3, c3, rfl, HH⟩
  clear p0 pl HST
  by_cases hk : kk = 0
  · subst hk
    obtain ⟨S', Z', z1, z2, z3, z4⟩ := HH.out.2 rfl
    obtain ⟨m1, m2, m3⟩ := mid_step (d := d) (q := q) (e := e) (xs := xs) (wk := wk) (sb := sb) (g := g) H1.out H3.out HH.out.1 z2 z4
    cases told
    · have p1 : w1.cell? ⟨P, 1, none⟩ = some (.int .i64 fed) := m1.box.cell 1
      have pl := m1.box.lt
      have HS := Lib.hid (stop_ok (Lib.hid m1.box) (fed : Int))
      have M1 := Lib.hid m1
      clear z1 z2 z3 z4 m1 m2 m3
      go_wp2_with fail
      refine HS.out.mono ?_
      rintro y w2 ⟨rfl, HB2, HT2⟩
      go_wp2_with fail
      go_end0
      refine ⟨rfl, S1, Lib.hid ?_, Lib.hid ?_, Lib.hid (fun j hj => .inl ((H4.out j).2 (.inl hj)))⟩
      · rw [HE.out]; exact ⟨A, m, cc, V, SR, M1.out.write HT2.out HB2.out⟩
      · exact (HH.out.1.mono (fun j hj => (H4.out j).2 (.inr hj))).trans (fun j hj => .inl ((H4.out j).2 (.inl hj))) (HT2.out.mono (fun j hj => by have hj' : j = P := hj; rw [hj']; exact H1.out.boxOf))
    · have p5 : w1.cell? ⟨P, 5, none⟩ = some (.slice A m cc) := m1.box.cell 5
      have f5 := m1.box.free 5
      have pl := m1.box.lt
      have M1 := Lib.hid m1
      have M3 := Lib.hid m3
      have Z3 := Lib.hid z3
      have Z4 := Lib.hid z4
      obtain ⟨Wa, hWa⟩ : ∃ Wa, Wa = w1.alloc (.cells #[.slice A3 rl c3] 64) := ⟨_, rfl⟩
      have HBa := Lib.hid (show Below w1.heap.size w1 Wa by rw [hWa]; exact up_alloc (Below.refl _ _) _)
      have HCa := Lib.hid (show SlOwn (w1.alloc (.cells #[.slice A3 rl c3] 64)) 0 64 A m cc V by rw [← hWa]; exact M1.out.own.below HBa.out)
      have HIa := Lib.hid (slIn_new1 w1 64 (.slice A3 rl c3))
      clear m1 m2 m3 z1 z2 z3 z4
      go_wp2_with (at_builtin; refine wpList_append_sl _ rfl (.tmp 19) (.tmp 21) 31 rfl 64 i0 _ 24 Try.underlying31 Hi.out Hz0.out Hz1.out Hz2.out rfl 0 A m cc V rfl HCa.out (some ⟨w1.heap.size, 0, none⟩) 1 1 [.slice A3 rl c3] rfl HIa.out (by intro v hv; simp at hv; subst hv; rfl) (by unfold maxLen; omega) (by omega) (Nat.zero_le _) ?_; intro A' cc' W2 hown hgrow hat; rw [← hWa] at hgrow hat; obtain ⟨S3, r1, r2, r3⟩ := M1.out.push (x := row) (A3 := A3) (c3 := c3) Z3.out M3.out HBa.out (by rw [HRL.out]; exact hown) hgrow hat; rw [HRL.out] at r1; have R1 := Lib.hid r1; have R2 := Lib.hid r2; have R3 := Lib.hid r3; clear r1 r2 r3 p5 f5 pl; have HB2 := Lib.hid (M1.out.box.touch ((Touch.of_below HBa.out (fun j => blkOf A = some j)).trans (Sub.refl _ _) (Touch.of_grown hgrow (fun j hj => hj))) (fun e => M1.out.nbox P e rfl)); have p5 : W2.cell? ⟨P, 5, none⟩ = some (.slice A m cc) := HB2.out.cell 5; have p1 : W2.cell? ⟨P, 1, none⟩ = some (.int .i64 fed) := HB2.out.cell 1; have f5 := HB2.out.free 5; have pl := HB2.out.lt; clear hown hgrow hat)
      have HS := Lib.hid (stop_ok (Lib.hid R1.out.box) (fed : Int))
      refine HS.out.mono ?_
      rintro y w2 ⟨rfl, HB3, HT3⟩
      clear HB2 p5 f5 pl p1 HS
      go_wp2_with fail
      go_end0
      refine ⟨rfl, S3, Lib.hid ?_, Lib.hid ?_, Lib.hid (fun j hj => ?_)⟩
      · rw [HE.out]; exact ⟨A', m + 1, cc', _, _, R1.out.write HT3.out HB3.out⟩
      · exact ((HH.out.1.mono (fun j hj => (H4.out j).2 (.inr hj))).trans (fun j hj => .inl ((H4.out j).2 (.inl hj))) R2.out).trans (S' := S3) (fun j hj => by
          have hz1 := HH.out.1.size
          rcases R3.out j hj with h | h | h
          · exact .inl ((H4.out j).2 (.inl h))
          · rcases (Z4.out j h).2 with h | h
            · exact .inl ((H4.out j).2 (.inr h))
            · exact .inr h
          · exact .inr (by omega)) (HT3.out.mono (fun j hj => by have hj' : j = P := hj; rw [hj']; exact R1.out.boxOf))
      · have hz1 := HH.out.1.size
        rcases R3.out j hj with h | h | h
        · exact .inl ((H4.out j).2 (.inl h))
        · rcases (Z4.out j h).2 with h | h
          · exact .inl ((H4.out j).2 (.inr h))
          · exact .inr h
        · exact .inr (by omega)
  · have htf := HTF.out hk
    subst htf
    have m1 := H1.out.touch HH.out.1 H3.out
    have M1 := Lib.hid m1
    have p1 : w1.cell? ⟨P, 1, none⟩ = some (.int .i64 fed) := m1.box.cell 1
    have pl := m1.box.lt
    have HS := Lib.hid (stop_bad (Lib.hid m1.box) kk (fed : Int) hk)
    clear m1
    go_wp2_with fail
    refine HS.out.mono ?_
    rintro y w2 ⟨rfl, HB2, HT2⟩
    go_wp2_with fail
    go_end0
    refine ⟨rfl, S1, Lib.hid ?_, Lib.hid ?_, Lib.hid (fun j hj => .inl ((H4.out j).2 (.inl hj)))⟩
    · rw [HE.out, if_pos hk]; exact ⟨A, m, cc, V, SR, M1.out.write HT2.out HB2.out⟩
    · exact (HH.out.1.mono (fun j hj => (H4.out j).2 (.inr hj))).trans (fun j hj => .inl ((H4.out j).2 (.inl hj))) (HT2.out.mono (fun j hj => by have hj' : j = P := hj; rw [hj']; exact H1.out.boxOf))
end
end Go.Proofs.Ytoeanbfemgmgnaa

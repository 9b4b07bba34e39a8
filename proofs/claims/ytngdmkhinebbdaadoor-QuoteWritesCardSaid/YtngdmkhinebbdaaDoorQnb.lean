/- Layer 9: the document's Unquote. -/
import Derived.Test.YtngdmkhinebbdaaDoorQna
import Derived.Test.YtngdmkhinebbdaaDoorRxc
namespace Go.Proofs.YtngdmkhinebbdaaDoor
open Go.ChangeShapes Go.WideShapes Go.ChangeAt Go.RowKit
set_option linter.unusedVariables false
set_option linter.unusedSimpArgs false

theorem toBA_bl' (s : ByteArray) : toBA (bl s) = s := bl_inj (bl_toBA (bl s) (bl_bytes s))
/-! ### Plain: as far as place k the field S was found -/
def CutQ (q : Int) (s S : List Int) (k : Nat) : Prop := ∀ g, s = quoL q g → ∃ g2, g = S ++ g2 ∧ s.drop k = dbl q g2 ++ [q]
theorem cutq_start (q : Int) (s : List Int) : CutQ q s [] 1 := fun g h => ⟨g, rfl, by rw [h]; rfl⟩
theorem drop_at {s : List Int} {k : Nat} {b : Int} (h : s[k]? = some b) : s.drop k = b :: s.drop (k + 1) := by
  obtain ⟨hl, hx⟩ := List.getElem?_eq_some_iff.1 h
  rw [List.drop_eq_getElem_cons hl, hx]
theorem cutq_bare {q b : Int} {s S : List Int} {k : Nat} (h : s[k]? = some b) (hb : b ≠ q) (hk : k + 1 < s.length) (hc : CutQ q s S k) : CutQ q s (S ++ [b]) (k + 1) := fun g hg => by
  obtain ⟨g2, h1, h2⟩ := hc g hg
  rw [drop_at h] at h2
  cases g2 with
  | nil =>
    simp [dbl] at h2
    exact absurd h2.1 hb
  | cons x r =>
    rw [dbl] at h2
    split at h2
    · rename_i hx
      injection h2 with h3 h4
      exact absurd h3 hb
    · injection h2 with h3 h4
      subst h3
      exact ⟨r, by rw [h1]; simp, h4⟩
theorem cutq_two {q c : Int} {s S : List Int} {k : Nat} (h : s[k]? = some q) (h' : s[k + 1]? = some c) (hk : k + 2 < s.length) (hc : CutQ q s S k) : CutQ q s (S ++ [c]) (k + 2) := fun g hg => by
  obtain ⟨g2, h1, h2⟩ := hc g hg
  rw [drop_at h, drop_at h'] at h2
  cases g2 with
  | nil => simp [dbl] at h2
  | cons x r =>
    rw [dbl] at h2
    split at h2
    · rename_i hx
      injection h2 with h3 h4
      injection h4 with h4 h5
      subst h4
      exact ⟨r, by rw [h1, hx]; simp, h5⟩
    · rename_i hx
      injection h2 with h3 h4
      exact absurd h3.symm hx
theorem cutq_bad {q : Int} {s S : List Int} {k : Nat} (h : s[k]? = some q) (hk : k + 1 < s.length) (hk2 : ¬ k + 2 < s.length) (hc : CutQ q s S k) : CutQ q s S (k + 2) := fun g hg => by
  exfalso
  obtain ⟨g2, h1, h2⟩ := hc g hg
  have hl := congrArg List.length h2
  rw [drop_at h] at h2
  cases g2 with
  | nil => simp [dbl] at hl; omega
  | cons x r =>
    rw [dbl] at h2 hl
    split at h2
    · rename_i hx
      rw [if_pos hx] at hl
      simp at hl
      omega
    · rename_i hx
      injection h2 with h3 h4
      exact absurd h3.symm hx
theorem cutq_end {q : Int} {s S : List Int} {k : Nat} (hk : ¬ k + 1 < s.length) (hc : CutQ q s S k) : ∀ g, s = quoL q g → S = g := fun g hg => by
  obtain ⟨g2, h1, h2⟩ := hc g hg
  have hl := congrArg List.length h2
  simp at hl
  have : dbl q g2 = [] := List.eq_nil_of_length_eq_zero (by omega)
  rw [dbl_nil this] at h1
  simp at h1
  exact h1.symm
/-- The field that a text is (empty: none), 1 if quoted, the error. -/
def unqO (d q : Int) (s : ByteArray) : ByteArray × Int × Int :=
  if (bl s).head? = some q then (match unqL q (bl s).tail with | some f => (toBA f, 1, 0) | none => (⟨#[]⟩, 0, 4))
  else if (hasL (bl s) d || (hasL (bl s) q || (hasL (bl s) 10 || hasL (bl s) 13))) = true then (⟨#[]⟩, 0, 23) else (s, 0, 0)
theorem unqO_quo {d q : Int} {s : ByteArray} (h : (bl s).head? = some q) {g : List Int} (hg : bl s = quoL q g) : unqO d q s = (toBA g, 1, 0) := by
  unfold unqO
  rw [if_pos h, hg]
  rw [show (quoL q g).tail = dbl q g ++ [q] from rfl, unqL_dbl]
theorem unqO_bad {d q : Int} {s : ByteArray} (h : (bl s).head? = some q) (hg : ∀ g, bl s ≠ quoL q g) : unqO d q s = (⟨#[]⟩, 0, 4) := by
  unfold unqO
  rw [if_pos h]
  cases hu : unqL q (bl s).tail with
  | none => rfl
  | some f =>
    exfalso
    refine hg f ?_
    have h1 := (unqL_iff q _ f).1 hu
    cases hb : bl s with
    | nil => rw [hb] at h; cases h
    | cons x r =>
      rw [hb] at h h1
      simp at h h1
      rw [h, h1]
      rfl
theorem unqO_bare {d q : Int} {s : ByteArray} (h : ¬ (bl s).head? = some q) {v : Bool} (hv : (hasL (bl s) d || (hasL (bl s) q || (hasL (bl s) 10 || hasL (bl s) 13))) = v) : unqO d q s = if v = true then (⟨#[]⟩, 0, 23) else (s, 0, 0) := by
  unfold unqO
  rw [if_neg h, hv]
theorem ret_sii {a b : ByteArray} {x y z t : Int} (h : (a, x, z) = (b, y, t)) : Ending.returned (.tuple #[.string a, .int .i64 x, .int .i64 z]) = .returned (.tuple #[.string b, .int .i64 y, .int .i64 t]) := by
  injection h with h1 h2
  injection h2 with h2 h3
  rw [h1, h2, h3]
theorem or_four (a b c e : Bool) : (a = true ∧ (a || (b || (c || e))) = true) ∨ (a = false ∧ b = true ∧ (a || (b || (c || e))) = true) ∨ (a = false ∧ b = false ∧ c = true ∧ (a || (b || (c || e))) = true) ∨ (a = false ∧ b = false ∧ c = false ∧ e = true ∧ (a || (b || (c || e))) = true) ∨ (a = false ∧ b = false ∧ c = false ∧ e = false ∧ (a || (b || (c || e))) = false) := by
  cases a <;> cases b <;> cases c <;> cases e <;> simp

set_option maxRecDepth 100000 in
set_option maxHeartbeats 3200000 in
theorem ref9Unquote_is (d q e : Int) (q0 : 0 ≤ q) (q1 : q ≤ 255) (s : ByteArray) (hs : s.size ≤ 1000000) (F : ByteArray) (is er : Int) (hF : Hid (unqO d q s = (F, is, er))) (w : World) :
    Calls Tryd.prog 17 #[.agg #[.int .i64 d, .int .i64 q, .int .i64 e], .string s] w fun x w' => x = .returned (.tuple #[.string F, .int .i64 is, .int .i64 er]) ∧ Below w.heap.size w w' := by
  obtain ⟨W0, hW0⟩ : ∃ W0, w.alloc (.cells #[.int .i64 d, .int .i64 q, .int .i64 e] 26) = W0 := ⟨_, rfl⟩
  have m0 : W0.cell? ⟨w.heap.size, 0, none⟩ = some (.int .i64 d) := by rw [← hW0]; exact (StB.made w rfl _ _).cell 0
  have m1 : W0.cell? ⟨w.heap.size, 1, none⟩ = some (.int .i64 q) := by rw [← hW0]; exact (StB.made w rfl _ _).cell 1
  have m2 : W0.cell? ⟨w.heap.size, 2, none⟩ = some (.int .i64 e) := by rw [← hW0]; exact (StB.made w rfl _ _).cell 2
  have ml : w.heap.size < W0.heap.size := by rw [← hW0]; simp
  have z0 : ∀ z, (onto W0 z).cell? ⟨w.heap.size, 0, none⟩ = some (.int .i64 d) := fun z => mem_cell (onto_below W0 z) m0
  have z1 : ∀ z, (onto W0 z).cell? ⟨w.heap.size, 1, none⟩ = some (.int .i64 q) := fun z => mem_cell (onto_below W0 z) m1
  have z2 : ∀ z, (onto W0 z).cell? ⟨w.heap.size, 2, none⟩ = some (.int .i64 e) := fun z => mem_cell (onto_below W0 z) m2
  have HB0 := Lib.hid (show Below w.heap.size w W0 by rw [← hW0]; exact up_alloc (Below.refl _ w) _)
  have hsm : s.size ≤ maxLen := by unfold maxLen; omega
  have hs9 : s.size ≤ 9223372036854775807 := by omega
  by_cases hz : 0 < s.size
  · have hz0 : decide (0 < s.size) = true := decide_eq_true hz
    have hix := fun z => run_index_at (P := Tryd.prog) 9 s 0 0 rfl hz rfl z
    have hw64 : wrap64 ((s[0].toNat : Nat) : Int) = ((s[0].toNat : Nat) : Int) := IntWalk.wrap64_in _ ⟨by have := s[0].toNat_lt; omega, by have := s[0].toNat_lt; omega⟩
    have h0 := bl_at s 0 hz
    have hhd : (bl s).head? = some ((s[0].toNat : Nat) : Int) := by rw [List.head?_eq_getElem?]; exact h0
    by_cases hq : ((s[0].toNat : Nat) : Int) = q
    · have hb : (((s[0].toNat : Nat) : Int) == q) = true := by simp [hq]
      have HHD := Lib.hid (show (bl s).head? = some q by rw [hhd, hq])
      clear hq hhd h0
      go_enter Tryd.func17, Tryd.ntmps17
      go_upto_region 1 with fail
      clear hW0
      refine wp_region_onto (by kernel_rfl) (by kernel_rfl) ?_
      repeat (go_big_quiet_step (fail))
      refine wpQuiet_nil ?_
      intro _ hw'
      obtain ⟨x1, hw''⟩ := hw'
      subst hw''
      go_wp2_with fail
      go_loopw [8, 7] (fun i s7 wr => ∃ (k : Nat) (S : ByteArray), 1 ≤ k ∧ k ≤ s.size + 1 ∧ i = .int .i64 k ∧ s7 = .string S ∧ Hid (CutQ q (bl s) (bl S) k) ∧ S.size ≤ k ∧ Hid (∃ y, wr = onto W0 y)) (fun i _ _ => s.size + 2 - (intOf i).toNat)
      case atStart => exact ⟨1, ⟨#[]⟩, Nat.le_refl _, by omega, rfl, rfl, Lib.hid (cutq_start q (bl s)), (show (0 : Nat) ≤ _ from Nat.zero_le _), Lib.hid ⟨_, rfl⟩⟩
      case round =>
        obtain ⟨k, S, hk1, hk2, rfl, rfl, HS, hsz, HY⟩ := hrel
        obtain ⟨y, rfl⟩ := HY.out
        clear HY
        by_cases hlt : k + 1 < s.size
        · have hlt' : (k : Int) + 1 < s.size := by omega
          have hk : k < s.size := by omega
          have hki : (k : Int) < s.size := by omega
          have hwk : wrap64 ((s[k].toNat : Nat) : Int) = ((s[k].toNat : Nat) : Int) := IntWalk.wrap64_in _ ⟨by have := s[k].toNat_lt; omega, by have := s[k].toNat_lt; omega⟩
          have HLL := Lib.hid (show k + 1 < (bl s).length by rw [bl_length]; exact hlt)
          have HAT := Lib.hid (bl_at s k hk)
          by_cases he : ((s[k].toNat : Nat) : Int) = q
          · have hbk : (((s[k].toNat : Nat) : Int) == q) = true := by simp [he]
            have HAQ := Lib.hid (show (bl s)[k]? = some q by rw [HAT.out, he])
            clear he
            by_cases hl2 : k + 2 < s.size
            · have hone := bl_one (s := s) (k := k + 1) (by omega)
              have HA2 := Lib.hid (bl_at s (k + 1) (by omega))
              have hsub := fun z => run_sub (P := Tryd.prog) z 9 s (k + 1) (k + 1 + 1) ((k : Int) + 1) ((k : Int) + 1 + 1) (by omega) (by omega) (by omega) (by omega) rfl
              obtain ⟨C, hC⟩ : ∃ C, s.extract (k + 1) (k + 1 + 1) = C := ⟨_, rfl⟩
              rw [hC] at hone hsub
              have hCs : C.size ≤ 1 := by rw [← bl_length, hone]; simp
              have HONE := Lib.hid hone
              have hl2' : (k : Int) + 1 + 1 < s.size := by omega
              have HX := Lib.hid (show CutQ q (bl s) (bl (S ++ C)) (k + 2) by
                rw [bl_append, HONE.out]
                exact cutq_two HAQ.out HA2.out (by rw [bl_length]; exact hl2) HS.out)
              clear hC hone
              go_wp2_with fail
              refine wp_region_onto (by kernel_rfl) (by kernel_rfl) ?_
              repeat (go_big_quiet_step (fail))
              refine wpQuiet_nil ?_
              intro _ hw'
              obtain ⟨x1, hw''⟩ := hw'
              subst hw''
              go_wp2_with fail
              go_roundw
              case rel => exact ⟨k + 2, S ++ C, by omega, by omega, by go_num, rfl, HX, by rw [ByteArray.size_append]; omega, Lib.hid ⟨_, rfl⟩⟩
              case measure => simp [intOf]; omega
            · have HX := Lib.hid (cutq_bad HAQ.out HLL.out (by rw [bl_length]; exact hl2) HS.out)
              have hl2' : (s.size : Int) ≤ (k : Int) + 1 + 1 := by omega
              have hl3 : decide ((k : Int) + 1 + 1 < s.size) = false := decide_eq_false (by omega)
              have hl4 : decide (k + 1 + 1 < s.size) = false := decide_eq_false (by omega)
              go_wp2_with fail
              refine wp_region_onto (by kernel_rfl) (by kernel_rfl) ?_
              repeat (go_big_quiet_step (fail))
              refine wpQuiet_nil ?_
              intro _ hw'
              obtain ⟨x1, hw''⟩ := hw'
              subst hw''
              go_wp2_with fail
              go_roundw
              case rel => exact ⟨k + 2, S, by omega, by omega, by go_num, rfl, HX, by omega, Lib.hid ⟨_, rfl⟩⟩
              case measure => simp [intOf]; omega
          · have hbk : (((s[k].toNat : Nat) : Int) == q) = false := by simp [he]
            have hone := bl_one (s := s) (k := k) hk
            have hsub := fun z => run_sub (P := Tryd.prog) z 9 s k (k + 1) (k : Int) ((k : Int) + 1) rfl (by omega) (by omega) (by omega) rfl
            obtain ⟨C, hC⟩ : ∃ C, s.extract k (k + 1) = C := ⟨_, rfl⟩
            rw [hC] at hone hsub
            have hCs : C.size ≤ 1 := by rw [← bl_length, hone]; simp
            have HONE := Lib.hid hone
            have HX := Lib.hid (show CutQ q (bl s) (bl (S ++ C)) (k + 1) by
              rw [bl_append, HONE.out]
              exact cutq_bare HAT.out he HLL.out HS.out)
            clear hC hone he
            go_wp2_with fail
            refine wp_region_onto (by kernel_rfl) (by kernel_rfl) ?_
            repeat (go_big_quiet_step (fail))
            refine wpQuiet_nil ?_
            intro _ hw'
            obtain ⟨x1, hw''⟩ := hw'
            subst hw''
            go_wp2_with fail
            go_roundw
            case rel => exact ⟨k + 1, S ++ C, by omega, by omega, by go_num, rfl, HX, by rw [ByteArray.size_append]; omega, Lib.hid ⟨_, rfl⟩⟩
            case measure => simp [intOf]; omega
        · have hlt' : ¬ (k : Int) + 1 < s.size := by omega
          have HE := Lib.hid (cutq_end (by rw [bl_length]; exact hlt) HS.out)
          obtain ⟨O, hO⟩ : ∃ O, quoO q S = O := ⟨_, rfl⟩
          have HO := Lib.hid hO
          have hS6 : S.size ≤ 1000001 := by omega
          obtain ⟨v, hv⟩ : ∃ v, (O.toList == s.toList) = v := ⟨_, rfl⟩
          have HV := Lib.hid (show decide (quoL q (bl S) = bl s) = v by rw [← hv, str_eq, ← hO, bl_quoO q0 q1])
          clear hO
          cases v
          · have HR := Lib.hid ((unqO_bad (d := d) HHD.out (fun g hg => of_decide_eq_false HV.out (by rw [HE.out g hg, hg]))).symm.trans hF.out)
            go_wp2_with (go_at_call 13; with_reducible refine (above (ref9Quoted_is d q e q0 q1 S (by omega) O HO _)).mono ?_; rintro x _ ⟨rfl, y, rfl⟩)
            refine bodyPost_ret (v := .tuple #[.string ⟨#[]⟩, .int .i64 0, .int .i64 4]) (by simp [results, Tryd.results17, go_sem]) rfl ⟨ret_sii HR.out, (by (repeat (first | exact HB0.out | refine up_onto ?_ _ | refine up_alloc ?_ _)))⟩
          · have HR := Lib.hid (show (S, (1 : Int), (0 : Int)) = (F, is, er) by
              have h1 := unqO_quo (d := d) HHD.out (of_decide_eq_true HV.out).symm
              rw [← hF.out, h1, toBA_bl'])
            go_wp2_with (go_at_call 13; with_reducible refine (above (ref9Quoted_is d q e q0 q1 S (by omega) O HO _)).mono ?_; rintro x _ ⟨rfl, y, rfl⟩)
            refine bodyPost_ret (v := .tuple #[.string S, .int .i64 1, .int .i64 0]) (by simp [results, Tryd.results17, go_sem]) rfl ⟨ret_sii HR.out, (by (repeat (first | exact HB0.out | refine up_onto ?_ _ | refine up_alloc ?_ _)))⟩
    · have hb : (((s[0].toNat : Nat) : Int) == q) = false := by simp [hq]
      have HHD := Lib.hid (show ¬ (bl s).head? = some q by rw [hhd]; simp; exact hq)
      clear hq hhd h0
      obtain ⟨v1, h1⟩ : ∃ v, hasL (bl s) d = v := ⟨_, rfl⟩
      obtain ⟨v2, h2⟩ : ∃ v, hasL (bl s) q = v := ⟨_, rfl⟩
      obtain ⟨v3, h3⟩ : ∃ v, hasL (bl s) 10 = v := ⟨_, rfl⟩
      obtain ⟨v4, h4⟩ : ∃ v, hasL (bl s) 13 = v := ⟨_, rfl⟩
      have H1 := Lib.hid h1
      have H2 := Lib.hid h2
      have H3 := Lib.hid h3
      have H4 := Lib.hid h4
      have hres := unqO_bare HHD.out (d := d) (show _ = (v1 || (v2 || (v3 || v4))) by rw [h1, h2, h3, h4])
      have HRES := Lib.hid (hres.symm.trans hF.out)
      clear h1 h2 h3 h4 hres
      have main : ∀ v, (v1 || (v2 || (v3 || v4))) = v → True := fun _ _ => trivial
      clear main
      rcases or_four v1 v2 v3 v4 with ⟨rfl, ho⟩ | ⟨rfl, rfl, ho⟩ | ⟨rfl, rfl, rfl, ho⟩ | ⟨rfl, rfl, rfl, rfl, ho⟩ | ⟨rfl, rfl, rfl, rfl, ho⟩
      all_goals
        rw [ho] at HRES
        clear ho
        have HR := Lib.hid (HRES.out)
        simp only [if_true, Bool.false_eq_true, if_false] at HR
        clear HRES
        go_enter Tryd.func17, Tryd.ntmps17
        go_upto_region 1 with fail
        clear hW0
        refine wp_region_onto (by kernel_rfl) (by kernel_rfl) ?_
        repeat (go_big_quiet_step (fail))
        refine wpQuiet_nil ?_
        intro _ hw'
        obtain ⟨x1, hw''⟩ := hw'
        subst hw''
        go_wp2_with (go_at_call 28; first
          | (with_reducible refine (above (ref8Has_is s d hsm _ H1 _)).mono ?_; rintro x _ ⟨rfl, y, rfl⟩)
          | (with_reducible refine (above (ref8Has_is s q hsm _ H2 _)).mono ?_; rintro x _ ⟨rfl, y, rfl⟩)
          | (with_reducible refine (above (ref8Has_is s 10 hsm _ H3 _)).mono ?_; rintro x _ ⟨rfl, y, rfl⟩)
          | (with_reducible refine (above (ref8Has_is s 13 hsm _ H4 _)).mono ?_; rintro x _ ⟨rfl, y, rfl⟩))
        first
          | (refine bodyPost_ret (v := .tuple #[.string ⟨#[]⟩, .int .i64 0, .int .i64 23]) (by simp [results, Tryd.results17, go_sem]) rfl ⟨ret_sii HR.out, (by (repeat (first | exact HB0.out | refine up_onto ?_ _ | refine up_alloc ?_ _)))⟩)
          | (refine bodyPost_ret (v := .tuple #[.string s, .int .i64 0, .int .i64 0]) (by simp [results, Tryd.results17, go_sem]) rfl ⟨ret_sii HR.out, (by (repeat (first | exact HB0.out | refine up_onto ?_ _ | refine up_alloc ?_ _)))⟩)
  · have hz1 : s.size = 0 := by omega
    have hbl : bl s = [] := List.eq_nil_of_length_eq_zero (by rw [bl_length]; exact hz1)
    have hh : ∀ b, hasL (bl s) b = false := fun b => by rw [hbl]; simp [hasL]
    have HH := Lib.hid hh
    have HRES := Lib.hid ((unqO_bare (d := d) (q := q) (s := s) (by rw [hbl]; simp) (v := false) (by rw [hh, hh, hh, hh]; rfl)).symm.trans hF.out)
    have HR := HRES
    simp only [Bool.false_eq_true, if_false] at HR
    have hz0 : decide (0 < s.size) = false := decide_eq_false hz
    clear hh hbl HRES hz1
    go_enter Tryd.func17, Tryd.ntmps17
    go_upto_region 1 with fail
    clear hW0
    refine wp_region_onto (by kernel_rfl) (by kernel_rfl) ?_
    repeat (go_big_quiet_step (fail))
    refine wpQuiet_nil ?_
    intro _ hw'
    obtain ⟨x1, hw''⟩ := hw'
    subst hw''
    go_wp2_with (go_at_call 28; first
      | (with_reducible refine (above (ref8Has_is s d hsm _ (Lib.hid (HH.out d)) _)).mono ?_; rintro x _ ⟨rfl, y, rfl⟩)
      | (with_reducible refine (above (ref8Has_is s q hsm _ (Lib.hid (HH.out q)) _)).mono ?_; rintro x _ ⟨rfl, y, rfl⟩)
      | (with_reducible refine (above (ref8Has_is s 10 hsm _ (Lib.hid (HH.out 10)) _)).mono ?_; rintro x _ ⟨rfl, y, rfl⟩)
      | (with_reducible refine (above (ref8Has_is s 13 hsm _ (Lib.hid (HH.out 13)) _)).mono ?_; rintro x _ ⟨rfl, y, rfl⟩))
    refine bodyPost_ret (v := .tuple #[.string s, .int .i64 0, .int .i64 0]) (by simp [results, Tryd.results17, go_sem]) rfl ⟨ret_sii HR.out, (by (repeat (first | exact HB0.out | refine up_onto ?_ _ | refine up_alloc ?_ _)))⟩
end Go.Proofs.YtngdmkhinebbdaaDoor

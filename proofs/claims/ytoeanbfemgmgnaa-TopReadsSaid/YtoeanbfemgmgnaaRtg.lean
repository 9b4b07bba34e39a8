/- Layer 12: the program's reader: drop, Next. -/
import Derived.Test.YtoeanbfemgmgnaaRtf
namespace Go.Proofs.Ytoeanbfemgmgnaa
open Go.ChangeShapes Go.WideShapes Go.ChangeAt Go.RowKit
set_option linter.unusedVariables false
set_option linter.unusedSimpArgs false

theorem SlAt.store {w : World} {e : TypeId} {g off n c : Nat} {xs : List Value} (h : SlAt w e (some ⟨g, off, none⟩) n c xs) (k : Nat) (u : Value) (hk : k < n) : SlAt (w.setCell ⟨g, off + k, none⟩ u) e (some ⟨g, off, none⟩) n c (xs.set k u) := by
  obtain ⟨h1, h2, h3, h4⟩ := h
  refine ⟨by simpa using h1, h2, h3, ?_⟩
  rcases h4 with ⟨h0, _⟩ | ⟨q, o, cur, fz, hq, hg, hs, hf, hx⟩
  · cases h0
  · obtain ⟨rfl, rfl⟩ : g = q ∧ off = o := by simp only [Option.some.injEq, Addr.mk.injEq] at hq; exact ⟨hq.1, hq.2.1⟩
    refine .inr ⟨g, off, cur.setIfInBounds (off + k) u, fz, rfl, by simp [World.setCell, Array.getElem?_modify, hg], by simp [hs], by simpa using hf, fun j v hv => ?_⟩
    rw [Array.getElem?_setIfInBounds]
    by_cases hj : k = j
    · subst hj
      rw [List.getElem?_set_self (by omega)] at hv
      rw [if_pos rfl, if_pos (by omega)]; exact hv
    · rw [List.getElem?_set_ne hj] at hv
      rw [if_neg (by omega)]; exact hx j v hv
theorem SlAt.first {w : World} {e : TypeId} {A : Option Addr} {n c : Nat} {v : Value} {xs : List Value} (h : SlAt w e A n c (v :: xs)) : ∃ g off, A = some ⟨g, off, none⟩ ∧ w.cell? ⟨g, off, none⟩ = some v ∧ w.frozen? ⟨g, off, none⟩ = false ∧ g < w.heap.size ∧ n = xs.length + 1 ∧ n ≤ c ∧ c ≤ maxLen := by
  obtain ⟨h1, h2, h3, h4⟩ := h
  rcases h4 with ⟨_, h0⟩ | ⟨q, o, cur, fz, rfl, hg, hs, hf, hx⟩
  · simp at h1; omega
  · have hl : n = xs.length + 1 := by rw [← h1]; rfl
    refine ⟨q, o, rfl, ?_, frozen_off hg hf (by omega), heap_lt hg, hl, h2, h3⟩
    rw [cell_of_row w q o cur e fz hg]
    have := hx 0 v rfl
    simpa using this

theorem rowsB_one {w : World} : ∀ {V : List Value} {rs : List (List ByteArray)} {S : Nat → Prop}, RowsB w V rs S → ∀ u ∈ V, u.oneCell' = true
  | [], [], _, _, u, hu => by cases hu
  | v :: V, r :: rs, S, h, u, hu => by
    obtain ⟨A, c, S1, h1, _, _, _, h5⟩ := h
    rcases List.mem_cons.1 hu with rfl | hu
    · rw [h1]; rfl
    · exact rowsB_one h5 u hu
  | [], _ :: _, _, h, _, _ => h.elim
  | _ :: _, [], _, h, _, _ => h.elim
/-- What drop leaves. -/
def DropR (w : World) (P : Nat) (fed k a h : Int) (gone : Nat) (rs : List (List ByteArray)) (A : Option Addr) (V : List Value) (SR : Nat → Prop) (x : Ending) (w' : World) : Prop :=
  x = .returned (.tuple #[]) ∧ ∃ (gone' : Nat) (A' : Option Addr) (n' c' : Nat) (S' : Nat → Prop), gone' ≤ gone + 1 ∧ Hid (RdC w' P fed k a gone' h rs A' n' c' V SR S') ∧ Hid (Touch w w' (fun j => j = P ∨ blkOf A = some j)) ∧ Hid (∀ j, blkOf A' = some j → blkOf A = some j ∨ w.heap.size ≤ j)
set_option maxRecDepth 100000 in
set_option maxHeartbeats 3200000 in
theorem drop_rd (P : Nat) (fed k a h : Int) (gone : Nat) (hg : gone ≤ 100000) (rs : List (List ByteArray)) (hrs : rs.length ≤ 100000) (A : Option Addr) (n c : Nat) (v : Value) (V : List Value) (SR : Nat → Prop) (w : World)
    (hbox : Hid (StB w P 79 (rdArr (.pointer none) fed k a true A n c gone h))) (hown : Hid (SlAt w 64 A n c (v :: V))) (hrows : Hid (RowsB w V rs SR)) (hap : Hid (∀ j, blkOf A = some j → ¬ SR j)) (hfar : Hid (¬ SR P)) :
    Calls Try.prog 41 #[.pointer (some ⟨P, 0, none⟩)] w (DropR w P fed k a h gone rs A V SR) := by
  obtain ⟨ga, off, rfl, hc, hfz, hgl, hn, hnc, hcm⟩ := hown.out.first
  have hVl := hrows.out.len
  obtain ⟨m, hm⟩ : ∃ m, rs.length = m := ⟨_, rfl⟩
  obtain rfl : n = m + 1 := by omega
  have hVm : V.length = m := by omega
  have hm9 : m ≤ 100000 := by omega
  have hgP : ¬ ga = P := fun e => slAt_far hown.out hbox.out (by decide) ga rfl e
  have hPg : ¬ P = ga := fun e => hgP e.symm
  have p5 : w.cell? ⟨P, 5, none⟩ = some (.slice (some ⟨ga, off, none⟩) (m + 1) c) := hbox.out.cell 5
  have pl := hbox.out.lt
  obtain ⟨W1, hW1⟩ : ∃ W1, W1 = w.setCell ⟨ga, off, none⟩ (.slice none 0 0) := ⟨_, rfl⟩
  have T1 : Touch w W1 (fun j => j = ga) := by rw [hW1]; exact (Touch.refl w (fun j => j = ga)).then_set (p := ⟨ga, off, none⟩) (.inl rfl) _
  have HB1 := Lib.hid (hbox.out.touch T1 hPg)
  have hs0 := hown.out.store 0 (.slice none 0 0) (by omega)
  rw [Nat.add_zero, ← hW1, List.set_cons_zero] at hs0
  have HR1 := Lib.hid (hrows.out.touch T1 (fun j hj e => by have e' : j = ga := e; exact hap.out ga rfl (e' ▸ hj)))
  obtain ⟨hcut, hcb⟩ := hs0.cut (k := 1) (by omega)
  rw [List.drop_succ_cons, List.drop_zero] at hcut
  obtain ⟨A1, hA1⟩ : ∃ A1 : Option Addr, (if c = 1 then some (⟨ga, off, none⟩ : Addr) else some (⟨ga, off + 1, none⟩ : Addr)) = A1 := ⟨_, rfl⟩
  have hA2 : (if c = 1 then some (⟨ga, off, none⟩ : Addr) else (some (⟨ga, off, none⟩ : Addr)).map (·.add 1)) = A1 := by
    rw [← hA1, Option.map_some, Addr.add_lit]
  obtain ⟨c1, hc1⟩ : ∃ c1, c - 1 = c1 := ⟨_, rfl⟩
  rw [hA2, Nat.add_sub_cancel, hc1] at hcut
  rw [hA2] at hcb
  have HS1 := Lib.hid hcut
  have HCB := Lib.hid (show ∀ j, blkOf A1 = some j → j = ga from fun j hj => by have := hcb j hj; injection this with this; exact this.symm)
  have HT1 := Lib.hid T1
  have q5 : W1.cell? ⟨P, 5, none⟩ = some (.slice (some ⟨ga, off, none⟩) (m + 1) c) := HB1.out.cell 5
  have q6 : W1.cell? ⟨P, 6, none⟩ = some (.int .i64 gone) := HB1.out.cell 6
  have g5 := HB1.out.free 5
  have g6 := HB1.out.free 6
  have ql := HB1.out.lt
  have HM := Lib.hid hm
  have HVM := Lib.hid hVm
  clear T1 hs0 hcut hcb hA2 hm hVm hVl hrs hn hcm
  go_enter Try.func41, Try.ntmps41
  go_upto_region 1 with fail
  rw [← hW1]
  clear hW1 p5 pl hc hfz
  go_upto_region 3 with fail
  try rw [hA1]
  have hg1 : (gone : Int) + 1 = ((gone + 1 : Nat) : Int) := by omega
  rw [hg1]
  try rw [hc1]
  obtain ⟨W2, hW2⟩ : ∃ W2, W2 = (W1.setCell ⟨P, 5, none⟩ (.slice A1 m c1)).setCell ⟨P, 6, none⟩ (.int .i64 ((gone + 1 : Nat) : Int)) := ⟨_, rfl⟩
  have HB2 := Lib.hid (show StB W2 P 79 (rdArr (.pointer none) fed k a true A1 m c1 ((gone + 1 : Nat) : Int) h) by rw [hW2]; exact (HB1.out.set_ 5 _).set_ 6 _)
  have HT2 := Lib.hid (show Touch W1 W2 (fun j => j = P) by rw [hW2]; exact ((Touch.refl W1 (fun j => j = P)).then_set (p := ⟨P, 5, none⟩) (.inl rfl) _).then_set (p := ⟨P, 6, none⟩) (.inl rfl) _)
  have HS2 := Lib.hid (HS1.out.touch HT2.out (fun j hj e => hgP (by rw [← HCB.out j hj]; exact e)))
  have HR2 := Lib.hid (HR1.out.touch HT2.out (fun j hj e => by have e' : j = P := e; exact hfar.out (e' ▸ hj)))
  have HTW := Lib.hid (show Touch w W2 (fun j => j = P ∨ blkOf (some (⟨ga, off, none⟩ : Addr)) = some j) from (HT1.out.mono (fun j hj => by have hj' : j = ga := hj; right; rw [hj']; rfl)).trans (Sub.refl _ _) (HT2.out.mono (fun j hj => .inl hj)))
  rw [← hW2]
  obtain ⟨g1, hgg⟩ : ∃ g1, gone + 1 = g1 := ⟨_, rfl⟩
  rw [hgg] at HB2 ⊢
  have HGG := Lib.hid hgg
  have hg9 : g1 ≤ 100001 := by omega
  clear hW2 q5 q6 g5 g6 ql hg1 hgg hA1 hc1
  have r5 : W2.cell? ⟨P, 5, none⟩ = some (.slice A1 m c1) := HB2.out.cell 5
  have r6 : W2.cell? ⟨P, 6, none⟩ = some (.int .i64 g1) := HB2.out.cell 6
  have rl := HB2.out.lt
  by_cases hge : (m : Int) ≤ (g1 : Int)
  · have hbool : decide ((g1 : Int) ≥ (m : Int)) = true := decide_eq_true hge
    refine wp_region_onto (by kernel_rfl) (by kernel_rfl) ?_
    repeat (go_big_quiet_step (fail))
    refine wpQuiet_nil ?_
    intro _ hw'
    obtain ⟨z1, hw''⟩ := hw'
    subst hw''
    obtain ⟨W3, hW3⟩ : ∃ W3, W3 = onto W2 z1 := ⟨_, rfl⟩
    have HBL := Lib.hid (show Below W2.heap.size W2 W3 by rw [hW3]; exact onto_below W2 z1)
    rw [← hW3]
    clear hW3 r5 r6 rl hbool hge
    obtain ⟨i0, hi, hz0, hz1, hz2⟩ := info_parts infoRowR
    have Hi := Lib.hid hi
    have Hz0 := Lib.hid hz0
    have Hz1 := Lib.hid hz1
    have Hz2 := Lib.hid hz2
    clear hi hz0 hz1 hz2
    have HB3 := Lib.hid (HB2.out.below HBL.out)
    have HS3 := Lib.hid (HS2.out.below HBL.out).toIn
    have HR3 := Lib.hid (HR2.out.touch (Touch.of_below HBL.out (fun _ => False)) (fun _ _ h => h))
    have HTW3 := Lib.hid (HTW.out.then_below HBL.out)
    have HONE := Lib.hid (rowsB_one HR3.out)
    have r5 : W3.cell? ⟨P, 5, none⟩ = some (.slice A1 m c1) := HB3.out.cell 5
    have rl := HB3.out.lt
    go_wp2_with (at_builtin; refine wpList_append_sl _ rfl (.const (.slice none 0 0)) (.tmp 37) 31 rfl 64 i0 _ 24 Try.underlying31 Hi.out Hz0.out Hz1.out Hz2.out rfl W3.heap.size none 0 0 [] rfl (SlOwn.nothing _ _ _) A1 m c1 V rfl HS3.out HONE.out (by unfold maxLen; omega) (by omega) (Nat.le_refl _) ?_; intro O co W4 hown hgrow hat; rw [List.nil_append, Nat.zero_add] at hown; have hb4 : Below W3.heap.size W3 W4 := ⟨hgrow.os, hgrow.tape, hgrow.output, hgrow.size, fun k hk => hgrow.block k hk (by simp [blkOf])⟩; have HB4 := Lib.hid (HB3.out.below hb4); have HR4 := Lib.hid (HR3.out.touch (Touch.of_below hb4 (fun _ => False)) (fun _ _ h => h)); have HTW4 := Lib.hid (HTW3.out.then_below hb4); have HO4 := Lib.hid hown; have HRL := Lib.hid HR3.out.lies; have HZ3 := Lib.hid HTW3.out.size; clear hown hgrow hat hb4 r5 rl; rw [Nat.zero_add]; have r5 : W4.cell? ⟨P, 5, none⟩ = some (.slice A1 m c1) := HB4.out.cell 5; have r6 : W4.cell? ⟨P, 6, none⟩ = some (.int .i64 g1) := HB4.out.cell 6; have g5 := HB4.out.free 5; have g6 := HB4.out.free 6; have rl := HB4.out.lt)
    have hs5 := (HB4.out.set_ 5 (.slice O m co)).set_ 6 (.int .i64 0)
    have T5 := ((Touch.refl W4 (fun j => j = P)).then_set (p := ⟨P, 5, none⟩) (.inl rfl) (.slice O m co)).then_set (p := ⟨P, 6, none⟩) (.inl rfl) (.int .i64 0)
    have hOP := HO4.out.unlike_st HB4.out (by decide)
    have HOb := Lib.hid HO4.out.blk
    have HO5 := Lib.hid (HO4.out.touch T5 (fun j hj e => hOP j hj e))
    have HR5 := Lib.hid (HR4.out.touch T5 (fun j hj e => by have e' : j = P := e; exact hfar.out (e' ▸ hj)))
    have HT5 := Lib.hid (HTW4.out.trans (Sub.refl _ _) (T5.mono (fun j hj => .inl hj)))
    have HS5 := Lib.hid hs5
    clear hs5 T5 hOP
    go_wp2_with fail
    go_end0
    refine ⟨rfl, 0, O, m, co, fun j => j = P ∨ blkOf O = some j ∨ SR j, Nat.zero_le _, Lib.hid ⟨HS5.out, HO5.out.toAt, HR5.out, fun j hj hs => ?_, hfar.out, fun j => Iff.rfl⟩, HT5, Lib.hid (fun j hj => .inr (Nat.le_trans HZ3.out (HOb.out j hj).1))⟩
    have := (HOb.out j hj).1
    have := HRL.out j hs
    omega
  · have hbool : decide ((g1 : Int) ≥ (m : Int)) = false := decide_eq_false hge
    refine wp_region_onto (by kernel_rfl) (by kernel_rfl) ?_
    repeat (go_big_quiet_step (fail))
    refine wpQuiet_nil ?_
    intro _ hw'
    obtain ⟨z1, hw''⟩ := hw'
    subst hw''
    have hbl := onto_below W2 z1
    go_wp2_with fail
    go_end0
    refine ⟨rfl, g1, A1, m, c1, fun j => j = P ∨ blkOf A1 = some j ∨ SR j, by rw [HGG.out]; exact Nat.le_refl _, Lib.hid ⟨HB2.out.below hbl, HS2.out.below hbl, HR2.out.touch (Touch.of_below hbl (fun _ => False)) (fun _ _ h => h), fun j hj hs => ?_, hfar.out, fun j => Iff.rfl⟩, Lib.hid (HTW.out.then_below hbl), Lib.hid (fun j hj => .inl (by rw [HCB.out j hj]; rfl))⟩
    exact hap.out j (by rw [HCB.out j hj]; rfl) hs
end Go.Proofs.Ytoeanbfemgmgnaa

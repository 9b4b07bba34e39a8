/- Layer 10: what the program's Lines and Size answer (premises); the walk of WriteTables. -/
import Derived.Test.YtigoonokiihdgaaDoorQrg
import Derived.Test.YtigoonokiihdgaaDoorZk
import Derived.Deep.DeepCutAuto
import Derived.Deep.CutRange
import Derived.Deep.CutBlock
namespace Go.Proofs.YtigoonokiihdgaaDoor
open Go.ChangeShapes Go.WideShapes Go.ChangeAt Go.RowKit
set_option linter.unusedVariables false
set_option linter.unusedSimpArgs false
attribute [local go_sem] Oper.semAt_some

/-- A line with its number, as it is handed on. -/
def lnArgs (x : Nat × ByteArray) : Array Value := #[.int .i64 x.1, .string x.2]
def noHand (x : Nat × ByteArray) (w : World) : Prop := True
def noBlk (x : Nat × ByteArray) (k : Nat) : Prop := False
theorem noHand_keep : ∀ x W W' S, noHand x W → Touch W W' S → (∀ k, S k → ¬ noBlk x k) → (∀ k, noBlk x k → k < W.heap.size) → noHand x W' := fun _ _ _ _ _ _ _ _ => trivial
/-- The lines of the first m records, with their numbers. -/
def linesE (d q e : Int) (t : List (List ByteArray)) (m : Nat) : List (Nat × ByteArray) := (List.range m).map fun j => (j, lineO d q e (decide (j = 0)) (t.getD j []))
theorem linesE_len (d q e : Int) (t : List (List ByteArray)) (m : Nat) : (linesE d q e t m).length = m := by unfold linesE; simp
theorem linesE_at {d q e : Int} {t : List (List ByteArray)} {m : Nat} {pre : List (Nat × ByteArray)} {x : Nat × ByteArray} (h : pre ++ [x] <+: linesE d q e t m) : pre.length < m ∧ x = (pre.length, lineO d q e (decide (pre.length = 0)) (t.getD pre.length [])) := by
  have hl := h.length_le
  rw [linesE_len] at hl
  simp at hl
  have h1 : (linesE d q e t m)[pre.length]? = some x := by
    obtain ⟨r, hr⟩ := h
    rw [← hr]; simp
  unfold linesE at h1
  rw [List.getElem?_map, List.getElem?_range (by omega), Option.map_some] at h1
  injection h1 with h1
  exact ⟨by omega, h1.symm⟩
def LinesSays : Prop := ∀ (d q e : Int) (t : List (List ByteArray)) (A : Option Addr) (n c : Nat) (V : List Value) (w0 w : World), 0 ≤ d → d ≤ 255 → 0 ≤ q → q ≤ 255 → n ≤ 1000 → fldN t ≤ 1000 → bytN t ≤ 1000 → Hid (TabIn w0 A n V t) → Hid (Sizes t) → Hid (Below w0.heap.size w0 w) →
  Calls Tryd.prog 15 #[.agg #[.int .u8 d, .int .u8 q, .int .i64 e], .slice A n c] w fun x w' => ∃ (gf : Nat) (lb : Array Value) (Kp : Nat → Prop), x = .returned (.func (.func gf) #[] lb) ∧
    Hid (∀ args w, (callFunc gf args).run Tryd.prog w = .ok (.enter gf args) w) ∧ Hid (∀ w, (binOp .eql 41 (.func (.func gf) #[] lb) Value.nilFunc).run Tryd.prog w = .ok (.bool false) w) ∧
    Hid (Below w.heap.size w w') ∧ Hid (∀ k, Kp k → k < w0.heap.size ∨ (w.heap.size ≤ k ∧ k < w'.heap.size)) ∧
    Hid (∀ W1, Below w'.heap.size w' W1 → SeqW Fence.wide 19 Tryd.prog gf lb lnArgs id noHand noBlk (linesE d q e t (tabN d q e t)) Kp W1)
def SizeSays10 : Prop := ∀ (d q e : Int) (t : List (List ByteArray)) (A : Option Addr) (n c : Nat) (V : List Value) (w : World), 0 ≤ d → d ≤ 255 → 0 ≤ q → q ≤ 255 → n ≤ 1000 → fldN t ≤ 1000 → bytN t ≤ 1000 → Hid (TabIn w A n V t) → Hid (Sizes t) →
  Calls Tryd.prog 16 #[.agg #[.int .u8 d, .int .u8 q, .int .i64 e], .slice A n c] w fun x w' => x = .returned (.int .i64 (sizN d q e t)) ∧ Below w.heap.size w w'
/-- What holds in the loop: box ab has all lines so far, box nb how many; nothing else of W6 has turned. -/
def WtI (W6 : World) (ab nb : Nat) (d q e : Int) (t : List (List ByteArray)) (pre : List (Nat × ByteArray)) (W : World) (T : Nat → Prop) : Prop :=
  T ab ∧ T nb ∧ (∀ k, T k → k = ab ∨ k = nb) ∧ Touch W6 W (fun k => k = ab ∨ k = nb) ∧ StB W nb 3 #[.int .i64 (pre.length : Int)] ∧ ∃ S : ByteArray, StB W ab 9 #[.string S] ∧ bl S = textN d q e t pre.length
def WtX (c : Code) (pre : List (Nat × ByteArray)) (W : World) (T : Nat → Prop) : Prop := False
theorem wt_touch {W6 W1 W2 : World} {ab nb B : Nat} {T S : Nat → Prop} (hB : W6.heap.size ≤ B) (h3 : Touch W6 W1 (fun k => k = ab ∨ k = nb)) (ht : Touch W1 W2 S) (hS : ∀ k, S k → ¬ T k ∧ B ≤ k) : Touch W6 W2 (fun k => k = ab ∨ k = nb) := by
  refine ⟨ht.os.trans h3.os, ht.tape.trans h3.tape, ht.output.trans h3.output, Nat.le_trans h3.size ht.size, fun k hk hn => ?_⟩
  exact (ht.block k (Nat.lt_of_lt_of_le hk h3.size) (fun hs => by have := (hS k hs).2; omega)).trans (h3.block k hk hn)
theorem wtI_ab (W6 : World) (ab nb : Nat) (d q e : Int) (t : List (List ByteArray)) (B : Nat) (hB : W6.heap.size ≤ B) : AbT B (WtI W6 ab nb d q e t) := fun s W1 W2 T S h hl ht hS => by
  obtain ⟨h1, h2, h3, h4, h5, S', h6, h7⟩ := h
  exact ⟨h1, h2, h3, wt_touch hB h4 ht hS, h5.touch ht (fun hs => (hS _ hs).1 h2), S', h6.touch ht (fun hs => (hS _ hs).1 h1), h7⟩
theorem wtX_ab (B : Nat) (c : Code) : AbT B (WtX c) := fun s W1 W2 T S h _ _ _ => h
/-- A return into box rb, no range begun. -/
theorem ret_box {W : World} {rb : Nat} {v : Bool} (hS : StB W rb 4 #[.bool v]) (u : Bool) : (W.setCell ⟨rb, 0, none⟩ (.bool u)).cell? ⟨rb, 0, none⟩ = some (.bool u) := (hS.set_ 0 (.bool u)).cell 0

theorem end_box {w W : World} {rb D : Nat} (y : Above W) (HRW : Hid (StB W rb 4 #[.bool false])) (HKD : Hid (W.heap[D]? = some (.deferred (some [])))) (HDN : Hid (D ≠ rb)) (HDW : Hid (w.heap.size ≤ D)) (HRB : Hid (w.heap.size ≤ rb)) (HBW : Hid (Below w.heap.size w W)) :
    ((onto W y).setCell ⟨rb, 0, none⟩ (.bool true)).heap[D]? = some (.deferred (some [])) ∧ (((onto W y).setCell ⟨rb, 0, none⟩ (.bool true)).putObj D (.deferred none)).cell? ⟨rb, 0, none⟩ = some (.bool true) ∧
    Below w.heap.size w (((onto W y).setCell ⟨rb, 0, none⟩ (.bool true)).putObj D (.deferred none)) := by
  have T1 := (Touch.of_below (onto_below W y) (fun k => k = rb)).then_set (p := ⟨rb, 0, none⟩) (.inl rfl) (.bool true)
  have hK' := (T1.block D (Array.getElem?_eq_some_iff.1 HKD.out).1 HDN.out).trans HKD.out
  have s8 := (HRW.out.below (onto_below W y)).set_ 0 (.bool true)
  have s9 := s8.touch (Touch.putObj _ D (.deferred none)) (fun e => HDN.out e.symm)
  have hb1 := HBW.out.trans (T1.below HBW.out.size (fun k hk => by have : k = rb := hk; have := HRB.out; omega))
  have hb2 := hb1.trans ((Touch.putObj ((onto W y).setCell ⟨rb, 0, none⟩ (.bool true)) D (.deferred none)).below hb1.size (fun k hk => by have : k = D := hk; have := HDW.out; omega))
  exact ⟨hK', s9.cell 0, hb2⟩

set_option maxRecDepth 100000 in
set_option maxHeartbeats 3200000 in
theorem writeTables_walk (hTable : Hid TableSays) (hLines : Hid LinesSays) (hSize : Hid SizeSays10) (hAw : Hid AwakeSays10) (d q e : Int) (A : Option Addr) (n c : Nat) (V : List Value) (t : List (List ByteArray)) (w : World) (hd : (Lit.int .u8 d).wf = true) (hq : (Lit.int .u8 q).wf = true) (_ : (Lit.int .i64 e).wf = true) (hnc : n ≤ c) (hcm : c ≤ maxLen) (hin : TabIn w A n V t) (hok : Sizes t) :
    Calls Tryd.prog 4 #[.agg #[.int .u8 d, .int .u8 q, .int .i64 e], .slice A n c] w fun x w' => x = .returned (.bool true) ∧ Below w.heap.size w w' := by
  obtain ⟨d0, d1⟩ := bounds_u8 hd
  obtain ⟨q0, q1⟩ := bounds_u8 hq
  have HAW := Lib.hid (show ∀ w : World, Calls Tryd.prog 8 #[] w fun x w' => x = .returned (.bool true) ∧ Below w.heap.size w w' from fun w => hAw.out w)
  have HLN := Lib.hid hin.len
  have hn9 : n ≤ 9223372036854775807 := by unfold maxLen at hcm; omega
  obtain ⟨v, hv⟩ : ∃ v, rightB d q e = v := ⟨_, rfl⟩
  have HR := Lib.hid (show rightR d q e = v by rw [right_eq d q e d0 q0]; exact hv)
  obtain ⟨u, hu⟩ : ∃ u, greatB 20 40 400 t = u := ⟨_, rfl⟩
  have HI := Lib.hid hin
  have HK := Lib.hid hok
  obtain ⟨h, hh⟩ : ∃ h, w.heap.size = h := ⟨_, rfl⟩
  obtain ⟨rb, hrb⟩ : ∃ rb, h + 1 = rb := ⟨_, rfl⟩
  have HH := Lib.hid (And.intro hh hrb)
  obtain ⟨U, hU⟩ : ∃ U, U = (w.alloc (.cells #[.int .u8 d, .int .u8 q, .int .i64 e] 23)).alloc (.cells #[.bool false] 4) := ⟨_, rfl⟩
  have HBU := Lib.hid (show Below w.heap.size w U by rw [hU]; exact up_alloc (up_alloc (Below.refl _ w) _) _)
  have HXU := Lib.hid (show StB U h 23 #[.int .u8 d, .int .u8 q, .int .i64 e] by rw [hU]; exact (StB.made _ hh.symm _ _).alloc _)
  have HRU := Lib.hid (show StB U rb 4 #[.bool false] by rw [hU]; exact StB.made _ (by simp; omega) _ _)
  have HG := Lib.hid (show Calls Tryd.prog 7 #[.slice A n c, .int .i64 20, .int .i64 40, .int .i64 400] U fun x w' => x = .returned (.bool u) ∧ Below U.heap.size U w' from
    great_is A n c V t 20 40 400 (by omega) (by omega) (by omega) u (Lib.hid hu) U (Lib.hid (HI.out.below HBU.out)) HK hn9)
  clear hd hq hin hok hnc hAw
  cases u
  · have hg := great_no hu
    have hn20 : n ≤ 20 := by have := HLN.out; omega
    have HGR := Lib.hid hg
    clear hu hg
    have hln := Lib.hid (fun (W : World) (hb : Below U.heap.size U W) => hTable.out d q e t A n c V W d0 d1 q0 q1 (by omega) (by have := HGR.out; omega) (by have := HGR.out; omega) (Lib.hid (HI.out.below (HBU.out.trans (hb.mono HBU.out.size)))) HK)
    have hls := Lib.hid (fun (W : World) (hb : Below U.heap.size U W) => hLines.out d q e t A n c V w W d0 d1 q0 q1 (by omega) (by have := HGR.out; omega) (by have := HGR.out; omega) HI HK (Lib.hid (HBU.out.trans (hb.mono HBU.out.size))))
    obtain ⟨M, hM⟩ : ∃ M, tabE d q e t = M := ⟨_, rfl⟩
    obtain ⟨X, hX⟩ : ∃ X, tabS d q e t = X := ⟨_, rfl⟩
    obtain ⟨N, hN⟩ : ∃ N, tabN d q e t = N := ⟨_, rfl⟩
    rw [hM, hX, hN] at hln
    rw [hN] at hls
    refine (callsIn_wide (n := 20)).1 ?_
    refine callsIn_of_wp_marks Tryd.func4 rfl trivial ?_ rfl
    simp only [Tryd.ntmps4, List.size_toArray, List.length_cons, List.length_nil, Nat.reduceAdd, Nat.reduceSub, Array.replicate_succ, Array.replicate_zero, List.push_toArray, List.append_toArray, List.nil_append, List.cons_append]
    refine wpIn_wide.2 ?_
    go_wp2_with fail
    rw [← hU]
    clear hU hh hrb
    refine HG.out.mono ?_
    rintro x U1 ⟨rfl, hb1⟩
    have hl1 := hln.out U1 hb1
    have HX1 := Lib.hid (HXU.out.below hb1)
    have HR1 := Lib.hid (HRU.out.below hb1)
    obtain ⟨k0, k1, k2, k3⟩ := dia3' HX1.out
    have HBU1 := Lib.hid hb1
    clear hb1 HXU HRU HG
    go_wp2_with (go_at_call 14; with_reducible refine (above hl1).mono ?_; rintro x _ ⟨rfl, y1, rfl⟩)
    obtain ⟨U2, hU2⟩ : ∃ U2, U2 = onto U1 y1 := ⟨_, rfl⟩
    have HBU2 := Lib.hid (show Below U.heap.size U U2 by rw [hU2]; exact HBU1.out.trans ((onto_below U1 y1).mono HBU1.out.size))
    have HX2 := Lib.hid (show StB U2 h 23 #[.int .u8 d, .int .u8 q, .int .i64 e] by rw [hU2]; exact HX1.out.below (onto_below U1 y1))
    have HR2 := Lib.hid (show StB U2 rb 4 #[.bool false] by rw [hU2]; exact HR1.out.below (onto_below U1 y1))
    rw [← hU2]
    clear hU2 hl1 k0 k1 k2 k3 HX1 HR1 HBU1
    obtain ⟨k0, k1, k2, k3⟩ := dia3' HX2.out
    go_wp2_with fail
    refine (hls.out U2 HBU2.out).mono ?_
    rintro x U3 ⟨gf, lb, Kp, rfl, HEN, HNIL, HB3, HKP, HSEQ⟩
    have hnil := HNIL.out
    have HX3 := Lib.hid (HX2.out.below HB3.out)
    have HR3 := Lib.hid (HR2.out.below HB3.out)
    have HBU3 := Lib.hid (HBU2.out.trans (HB3.out.mono HBU2.out.size))
    clear k0 k1 k2 k3
    go_wp2_with fail
    obtain ⟨W6, hW6⟩ : ∃ W6, (U3.alloc (.cells #[.string ⟨#[]⟩] 9)).alloc (.cells #[.int .i64 0] 3) = W6 := ⟨_, rfl⟩
    obtain ⟨ab, hab⟩ : ∃ ab, U3.heap.size = ab := ⟨_, rfl⟩
    obtain ⟨nb, hnb⟩ : ∃ nb, ab + 1 = nb := ⟨_, rfl⟩
    rw [hW6, hab, hnb]
    have hb36 : Below U3.heap.size U3 W6 := by rw [← hW6]; exact up_alloc (up_alloc (Below.refl _ _) _) _
    have hA6 : StB W6 ab 9 #[.string ⟨#[]⟩] := by rw [← hW6]; exact (StB.made _ hab.symm _ _).alloc _
    have hN6 : StB W6 nb 3 #[.int .i64 0] := by rw [← hW6]; exact StB.made _ (by simp; omega) _ _
    have hz6 : W6.heap.size = nb + 1 := by rw [← hW6]; simp; omega
    have HX6 := Lib.hid (HX3.out.below hb36)
    have HR6 := Lib.hid (HR3.out.below hb36)
    have HBU6 := Lib.hid (HBU3.out.trans (hb36.mono HBU3.out.size))
    have HB6 := Lib.hid (HBU.out.trans (HBU6.out.mono HBU.out.size))
    have hh3 : h < ab := by have := HX3.out.lt; omega
    have hr3 : rb < ab := by have := HR3.out.lt; omega
    have HSZ := Lib.hid (show w.heap.size ≤ U2.heap.size from (HBU.out.trans (HBU2.out.mono HBU.out.size)).size)
    have HRBW := Lib.hid (show w.heap.size ≤ rb by have := HH.out; omega)
    have start : WtI W6 ab nb d q e t [] W6 (fun k => k = ab ∨ k = nb) := ⟨.inl rfl, .inr rfl, (fun k hk => hk), Touch.refl _ _, hN6, ⟨#[]⟩, hA6, rfl⟩
    have lies : Lies W6 (fun k => k = ab ∨ k = nb) := fun k hk => by rcases hk with rfl | rfl <;> omega
    have hkp : ∀ k, Kp k → ¬ (k = ab ∨ k = nb) ∧ k < W6.heap.size := fun k hk => by
      have h1 := hb36.size
      have h2 := HB3.out.size
      rcases HKP.out k hk with h3 | ⟨_, h3⟩
      · have := HSZ.out; omega
      · omega
    clear hW6 hnil HX3 HR3 HX2 HR2
    refine (wpIn_wide (n := 20)).1 ?_
    refine wpIn_range_W rfl (by simp [Fence.wide]) (gf := gf) (lb := lb) rfl trivial HEN.out (encs := lnArgs) (gh := id) (hand := noHand) (blk := noBlk) (evs := linesE d q e t N) (Kp := Kp) (fun W1 hb => HSEQ.out W1 (hb36.trans (hb.mono hb36.size))) noHand_keep (fun _ => rfl)
      (WtI W6 ab nb d q e t) WtX (wtI_ab _ _ _ _ _ _ _ _ (Nat.le_refl _)) (fun c => wtX_ab _ c) _ start lies hkp
      (fun y V => { tmps := #[.agg #[.int .u8 d, .int .u8 q, .int .i64 e], .slice A n c, .pointer (some ⟨h, 0, none⟩), undef, .pointer (some ⟨rb, 0, none⟩), .string X, .int .i64 (N : Int), .int .i64 M, .func (.func gf) #[] lb, .pointer (some ⟨ab, 0, none⟩), .pointer (some ⟨nb, 0, none⟩), .int .i64 (y.1 : Int), .string y.2, undef, undef, .slice A n c, .bool false, undef, .tuple #[.string X, .int .i64 (N : Int), .int .i64 M], .agg #[.int .u8 d, .int .u8 q, .int .i64 e], .slice A n c, .tuple #[.string X, .int .i64 (N : Int), .int .i64 M], .string X, .int .i64 (N : Int), .int .i64 M, .agg #[.int .u8 d, .int .u8 q, .int .i64 e], .slice A n c, .func (.func gf) #[] lb, .func (.func gf) #[] lb, .bool false, .func (.func gf) #[] lb, .int .i64 (y.1 : Int), .string y.2, undef, undef, undef, undef, undef, undef, undef, undef, undef, undef, undef, undef, undef, undef, undef, undef, undef, undef, undef, undef, undef, undef, undef, undef, undef, undef, undef, undef, undef, undef, undef, undef, undef, undef, undef, undef, undef, undef, undef, undef, undef, undef, undef, undef, undef, undef, undef, undef, undef, undef, undef, undef, undef, undef, undef, undef, undef, undef, undef, undef, undef, undef, undef, undef, undef, undef, undef, undef, undef, undef, undef, undef, undef, undef, undef, undef, undef, undef, undef, undef, undef, undef, undef, undef, undef, undef, undef, undef, undef, undef], defers := [] }) (fun y V => V) (fun y V => Below.refl _ V) ?assign ?body ?done ?stop
    case assign =>
      rintro l ⟨i, s⟩ W K hK
      dsimp only [lnArgs] at hK ⊢
      gi_wp2
      exact hK
    case body =>
      rintro l pre ⟨i, s⟩ V2 W T ⟨hTa, hTn, hT, ht6, hN1, S, hS, hSb⟩ hlT hpre hhand hblk hge htouch hl
      obtain ⟨hlt, hx⟩ := linesE_at hpre
      simp only [id] at hx
      obtain ⟨p, hp⟩ : ∃ p, pre.length = p := ⟨_, rfl⟩
      rw [hp] at hlt hx hN1 hSb
      obtain ⟨rfl, rfl⟩ := Prod.mk.inj hx
      have hvF : rightB d q e = true ∧ N = frontN t := by
        unfold tabN at hN
        by_cases hr : rightB d q e = true
        · rw [if_pos hr] at hN; exact ⟨hr, hN.symm⟩
        · rw [if_neg hr] at hN; omega
      have hfl := frontN_le t
      obtain ⟨r, hr⟩ : ∃ r, t[i]? = some r := ⟨_, List.getElem?_eq_getElem (by omega)⟩
      have hgd : t.getD i [] = r := by rw [List.getD_eq_getElem?_getD, hr]; rfl
      rw [hgd]
      obtain ⟨O, hO⟩ : ∃ O, lineO d q e (decide (i = 0)) r = O := ⟨_, rfl⟩
      have hSO : bl (S ++ O) = textN d q e t (i + 1) := by
        rw [bl_append, hSb, ← hO, bl_lineO d0 d1 q0 q1]; exact (rowsL_at hr).symm
      have hsz : (S ++ O).size ≤ 10000 := by
        have h1 := rowsL_len d q e (t.take (i + 1)) true
        have h2 := fldN_take_le t (i + 1)
        have h3 := bytN_take_le t (i + 1)
        have h4 : (t.take (i + 1)).length ≤ t.length := by rw [List.length_take]; omega
        have h5 := HGR.out
        rw [← bl_length, hSO]
        unfold textN
        omega
      have hs1 : S.size ≤ 10000 := by rw [ByteArray.size_append] at hsz; omega
      have hs2 : O.size ≤ 10000 := by rw [ByteArray.size_append] at hsz; omega
      have HSO := Lib.hid hSO
      have hi20 : i ≤ 1000 := by have := HLN.out; omega
      have hpl : ((pre ++ [id (i, O)]).length : Int) = (i : Int) + 1 := by simp; omega
      have HPL := Lib.hid hpl
      have HPL2 := Lib.hid (show (pre ++ [id (i, O)]).length = i + 1 by simp; omega)
      rw [hO]
      have k0 : W.cell? ⟨nb, 0, none⟩ = some (.int .i64 (i : Int)) := hN1.cell 0
      have k1 := hN1.lt
      have k2 := hN1.free 0
      have k3 : W.cell? ⟨ab, 0, none⟩ = some (.string S) := hS.cell 0
      have k4 := hS.lt
      have k5 := hS.free 0
      have hne : ((i : Int) != (i : Int)) = false := by simp
      have n1 : ¬ ab = nb := by omega
      have n2 : ¬ nb = ab := by omega
      have hnb1 : nb = ab + 1 := hnb.symm
      have TB := Lib.hid (show Touch W ((W.setCell ⟨ab, 0, none⟩ (.string (S ++ O))).setCell ⟨nb, 0, none⟩ (.int .i64 ((i : Int) + 1))) (fun k => T k ∨ noBlk (i, O) k) from
        ((Touch.refl W _).then_set (p := ⟨ab, 0, none⟩) (.inl (.inl hTa)) _).then_set (p := ⟨nb, 0, none⟩) (.inl (.inl hTn)) _)
      have T6 := Lib.hid (show Touch W6 ((W.setCell ⟨ab, 0, none⟩ (.string (S ++ O))).setCell ⟨nb, 0, none⟩ (.int .i64 ((i : Int) + 1))) (fun k => k = ab ∨ k = nb) from
        ht6.trans (fun j hj => by
          rcases hj with hj | hj
          · exact .inl (hT j hj)
          · exact hj.elim) TB.out)
      have sN := Lib.hid (show StB ((W.setCell ⟨ab, 0, none⟩ (.string (S ++ O))).setCell ⟨nb, 0, none⟩ (.int .i64 ((i : Int) + 1))) nb 3 #[.int .i64 ((pre ++ [id (i, O)]).length : Int)] by
        rw [HPL.out]; exact (hN1.far (by show nb ≠ ab; omega) _).set_ 0 _)
      have sA := Lib.hid (show StB ((W.setCell ⟨ab, 0, none⟩ (.string (S ++ O))).setCell ⟨nb, 0, none⟩ (.int .i64 ((i : Int) + 1))) ab 9 #[.string (S ++ O)] from (hS.set_ 0 _).far (by show ab ≠ nb; omega) _)
      have HFIN := Lib.hid (show LeftW W T (noBlk (i, O)) (WtI W6 ab nb d q e t) (pre ++ [id (i, O)]) ((W.setCell ⟨ab, 0, none⟩ (.string (S ++ O))).setCell ⟨nb, 0, none⟩ (.int .i64 ((i : Int) + 1))) from
        ⟨T, (hlT.later htouch.size).later TB.out.size, (fun j hj => .inl (.inl hj)), TB.out, hTa, hTn, hT, T6.out, sN.out, S ++ O, sA.out, by rw [HPL2.out]; exact HSO.out⟩)
      clear hSO hsz hpl hO hgd hr hfl hvF hx hN hlt hp hN1 hS hSb hT ht6 hTa hTn hlT hpre hhand hblk hge htouch hl TB T6 sN sA hnb hnb1
      gi_wp2
      exact HFIN.out
    case done =>
      rintro D W T hD ⟨hTa, hTn, hT, ht6, hN1, S, hS, hSb⟩ hlT hTD hK
      rw [linesE_len] at hN1 hSb
      have HXW := Lib.hid (show StB W h 23 #[.int .u8 d, .int .u8 q, .int .i64 e] from HX6.out.touch ht6 (fun e => by rcases e with e | e <;> omega))
      have HRW := Lib.hid (show StB W rb 4 #[.bool false] from HR6.out.touch ht6 (fun e => by rcases e with e | e <;> omega))
      have HBW := Lib.hid (HB6.out.trans (ht6.below HB6.out.size (fun k hk => by have := HRBW.out; rcases hk with hk | hk <;> omega)))
      have HKD := Lib.hid hK
      have HDN := Lib.hid (show D ≠ rb by omega)
      have HDW := Lib.hid (show w.heap.size ≤ D by have := HB6.out.size; omega)
      have HTW := Lib.hid (HI.out.below HBW.out)
      have HNW := Lib.hid hN1
      have HSW := Lib.hid hS
      obtain ⟨k0, k1, k2, k3⟩ := dia3' HXW.out
      have j0 : W.cell? ⟨nb, 0, none⟩ = some (.int .i64 (N : Int)) := hN1.cell 0
      have j1 := hN1.lt
      have j2 : W.cell? ⟨ab, 0, none⟩ = some (.string S) := hS.cell 0
      have j3 := hS.lt
      have r0 : W.cell? ⟨rb, 0, none⟩ = some (.bool false) := HRW.out.cell 0
      have r1 := HRW.out.free 0
      have r2 := HRW.out.lt
      obtain ⟨Z, hZ⟩ : ∃ Z, sizN d q e t = Z := ⟨_, rfl⟩
      have hsz := fun (y : Above W) => hSize.out d q e t A n c V (onto W y) d0 d1 q0 q1 (by omega) (by have := HGR.out; omega) (by have := HGR.out; omega) (Lib.hid (HTW.out.below (onto_below W y))) HK
      rw [hZ] at hsz
      cases v
      · have hM1 : M = 1 := by rw [← hM]; unfold tabE; rw [hv]; rfl
        have hX1 : X = ⟨#[]⟩ := by rw [← hX]; unfold tabS; rw [hM, hM1]; rfl
        have hN0 : N = 0 := by rw [← hN]; unfold tabN; rw [hv]; rfl
        have hZ0 : Z = 0 := by rw [← hZ]; unfold sizN; rw [hv]; rfl
        subst hM1 hX1 hN0 hZ0
        clear hM hX hN hZ hv hTa hTn hT ht6 hN1 hS hSb hlT hTD hK hD
        go_wp2_with (first
      | (go_at_call 11; with_reducible refine (above (ref_any d q e d0 d1 q0 q1 _)).mono ?_; rintro x _ ⟨rfl, z1, rfl⟩)
      | (go_at_call 10; with_reducible refine (above (refRight_is d q e _ HR _)).mono ?_; rintro x _ ⟨rfl, z2, rfl⟩)
      | (go_at_call 16; with_reducible refine (above (hsz _)).mono ?_; rintro x _ ⟨rfl, z3, rfl⟩)
      | (go_at_call 8; with_reducible refine (above (HAW.out _)).mono ?_; rintro x _ ⟨rfl, z4, rfl⟩))
        all_goals
          obtain ⟨hK', y0, hB⟩ := end_box (w := w) (((z1.up z2).up z3).up z4) HRW HKD HDN HDW HRBW HBW
          refine ⟨by simp, .inl ⟨_, _, rfl, run_takeDeferred hK', ?_⟩⟩
          exact ⟨.bool true, by simp [results, Tryd.results4, go_sem, y0], rfl, hB⟩
      · have hNF : frontN t = N := by rw [← hN]; unfold tabN; rw [hv]; rfl
        have HNF := Lib.hid hNF
        obtain ⟨TX, hTX⟩ : ∃ TX, textO d q e t = TX := ⟨_, rfl⟩
        have HTX := Lib.hid (show bl TX = textN d q e t (frontN t) by rw [← hTX]; exact bl_textO d0 d1 q0 q1 e t)
        obtain rfl : S = TX := bl_inj (by rw [hSb, HTX.out, hNF])
        have hZS : Z = S.size := by rw [← hZ]; unfold sizN; rw [hv, if_pos rfl, ← HTX.out, bl_length]
        have hMM : (N < n → ∃ r, t[N]? = some r ∧ mayN r = M ∧ X = ⟨#[]⟩) ∧ (N = n → M = 0 ∧ X = S) := by
          have hl := HLN.out
          unfold tabE at hM
          rw [hv, if_pos rfl, hNF] at hM
          constructor
          · intro hlt
            obtain ⟨r, hr⟩ : ∃ r, t[N]? = some r := ⟨_, List.getElem?_eq_getElem (by omega)⟩
            rw [hr] at hM
            have hM' : mayN r = M := hM
            refine ⟨r, hr, hM', ?_⟩
            have hbad := frontN_bad t r (by rw [hNF]; exact hr)
            rw [← hX]; unfold tabS tabE
            rw [hv, if_pos rfl, hNF, hr]
            exact if_neg hbad
          · intro heq
            have hr : t[N]? = none := List.getElem?_eq_none (by omega)
            rw [hr] at hM
            refine ⟨hM.symm, ?_⟩
            rw [← hX]; unfold tabS tabE
            rw [hv, if_pos rfl, hNF, hr]
            exact hTX
        have HMM := Lib.hid hMM
        subst hZS
        clear hM hX hN hZ hv hTa hTn hT ht6 hN1 hS hSb hlT hTD hK hD hTX hNF hMM
        go_wp2_with (first
          | (go_at_call 11; with_reducible refine (above (ref_any d q e d0 d1 q0 q1 _)).mono ?_; rintro x _ ⟨rfl, z1, rfl⟩)
          | (go_at_call 10; with_reducible refine (above (refRight_is d q e _ HR _)).mono ?_; rintro x _ ⟨rfl, z2, rfl⟩))
        obtain ⟨W7, hW7⟩ : ∃ W7, W7 = onto W (z1.up z2) := ⟨_, rfl⟩
        have hb7 : Below W.heap.size W W7 := by rw [hW7]; exact onto_below W _
        rw [← hW7]
        have HB7 := Lib.hid hb7
        have HT7 := Lib.hid (HTW.out.below hb7)
        clear hW7 hb7 k0 k1 k2 j0 j2 r0 r1 r2 j1 j3 k3 hsz
        have q0' : ∀ z, (onto W7 z).cell? ⟨h, 0, none⟩ = some (.int .u8 d) := fun z => mem_cell (HB7.out.trans ((onto_below W7 z).mono HB7.out.size)) (HXW.out.cell 0)
        have q1' : ∀ z, (onto W7 z).cell? ⟨h, 1, none⟩ = some (.int .u8 q) := fun z => mem_cell (HB7.out.trans ((onto_below W7 z).mono HB7.out.size)) (HXW.out.cell 1)
        have q2' : ∀ z, (onto W7 z).cell? ⟨h, 2, none⟩ = some (.int .i64 e) := fun z => mem_cell (HB7.out.trans ((onto_below W7 z).mono HB7.out.size)) (HXW.out.cell 2)
        have hfr := fun (z : Above W7) => calls_onto (front_is A n c V t hn9 N HNF (onto W7 z) (Lib.hid (HT7.out.below (onto_below W7 z))) HK)
        have hrf := fun (z : Above W7) => calls_onto (ref_any d q e d0 d1 q0 q1 (onto W7 z))
        have htx := fun (z : Above W7) => calls_onto (text_any d q e d0 d1 q0 q1 A n c V t (by omega) (by have := HGR.out; omega) (by have := HGR.out; omega) (onto W7 z) (Lib.hid (HT7.out.below (onto_below W7 z))) HK S HTX)
        refine wp_region_onto (by kernel_rfl) (by kernel_rfl) ?_
        repeat (go_big_quiet_step (first | (go_at_call 17; with_reducible exact hfr _) | (go_at_call 11; with_reducible exact hrf _) | (go_at_call 18; with_reducible exact htx _)))
        refine wpQuiet_nil ?_
        intro _ hw'
        obtain ⟨zz, hw''⟩ := hw'
        subst hw''
        obtain ⟨W8, hW8⟩ : ∃ W8, W8 = onto W7 zz := ⟨_, rfl⟩
        have hb8 : Below W.heap.size W W8 := by rw [hW8]; exact HB7.out.trans ((onto_below W7 zz).mono HB7.out.size)
        rw [← hW8]
        have HX8 := Lib.hid (HXW.out.below hb8)
        have HR8 := Lib.hid (HRW.out.below hb8)
        have HK8 := Lib.hid (show W8.heap[D]? = some (.deferred (some [])) from (hb8.block D (Array.getElem?_eq_some_iff.1 HKD.out).1).trans HKD.out)
        have HB8 := Lib.hid (HBW.out.trans (hb8.mono HBW.out.size))
        have HT8 := Lib.hid (HTW.out.below hb8)
        have HN8 := HNW.out.below hb8
        have HS8 := HSW.out.below hb8
        obtain ⟨k0, k1, k2, k3⟩ := dia3' HX8.out
        have j0 : W8.cell? ⟨nb, 0, none⟩ = some (.int .i64 (N : Int)) := HN8.cell 0
        have j1 := HN8.lt
        have j2 : W8.cell? ⟨ab, 0, none⟩ = some (.string S) := HS8.cell 0
        have j3 := HS8.lt
        have r0 : W8.cell? ⟨rb, 0, none⟩ = some (.bool false) := HR8.out.cell 0
        have r1 := HR8.out.free 0
        have r2 := HR8.out.lt
        have hsz := hSize.out d q e t A n c V W8 d0 d1 q0 q1 (by omega) (by have := HGR.out; omega) (by have := HGR.out; omega) HT8 HK
        rw [show sizN d q e t = S.size by unfold sizN; rw [if_pos (by have := HR.out; rw [right_eq d q e d0 q0] at this; exact this), ← HTX.out, bl_length]] at hsz
        have e1 : (S.toList == S.toList) = true := by simp
        have e2 : (S.toList != S.toList) = false := by simp
        have e3 : ((N : Int) != (N : Int)) = false := by simp
        have e4 : ((S.size : Int) != (S.size : Int)) = false := by simp
        clear hW8 hb8 HN8 HS8 hfr hrf htx q0' q1' q2'
        by_cases hlt : N < n
        · obtain ⟨r, hr, hmr, rfl⟩ := HMM.out.1 hlt
          obtain ⟨a, D2, b, rfl, hca, hD2⟩ := HT8.out.row hr
          obtain ⟨m, hm⟩ : ∃ m, m = r.length := ⟨_, rfl⟩
          have hm9 : m ≤ 9223372036854775807 := by have := fldN_mem (List.mem_of_getElem? hr); have := HGR.out; omega
          rw [← hm] at hca hD2
          have HMR := Lib.hid hmr
          have HSZR := Lib.hid (HK.out r (List.mem_of_getElem? hr)).2
          have hmay := fun (y : Above W8) => may_is D2 m b r hm9 M HMR (onto W8 y) (Lib.hid (hD2.below (onto_below W8 y))) HSZR
          have hca' : ∀ y, (onto W8 y).cell? (a.add N) = some (.slice D2 m b) := fun y => mem_cell (onto_below W8 y) hca
          have hlt' : (N : Int) < (n : Int) := by omega
          have e5 : (M == M) = true := by simp
          clear hr hmr hm hD2
          go_wp2_with (first
            | (go_at_call 16; with_reducible refine (above hsz).mono ?_; rintro x _ ⟨rfl, z3, rfl⟩)
            | (go_at_call 12; with_reducible refine (above (hmay _)).mono ?_; rintro x _ ⟨rfl, z5, rfl⟩)
            | (go_at_call 8; with_reducible refine (above (HAW.out _)).mono ?_; rintro x _ ⟨rfl, z4, rfl⟩))
          all_goals
            obtain ⟨hK', y0, hB⟩ := end_box (w := w) ((z3.up z5).up z4) HR8 HK8 HDN HDW HRBW HB8
            refine ⟨by simp, .inl ⟨_, _, rfl, run_takeDeferred hK', ?_⟩⟩
            exact ⟨.bool true, by simp [results, Tryd.results4, go_sem, y0], rfl, hB⟩
        · obtain ⟨rfl, rfl⟩ := HMM.out.2 (by have := frontN_le t; rw [HNF.out, HLN.out] at this; omega)
          have hlt' : ¬ ((N : Int) < (n : Int)) := by omega
          go_wp2_with (first
            | (go_at_call 16; with_reducible refine (above hsz).mono ?_; rintro x _ ⟨rfl, z3, rfl⟩)
            | (go_at_call 8; with_reducible refine (above (HAW.out _)).mono ?_; rintro x _ ⟨rfl, z4, rfl⟩))
          all_goals
            obtain ⟨hK', y0, hB⟩ := end_box (w := w) (z3.up z4) HR8 HK8 HDN HDW HRBW HB8
            refine ⟨by simp, .inl ⟨_, _, rfl, run_takeDeferred hK', ?_⟩⟩
            exact ⟨.bool true, by simp [results, Tryd.results4, go_sem, y0], rfl, hB⟩
    case stop =>
      rintro D c pre W T hD hpre hx hlT hTD hK
      exact hx.elim
  · go_enter Tryd.func4, Tryd.ntmps4
    go_wp2_with fail
    rw [← hU]
    clear hU hh hrb
    refine HG.out.mono ?_
    rintro x U1 ⟨rfl, hb1⟩
    have HB1 := Lib.hid (HBU.out.trans (hb1.mono HBU.out.size))
    have HR1 := Lib.hid (HRU.out.below hb1)
    have HRBW := Lib.hid (show w.heap.size ≤ rb by have := HH.out; omega)
    have r0 : U1.cell? ⟨rb, 0, none⟩ = some (.bool false) := HR1.out.cell 0
    have r1 := HR1.out.free 0
    have r2 := HR1.out.lt
    clear hb1
    go_wp2_with (go_at_call 8; with_reducible refine (above (HAW.out _)).mono ?_; rintro x _ ⟨rfl, y4, rfl⟩)
    have y0 := ((HR1.out.below (onto_below U1 y4)).set_ 0 (.bool true)).cell 0
    have T1 := (Touch.of_below (onto_below U1 y4) (fun k => k = rb)).then_set (p := ⟨rb, 0, none⟩) (.inl rfl) (.bool true)
    exact bodyPost_ret (v := .bool true) (by simp [results, Tryd.results4, go_sem, y0]) rfl ⟨rfl, HB1.out.trans (T1.below HB1.out.size (fun k hk => by have : k = rb := hk; have := HRBW.out; omega))⟩
end Go.Proofs.YtigoonokiihdgaaDoor

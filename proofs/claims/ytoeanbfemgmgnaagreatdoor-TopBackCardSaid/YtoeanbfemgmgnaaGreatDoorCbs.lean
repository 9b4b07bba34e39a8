/- Layer 3 as layer 12 calls it: the program's stripper: New, Feed, Close. -/
import Derived.Test.YtoeanbfemgmgnaaGreatDoorZn
import Derived.Test.YtoeanbfemgmgnaaGreatDoorZp
import Derived.LoopTactic
import Derived.Lib.SlBytesConst
import Derived.WalkSpells
namespace Go.Proofs.YtoeanbfemgmgnaaGreatDoor
open Go.ChangeShapes Go.WideShapes Go.ChangeAt Go.RowKit
set_option linter.unusedVariables false

def bomCells (t : List Int) : Array Value := #[.int .i64 (bomStage t), .int .i64 (bomHeld t), .bool (bomHad t)]

theorem bomNew_any (w : World) : Calls Tryz.prog 60 #[] w fun e w' => e = .returned (.pointer (some ⟨w.heap.size, 0, none⟩)) ∧ w.alloc (.cells (bomCells []) 123) = w' := by
  go_enter Tryz.func60, Tryz.ntmps60
  go_wp2_with fail
  go_ret
  exact ⟨rfl, rfl⟩

theorem bom_take_more {l m : List Int} {k : Nat} {x : Int} (h : l.take k = m.take k) (h1 : l[k]? = some x) (h2 : m[k]? = some x) : l.take (k + 1) = m.take (k + 1) := by
  rw [List.take_add_one, List.take_add_one, h, h1, h2]

set_option maxHeartbeats 1600000 in
theorem bomCommon_any (t : ByteArray) (A : Option Addr) (n c : Nat) (l : List Int) (w : World) (hin : SlIn w A n (u8s l)) (ht : t.size ≤ maxLen) (hn : n ≤ maxLen) :
    Calls Tryz.prog 80 #[.string t, .slice A n c] w fun e w' => e = .returned (.int .i64 (cpl (bl t) l)) ∧ Below w.heap.size w w' := by
  have ht' : t.size ≤ 9223372036854775807 := ht
  have hn' : n ≤ 9223372036854775807 := hn
  have hl := hin.len8
  have HL := Lib.hid hl
  have HIN := Lib.hid hin
  clear hl hin
  go_enter Tryz.func80, Tryz.ntmps80
  go_wp2_with fail
  go_loopw [5] (fun i wr => ∃ k : Nat, k ≤ t.size ∧ k ≤ n ∧ i = .int .i64 k ∧ Hid ((bl t).take k = l.take k) ∧ ∃ y, wr = onto w y) (fun i _ => n - (intOf i).toNat)
  case atStart => exact ⟨0, by omega, by omega, rfl, Lib.hid rfl, onto_self w⟩
  case round =>
    obtain ⟨k, hk1, hk2, rfl, HK, y, rfl⟩ := hrel
    by_cases hlt : k < t.size
    · have d1 : decide ((k : Int) < t.size) = true := decide_eq_true (by omega)
      have d1' : decide (k < t.size) = true := decide_eq_true (by omega)
      by_cases hln : k < n
      · have d2 : decide ((k : Int) < n) = true := decide_eq_true (by omega)
        have d2' : decide (k < n) = true := decide_eq_true (by omega)
        obtain ⟨x, hx⟩ : ∃ x, l[k]? = some x := ⟨_, List.getElem?_eq_getElem (by rw [HL.out]; exact hln)⟩
        obtain ⟨a, rfl, hc⟩ := HIN.out.at_ (u8s_get hx)
        have hc' : ∀ z : Above w, (onto w z).cell? (a.add k) = some (.int .u8 x) := fun z => ((onto_below w z).cell (lt_of_cell hc)).trans hc
        have HX := Lib.hid hx
        clear hx hc
        by_cases he : ((t[k].toNat : Nat) : Int) = x
        · have HT := Lib.hid (bom_take_more HK.out (bl_at t k hlt) (by rw [HX.out, he]))
          have heq : (((t[k].toNat : Nat) : Int) == x) = true := by simp [he]
          clear he HK HX
          go_wp2_with fail
          refine wp_region_onto (by kernel_rfl) (by kernel_rfl) ?_
          repeat (go_big_quiet_step (fail))
          refine wpQuiet_nil ?_
          intro _ hw'
          obtain ⟨zz, hw''⟩ := hw'
          subst hw''
          go_wp2_with fail
          go_roundw
          case rel => exact ⟨k + 1, by omega, by omega, by go_num, HT, _, rfl⟩
          case measure => simp [intOf]; omega
        · have ht2 := cpl_is (bl t) l k (by rw [bl_length]; omega) (by rw [HL.out]; omega) HK.out (fun _ _ => by rw [bl_at t k hlt, HX.out]; exact fun e => he (by injection e))
          have HT := Lib.hid ht2
          have heq : (((t[k].toNat : Nat) : Int) == x) = false := by simp [he]
          clear he HK HX ht2
          go_wp2_with fail
          refine wp_region_onto (by kernel_rfl) (by kernel_rfl) ?_
          repeat (go_big_quiet_step (fail))
          refine wpQuiet_nil ?_
          intro _ hw'
          obtain ⟨zz, hw''⟩ := hw'
          subst hw''
          go_wp2_with fail
          go_ret
          rw [HT.out]
          exact ⟨rfl, (by (repeat (first | exact Below.refl _ _ | refine up_alloc ?_ _ | refine up_onto ?_ _)))⟩
      · have hkn : k = n := by omega
        have ht2 := cpl_is (bl t) l k (by rw [bl_length]; omega) (by rw [HL.out]; omega) HK.out (fun _ h => by rw [HL.out] at h; omega)
        have HT := Lib.hid ht2
        have d2 : decide ((k : Int) < n) = false := decide_eq_false (by omega)
        have d2' : decide (k < n) = false := decide_eq_false (by omega)
        clear hkn ht2 HK
        go_wp2_with fail
        refine wp_region_onto (by kernel_rfl) (by kernel_rfl) ?_
        repeat (go_big_quiet_step (fail))
        refine wpQuiet_nil ?_
        intro _ hw'
        obtain ⟨zz, hw''⟩ := hw'
        subst hw''
        go_wp2_with fail
        go_ret
        rw [HT.out]
        exact ⟨rfl, (by (repeat (first | exact Below.refl _ _ | refine up_alloc ?_ _ | refine up_onto ?_ _)))⟩
    · have hkt : k = t.size := by omega
      have ht2 := cpl_is (bl t) l k (by rw [bl_length]; omega) (by rw [HL.out]; omega) HK.out (fun h _ => by rw [bl_length] at h; omega)
      have HT := Lib.hid ht2
      have d1 : decide ((k : Int) < t.size) = false := decide_eq_false (by omega)
      have d1' : decide (k < t.size) = false := decide_eq_false (by omega)
      clear hkt ht2 HK
      go_wp2_with fail
      refine wp_region_onto (by kernel_rfl) (by kernel_rfl) ?_
      repeat (go_big_quiet_step (fail))
      refine wpQuiet_nil ?_
      intro _ hw'
      obtain ⟨zz, hw''⟩ := hw'
      subst hw''
      go_wp2_with fail
      go_ret
      rw [HT.out]
      exact ⟨rfl, (by (repeat (first | exact Below.refl _ _ | refine up_alloc ?_ _ | refine up_onto ?_ _)))⟩

theorem infoB8 : (Tryz.prog.info? 5).map (fun i => (i.zero, i.size, i.bytes)) = some (some (.int .u8 0), 1, 1) := by kernel_rfl

/-- Where s[k:] begins. -/
def bomCutA (A : Option Addr) (c k : Nat) : Option Addr := if c = k then A else A.map (·.add k)
theorem bomRun_cut8 (A : Option Addr) (n c k : Nat) (hk : k ≤ n) (V : World) :
    (Instr.slice 42 (.slice A n c) (some (.int .i64 (k : Int))) none none).run Tryz.prog V = .ok (.slice (bomCutA A c k) (n - k) (c - k)) V := by
  obtain ⟨i0, hi, hz0, hz1, hz2⟩ := info_parts infoB8
  have hs : ∀ V, Sem.run Tryz.prog (Go.sizeOf 5) V = .ok 1 V := fun V => by simp [Go.sizeOf, typeInfo, hi, hz1]
  have := run_slice_l (P := Tryz.prog) V 42 A n c (by kernel_rfl) .i64 (k : Int) (by omega) (by omega)
  rw [this, show Tryz.prog.elem 42 = 5 from by kernel_rfl, hs]
  simp [Result.andThen, sliced, bomCutA]

/-- A slice of one's own that holds the bytes l. -/
def BomBytes8 (l : List Int) (w : World) (e : Ending) (w' : World) : Prop := ∃ A c, e = .returned (.slice A l.length c) ∧ SlOwn w' w.heap.size 5 A l.length c (u8s l) ∧ Below w.heap.size w w'

set_option maxHeartbeats 800000 in
theorem bomClone_any (A : Option Addr) (n c : Nat) (l : List Int) (w : World) (hin : SlIn w A n (u8s l)) (hn : n ≤ 1000000000) :
    Calls Tryz.prog 64 #[.slice A n c] w (BomBytes8 l w) := by
  have hl := hin.len8
  subst hl
  cases A with
  | none =>
    have q22 : ∀ (w : World) (a : Option Addr) (n c n' c' : Nat), (binOp .eql 42 (.slice a n c) (.slice none n' c')).run Tryz.prog w = .ok (.bool a.isNone) w := fun w a n c n' c' => Lib.run_eql_slice_nil w _ _ a n c n' c' Tryz.underlying42
    have h0 : l = [] := by
      cases l with
      | nil => rfl
      | cons x r => obtain ⟨a, ha, _⟩ := hin.at_ (k := 0) (u := .int .u8 x) rfl; cases ha
    subst h0
    clear hin
    go_enter Tryz.func64, Tryz.ntmps64
    go_wp2_with fail
    go_ret
    exact ⟨none, 0, rfl, SlOwn.nothing _ _ _, Below.refl _ _⟩
  | some a =>
    have q22 : ∀ (w : World) (a : Option Addr) (n c n' c' : Nat), (binOp .eql 42 (.slice a n c) (.slice none n' c')).run Tryz.prog w = .ok (.bool a.isNone) w := fun w a n c n' c' => Lib.run_eql_slice_nil w _ _ a n c n' c' Tryz.underlying42
    obtain ⟨i0, hi, hz0, hz1, hz2⟩ := info_parts infoB8
    have HIN := Lib.hid hin
    clear hin
    have Hi := Lib.hid hi
    have Hz0 := Lib.hid hz0
    have Hz1 := Lib.hid hz1
    have Hz2 := Lib.hid hz2
    clear hi hz0 hz1 hz2
    go_enter Tryz.func64, Tryz.ntmps64
    go_wp2_with (at_builtin; refine wpList_append_sl _ rfl (.tmp 5) (.tmp 6) 42 rfl 5 i0 (.int .u8 0) 1 Tryz.underlying42 Hi.out Hz0.out Hz1.out Hz2.out rfl w.heap.size (some ⟨w.heap.size, 0, none⟩) 0 0 [] rfl (SlOwn.made w w.heap.size (Nat.le_refl _) 5 [] (Nat.zero_le _)) (some a) l.length c (u8s l) rfl (HIN.out.alloc _) u8s_one (by unfold maxLen; omega) (by omega) (by simp) ?_; intro A' c' w1 hown hgrow hat)
    go_wp2_with fail
    go_ret
    simp only [Nat.zero_add, List.nil_append] at hown
    exact ⟨A', c', by simp, hown, ((Below.refl _ w).alloc (Nat.le_refl _) _).grown hgrow (by simp) (by intro k hk; simp [blkOf] at hk; omega)⟩

theorem bom_sub (h : Nat) (hh : h ≤ 3) (V : World) : (Instr.slice 9 (.string ⟨#[239, 187, 191]⟩) none (some (.int .i64 (h : Int))) none).run Tryz.prog V = .ok (.string (bomM.extract 0 h)) V := by
  have := run_sub (P := Tryz.prog) V 9 bomM 0 h 0 h rfl rfl (by omega) hh Tryz.underlying9
  have h' : h = 0 ∨ h = 1 ∨ h = 2 ∨ h = 3 := by omega
  rcases h' with rfl | rfl | rfl | rfl
  · exact (show ∀ V, (Instr.slice 9 (.string ⟨#[239, 187, 191]⟩) none (some (.int .i64 0)) none).run Tryz.prog V = .ok (.string (bomM.extract 0 0)) V from fun _ => by kernel_rfl) V
  · exact (show ∀ V, (Instr.slice 9 (.string ⟨#[239, 187, 191]⟩) none (some (.int .i64 1)) none).run Tryz.prog V = .ok (.string (bomM.extract 0 1)) V from fun _ => by kernel_rfl) V
  · exact (show ∀ V, (Instr.slice 9 (.string ⟨#[239, 187, 191]⟩) none (some (.int .i64 2)) none).run Tryz.prog V = .ok (.string (bomM.extract 0 2)) V from fun _ => by kernel_rfl) V
  · exact (show ∀ V, (Instr.slice 9 (.string ⟨#[239, 187, 191]⟩) none (some (.int .i64 3)) none).run Tryz.prog V = .ok (.string (bomM.extract 0 3)) V from fun _ => by kernel_rfl) V
theorem bom_from (h : Nat) (hh : h ≤ 3) (V : World) : (Instr.slice 9 (.string ⟨#[239, 187, 191]⟩) (some (.int .i64 (h : Int))) none none).run Tryz.prog V = .ok (.string (bomM.extract h 3)) V := by
  have h' : h = 0 ∨ h = 1 ∨ h = 2 ∨ h = 3 := by omega
  rcases h' with rfl | rfl | rfl | rfl
  · exact (show ∀ V, (Instr.slice 9 (.string ⟨#[239, 187, 191]⟩) (some (.int .i64 0)) none none).run Tryz.prog V = .ok (.string (bomM.extract 0 3)) V from fun _ => by kernel_rfl) V
  · exact (show ∀ V, (Instr.slice 9 (.string ⟨#[239, 187, 191]⟩) (some (.int .i64 1)) none none).run Tryz.prog V = .ok (.string (bomM.extract 1 3)) V from fun _ => by kernel_rfl) V
  · exact (show ∀ V, (Instr.slice 9 (.string ⟨#[239, 187, 191]⟩) (some (.int .i64 2)) none none).run Tryz.prog V = .ok (.string (bomM.extract 2 3)) V from fun _ => by kernel_rfl) V
  · exact (show ∀ V, (Instr.slice 9 (.string ⟨#[239, 187, 191]⟩) (some (.int .i64 3)) none none).run Tryz.prog V = .ok (.string (bomM.extract 3 3)) V from fun _ => by kernel_rfl) V
theorem bl_bom_sub (h : Nat) : bl (bomM.extract 0 h) = bomMk.take h := by rw [bl_take, bl_bomM]
theorem bl_bom_from (h : Nat) : bl (bomM.extract h 3) = bomMk.drop h := by
  have := bl_from bomM h
  rw [bl_bomM] at this; exact this

/-- What release answers: the mark's first h bytes in a slice of one's own; nothing is kept back any more; only the stripper has turned. -/
def BomOut (g h : Nat) (x z : Value) (w : World) (e : Ending) (w' : World) : Prop :=
  ∃ A c, e = .returned (.slice A h c) ∧ SlOwn w' w.heap.size 5 A h c (u8s (bomMk.take h)) ∧ StB w' g 123 #[x, .int .i64 0, z] ∧ w.grownBy w' (some g)

set_option maxHeartbeats 800000 in
theorem bomRelease_any (g h : Nat) (x z : Value) (hh : h ≤ 3) (w : World) (hst : StB w g 123 #[x, .int .i64 h, z]) :
    Calls Tryz.prog 65 #[.pointer (some ⟨g, 0, none⟩)] w (BomOut g h x z w) := by
  have hsub := bom_sub h hh
  obtain ⟨c, w1, hrun, hown, hbel⟩ := conv_bytes (P := Tryz.prog) w 9 42 5 (bomM.extract 0 h) Tryz.underlying9 Tryz.underlying42 Tryz.underlying5 (by rw [ByteArray.size_extract]; show _ ≤ maxLen; unfold maxLen; omega)
  have hsz : (bomM.extract 0 h).size = h := by rw [ByteArray.size_extract]; show min h 3 - 0 = h; omega
  rw [hsz] at hrun hown
  rw [bl_bom_sub] at hown
  have h1 := hst.cell 1
  simp at h1
  have hst1 := hst.below hbel
  have k1 := hst1.cell 1
  have f1 := hst1.free 1
  simp at k1
  have HG := Lib.hid hst.lt
  have HST := Lib.hid hst1
  have HOWN := Lib.hid hown
  have HBEL := Lib.hid hbel
  clear hst hst1 hown hbel hsz
  go_enter Tryz.func65, Tryz.ntmps65
  go_wp2_with fail
  go_ret
  refine ⟨_, c, rfl, HOWN.out.keep (fun k hk => ?_), HST.out.set_ 1 _, only_set (only_of HBEL.out (some g)) 1 _⟩
  refine Below.heap_setCell _ _ _ _ ?_
  have : w.heap.size = k := by simpa [blkOf] using hk
  have := HG.out
  show k ≠ g
  omega

/-- Bytes that were there are there still where only a block turned that holds no byte. -/
theorem bomIn_keep {w w' : World} {A : Option Addr} {n g : Nat} {l : List Int} {T : TypeId} {cs : Array Value} (hin : SlIn w A n (u8s l)) (hst : StB w g T cs) (hcs : ∀ x : Int, ∀ i : Nat, cs[i]? ≠ some (.int .u8 x)) (hg : w.grownBy w' (some g)) : SlIn w' A n (u8s l) := by
  refine ⟨hin.1, fun j u hu => ?_⟩
  obtain ⟨a, ha, hc⟩ := hin.2 j u hu
  refine ⟨a, ha, hg.cell hc ?_⟩
  intro e
  injection e with e
  obtain ⟨x, _, rfl⟩ := u8s_get_inv hu
  unfold World.cell? at hc
  unfold StB at hst
  rw [e, hst] at hc
  simp only at hc
  split at hc
  · cases hc
  · exact hcs x _ hc
theorem bomCells_no8 (a b : Int) (c : Bool) (x : Int) (i : Nat) : (#[Value.int .i64 a, .int .i64 b, .bool c] : Array Value)[i]? ≠ some (.int .u8 x) := by
  match i with
  | 0 => simp
  | 1 => simp
  | 2 => simp
  | i + 3 => simp

theorem bomCut8 {w : World} {A : Option Addr} {n c k : Nat} {b : List Int} (h : SlIn w A n (u8s b)) (hk : k ≤ n) (hc : n ≤ c) : SlIn w (bomCutA A c k) (n - k) (u8s (b.drop k)) := by
  have := h.cut hk hc
  unfold bomCutA u8s at *
  rw [← List.map_drop] at this
  exact this

/-- What Feed answers: what more of the text without its mark can be told; only the stripper has turned. -/
def BomFed (g : Nat) (t b : List Int) (w : World) (e : Ending) (w' : World) : Prop :=
  ∃ A c out, e = .returned (.slice A out.length c) ∧ SlOwn w' w.heap.size 5 A out.length c (u8s out) ∧ bomTold (t ++ b) = bomTold t ++ out ∧ StB w' g 123 (bomCells (t ++ b)) ∧ w.grownBy w' (some g)

theorem bomCommon_is (t : ByteArray) (A : Option Addr) (n c : Nat) (l : List Int) (k : Nat) (hk : Hid (cpl (bl t) l = k)) (w : World) (hin : Hid (SlIn w A n (u8s l))) (ht : t.size ≤ maxLen) (hn : n ≤ maxLen) :
    Calls Tryz.prog 80 #[.string t, .slice A n c] w fun e w' => e = .returned (.int .i64 k) ∧ Below w.heap.size w w' := by
  rw [← hk.out]; exact bomCommon_any t A n c l w hin.out ht hn

theorem bomPre_cells {t : List Int} (h : bomPre t = true) : bomCells t = #[.int .i64 0, .int .i64 (t.length : Nat), .bool false] := by
  unfold bomCells bomStage bomHeld; rw [bom_had_pre h, h]; rfl
theorem bomPost_cells {t : List Int} (h : bomPre t = false) : bomCells t = #[.int .i64 1, .int .i64 0, .bool (bomHad t)] := by
  unfold bomCells bomStage bomHeld; rw [h]; rfl

set_option maxHeartbeats 1600000 in
theorem bomBegin_any (g : Nat) (t b : List Int) (A : Option Addr) (n c : Nat) (w : World) (hst : StB w g 123 (bomCells t)) (hp : bomPre t = true) (hin : SlIn w A n (u8s b)) (hn : n ≤ 1000000000) (hnc : n ≤ c) :
    Calls Tryz.prog 63 #[.pointer (some ⟨g, 0, none⟩), .slice A n c] w (BomFed g t b w) := by
  have hlen := hin.len8
  obtain ⟨htk, h2⟩ := bomPre_take hp
  rw [bomPre_cells hp] at hst
  obtain ⟨h, hh⟩ : ∃ h, t.length = h := ⟨_, rfl⟩
  rw [hh] at hst h2 htk
  obtain ⟨k, hk⟩ : ∃ k, cpl (bomMk.drop h) b = k := ⟨_, rfl⟩
  obtain ⟨k1, k2⟩ := cpl_le (bomMk.drop h) b
  rw [hk, List.length_drop] at k1
  rw [hk, hlen] at k2
  have hmk : bomMk.length = 3 := rfl
  rw [hmk] at k1
  clear hmk
  have HK := Lib.hid (show cpl (bl (bomM.extract h 3)) b = k by rw [bl_bom_from]; exact hk)
  have hfrom := bom_from h (by omega)
  have hsm : (bomM.extract h 3).size ≤ maxLen := by rw [ByteArray.size_extract]; show min 3 3 - h ≤ maxLen; unfold maxLen; omega
  have hnm : n ≤ maxLen := by unfold maxLen; omega
  have c0 := hst.cell 0
  have c1 := hst.cell 1
  have c2 := hst.cell 2
  have f0 := hst.free 0
  have f1 := hst.free 1
  have f2 := hst.free 2
  have hg := hst.lt
  simp at c0 c1 c2
  have HST := Lib.hid hst
  have HIN := Lib.hid hin
  clear hst hin
  by_cases e3 : h + k = 3
  · have hf := bom_feed1 hp (by rw [hh, hk]; exact e3)
    rw [hh, hk] at hf
    obtain ⟨p1, p2, p3⟩ := hf
    have P1 := Lib.hid p1
    have P2 := Lib.hid p2
    have P3 := Lib.hid p3
    have PT := Lib.hid (show bomTold t = [] by unfold bomTold; rw [hp, if_pos rfl])
    have heq : (((h : Nat) : Int) + ((k : Nat) : Int) == 3) = true := by rw [beq_iff_eq]; omega
    have hcut := bomRun_cut8 A n c k k2
    have HLEN := Lib.hid hlen
    clear p1 p2 p3 e3 hp htk hh hk hlen
    go_enter Tryz.func63, Tryz.ntmps63
    go_wp2_with fail
    refine (above (bomCommon_is _ A n c b k HK w HIN hsm hnm)).mono ?_
    rintro e _ ⟨rfl, y, rfl⟩
    have G : w.grownBy ((((onto w y).setCell ⟨g, 0, none⟩ (.int .i64 1)).setCell ⟨g, 2, none⟩ (.bool true)).setCell ⟨g, 1, none⟩ (.int .i64 0)) (some g) := only_set (only_set (only_set (only_of (onto_below w y) _) 0 _) 2 _) 1 _
    have ST : StB ((((onto w y).setCell ⟨g, 0, none⟩ (.int .i64 1)).setCell ⟨g, 2, none⟩ (.bool true)).setCell ⟨g, 1, none⟩ (.int .i64 0)) g 123 #[.int .i64 1, .int .i64 0, .bool true] := (((HST.out.onto y).set_ 0 _).set_ 2 _).set_ 1 _
    have HG := Lib.hid G
    have HS := Lib.hid ST
    have HI := Lib.hid (bomCut8 (bomIn_keep HIN.out HST.out (bomCells_no8 _ _ _) G) k2 hnc)
    clear G ST
    go_wp2_with fail
    refine (bomClone_any (bomCutA A c k) (n - k) (c - k) (b.drop k) _ HI.out (by omega)).mono ?_
    rintro e w3 ⟨A3, c3, rfl, hown, hb⟩
    have HO := Lib.hid hown
    have HB := Lib.hid hb
    clear hown hb
    go_wp2_with fail
    go_ret
    refine ⟨A3, c3, b.drop k, by rw [List.length_drop]; rfl, HO.out.mono HG.out.size, by rw [P3.out, PT.out]; rfl, ?_, only_call HG.out HB.out⟩
    rw [bomPost_cells P2.out, P1.out]
    exact HS.out.below HB.out
  · by_cases ek : k = n
    · have hf := bom_feed2 hp (by rw [hh, hk]; exact e3) (by rw [hh, hk, hlen]; exact ek)
      have P2 := Lib.hid hf
      have PT := Lib.hid (show bomTold t = [] by unfold bomTold; rw [hp, if_pos rfl])
      have PT2 := Lib.hid (show bomTold (t ++ b) = [] by unfold bomTold; rw [hf, if_pos rfl])
      have PL := Lib.hid (show (t ++ b).length = h + n by rw [List.length_append, hh, hlen])
      have heq : (((h : Nat) : Int) + ((k : Nat) : Int) == 3) = false := by rw [beq_eq_false_iff_ne]; omega
      have heq2 : (((k : Nat) : Int) == (n : Int)) = true := by rw [beq_iff_eq]; omega
      have heq3 : (k == n) = true := by rw [beq_iff_eq]; omega
      have hval : ((h : Nat) : Int) + ((k : Nat) : Int) = ((h + n : Nat) : Int) := by omega
      have HV := Lib.hid hval
      clear hf hp hh hk hlen hval e3 ek htk
      go_enter Tryz.func63, Tryz.ntmps63
      go_wp2_with fail
      refine (above (bomCommon_is _ A n c b k HK w HIN hsm hnm)).mono ?_
      rintro e _ ⟨rfl, y, rfl⟩
      go_wp2_with fail
      go_ret
      refine ⟨none, 0, [], rfl, SlOwn.nothing _ _ _, by rw [PT.out, PT2.out]; rfl, ?_, only_set (only_of (onto_below w y) _) 1 _⟩
      rw [bomPre_cells P2.out, PL.out, ← HV.out]
      exact (HST.out.onto y).set_ 1 _
    · have hf := bom_feed3 hp (by rw [hh, hk]; exact e3) (by rw [hh, hk, hlen]; exact ek)
      obtain ⟨p1, p2, p3⟩ := hf
      have P1 := Lib.hid p1
      have P2 := Lib.hid p2
      have P3 := Lib.hid p3
      have PT := Lib.hid (show bomTold t = [] by unfold bomTold; rw [hp, if_pos rfl])
      have PL := Lib.hid (show bomMk.take h = t from htk.symm)
      have heq : (((h : Nat) : Int) + ((k : Nat) : Int) == 3) = false := by rw [beq_eq_false_iff_ne]; omega
      have heq2 : (((k : Nat) : Int) == (n : Int)) = false := by rw [beq_eq_false_iff_ne]; omega
      have heq3 : (k == n) = false := by rw [beq_eq_false_iff_ne]; omega
      have HHH := Lib.hid hh
      have HLEN := Lib.hid hlen
      obtain ⟨i0, hi, hz0, hz1, hz2⟩ := info_parts infoB8
      have Hi := Lib.hid hi
      have Hz0 := Lib.hid hz0
      have Hz1 := Lib.hid hz1
      have Hz2 := Lib.hid hz2
      clear hi hz0 hz1 hz2
      clear p1 p2 p3 hp hh hk hlen e3 ek htk
      go_enter Tryz.func63, Tryz.ntmps63
      go_wp2_with fail
      refine (above (bomCommon_is _ A n c b k HK w HIN hsm hnm)).mono ?_
      rintro e _ ⟨rfl, y, rfl⟩
      have G : w.grownBy ((onto w y).setCell ⟨g, 0, none⟩ (.int .i64 1)) (some g) := only_set (only_of (onto_below w y) _) 0 _
      have ST : StB ((onto w y).setCell ⟨g, 0, none⟩ (.int .i64 1)) g 123 #[.int .i64 1, .int .i64 (h : Nat), .bool false] := (HST.out.onto y).set_ 0 _
      have HG := Lib.hid G
      have HS := Lib.hid ST
      clear G ST
      go_wp2_with fail
      refine (bomRelease_any g h _ _ (by omega) _ HS.out).mono ?_
      rintro e w2 ⟨A2, c2', rfl, hown, hst2, hg2⟩
      have G2 := World.grownBy.trans HG.out hg2
      have HO := Lib.hid (hown.mono HG.out.size)
      have HS2 := Lib.hid hst2
      have HG2 := Lib.hid G2
      have HIN2 := Lib.hid (bomIn_keep HIN.out HST.out (bomCells_no8 _ _ _) G2)
      have HGS := Lib.hid G2.size
      clear hown hst2 hg2 G2
      go_wp2_with (at_builtin; refine wpList_append_sl _ rfl (.tmp 49) (.tmp 50) 42 rfl 5 i0 (.int .u8 0) 1 Tryz.underlying42 Hi.out Hz0.out Hz1.out Hz2.out rfl w.heap.size A2 h c2' (u8s (bomMk.take h)) rfl HO.out A n c (u8s b) rfl HIN2.out u8s_one (by unfold maxLen; omega) (by omega) HGS.out ?_; intro A3 c3 w3 hown3 hgrow3 hat3)
      have HO3 := Lib.hid hown3
      have HG3 := Lib.hid hgrow3
      clear hown3 hgrow3 hat3
      go_wp2_with fail
      go_ret
      have hnew : ∀ j, blkOf A2 = some j → w.heap.size ≤ j := fun j hj => (HO.out.blk j hj).1
      refine ⟨A3, c3, t ++ b, by rw [List.length_append, HHH.out, HLEN.out]; rfl, ?_, by rw [P3.out, PT.out]; rfl, ?_, only_new HG2.out HG3.out hnew⟩
      · have := HO3.out
        rw [PL.out, ← u8s_append] at this
        rw [List.length_append, HHH.out, HLEN.out]; exact this
      · rw [bomPost_cells P1.out, P2.out]
        exact HS2.out.grown HG3.out (fun e => by have := hnew g e.symm; omega)

set_option maxHeartbeats 800000 in
theorem bomFeed_any (g : Nat) (t b : List Int) (A : Option Addr) (n c : Nat) (w : World) (hst : StB w g 123 (bomCells t)) (hin : SlIn w A n (u8s b)) (hn : n ≤ 1000000000) (hnc : n ≤ c) :
    Calls Tryz.prog 42 #[.pointer (some ⟨g, 0, none⟩), .slice A n c] w (BomFed g t b w) := by
  cases hp : bomPre t
  · have hs2 := hst
    rw [bomPost_cells hp] at hs2
    have c0 := hs2.cell 0
    simp at c0
    obtain ⟨p1, p2, p3⟩ := bom_settled b hp
    have P := Lib.hid hp
    have P1 := Lib.hid p1
    have P2 := Lib.hid p2
    have P3 := Lib.hid p3
    have HST := Lib.hid hs2
    have HIN := Lib.hid hin
    have HL := Lib.hid hin.len8
    clear hst hs2 hin p1 p2 p3 hp
    go_enter Tryz.func42, Tryz.ntmps42
    go_wp2_with fail
    refine (bomClone_any A n c b _ HIN.out hn).mono ?_
    rintro e w1 ⟨A1, c1, rfl, hown, hb⟩
    have HO := Lib.hid hown
    have HB := Lib.hid hb
    clear hown hb
    go_wp2_with fail
    go_ret
    refine ⟨A1, c1, b, rfl, HO.out, P3.out, ?_, only_of HB.out _⟩
    rw [bomPost_cells P1.out, P2.out]
    exact HST.out.below HB.out
  · have hs2 := hst
    rw [bomPre_cells hp] at hs2
    have c0 := hs2.cell 0
    simp at c0
    have P := Lib.hid hp
    have HST := Lib.hid hst
    have HIN := Lib.hid hin
    clear hst hs2 hin hp
    go_enter Tryz.func42, Tryz.ntmps42
    go_wp2_with fail
    refine (bomBegin_any g t b A n c _ HST.out P.out HIN.out hn hnc).mono ?_
    rintro e w1 ⟨A1, c1, out, rfl, h1, h2, h3, h4⟩
    have H1 := Lib.hid h1
    have H2 := Lib.hid h2
    have H3 := Lib.hid h3
    have H4 := Lib.hid h4
    clear h1 h2 h3 h4
    go_wp2_with fail
    go_ret
    exact ⟨A1, c1, out, rfl, H1.out, H2.out, H3.out, H4.out⟩

/-- What Close answers. -/
def BomClosed (g h : Nat) (z : Value) (w : World) (e : Ending) (w' : World) : Prop :=
  ∃ A c, e = .returned (.slice A h c) ∧ SlOwn w' w.heap.size 5 A h c (u8s (bomMk.take h)) ∧ StB w' g 123 #[.int .i64 2, .int .i64 0, z] ∧ w.grownBy w' (some g)
set_option maxHeartbeats 800000 in
theorem bomClose_any (g h : Nat) (x z : Value) (hh : h ≤ 3) (w : World) (hst : StB w g 123 #[x, .int .i64 h, z]) :
    Calls Tryz.prog 43 #[.pointer (some ⟨g, 0, none⟩)] w (BomClosed g h z w) := by
  have HST := Lib.hid hst
  have HG := Lib.hid hst.lt
  clear hst
  go_enter Tryz.func43, Tryz.ntmps43
  go_wp2_with fail
  refine (bomRelease_any g h x z hh _ HST.out).mono ?_
  rintro e w1 ⟨A1, c1, rfl, h1, h2, h3⟩
  have k0 := h2.cell 0
  have f0 := h2.free 0
  simp at k0
  have H1 := Lib.hid h1
  have H2 := Lib.hid h2
  have H3 := Lib.hid h3
  clear h1 h2 h3
  go_wp2_with fail
  go_ret
  refine ⟨A1, c1, rfl, H1.out.keep (fun k hk => ?_), H2.out.set_ 0 _, only_set H3.out 0 _⟩
  refine Below.heap_setCell _ _ _ _ ?_
  have := (H1.out.blk k hk).1
  have := HG.out
  show k ≠ g
  omega

theorem bomTold_length (t : List Int) : (bomTold t).length ≤ t.length := by
  unfold bomTold bomStrip
  split
  · simp
  · split
    · rw [List.length_drop]; omega
    · exact Nat.le_refl _
theorem bom_closes (t : List Int) : bomTold t ++ bomMk.take (bomHeld t) = bomStrip t := by
  unfold bomTold bomHeld
  cases h : bomPre t
  · simp
  · have := (bomPre_take h).1
    unfold bomStrip
    rw [bom_had_pre h]
    simp
    exact this.symm
theorem bomHeld_le (t : List Int) : bomHeld t ≤ 2 := by
  unfold bomHeld
  split
  · rename_i h; exact (bomPre_take h).2
  · omega
end Go.Proofs.YtoeanbfemgmgnaaGreatDoor

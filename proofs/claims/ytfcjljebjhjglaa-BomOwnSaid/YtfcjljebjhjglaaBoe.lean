/- Layer 3: contracts of the program's: Clone, release. -/
import Derived.Test.YtfcjljebjhjglaaBod
namespace Go.Proofs.Ytfcjljebjhjglaa
open Go.ChangeShapes Go.WideShapes Go.ChangeAt Go.RowKit
set_option linter.unusedVariables false

theorem info8 : (Try.prog.info? 5).map (fun i => (i.zero, i.size, i.bytes)) = some (some (.int .u8 0), 1, 1) := by kernel_rfl

/-- Where s[k:] begins. -/
def cutA (A : Option Addr) (c k : Nat) : Option Addr := if c = k then A else A.map (·.add k)
theorem run_cut8 (A : Option Addr) (n c k : Nat) (hk : k ≤ n) (V : World) :
    (Instr.slice 31 (.slice A n c) (some (.int .i64 (k : Int))) none none).run Try.prog V = .ok (.slice (cutA A c k) (n - k) (c - k)) V := by
  obtain ⟨i0, hi, hz0, hz1, hz2⟩ := info_parts info8
  have hs : ∀ V, Sem.run Try.prog (Go.sizeOf 5) V = .ok 1 V := fun V => by simp [Go.sizeOf, typeInfo, hi, hz1]
  have := run_slice_l (P := Try.prog) V 31 A n c (by kernel_rfl) .i64 (k : Int) (by omega) (by omega)
  rw [this, show Try.prog.elem 31 = 5 from by kernel_rfl, hs]
  simp [Result.andThen, sliced, cutA]

/-- A slice of one's own that holds the bytes l. -/
def Bytes8 (l : List Int) (w : World) (e : Ending) (w' : World) : Prop := ∃ A c, e = .returned (.slice A l.length c) ∧ SlOwn w' w.heap.size 5 A l.length c (u8s l) ∧ Below w.heap.size w w'

set_option maxHeartbeats 800000 in
theorem clone_any (A : Option Addr) (n c : Nat) (l : List Int) (w : World) (hin : SlIn w A n (u8s l)) (hn : n ≤ 1000000000) :
    Calls Try.prog 19 #[.slice A n c] w (Bytes8 l w) := by
  have hl := hin.len8
  subst hl
  cases A with
  | none =>
    have q22 : ∀ (w : World) (a : Option Addr) (n c n' c' : Nat), (binOp .eql 31 (.slice a n c) (.slice none n' c')).run Try.prog w = .ok (.bool a.isNone) w := fun w a n c n' c' => Lib.run_eql_slice_nil w _ _ a n c n' c' Try.underlying31
    have h0 : l = [] := by
      cases l with
      | nil => rfl
      | cons x r => obtain ⟨a, ha, _⟩ := hin.at_ (k := 0) (u := .int .u8 x) rfl; cases ha
    subst h0
    clear hin
    go_enter Try.func19, Try.ntmps19
    go_wp2_with fail
    go_ret
    exact ⟨none, 0, rfl, SlOwn.nothing _ _ _, Below.refl _ _⟩
  | some a =>
    have q22 : ∀ (w : World) (a : Option Addr) (n c n' c' : Nat), (binOp .eql 31 (.slice a n c) (.slice none n' c')).run Try.prog w = .ok (.bool a.isNone) w := fun w a n c n' c' => Lib.run_eql_slice_nil w _ _ a n c n' c' Try.underlying31
    obtain ⟨i0, hi, hz0, hz1, hz2⟩ := info_parts info8
    have HIN := Lib.hid hin
    clear hin
    have Hi := Lib.hid hi
    have Hz0 := Lib.hid hz0
    have Hz1 := Lib.hid hz1
    have Hz2 := Lib.hid hz2
    clear hi hz0 hz1 hz2
    go_enter Try.func19, Try.ntmps19
    go_wp2_with (at_builtin; refine wpList_append_sl _ rfl (.tmp 5) (.tmp 6) 31 rfl 5 i0 (.int .u8 0) 1 Try.underlying31 Hi.out Hz0.out Hz1.out Hz2.out rfl w.heap.size (some ⟨w.heap.size, 0, none⟩) 0 0 [] rfl (SlOwn.made w w.heap.size (Nat.le_refl _) 5 [] (Nat.zero_le _)) (some a) l.length c (u8s l) rfl (HIN.out.alloc _) u8s_one (by unfold maxLen; omega) (by omega) (by simp) ?_; intro A' c' w1 hown hgrow hat)
    go_wp2_with fail
    go_ret
    simp only [Nat.zero_add, List.nil_append] at hown
    exact ⟨A', c', by simp, hown, ((Below.refl _ w).alloc (Nat.le_refl _) _).grown hgrow (by simp) (by intro k hk; simp [blkOf] at hk; omega)⟩

theorem bom_sub (h : Nat) (hh : h ≤ 3) (V : World) : (Instr.slice 9 (.string ⟨#[239, 187, 191]⟩) none (some (.int .i64 (h : Int))) none).run Try.prog V = .ok (.string (bomM.extract 0 h)) V := by
  have := run_sub (P := Try.prog) V 9 bomM 0 h 0 h rfl rfl (by omega) hh Try.underlying9
  have h' : h = 0 ∨ h = 1 ∨ h = 2 ∨ h = 3 := by omega
  rcases h' with rfl | rfl | rfl | rfl
  · exact (show ∀ V, (Instr.slice 9 (.string ⟨#[239, 187, 191]⟩) none (some (.int .i64 0)) none).run Try.prog V = .ok (.string (bomM.extract 0 0)) V from fun _ => by kernel_rfl) V
  · exact (show ∀ V, (Instr.slice 9 (.string ⟨#[239, 187, 191]⟩) none (some (.int .i64 1)) none).run Try.prog V = .ok (.string (bomM.extract 0 1)) V from fun _ => by kernel_rfl) V
  · exact (show ∀ V, (Instr.slice 9 (.string ⟨#[239, 187, 191]⟩) none (some (.int .i64 2)) none).run Try.prog V = .ok (.string (bomM.extract 0 2)) V from fun _ => by kernel_rfl) V
  · exact (show ∀ V, (Instr.slice 9 (.string ⟨#[239, 187, 191]⟩) none (some (.int .i64 3)) none).run Try.prog V = .ok (.string (bomM.extract 0 3)) V from fun _ => by kernel_rfl) V
theorem bom_from (h : Nat) (hh : h ≤ 3) (V : World) : (Instr.slice 9 (.string ⟨#[239, 187, 191]⟩) (some (.int .i64 (h : Int))) none none).run Try.prog V = .ok (.string (bomM.extract h 3)) V := by
  have h' : h = 0 ∨ h = 1 ∨ h = 2 ∨ h = 3 := by omega
  rcases h' with rfl | rfl | rfl | rfl
  · exact (show ∀ V, (Instr.slice 9 (.string ⟨#[239, 187, 191]⟩) (some (.int .i64 0)) none none).run Try.prog V = .ok (.string (bomM.extract 0 3)) V from fun _ => by kernel_rfl) V
  · exact (show ∀ V, (Instr.slice 9 (.string ⟨#[239, 187, 191]⟩) (some (.int .i64 1)) none none).run Try.prog V = .ok (.string (bomM.extract 1 3)) V from fun _ => by kernel_rfl) V
  · exact (show ∀ V, (Instr.slice 9 (.string ⟨#[239, 187, 191]⟩) (some (.int .i64 2)) none none).run Try.prog V = .ok (.string (bomM.extract 2 3)) V from fun _ => by kernel_rfl) V
  · exact (show ∀ V, (Instr.slice 9 (.string ⟨#[239, 187, 191]⟩) (some (.int .i64 3)) none none).run Try.prog V = .ok (.string (bomM.extract 3 3)) V from fun _ => by kernel_rfl) V
theorem bl_bom_sub (h : Nat) : bl (bomM.extract 0 h) = bomMk.take h := by rw [bl_take, bl_bomM]
theorem bl_bom_from (h : Nat) : bl (bomM.extract h 3) = bomMk.drop h := by
  have := bl_from bomM h
  rw [bl_bomM] at this; exact this

/-- What release answers: the mark's first h bytes in a slice of one's own; nothing is kept back any more; only the stripper has turned. -/
def BomOut (g h : Nat) (x z : Value) (w : World) (e : Ending) (w' : World) : Prop :=
  ∃ A c, e = .returned (.slice A h c) ∧ SlOwn w' w.heap.size 5 A h c (u8s (bomMk.take h)) ∧ StB w' g 42 #[x, .int .i64 0, z] ∧ w.grownBy w' (some g)

set_option maxHeartbeats 800000 in
theorem release_any (g h : Nat) (x z : Value) (hh : h ≤ 3) (w : World) (hst : StB w g 42 #[x, .int .i64 h, z]) :
    Calls Try.prog 20 #[.pointer (some ⟨g, 0, none⟩)] w (BomOut g h x z w) := by
  have hsub := bom_sub h hh
  obtain ⟨c, w1, hrun, hown, hbel⟩ := conv_bytes (P := Try.prog) w 9 31 5 (bomM.extract 0 h) Try.underlying9 Try.underlying31 Try.underlying5 (by rw [ByteArray.size_extract]; show _ ≤ maxLen; unfold maxLen; omega)
  have hsz : (bomM.extract 0 h).size = h := by rw [ByteArray.size_extract]; show min h 3 - 0 = h; omega
  rw [hsz] at hrun hown
  rw [bl_bom_sub] at hown
  have h1 := hst.cell 1
  simp at h1
  have hst1 := hst.below hbel
  have k1 := hst1.cell 1
  have f1 := hst1.free 1
  simp at k1
  have HG := Lib.hid hst.lt
  have HST := Lib.hid hst1
  have HOWN := Lib.hid hown
  have HBEL := Lib.hid hbel
  clear hst hst1 hown hbel hsz
  go_enter Try.func20, Try.ntmps20
  go_wp2_with fail
  go_ret
  refine ⟨_, c, rfl, HOWN.out.keep (fun k hk => ?_), HST.out.set_ 1 _, only_set (only_of HBEL.out (some g)) 1 _⟩
  refine Below.heap_setCell _ _ _ _ ?_
  have : w.heap.size = k := by simpa [blkOf] using hk
  have := HG.out
  show k ≠ g
  omega
end Go.Proofs.Ytfcjljebjhjglaa

/- Layer 6: the contract of Parses. -/
import Derived.Test.YtbglecaahopgdaaWko
import Derived.Deep.QuietTactic
namespace Go.Proofs.Ytbglecaahopgdaa
open Go.ChangeShapes Go.WideShapes Go.ChangeAt Go.RowKit
set_option linter.unusedVariables false
set_option linter.unusedSimpArgs false

theorem first_iz (d q e a b c : Int) (u : Bool) (s : ByteArray) (hs : s.size ≤ 900) (d0 : 0 ≤ d) (d1 : d ≤ 255) (q0 : 0 ≤ q) (q1 : q ≤ 255) (rs : List (List ByteArray)) (k at_ : Int) (hp : Hid (parW d q e a b c u s = ⟨rs, k, at_⟩)) (w : World) :
    Calls Try.prog 16 #[.agg #[.int .u8 d, .int .u8 q, .int .i64 e], .agg #[.int .i64 a, .int .i64 b, .int .i64 c, .bool u], .string s] w fun x w' => x = .returned (.agg #[.int .i64 k, .int .i64 at_]) ∧ Below w.heap.size w w' :=
  first_any6 hs d0 d1 q0 q1 ⟨rs, k, at_⟩ hp w
set_option maxRecDepth 100000 in
set_option maxHeartbeats 1600000 in
theorem parses_is (d q e : Int) (s : ByteArray) (hs : s.size ≤ 900) (d0 : 0 ≤ d) (d1 : d ≤ 255) (q0 : 0 ≤ q) (q1 : q ≤ 255) (rs : List (List ByteArray)) (k at_ : Int) (hp : Hid (parW d q e 2147483648 2147483648 2147483648 false s = ⟨rs, k, at_⟩)) (v : Bool) (hv : (k == 0) = v) (w : World) :
    Calls Try.prog 17 #[.agg #[.int .u8 d, .int .u8 q, .int .i64 e], .string s] w fun x w' => x = .returned (.bool v) ∧ Below w.heap.size w w' := by
  have hfld : ∀ w, (Instr.field 30 (.agg #[.int .i64 k, .int .i64 at_]) 0).run Try.prog w = .ok (.int .i64 k) w := fun _ => by kernel_rfl
  have hf := fun w => first_iz d q e 2147483648 2147483648 2147483648 false s hs d0 d1 q0 q1 rs k at_ hp w
  go_enter Try.func17, Try.ntmps17
  go_wp2_with fail
  obtain ⟨W, hW⟩ : ∃ W, w.alloc (.cells #[.int .u8 d, .int .u8 q, .int .i64 e] 23) = W := ⟨_, rfl⟩
  have hb : Below w.heap.size w W := by rw [← hW]; exact up_alloc (Below.refl _ _) _
  have hd : StB W w.heap.size 23 #[.int .u8 d, .int .u8 q, .int .i64 e] := by rw [← hW]; exact StB.made _ rfl _ _
  rw [hW]
  clear hW
  have k0 : ∀ z, (onto W z).cell? ⟨w.heap.size, 0, none⟩ = some (.int .u8 d) := fun z => mem_cell (onto_below W z) (hd.cell 0)
  have k1 : ∀ z, (onto W z).cell? ⟨w.heap.size, 1, none⟩ = some (.int .u8 q) := fun z => mem_cell (onto_below W z) (hd.cell 1)
  have k2 : ∀ z, (onto W z).cell? ⟨w.heap.size, 2, none⟩ = some (.int .i64 e) := fun z => mem_cell (onto_below W z) (hd.cell 2)
  have HB := Lib.hid hb
  clear hb hd
  refine wp_region_onto (by kernel_rfl) (by kernel_rfl) ?_
  repeat (go_big_quiet_step (first | (go_at_call 25; with_reducible exact calls_onto (wide_any _)) | (go_at_call 16; with_reducible exact calls_onto (hf _))))
  refine wpQuiet_nil ?_
  intro _ hw'
  obtain ⟨x1, hw''⟩ := hw'
  subst hw''
  go_wp2_with fail
  go_ret
  exact ⟨rfl, up_onto HB.out x1⟩
theorem records_any (d q e a b c : Int) (u : Bool) (s : ByteArray) (w : World) : Calls Try.prog 15 #[.agg #[.int .u8 d, .int .u8 q, .int .i64 e], .agg #[.int .i64 a, .int .i64 b, .int .i64 c, .bool u], .string s] w fun x w' =>
    x = .returned (.func (.func 24) #[] #[.pointer (some ⟨w.heap.size, 0, none⟩), .pointer (some ⟨w.heap.size + 1, 0, none⟩), .pointer (some ⟨w.heap.size + 2, 0, none⟩)]) ∧
    w' = ((w.alloc (.cells #[.int .u8 d, .int .u8 q, .int .i64 e] 23)).alloc (.cells #[.int .i64 a, .int .i64 b, .int .i64 c, .bool u] 25)).alloc (.cells #[.string s] 9) := by
  go_enter Try.func15, Try.ntmps15
  go_wp2_with fail
  go_ret
  exact ⟨rfl, rfl⟩
end Go.Proofs.Ytbglecaahopgdaa

/- Layer 6: Parse with its values as letters; SameTable where both are one; '==' of faults; the document's example. -/
import Derived.Test.YtbglecaahopgdaaWkh
import Derived.Test.YtbglecaahopgdaaCfb
import Derived.Laws.StructEq
namespace Go.Proofs.Ytbglecaahopgdaa
open Go.ChangeShapes Go.WideShapes Go.ChangeAt Go.RowKit
set_option linter.unusedVariables false
set_option linter.unusedSimpArgs false

theorem parse_is (d q e a b c : Int) (u : Bool) (s : ByteArray) (hs : s.size ≤ 900) (d0 : 0 ≤ d) (d1 : d ≤ 255) (q0 : 0 ≤ q) (q1 : q ≤ 255) (rs : List (List ByteArray)) (k at_ : Int) (n : Nat) (hp : Hid (parW d q e a b c u s = ⟨rs, k, at_⟩)) (hn : Hid (rs.length = n)) (w : World) :
    Calls Try.prog 8 #[.agg #[.int .u8 d, .int .u8 q, .int .i64 e], .agg #[.int .i64 a, .int .i64 b, .int .i64 c, .bool u], .string s] w fun x w' =>
      ∃ C c V, x = .returned (.tuple #[.slice C n c, .agg #[.int .i64 k, .int .i64 at_]]) ∧ Hid (SlIn w' C n V ∧ RowsIn w' V rs) ∧ Hid (Below w.heap.size w w') := by
  rw [← hn.out]; exact parse_any hs d0 d1 q0 q1 ⟨rs, k, at_⟩ hp w

theorem fault_eq (a b c d : Int) (w : World) : (binOp .eql 30 (.agg #[.int .i64 a, .int .i64 b]) (.agg #[.int .i64 c, .int .i64 d])).run Try.prog w = .ok (.bool ((a == c) && (b == d))) w := by
  have hp : Try.prog.stoodInHeld 30 = false := by kernel_rfl
  simp [run_eql_struct, run_equalIn_agg, Program.fieldsOf, Try.underlying30, hp, Op.eqFields, go_sem]
  by_cases h1 : a = c <;> by_cases h2 : b = d <;> simp [h1, h2]

set_option maxHeartbeats 1600000 in
theorem sameTable_yes (C D : Option Addr) (n c d : Nat) (V V' : List Value) (rs : List (List ByteArray)) (hn : n ≤ 1000) (hf : Hid (∀ r ∈ rs, r.length ≤ 1000)) (w : World) (h1 : Hid (SlIn w C n V ∧ RowsIn w V rs)) (h2 : Hid (SlIn w D n V' ∧ RowsIn w V' rs)) :
    Calls Try.prog 14 #[.slice C n c, .slice D n d] w fun e w' => e = .returned (.bool true) ∧ Below w.heap.size w w' := by
  have hlen : rs.length = n := by rw [← h1.out.2.1, h1.out.1.1]
  have HLN := Lib.hid hlen
  clear hlen
  go_enter Try.func14, Try.ntmps14
  go_wp2_with fail
  go_loopw [13] (fun i wr => ∃ k : Nat, k ≤ n ∧ i = .int .i64 k ∧ Hid (∃ y, wr = onto w y)) (fun i _ => n - (intOf i).toNat)
  case atStart => exact ⟨0, Nat.zero_le _, rfl, Lib.hid (onto_self w)⟩
  case round =>
    obtain ⟨k, hk, rfl, HY⟩ := hrel
    by_cases hlt : k < n
    · have HYW := Lib.hid (show Below w.heap.size w wr by obtain ⟨y, rfl⟩ := HY.out; exact onto_below w y)
      obtain ⟨W, hW⟩ : ∃ W, W = wr := ⟨_, rfl⟩
      subst hW
      obtain ⟨x, hx⟩ : ∃ x, rs[k]? = some x := ⟨_, List.getElem?_eq_getElem (by rw [HLN.out]; exact hlt)⟩
      obtain ⟨A, a, hva, hra⟩ := h1.out.2.2 k x hx
      obtain ⟨B, b, hvb, hrb⟩ := h2.out.2.2 k x hx
      obtain ⟨ca, rfl, hca⟩ := (h1.out.1.below HYW.out).at_ hva
      obtain ⟨cb, rfl, hcb⟩ := (h2.out.1.below HYW.out).at_ hvb
      have za : ∀ z, (onto W z).cell? (ca.add k) = some (.slice A x.length a) := fun z => mem_cell (onto_below W z) hca
      have zb : ∀ z, (onto W z).cell? (cb.add k) = some (.slice B x.length b) := fun z => mem_cell (onto_below W z) hcb
      have HRA := Lib.hid (hra.below HYW.out)
      have HRB := Lib.hid (hrb.below HYW.out)
      obtain ⟨m, hm⟩ : ∃ m, x.length = m := ⟨_, rfl⟩
      have hm1 : m ≤ 1000 := by rw [← hm]; exact hf.out x (List.mem_of_getElem? hx)
      have hsame : ∀ z, Calls Try.prog 18 #[.slice A m a, .slice B m b] (onto W z) fun e w' => e = .returned (.bool true) ∧ Below (onto W z).heap.size (onto W z) w' := fun z => by
        rw [← hm]; exact same_yes A B x.length a b x (onto W z) (HRA.out.below (onto_below W z)) (HRB.out.below (onto_below W z)) (by omega)
      rw [hm] at za zb
      clear hx hva hvb hra hrb hca hcb HY
      go_wp2_with fail
      refine wp_region_onto (by kernel_rfl) (by kernel_rfl) ?_
      repeat (go_big_quiet_step ((go_at_call 18; with_reducible exact calls_onto (hsame _))))
      refine wpQuiet_nil ?_
      intro _ hw'
      obtain ⟨x1, hw''⟩ := hw'
      subst hw''
      go_wp2_with fail
      go_roundw
      case rel => exact ⟨k + 1, by omega, by go_num, Lib.hid (onto_of (up_onto HYW.out x1))⟩
      case measure => simp [intOf]; omega
    · obtain rfl : k = n := by omega
      obtain ⟨y, rfl⟩ := HY.out
      clear hlt HY
      go_wp2_with fail
      go_ret
      exact ⟨rfl, onto_below w y⟩

theorem ex_par : parW 44 34 1 9 9 9 false ⟨#[97, 44, 34, 98, 34, 34, 99, 34, 10, 10, 100]⟩ = ⟨[[⟨#[97]⟩, ⟨#[98, 34, 99]⟩], [⟨#[100]⟩]], 0, 0⟩ := by kernel_rfl
theorem two_cells (W : World) (t : TypeId) (u v : Value) : SlIn (W.alloc (.cells #[u, v] t)) (some ⟨W.heap.size, 0, none⟩) 2 [u, v] :=
  (SlOwn.made W 0 (Nat.zero_le _) t [u, v] (by show 2 ≤ maxLen; unfold maxLen; omega)).toIn
set_option maxHeartbeats 3200000 in
theorem awake6_any (w : World) : Calls Try.prog 7 #[] w fun x w' => x = .returned (.bool true) ∧ Below w.heap.size w w' := by
  have HE := Lib.hid ex_par
  have hfe := fun w => fault_eq 0 0 0 0 w
  go_enter Try.func7, Try.ntmps7
  go_wp2_with fail
  refine (parse_is 44 34 1 9 9 9 false _ (by decide) (by omega) (by omega) (by omega) (by omega) _ 0 0 2 HE (Lib.hid rfl) w).mono ?_
  rintro x w1 ⟨C, c, V, rfl, HX, HB⟩
  go_upto_region 2 with fail
  obtain ⟨A, a, hva, hra⟩ := HX.out.2.2 0 _ rfl
  obtain ⟨B, b, hvb, hrb⟩ := HX.out.2.2 1 _ rfl
  obtain ⟨ca, rfl, hca⟩ := HX.out.1.at_ hva
  obtain ⟨cb, hcbe, hcb⟩ := HX.out.1.at_ hvb
  cases hcbe
  obtain ⟨W2, hW2⟩ : ∃ W2, w1.alloc (.cells #[.int .i64 0, .int .i64 0] 30) = W2 := ⟨_, rfl⟩
  have HB2 := Lib.hid (show Below w.heap.size w W2 by rw [← hW2]; exact up_alloc HB.out _)
  have hb12 : Below w1.heap.size w1 W2 := by rw [← hW2]; exact up_alloc (Below.refl _ w1) _
  have x0 : W2.cell? ⟨w1.heap.size, 0, none⟩ = some (.int .i64 0) := by rw [← hW2]; simp [go_sem]
  have x1 : W2.cell? ⟨w1.heap.size, 1, none⟩ = some (.int .i64 0) := by rw [← hW2]; simp [go_sem]
  have za := mem_cell hb12 hca
  have HZB := Lib.hid (mem_cell hb12 hcb)
  have za' : W2.cell? ca = some (.slice A 2 a) := by have := za; simpa [Addr.add] using this
  have HRA := Lib.hid (hra.below hb12)
  have HRB := Lib.hid (hrb.below hb12)
  rw [hW2]
  clear hW2 hva hvb hra hrb hca hcb HX HB hb12
  go_wp2_with fail
  refine (above (same_yes A _ 2 a _ [⟨#[97]⟩, ⟨#[98, 34, 99]⟩] _ (HRA.out.alloc _) (two_cells W2 _ _ _) (by omega))).mono ?_
  rintro x _ ⟨rfl, y1, rfl⟩
  obtain ⟨W3, hW3⟩ : ∃ W3, onto (W2.alloc (.cells #[.string ⟨#[97]⟩, .string ⟨#[98, 34, 99]⟩] 9)) y1 = W3 := ⟨_, rfl⟩
  have hb23 : Below W2.heap.size W2 W3 := by rw [← hW3]; exact up_onto (up_alloc (Below.refl _ W2) _) y1
  have zb := mem_cell hb23 HZB.out
  have zb' := by have := zb; simpa [Addr.add] using this
  have HB3 := Lib.hid (HB2.out.trans (hb23.mono HB2.out.size))
  have HRB3 := Lib.hid (HRB.out.below hb23)
  rw [hW3]
  clear hW3 hb23 x0 x1 za za' HRA HRB HB2 HZB
  go_wp2_with fail
  refine (above (same_yes B _ 1 b _ [⟨#[100]⟩] _ (HRB3.out.alloc _) (slIn_new1 W3 _ _) (by omega))).mono ?_
  rintro x _ ⟨rfl, y2, rfl⟩
  go_wp2_with fail
  go_ret
  exact ⟨rfl, up_onto (up_alloc HB3.out _) y2⟩
end Go.Proofs.Ytbglecaahopgdaa

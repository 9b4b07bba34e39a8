/- Layer 7: the document's example, over the contracts of At and By. -/
import Derived.Test.YtjpemelnnemmiaaWla
import Derived.Test.YtjpemelnnemmiaaWlb
namespace Go.Proofs.Ytjpemelnnemmiaa
open Go.ChangeShapes Go.WideShapes Go.ChangeAt Go.RowKit
set_option linter.unusedVariables false
set_option linter.unusedSimpArgs false

theorem ex_at : cutAt ⟨#[97, 98, 99, 100]⟩ [3, 1, 3] = [⟨#[97]⟩, ⟨#[98, 99]⟩, ⟨#[]⟩, ⟨#[100]⟩] := by kernel_rfl
theorem ex_by {X : List ByteArray} (h : ByOut ⟨#[97, 98, 99, 100]⟩ [1, 2] X) : X = [⟨#[97]⟩, ⟨#[98, 99]⟩, ⟨#[100]⟩] := by
  refine h.unique ?_
  have h1 : ByR ⟨#[97, 98, 99, 100]⟩ [1, 2] 0 [1, 2] [⟨#[97]⟩, ⟨#[98, 99]⟩, ⟨#[100]⟩] :=
    .step (by decide) (.step (by decide) (.wrap (by decide) (.step (by decide) (.done (by decide)))))
  exact h1
theorem cells_in (W : World) (t : TypeId) (xs : List Value) (h : xs.length ≤ 1000) : SlIn (W.alloc (.cells xs.toArray t)) (some ⟨W.heap.size, 0, none⟩) xs.length xs :=
  (SlOwn.made W 0 (Nat.zero_le _) t xs (by unfold maxLen; omega)).toIn

set_option maxRecDepth 100000 in
set_option maxHeartbeats 1600000 in
theorem awake7_any (hT : Hid AtSays) (hB : Hid BySays) : AwakeSays := by
  intro w
  have hs4 : (⟨#[97, 98, 99, 100]⟩ : ByteArray).size ≤ 1000 := by decide
  have HAT := Lib.hid ex_at
  go_enter Try.func8, Try.ntmps8
  go_wp2_with fail
  refine (hT.out ⟨#[97, 98, 99, 100]⟩ [3, 1, 3] _ 3 3 _ hs4 (by omega) (Lib.hid (cells_in w 3 [.int .i64 3, .int .i64 1, .int .i64 3] (by simp))) (Lib.hid (by intro x hx; simp at hx; rcases hx with rfl | rfl | rfl <;> rfl))).mono ?_
  rintro x w1 ⟨O, co, rfl, _, HS, HB⟩
  rw [HAT.out] at HS
  have HB1 := Lib.hid ((up_alloc (Below.refl _ w) _).trans (HB.out.mono (up_alloc (Below.refl _ w) (.cells #[.int .i64 3, .int .i64 1, .int .i64 3] 3)).size))
  clear HB HAT
  go_wp2_with fail
  have hb1 := up_alloc (Below.refl _ w1) (.cells #[.string ⟨#[97]⟩, .string ⟨#[98, 99]⟩, .string ⟨#[]⟩, .string ⟨#[100]⟩] 9)
  refine (same_yes O _ 4 co 4 [⟨#[97]⟩, ⟨#[98, 99]⟩, ⟨#[]⟩, ⟨#[100]⟩] _ (HS.out.below hb1) (cells_in w1 9 [.string ⟨#[97]⟩, .string ⟨#[98, 99]⟩, .string ⟨#[]⟩, .string ⟨#[100]⟩] (by simp)) (by omega)).mono ?_
  rintro x w2 ⟨rfl, hb2⟩
  have HB2 := Lib.hid ((HB1.out.trans (hb1.mono HB1.out.size)).trans (hb2.mono (Nat.le_trans HB1.out.size hb1.size)))
  clear hb1 hb2 HB1 HS
  go_wp2_with fail
  have hb3 := up_alloc (Below.refl _ w2) (.cells #[.int .i64 1, .int .i64 2] 3)
  refine (hB.out ⟨#[97, 98, 99, 100]⟩ [1, 2] _ 2 2 _ hs4 (by omega) (Lib.hid (cells_in w2 3 [.int .i64 1, .int .i64 2] (by simp))) (Lib.hid (by intro x hx; simp at hx; rcases hx with rfl | rfl <;> rfl))).mono ?_
  rintro x w3 ⟨X, P, cp, rfl, HX, HN, HP, HB3⟩
  obtain rfl := ex_by HX.out
  have HB4 := Lib.hid ((HB2.out.trans (hb3.mono HB2.out.size)).trans (HB3.out.mono (Nat.le_trans HB2.out.size hb3.size)))
  clear hb3 HB2 HB3 HX HN
  go_wp2_with fail
  have hb5 := up_alloc (Below.refl _ w3) (.cells #[.string ⟨#[97]⟩, .string ⟨#[98, 99]⟩, .string ⟨#[100]⟩] 9)
  refine (same_yes P _ 3 cp 3 [⟨#[97]⟩, ⟨#[98, 99]⟩, ⟨#[100]⟩] _ (HP.out.below hb5) (cells_in w3 9 [.string ⟨#[97]⟩, .string ⟨#[98, 99]⟩, .string ⟨#[100]⟩] (by simp)) (by omega)).mono ?_
  rintro x w4 ⟨rfl, hb6⟩
  have HB6 := Lib.hid ((HB4.out.trans (hb5.mono HB4.out.size)).trans (hb6.mono (Nat.le_trans HB4.out.size hb5.size)))
  clear hb5 hb6 HB4
  go_wp2_with fail
  go_ret
  exact ⟨rfl, HB6.out⟩
end Go.Proofs.Ytjpemelnnemmiaa

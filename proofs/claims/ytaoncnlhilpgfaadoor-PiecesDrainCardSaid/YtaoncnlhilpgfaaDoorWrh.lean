/- Layer 11: the document's example over what the program's writer does. -/
import Derived.Test.YtaoncnlhilpgfaaDoorWrc
import Derived.Test.YtaoncnlhilpgfaaDoorQrk
namespace Go.Proofs.YtaoncnlhilpgfaaDoor
open Go.ChangeShapes Go.WideShapes Go.ChangeAt Go.RowKit
set_option linter.unusedVariables false
set_option linter.unusedSimpArgs false

def exR : List ByteArray := [⟨#[97]⟩, ⟨#[98]⟩]
theorem utfB_b : utfB ⟨#[98]⟩ = true := by
  unfold utfB
  refine decide_eq_true ?_
  rw [uok_whole (show UOk (bl ⟨#[98]⟩) from ⟨by decide, by decide⟩)]
  rfl
theorem exR_may : mayN exR = 0 := by unfold mayN exR; rw [if_neg (by simp), if_pos (by simp [utfB_a, utfB_b])]
theorem exR_line : lineO 44 34 1 true exR = ⟨#[97, 44, 98, 10]⟩ := by kernel_rfl
def exX : Wr1 := ⟨44, 34, 1, ⟨#[97, 44, 98, 10]⟩, 0, 1, false⟩
def exX2 : Wr1 := ⟨44, 34, 1, ⟨#[97, 44, 98, 10]⟩, 2, 1, false⟩
def exX3 : Wr1 := ⟨44, 34, 1, ⟨#[97, 44, 98, 10]⟩, 4, 1, false⟩
theorem exX_put : (Wr1.new 44 34 1).putE exR = 0 ∧ (Wr1.new 44 34 1).put exR = exX := by
  have h := put_one (d := 44) (q := 34) (e := 1) exR_may
  rw [exR_line] at h
  exact h
theorem exX_take : exX.take 2 = exX2 := rfl
theorem exX2_take : exX2.take 9 = exX3 := rfl
theorem exX_got : exX.got 2 = ⟨#[97, 44]⟩ := by kernel_rfl
theorem exX2_got : exX2.got 9 = ⟨#[98, 10]⟩ := by kernel_rfl
theorem exX_ok : exX.Ok := ⟨by decide, by decide, by decide, by decide, by decide⟩
theorem exX2_ok : exX2.Ok := ⟨by decide, by decide, by decide, by decide, by decide⟩
set_option maxRecDepth 100000 in
set_option maxHeartbeats 1600000 in
theorem awake11_any {WB : World → Addr → Wr1 → (Nat → Prop) → Prop} (H : Hid (PW WB)) : AwakeSays11 := by
  intro w
  have hnew := H.out.new_yes 44 34 1 w (by omega) (by omega) (by omega) (by omega) (by decide)
  go_enter Tryd.func8, Tryd.ntmps8
  go_wp2_with fail
  refine hnew.mono ?_
  rintro y W1 ⟨p, S0, rfl, HW1, HS1, HB1⟩
  clear hnew
  go_wp2_with fail
  obtain ⟨W2, hW2⟩ : ∃ W2, W2 = W1.alloc (.cells #[.string ⟨#[97]⟩, .string ⟨#[98]⟩] 9) := ⟨_, rfl⟩
  obtain ⟨b, hb⟩ : ∃ b, W1.heap.size = b := ⟨_, rfl⟩
  have hb12 : Below W1.heap.size W1 W2 := by rw [hW2]; exact up_alloc (Below.refl _ _) _
  have hs2 : StB W2 b 9 (strs exR).toArray := by rw [hW2]; exact StB.made _ hb.symm _ _
  have hsl : SlIn W2 (some ⟨b, 0, none⟩) 2 (strs exR) := cells_row hs2
  rw [← hW2, hb]
  have HW2 := Lib.hid (H.out.below HW1.out hb12)
  have HB2 := Lib.hid (HB1.out.trans (hb12.mono HB1.out.size))
  have hput := H.out.put (Wr1.new 44 34 1) p S0 (some ⟨b, 0, none⟩) 2 2 exR W2 (new_ok (by omega) (by omega) (by omega) (by omega)) (by decide) (by decide) (by omega) (by decide) HW2 (Lib.hid hsl)
  rw [exX_put.1, exX_put.2] at hput
  clear hW2 hb12 hs2 hsl hb
  refine hput.mono ?_
  rintro y W3 ⟨rfl, S3, HW3, HT3, HS3⟩
  have HO3 := Lib.hid (show ∀ k, S3 k → w.heap.size ≤ k from fun k hk => by
    rcases HS3.out k hk with h1 | h1
    · exact HS1.out k h1
    · have := HB2.out.size; omega)
  have HB3 := Lib.hid (HB2.out.trans (HT3.out.below HB2.out.size (fun k hk => HS1.out k hk)))
  clear hput
  go_wp2_with fail
  have ht := H.out.take exX p S3 2 W3 exX_ok (by decide) (by omega) (by omega) HW3
  rw [exX_take, exX_got] at ht
  refine ht.mono ?_
  rintro y W4 ⟨O4, m4, c4, S4, rfl, hm4, HSL4, HOS4, HW4, HT4, HS4⟩
  have HO4 := Lib.hid (show ∀ k, S4 k → w.heap.size ≤ k from fun k hk => by
    rcases HS4.out k hk with h1 | h1
    · exact HO3.out k h1
    · have := HB3.out.size; omega)
  have HB4 := Lib.hid (HB3.out.trans (HT4.out.below HB3.out.size (fun k hk => HO3.out k hk)))
  clear ht hm4
  go_wp2_with fail
  have ht := H.out.take exX2 p S4 9 W4 exX2_ok (by decide) (by omega) (by omega) HW4
  rw [exX2_take, exX2_got] at ht
  refine ht.mono ?_
  rintro y W5 ⟨O5, m5, c5, S5, rfl, hm5, HSL5, HOS5, HW5, HT5, HS5⟩
  have HB5 := Lib.hid (HB4.out.trans (HT5.out.below HB4.out.size (fun k hk => HO4.out k hk)))
  have s4 : SlIn W5 O4 m4 (u8s (bl ⟨#[97, 44]⟩)) := (HSL4.out.touch HT5.out (fun j hj hs => HOS4.out j hj hs)).toIn
  have s5 : SlIn W5 O5 m5 (u8s (bl ⟨#[98, 10]⟩)) := HSL5.out.toIn
  have v4 : (convert 43 9 (.slice O4 m4 c4)).run Tryd.prog W5 = .ok (.string ⟨#[97, 44]⟩) W5 := by rw [conv_text c4 Tryd.underlying43 Tryd.underlying5 Tryd.underlying9 s4, toBA_bl]
  have v5 : (convert 43 9 (.slice O5 m5 c5)).run Tryd.prog W5 = .ok (.string ⟨#[98, 10]⟩) W5 := by rw [conv_text c5 Tryd.underlying43 Tryd.underlying5 Tryd.underlying9 s5, toBA_bl]
  have hrd := H.out.ready exX3 p S5 W5 HW5
  have htt := fun (y : Above W5) => H.out.total exX3 p S5 (onto W5 y) (Lib.hid (H.out.below HW5.out (onto_below W5 y)))
  rw [show ((exX3.S.size : Int) - (exX3.tk : Int)) = 0 from rfl] at hrd
  rw [show (exX3.S.size : Int) = 4 from rfl] at htt
  clear ht hm5 s4 s5
  go_wp2_with (first
    | (go_at_call 17; with_reducible refine (above hrd).mono ?_; rintro x _ ⟨rfl, y1, rfl⟩)
    | (go_at_call 19; with_reducible refine (above (htt _)).mono ?_; rintro x _ ⟨rfl, y2, rfl⟩))
  go_ret
  exact ⟨rfl, up_onto' HB5.out _⟩
end Go.Proofs.YtaoncnlhilpgfaaDoor

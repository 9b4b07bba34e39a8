/- Layer 11: a writer that was handed a table's first records, plain. -/
import Derived.Test.YtoeanbfemgmgnaaGreatDoorWrb
import Derived.Test.YtoeanbfemgmgnaaGreatDoorZk
namespace Go.Proofs.YtoeanbfemgmgnaaGreatDoor
open Go.ChangeShapes Go.WideShapes Go.ChangeAt Go.RowKit
set_option linter.unusedVariables false
set_option linter.unusedSimpArgs false

/-- A writer of d, q, e that was handed the first k records of t, of whose text 'out' was taken. -/
structure WrAt (d q e : Int) (t : List (List ByteArray)) (k : Nat) (cl : Bool) (out : ByteArray) (X : Wr1) : Prop where
  hd : X.d = d
  hq : X.q = q
  he : X.e = e
  ct : X.ct = k
  hcl : X.cl = cl
  ok : X.Ok
  hS : bl X.S = textN d q e t k
  hout : bl out = (bl X.S).take X.tk
theorem WrAt.start {d q e : Int} (d0 : 0 ≤ d) (d1 : d ≤ 255) (q0 : 0 ≤ q) (q1 : q ≤ 255) (t : List (List ByteArray)) : WrAt d q e t 0 false ⟨#[]⟩ (Wr1.new d q e) :=
  ⟨rfl, rfl, rfl, rfl, rfl, new_ok d0 d1 q0 q1, rfl, rfl⟩
theorem WrAt.put {d q e : Int} {t : List (List ByteArray)} {k : Nat} {out : ByteArray} {X : Wr1} (h : WrAt d q e t k false out X) {r : List ByteArray} (hr : t[k]? = some r) (hm : mayN r = 0) : X.putE r = 0 ∧ WrAt d q e t (k + 1) false out (X.put r) := by
  have hE : X.putE r = 0 := by unfold Wr1.putE; rw [h.hcl, hm]; rfl
  refine ⟨hE, ?_⟩
  have hok := h.ok.put r
  unfold Wr1.put at hok ⊢
  rw [if_pos hE] at hok ⊢
  have hl : bl (X.S ++ X.lnO r) = textN d q e t (k + 1) := by
    rw [bl_append, h.hS, Wr1.lnO, bl_lineO h.ok.d0 h.ok.d1 h.ok.q0 h.ok.q1, h.hd, h.hq, h.he, h.ct]
    exact (rowsL_at hr).symm
  refine ⟨h.hd, h.hq, h.he, by show X.ct + 1 = k + 1; rw [h.ct], h.hcl, hok, hl, ?_⟩
  show bl out = (bl (X.S ++ X.lnO r)).take X.tk
  rw [h.hout, bl_append, List.take_append_of_le_length (by rw [bl_length]; exact h.ok.tk)]
theorem WrAt.take {d q e : Int} {t : List (List ByteArray)} {k : Nat} {cl : Bool} {out : ByteArray} {X : Wr1} (h : WrAt d q e t k cl out X) (n : Int) : WrAt d q e t k cl (out ++ X.got n) (X.take n) := by
  refine ⟨h.hd, h.hq, h.he, h.ct, h.hcl, h.ok.take n, h.hS, ?_⟩
  show bl (out ++ X.got n) = (bl X.S).take (X.tk + X.tkN n)
  unfold Wr1.got
  rw [bl_append, h.hout, bl_mid, Nat.add_sub_cancel_left, List.take_add]
theorem WrAt.shut {d q e : Int} {t : List (List ByteArray)} {k : Nat} {cl : Bool} {out : ByteArray} {X : Wr1} (h : WrAt d q e t k cl out X) : WrAt d q e t k true out X.shut := ⟨h.hd, h.hq, h.he, h.ct, rfl, ⟨h.ok.d0, h.ok.d1, h.ok.q0, h.ok.q1, h.ok.tk⟩, h.hS, h.hout⟩
theorem WrAt.size {d q e : Int} {t : List (List ByteArray)} {k : Nat} {cl : Bool} {out : ByteArray} {X : Wr1} (h : WrAt d q e t k cl out X) (hk : k ≤ t.length) : X.S.size ≤ 2 * bytN t + 3 * fldN t + 2 * t.length ∧ out.size = X.tk := by
  have h1 := rowsL_len d q e (t.take k) true
  have h2 := fldN_take_le t k
  have h3 := bytN_take_le t k
  have h4 : (t.take k).length ≤ t.length := by rw [List.length_take]; omega
  constructor
  · rw [← bl_length, h.hS]; unfold textN; omega
  · rw [← bl_length, h.hout, List.length_take, bl_length]; have := h.ok.tk; omega
theorem WrAt.all {d q e : Int} {t : List (List ByteArray)} {k : Nat} {cl : Bool} {out : ByteArray} {X : Wr1} (h : WrAt d q e t k cl out X) (ht : X.tk = X.S.size) : bl out = textN d q e t k := by
  rw [h.hout, ht, List.take_of_length_le (by rw [bl_length]; exact Nat.le_refl _), h.hS]
theorem got_size (X : Wr1) (n : Int) (h : X.Ok) : (X.got n).size = X.tkN n := by
  unfold Wr1.got
  have h1 := h.tk
  have h2 : X.tkN n ≤ X.S.size - X.tk := Nat.min_le_right _ _
  rw [ByteArray.size_extract]; omega
end Go.Proofs.YtoeanbfemgmgnaaGreatDoor

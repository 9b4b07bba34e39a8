/- Layer 10: SameTable at any two tables; a table's text is read as the table. -/
import Derived.Test.YtoeanbfemgmgnaaGreatDoorZq
import Derived.Test.YtoeanbfemgmgnaaGreatDoorZo
import Derived.Test.YtoeanbfemgmgnaaGreatDoorZp
namespace Go.Proofs.YtoeanbfemgmgnaaGreatDoor
open Go.ChangeShapes Go.WideShapes Go.ChangeAt Go.RowKit
set_option linter.unusedVariables false
set_option linter.unusedSimpArgs false

theorem back_tab (t : List (List ByteArray)) : (t.map fun r => r.map bl).map (fun r => r.map toBA) = t := by
  rw [List.map_map]
  have : ((fun r : List (List Int) => r.map toBA) ∘ fun r : List ByteArray => r.map bl) = id := by
    funext r
    show (r.map bl).map toBA = r
    rw [List.map_map]
    have : (toBA ∘ bl) = id := by funext s; exact toBA_bl s
    rw [this, List.map_id]
  rw [this, List.map_id]
/-- Every record may be written. -/
def AllMay (t : List (List ByteArray)) : Prop := ∀ r ∈ t, mayN r = 0
theorem front_all {t : List (List ByteArray)} (h : AllMay t) : frontN t = t.length := by
  induction t with
  | nil => rfl
  | cons r t ih =>
    unfold frontN
    rw [if_pos (h r (List.mem_cons_self ..)), ih (fun x hx => h x (List.mem_cons_of_mem _ hx))]
    rfl
theorem text_all {t : List (List ByteArray)} (h : AllMay t) (d q e : Int) : textN d q e t (frontN t) = tabL d e (canT d q true (t.map fun r => r.map bl)) := by
  unfold textN
  rw [front_all h, List.take_length, rowsL_tab]
theorem wrs_flds (x : List Wrs) : x.map (fun r => r.map fun p => toBA p.1) = (x.map flds).map fun r => r.map toBA := by
  rw [List.map_map]
  congr 1
  funext r
  simp [flds]
/-- A TABLE's TEXT IS READ AS THE TABLE, within whatever limits it fits. -/
theorem text_read3 {d q e : Int} (hr : rightB d q e = true) (t : List (List ByteArray)) (hm : AllMay t) (lf ls lr : Int) (n : Nat) (hl : (t.length : Int) ≤ lr) (hn : t.length < n) (hf : ∀ r ∈ t, (r.length : Int) ≤ ls) (hb : ∀ r ∈ t, ∀ y ∈ r, (y.size : Int) ≤ lf) (s : ByteArray) (hs : bl s = textN d q e t (frontN t)) :
    whRs (rdGo d q e n (mk0 lf ls lr false) 0 (bomStrip (bl s))) (bl s) = t ∧ (whKA (rdGo d q e n (mk0 lf ls lr false) 0 (bomStrip (bl s))) (bl s)).1 = 0 := by
  have hbt := right_bytes hr
  have hfl : (canT d q true (t.map fun r => r.map bl)).map flds = t.map fun r => r.map bl := flds_canT _ _
  have hlen : (canT d q true (t.map fun r => r.map bl)).length = t.length := by have := congrArg List.length hfl; simpa using this
  have hmem : ∀ r ∈ canT d q true (t.map fun r => r.map bl), ∃ x ∈ t, flds r = x.map bl := fun r hr => by
    have h1 : flds r ∈ (canT d q true (t.map fun r => r.map bl)).map flds := List.mem_map.2 ⟨r, hr, rfl⟩
    rw [hfl] at h1
    obtain ⟨x, hx, he⟩ := List.mem_map.1 h1
    exact ⟨x, hx, he.symm⟩
  have h := tab_read3 (right_dia hr) (by omega) (by omega) (right_ends hr) (canT d q true (t.map fun r => r.map bl)) lf ls lr (by rw [hlen]; exact hl) (canT_ok lf ls _ _ (fun r hr => by
      obtain ⟨x, hx, rfl⟩ := List.mem_map.1 hr
      refine ⟨fun e => (mayN_zero (hm x hx)).1 (by simpa using e), ?_, fun f hf => ?_⟩
      · have := hf x hx; rw [List.length_map]; omega
      · obtain ⟨y, hy, rfl⟩ := List.mem_map.1 hf
        have h1 := hb x hx y hy
        rw [bl_length]; omega))
    (fun r hr p hp => by
      obtain ⟨x, hx, he⟩ := hmem r hr
      have h1 : p.1 ∈ flds r := List.mem_map.2 ⟨p, hp, rfl⟩
      rw [he] at h1
      obtain ⟨y, hy, h2⟩ := List.mem_map.1 h1
      rw [← h2]; exact (mayN_zero (hm x hx)).2 y hy)
    (canT_mark _) n (by rw [hlen]; exact hn) (bl s) (by rw [hs, text_all hm])
  rw [wrs_flds, hfl, back_tab] at h
  exact h
theorem textO_size {d q e : Int} (d0 : 0 ≤ d) (d1 : d ≤ 255) (q0 : 0 ≤ q) (q1 : q ≤ 255) (t : List (List ByteArray)) : (textO d q e t).size ≤ 2 * bytN t + 3 * fldN t + 2 * t.length := by
  have h1 := rowsL_len d q e (t.take (frontN t)) true
  have h2 := fldN_take_le t (frontN t)
  have h3 := bytN_take_le t (frontN t)
  have h4 : (t.take (frontN t)).length ≤ t.length := by rw [List.length_take]; omega
  rw [← bl_length, bl_textO d0 d1 q0 q1]
  unfold textN
  omega
end Go.Proofs.YtoeanbfemgmgnaaGreatDoor

/- Helpers over any program: texts as lists of numbers (bl, toBA), their pieces, '==' between them, bytes made into a text. No condition. -/
import Derived.Test.YtngdmkhinebbdaaDoorKit
import Derived.LoopTactic
namespace Go.Proofs.YtngdmkhinebbdaaDoor
open Go.RowKit
set_option linter.unusedVariables false

/-- A text's bytes, as numbers. -/
def bl (s : ByteArray) : List Int := s.data.toList.map fun c => (c.toNat : Int)
theorem bl_length (s : ByteArray) : (bl s).length = s.size := by unfold bl; rw [List.length_map]; rfl
theorem bl_drop (s : ByteArray) (k : Nat) (h : k < s.size) : (bl s).drop k = ((s[k].toNat : Nat) : Int) :: (bl s).drop (k + 1) := by
  have h' : k < (bl s).length := by rw [bl_length]; exact h
  rw [List.drop_eq_getElem_cons h']
  simp [bl]
  rfl
theorem bl_end (s : ByteArray) (k : Nat) (h : s.size ≤ k) : (bl s).drop k = [] := List.drop_eq_nil_of_le (by rw [bl_length]; exact h)
theorem byte_lo (c : UInt8) : 0 ≤ ((c.toNat : Nat) : Int) := by omega
theorem byte_hi (c : UInt8) : ((c.toNat : Nat) : Int) ≤ 255 := by have := c.toNat_lt; omega
theorem onto_ex (w : World) (x : Above w) (y : Above (onto w x)) : ∃ z, onto (onto w x) y = onto w z := ⟨x.up y, rfl⟩
/-- A text of these bytes. -/
def toBA (l : List Int) : ByteArray := ⟨(l.map fun n => UInt8.ofNat n.toNat).toArray⟩
@[go_sem] theorem toBA_size (l : List Int) : (toBA l).size = l.length := by unfold toBA; show (l.map _).toArray.size = l.length; simp
theorem run_string_list {P : Program} (w : World) (src dst e : TypeId) (hs : P.underlying src = some (.slice e)) (he : P.underlying e = some (.int .u8)) (hd : P.underlying dst = some .string) (l : List Int) (t : TypeId) (n c : Nat) (hn : n = l.length) :
    (convert src dst (.slice (some ⟨w.heap.size, 0, none⟩) n c)).run P (w.alloc (.cells (l.map (Value.int .u8)).toArray t)) = .ok (.string (toBA l)) (w.alloc (.cells (l.map (Value.int .u8)).toArray t)) := by
  have := run_string_of (P := P) (w.alloc (.cells (l.map (Value.int .u8)).toArray t)) src dst e ⟨w.heap.size, 0, none⟩ n c l hs he hd hn (by
    intro j v hv
    rw [show (Addr.add ⟨w.heap.size, 0, none⟩ j : Addr) = ⟨w.heap.size, j, none⟩ from by simp [Addr.add]; intro h; exact h.symm]
    rw [World.cell?_alloc_mark w _ t (0, 0) j]
    rw [← hv]; simp)
  rw [this]
  congr 2
  have h : ∀ (l : List Int) (b : ByteArray), l.foldl (fun r n => r.push (UInt8.ofNat n.toNat)) b = b ++ toBA l := by
    intro l
    induction l with
    | nil => intro b; apply ByteArray.ext; simp [toBA]
    | cons x r ih =>
      intro b
      rw [List.foldl_cons, ih]
      apply ByteArray.ext
      simp [toBA, ByteArray.data_append]
  rw [h]
  apply ByteArray.ext
  simp

theorem bl_inj {a b : ByteArray} (h : bl a = bl b) : a = b := by
  have h1 : a.data.toList = b.data.toList := by
    refine List.map_inj_right (f := fun c : UInt8 => (c.toNat : Int)) ?_ |>.1 h
    intro x y hxy
    have hxy' : ((x.toNat : Nat) : Int) = y.toNat := hxy
    exact UInt8.toNat_inj.1 (by omega)
  exact ByteArray.ext (Array.toList_inj.1 h1)
theorem str_eq (a b : ByteArray) : (a.toList == b.toList) = decide (bl a = bl b) := by
  rw [Bool.eq_iff_iff]
  simp only [beq_iff_eq, decide_eq_true_eq, ByteArray.toList_eq]
  constructor
  · intro h; unfold bl; rw [h]
  · intro h; rw [bl_inj h]
theorem bl_toBA (l : List Int) (h : ∀ x ∈ l, 0 ≤ x ∧ x ≤ 255) : bl (toBA l) = l := by
  unfold bl toBA
  induction l with
  | nil => rfl
  | cons x r ih =>
    have hx := h x (by simp)
    have := ih (fun y hy => h y (by simp [hy]))
    simp only [List.map_cons] at this ⊢
    rw [this]
    congr 1
    rw [UInt8.toNat_ofNat']
    omega
theorem bl_take (s : ByteArray) (k : Nat) : bl (s.extract 0 k) = (bl s).take k := by
  unfold bl
  rw [ByteArray.data_extract, Array.toList_extract]
  simp [List.map_take, List.extract_eq_take_drop]
theorem bl_append (a b : ByteArray) : bl (a ++ b) = bl a ++ bl b := by unfold bl; rw [ByteArray.data_append, Array.toList_append, List.map_append]
theorem bl_from (s : ByteArray) (k : Nat) : bl (s.extract k s.size) = (bl s).drop k := by
  unfold bl
  rw [ByteArray.data_extract, Array.toList_extract]
  rw [List.extract_eq_take_drop, List.map_take, List.map_drop, List.take_of_length_le]
  rw [List.length_drop, List.length_map]
  show s.data.toList.length - k ≤ s.size - k
  exact Nat.le_refl _
theorem bl_mid (s : ByteArray) (i j : Nat) : bl (s.extract i j) = ((bl s).drop i).take (j - i) := by
  unfold bl
  rw [ByteArray.data_extract, Array.toList_extract]
  rw [List.extract_eq_take_drop, List.map_take, List.map_drop]

theorem str_ne {s : ByteArray} (h : 0 < s.size) : s.toList.isEmpty = false := by
  rw [ByteArray.toList_eq]
  cases e : s.data.toList with
  | nil => have : s.data.toList.length = 0 := by rw [e]; rfl
           have h' : 0 < s.data.toList.length := h
           omega
  | cons => rfl

theorem run_sub {P : Program} (w : World) (t : TypeId) (s : ByteArray) (a b : Nat) (i j : Int) (hi : i = a) (hj : j = b) (h1 : a ≤ b) (h2 : b ≤ s.size) (h : P.underlying t = some .string) :
    (Instr.slice t (.string s) (some (.int .i64 i)) (some (.int .i64 j)) none).run P w = .ok (.string (s.extract a b)) w := by
  subst hi hj
  have := run_slice_string (P := P) w t s .i64 .i64 (a : Int) (b : Int) h (by omega) (by omega) (by omega)
  simpa using this
theorem bool_eq {a b : Bool} (h : a = true ↔ b = true) : a = b := by cases a <;> cases b <;> simp_all
end Go.Proofs.YtngdmkhinebbdaaDoor

/- Helpers over any program: worlds that lie above a given one ('onto'), so that a region that draws its order and holds calls that make memory is walked once, in the order of the text. No condition. Helpers over any program: texts as lists of numbers (bl, toBA), their pieces, '==' between them, bytes made into a text. No condition. Words over any program: a slice of one-cell elements that reads as a list (SlIn), a slice in a block of the call's own (SlOwn), append onto such a one, bytes made into a text and back, a struct behind a pointer (StB). No condition. Helpers over any program: arguments that are slices of bytes, and slices of such, opened: as lists (SlIn). No condition. Words over any program: a whole row (array) by value, out of and into a block whose cells are known (StB), one operation at a time. No condition. Words over any program: what stays as it was where only some blocks turn (Touch); texts as cells; append onto a slice of one's own as a step of a region that draws its order; a store into such a slice. No condition. Words over any program: a range over a function where the iterator and the body each write blocks of their own alone (SeqT: what such an iterator promises; wpIn_range_T: the statement). No condition. Helpers over any program: make of a slice of one-cell elements (SlOwn). No condition. Words over any program: a region that draws its order of evaluation, in a round of a range over a function: what is proved of it in the plain walk (quiet: wpQuiet; any order: wpAny) serves there, too, where it holds no defer statement. No condition. Words over any program: a region that draws its order of evaluation, in a round of a range over a function, whose calls make memory: what yields one value in every world of a class (a load of a cell that all of them share) is taken first (takeC), the calls come where nothing else may (oneC). No condition. Words over any program: a region that draws its order of evaluation, in which ONE operation waits for all that stands ahead of it and all behind it waits for that one: ahead and behind each yields one value wherever it comes (the calls leave what was there as it was), the one in the middle may answer as it will (one_in_the_middle). No condition. Helpers over any program: tables ([][]string) in memory (RowsIn), and an argument that is one, opened. No condition. Words over any program: as Kit12, where the iterator has a state that it changes between what it hands on (a writer that is drained): SeqS, wpIn_range_S. No condition. Words over any program: a strings.Builder of one's own: what is written elsewhere leaves it as it was; what a write into it leaves as it was. No condition. Words over any program: append to a slice of one's own inside a range over a function. No condition. Words over any program: a slice that lies anywhere in a block (SlAt), cut, and appended to out of a text. No condition. -/
import Derived.WalkKit
import Derived.ProofKit
import Derived.OpenShut
import Derived.Below
import Derived.Lib.Hide
import Derived.Outline
import Derived.RegionTactic
import Derived.ChangeAlike
import Derived.BigQuiet
import Derived.Deep.Light
import Derived.Handy
import Derived.Laws.BytesString
import Derived.Laws.Cells
import Derived.LoopTactic
import Derived.ArgAppend
import Derived.OwnWalk
import Derived.Laws.OwnMore
import Derived.Laws.IdiomStrings
import Derived.Maps.AppendAt
import Derived.Deep.Matrix
import Derived.ChangeSlices
import Derived.WideShapes
import Derived.SizedLaws
import Derived.Deep.WholeRow
import Derived.Deep.MidRow
import Derived.Deep.RegionLaw
import Derived.RangeFuncNested
import Derived.RangeFuncCalls
import Derived.RangeFuncLeaves
import Derived.OrdersIn
import Derived.Deep.Quiet
import Derived.StillTail
import Derived.SliceStrings
import Derived.Lib.OthersKept
import Derived.RangeFuncBox
import Derived.RangeFuncFrom
import Derived.OwnWalkIn
import Derived.Deep.Upon
namespace Go.Proofs.YtoeanbfemgmgnaaGreatDoor
open Go.RowKit

/-- A world above w: all of w's blocks as they were. -/
structure Above (w : World) where
  it : World
  isAbove : Below w.heap.size w it
instance (w : World) : Nonempty (Above w) := ⟨⟨w, Below.refl _ _⟩⟩
def onto (w : World) (x : Above w) : World := x.1
theorem onto_below (w : World) (x : Above w) : Below w.heap.size w (onto w x) := x.2
theorem onto_self (w : World) : ∃ x, w = onto w x := ⟨⟨w, Below.refl _ _⟩, rfl⟩
theorem onto_of {w w' : World} (h : Below w.heap.size w w') : ∃ x, w' = onto w x := ⟨⟨w', h⟩, rfl⟩
@[go_sem] theorem cell?_onto (w : World) (x : Above w) (b o : Nat) (h : b < w.heap.size) : (onto w x).cell? ⟨b, o, none⟩ = w.cell? ⟨b, o, none⟩ := x.2.cell (p := ⟨b, o, none⟩) h
@[go_sem] theorem frozen?_onto (w : World) (x : Above w) (b o : Nat) (h : b < w.heap.size) : (onto w x).frozen? ⟨b, o, none⟩ = w.frozen? ⟨b, o, none⟩ := x.2.frozen (p := ⟨b, o, none⟩) h
theorem onto_size (w : World) (x : Above w) : w.heap.size ≤ (onto w x).heap.size := x.2.size
@[go_sem] theorem lt_onto (w : World) (x : Above w) (b : Nat) (h : b < w.heap.size) : (b < (onto w x).heap.size) = True := by
  have := onto_size w x; simp; omega
@[go_sem] theorem ne_onto (w : World) (x : Above w) (b : Nat) (h : b < w.heap.size) : (b = (onto w x).heap.size) = False := by
  have := onto_size w x; simp; omega
@[go_sem] theorem ne_onto' (w : World) (x : Above w) (b : Nat) (h : b < w.heap.size) : ((onto w x).heap.size = b) = False := by
  have := onto_size w x; simp; omega
def Above.up {w : World} (x : Above w) (y : Above (onto w x)) : Above w := ⟨y.it, x.isAbove.trans (y.isAbove.mono (onto_size w x))⟩
@[go_sem] theorem onto_onto (w : World) (x : Above w) (y : Above (onto w x)) : onto (onto w x) y = onto w (x.up y) := rfl
def Above.drew {w : World} (x : Above w) : Above w := ⟨x.it.drew, x.isAbove.drew⟩
@[go_sem] theorem onto_drew (w : World) (x : Above w) : (onto w x).drew = onto w x.drew := rfl
@[go_sem] theorem lt_onto_succ (w : World) (x : Above w) (b k : Nat) (h : b < w.heap.size) : (b < (onto w x).heap.size + k) = True := by
  have := onto_size w x; simp; omega
@[go_sem] theorem ne_onto_succ (w : World) (x : Above w) (b k : Nat) (h : b < w.heap.size) : (b = (onto w x).heap.size + k) = False := by
  have := onto_size w x; simp; omega
@[go_sem] theorem ne_onto_succ' (w : World) (x : Above w) (b k : Nat) (h : b < w.heap.size) : ((onto w x).heap.size + k = b) = False := by
  have := onto_size w x; simp; omega
@[go_sem] theorem lt_plus2 (n : Nat) : (n < n + 2) = True := by simp
@[go_sem] theorem lt_plus2' (n : Nat) : (n < n + 1 + 1) = True := by simp; try omega
@[go_sem] theorem lt_plus3 (n : Nat) : (n < n + 3) = True := by simp
@[go_sem] theorem lt_plus3' (n : Nat) : (n < n + 1 + 1 + 1) = True := by simp; try omega
@[go_sem] theorem lt_plus4 (n : Nat) : (n < n + 4) = True := by simp
@[go_sem] theorem lt_plus4' (n : Nat) : (n < n + 1 + 1 + 1 + 1) = True := by simp; try omega
@[go_sem] theorem lt_plus5 (n : Nat) : (n < n + 5) = True := by simp
@[go_sem] theorem lt_plus5' (n : Nat) : (n < n + 1 + 1 + 1 + 1 + 1) = True := by simp; try omega
@[go_sem] theorem lt_plus6 (n : Nat) : (n < n + 6) = True := by simp
@[go_sem] theorem lt_plus6' (n : Nat) : (n < n + 1 + 1 + 1 + 1 + 1 + 1) = True := by simp; try omega
/-- A later world is above w, too. -/
theorem below_onto {B : Nat} {v w : World} (h : Below B v w) (hB : B ≤ w.heap.size) (x : Above w) : Below B v (onto w x) := h.trans (x.2.mono hB)

/-- A region that draws its order, whose operations read and whose calls leave all that was there as it was. -/
theorem wp_region_onto {P : Program} {id : Nat} {Q : Exit → Act → World → Prop} {a : Act} {w : World} {l : List Oper} (hm : P.follows .mixedOrders = true) (hB : Region.lexB .any l.toArray = true)
    (h : wpQuiet P l.toArray (fun w' => ∃ x, w' = onto w x) (fun a' => ∀ w', (∃ x, w' = onto w x) → Q .normal a' w') l a) : (Code.region id l.toArray true).wp P Q a w :=
  wp_region_quiet (C := fun w' => ∃ x, w' = onto w x) hm hB (onto_of ((Below.refl _ w).drew)) (by simpa using h)

theorem calls_onto {P : Program} {f : FuncId} {args : Array Value} {w : World} {x : Above w} {v : Value}
    (h : Calls P f args (onto w x) fun e w' => e = .returned v ∧ Below (onto w x).heap.size (onto w x) w') : Calls P f args (onto w x) fun e w'' => e = .returned v ∧ ∃ y, w'' = onto w y :=
  h.mono fun _ _ ⟨he, hb⟩ => ⟨he, onto_of ((onto_below w x).trans (hb.mono (onto_size w x)))⟩
theorem calls_onto_same {P : Program} {f : FuncId} {args : Array Value} {w : World} {x : Above w} {v : Value}
    (h : Calls P f args (onto w x) fun e w' => e = .returned v ∧ onto w x = w') : Calls P f args (onto w x) fun e w'' => e = .returned v ∧ ∃ y, w'' = onto w y :=
  h.mono fun _ _ ⟨he, hb⟩ => ⟨he, ⟨x, hb.symm⟩⟩

/-- A contract's world as one above. -/
theorem above {P : Program} {f : FuncId} {args : Array Value} {w : World} {v : Ending} (h : Calls P f args w fun e w' => e = v ∧ Below w.heap.size w w') : Calls P f args w fun e w' => e = v ∧ ∃ y, w' = onto w y :=
  h.mono fun _ _ ⟨he, hb⟩ => ⟨he, onto_of hb⟩
theorem up_alloc {w v : World} (h : Below w.heap.size w v) (o : Obj) : Below w.heap.size w (v.alloc o) := h.alloc h.size o
theorem up_onto {w v : World} (h : Below w.heap.size w v) (x : Above v) : Below w.heap.size w (onto v x) := below_onto h h.size x
theorem up_drew {w v : World} (h : Below w.heap.size w v) : Below w.heap.size w v.drew := h.drew
theorem up_set {w v : World} (h : Below w.heap.size w v) {p : Addr} (hp : w.heap.size ≤ p.block) (u : Value) : Below w.heap.size w (v.setCell p u) := h.setCell hp u
theorem lt_of_cell {w : World} {a : Addr} {v : Value} (h : w.cell? a = some v) : a.block < w.heap.size := by
  rcases Nat.lt_or_ge a.block w.heap.size with h' | h'
  · exact h'
  · simp [World.cell?, Array.getElem?_eq_none h'] at h
theorem ret_bool {a b : Bool} (h : a = b) : Ending.returned (.bool a) = .returned (.bool b) := by rw [h]
theorem ret_int {k : IntKind} {a b : Int} (h : a = b) : Ending.returned (.int k a) = .returned (.int k b) := by rw [h]
theorem ret_string {a b : ByteArray} (h : a = b) : Ending.returned (.string a) = .returned (.string b) := by rw [h]
theorem bcell {W w1 : World} (hb : Below W.heap.size W w1) : (∀ b o, b < W.heap.size → w1.cell? ⟨b, o, none⟩ = W.cell? ⟨b, o, none⟩) ∧ (∀ b o, b < W.heap.size → w1.frozen? ⟨b, o, none⟩ = W.frozen? ⟨b, o, none⟩) :=
  ⟨fun b o h => hb.cell (p := ⟨b, o, none⟩) h, fun b o h => hb.frozen (p := ⟨b, o, none⟩) h⟩

/-- 'string(b)' of bytes whose cells are known. -/
theorem run_string_of {P : Program} (w : World) (src dst e : TypeId) (a : Addr) (l c : Nat) (ns : List Int) (hs : P.underlying src = some (.slice e)) (he : P.underlying e = some (.int .u8)) (hd : P.underlying dst = some .string)
    (hl : l = ns.length) (h : ∀ j v, (ns.map (Value.int .u8))[j]? = some v → w.cell? (a.add j) = some v) :
    (convert src dst (.slice (some a) l c)).run P w = .ok (.string (ns.foldl (fun r n => r.push (UInt8.ofNat n.toNat)) ByteArray.empty)) w := by
  subst hl
  rw [run_convert_bytes_string w src dst e _ _ _ hs he hd]
  refine run_bytesToString w a _ c ns ?_
  have := run_loadCells_list (P := P) (w := w) a (ns.map (Value.int .u8)) h
  simpa using this
theorem run_string_one' {P : Program} (w : World) (src dst e : TypeId) (hs : P.underlying src = some (.slice e)) (he : P.underlying e = some (.int .u8)) (hd : P.underlying dst = some .string) (x : Int) (t : TypeId) (c : Nat) :
    (convert src dst (.slice (some ⟨w.heap.size, 0, none⟩) 1 c)).run P (w.alloc (.cells #[.int .u8 x] t)) = .ok (.string ⟨#[UInt8.ofNat x.toNat]⟩) (w.alloc (.cells #[.int .u8 x] t)) := by
  have := run_string_of (P := P) (w.alloc (.cells #[.int .u8 x] t)) src dst e ⟨w.heap.size, 0, none⟩ 1 c [x] hs he hd rfl (by
    intro j v hv
    match j, hv with
    | 0, hv => simp at hv; subst hv; simp [Addr.add, go_sem]
    | j + 1, hv => simp at hv)
  rw [this]; rfl
end Go.Proofs.YtoeanbfemgmgnaaGreatDoor

namespace Go.Proofs.YtoeanbfemgmgnaaGreatDoor
open Go.RowKit
set_option linter.unusedVariables false

/-- A text's bytes, as numbers. -/
def bl (s : ByteArray) : List Int := s.data.toList.map fun c => (c.toNat : Int)
theorem bl_length (s : ByteArray) : (bl s).length = s.size := by unfold bl; rw [List.length_map]; rfl
theorem bl_drop (s : ByteArray) (k : Nat) (h : k < s.size) : (bl s).drop k = ((s[k].toNat : Nat) : Int) :: (bl s).drop (k + 1) := by
  have h' : k < (bl s).length := by rw [bl_length]; exact h
  rw [List.drop_eq_getElem_cons h']
  simp [bl]
  rfl
theorem bl_end (s : ByteArray) (k : Nat) (h : s.size ≤ k) : (bl s).drop k = [] := List.drop_eq_nil_of_le (by rw [bl_length]; exact h)
theorem byte_lo (c : UInt8) : 0 ≤ ((c.toNat : Nat) : Int) := by omega
theorem byte_hi (c : UInt8) : ((c.toNat : Nat) : Int) ≤ 255 := by have := c.toNat_lt; omega
theorem onto_ex (w : World) (x : Above w) (y : Above (onto w x)) : ∃ z, onto (onto w x) y = onto w z := ⟨x.up y, rfl⟩
/-- A text of these bytes. -/
def toBA (l : List Int) : ByteArray := ⟨(l.map fun n => UInt8.ofNat n.toNat).toArray⟩
@[go_sem] theorem toBA_size (l : List Int) : (toBA l).size = l.length := by unfold toBA; show (l.map _).toArray.size = l.length; simp
theorem run_string_list {P : Program} (w : World) (src dst e : TypeId) (hs : P.underlying src = some (.slice e)) (he : P.underlying e = some (.int .u8)) (hd : P.underlying dst = some .string) (l : List Int) (t : TypeId) (n c : Nat) (hn : n = l.length) :
    (convert src dst (.slice (some ⟨w.heap.size, 0, none⟩) n c)).run P (w.alloc (.cells (l.map (Value.int .u8)).toArray t)) = .ok (.string (toBA l)) (w.alloc (.cells (l.map (Value.int .u8)).toArray t)) := by
  have := run_string_of (P := P) (w.alloc (.cells (l.map (Value.int .u8)).toArray t)) src dst e ⟨w.heap.size, 0, none⟩ n c l hs he hd hn (by
    intro j v hv
    rw [show (Addr.add ⟨w.heap.size, 0, none⟩ j : Addr) = ⟨w.heap.size, j, none⟩ from by simp [Addr.add]; intro h; exact h.symm]
    rw [World.cell?_alloc_mark w _ t (0, 0) j]
    rw [← hv]; simp)
  rw [this]
  congr 2
  have h : ∀ (l : List Int) (b : ByteArray), l.foldl (fun r n => r.push (UInt8.ofNat n.toNat)) b = b ++ toBA l := by
    intro l
    induction l with
    | nil => intro b; apply ByteArray.ext; simp [toBA]
    | cons x r ih =>
      intro b
      rw [List.foldl_cons, ih]
      apply ByteArray.ext
      simp [toBA, ByteArray.data_append]
  rw [h]
  apply ByteArray.ext
  simp

theorem bl_inj {a b : ByteArray} (h : bl a = bl b) : a = b := by
  have h1 : a.data.toList = b.data.toList := by
    refine List.map_inj_right (f := fun c : UInt8 => (c.toNat : Int)) ?_ |>.1 h
    intro x y hxy
    have hxy' : ((x.toNat : Nat) : Int) = y.toNat := hxy
    exact UInt8.toNat_inj.1 (by omega)
  exact ByteArray.ext (Array.toList_inj.1 h1)
theorem str_eq (a b : ByteArray) : (a.toList == b.toList) = decide (bl a = bl b) := by
  rw [Bool.eq_iff_iff]
  simp only [beq_iff_eq, decide_eq_true_eq, ByteArray.toList_eq]
  constructor
  · intro h; unfold bl; rw [h]
  · intro h; rw [bl_inj h]
theorem bl_toBA (l : List Int) (h : ∀ x ∈ l, 0 ≤ x ∧ x ≤ 255) : bl (toBA l) = l := by
  unfold bl toBA
  induction l with
  | nil => rfl
  | cons x r ih =>
    have hx := h x (by simp)
    have := ih (fun y hy => h y (by simp [hy]))
    simp only [List.map_cons] at this ⊢
    rw [this]
    congr 1
    rw [UInt8.toNat_ofNat']
    omega
theorem bl_take (s : ByteArray) (k : Nat) : bl (s.extract 0 k) = (bl s).take k := by
  unfold bl
  rw [ByteArray.data_extract, Array.toList_extract]
  simp [List.map_take, List.extract_eq_take_drop]
theorem bl_append (a b : ByteArray) : bl (a ++ b) = bl a ++ bl b := by unfold bl; rw [ByteArray.data_append, Array.toList_append, List.map_append]
theorem bl_from (s : ByteArray) (k : Nat) : bl (s.extract k s.size) = (bl s).drop k := by
  unfold bl
  rw [ByteArray.data_extract, Array.toList_extract]
  rw [List.extract_eq_take_drop, List.map_take, List.map_drop, List.take_of_length_le]
  rw [List.length_drop, List.length_map]
  show s.data.toList.length - k ≤ s.size - k
  exact Nat.le_refl _
theorem bl_mid (s : ByteArray) (i j : Nat) : bl (s.extract i j) = ((bl s).drop i).take (j - i) := by
  unfold bl
  rw [ByteArray.data_extract, Array.toList_extract]
  rw [List.extract_eq_take_drop, List.map_take, List.map_drop]

theorem str_ne {s : ByteArray} (h : 0 < s.size) : s.toList.isEmpty = false := by
  rw [ByteArray.toList_eq]
  cases e : s.data.toList with
  | nil => have : s.data.toList.length = 0 := by rw [e]; rfl
           have h' : 0 < s.data.toList.length := h
           omega
  | cons => rfl

theorem run_sub {P : Program} (w : World) (t : TypeId) (s : ByteArray) (a b : Nat) (i j : Int) (hi : i = a) (hj : j = b) (h1 : a ≤ b) (h2 : b ≤ s.size) (h : P.underlying t = some .string) :
    (Instr.slice t (.string s) (some (.int .i64 i)) (some (.int .i64 j)) none).run P w = .ok (.string (s.extract a b)) w := by
  subst hi hj
  have := run_slice_string (P := P) w t s .i64 .i64 (a : Int) (b : Int) h (by omega) (by omega) (by omega)
  simpa using this
end Go.Proofs.YtoeanbfemgmgnaaGreatDoor

namespace Go.Proofs.YtoeanbfemgmgnaaGreatDoor
open Go.RowKit
set_option linter.unusedVariables false

/-- The first n elements of the slice at A are xs. -/
def SlIn (w : World) (A : Option Addr) (n : Nat) (xs : List Value) : Prop :=
  xs.length = n ∧ ∀ j u, xs[j]? = some u → ∃ a, A = some a ∧ w.cell? (a.add j) = some u

theorem add_block (a : Addr) (n : Nat) : (a.add n).block = a.block := by unfold Addr.add; split <;> rfl
theorem add_twice (a : Addr) (i j : Nat) : (a.add i).add j = a.add (i + j) := by
  unfold Addr.add
  by_cases hi : i = 0 <;> by_cases hj : j = 0 <;> simp [hi, hj, Nat.add_assoc]

section
variable {w w' : World} {A : Option Addr} {n : Nat} {xs : List Value}
theorem SlIn.nothing (w : World) (A : Option Addr) : SlIn w A 0 [] := ⟨rfl, fun j u h => by simp at h⟩
theorem SlIn.at_ (h : SlIn w A n xs) {k : Nat} {u : Value} (hk : xs[k]? = some u) : ∃ a, A = some a ∧ w.cell? (a.add k) = some u := h.2 k u hk
theorem SlIn.keep (h : SlIn w A n xs) (hk : ∀ p : Addr, ∀ u, w.cell? p = some u → (∃ a, A = some a ∧ p.block = a.block) → w'.cell? p = some u) : SlIn w' A n xs :=
  ⟨h.1, fun j u hu => by
    obtain ⟨a, e, hc⟩ := h.2 j u hu
    exact ⟨a, e, hk _ _ hc ⟨a, e, add_block a j⟩⟩⟩
theorem SlIn.below (h : SlIn w A n xs) (hb : Below w.heap.size w w') : SlIn w' A n xs := h.keep fun p u hc _ => (hb.cell (lt_of_cell hc)).trans hc
theorem SlIn.drew (h : SlIn w A n xs) : SlIn w.drew A n xs := h
theorem SlIn.alloc (h : SlIn w A n xs) (o : Obj) : SlIn (w.alloc o) A n xs := h.below ((Below.refl _ _).alloc (Nat.le_refl _) o)
theorem SlIn.grown (h : SlIn w A n xs) {row : Option Nat} (hg : w.grownBy w' row) (hr : ∀ a, A = some a → some a.block ≠ row) : SlIn w' A n xs :=
  h.keep fun p u hc ⟨a, e, hp⟩ => hg.cell hc (by rw [hp]; exact hr a e)
theorem SlIn.cut (h : SlIn w A n xs) {k cap : Nat} (hk : k ≤ n) (hc : n ≤ cap) :
    SlIn w (if cap = k then A else A.map (·.add k)) (n - k) (xs.drop k) := by
  refine ⟨by rw [List.length_drop, h.1], fun j u hu => ?_⟩
  rw [List.getElem?_drop] at hu
  obtain ⟨a, rfl, hcell⟩ := h.2 _ u hu
  have hlt : k + j < n := by have := (List.getElem?_eq_some_iff.1 hu).1; rw [h.1] at this; exact this
  rw [if_neg (by omega)]
  exact ⟨a.add k, rfl, by rw [add_twice]; exact hcell⟩
theorem SlIn.take (h : SlIn w A n xs) {k : Nat} (hk : k ≤ n) : SlIn w A k (xs.take k) := by
  refine ⟨by rw [List.length_take, h.1]; omega, fun j u hu => ?_⟩
  have hlt : j < k := by have := (List.getElem?_eq_some_iff.1 hu).1; rw [List.length_take] at this; omega
  rw [List.getElem?_take_of_lt hlt] at hu
  exact h.2 j u hu
end

/-- The slice (A, n, c) reads as xs and lies at the head of a block of the call's own (from base on) whose cells can be written; or it is nil. -/
def SlOwn (w : World) (base : Nat) (e : TypeId) (A : Option Addr) (n c : Nat) (xs : List Value) : Prop :=
  xs.length = n ∧ n ≤ c ∧ c ≤ maxLen ∧ ((A = none ∧ c = 0) ∨
    ∃ (g : Nat) (cur : Array Value) (fz : Nat × Nat), A = some ⟨g, 0, none⟩ ∧ base ≤ g ∧ w.heap[g]? = some (.cells cur e fz) ∧ cur.size = c ∧ (fz.2 ≤ fz.1 ∨ c ≤ fz.1) ∧ ∀ (j : Nat) (u : Value), xs[j]? = some u → cur[j]? = some u)

def blkOf (A : Option Addr) : Option Nat := A.map (·.block)

section
variable {w w' : World} {base : Nat} {e : TypeId} {A : Option Addr} {n c : Nat} {xs : List Value}
theorem SlOwn.nothing (w : World) (base : Nat) (e : TypeId) : SlOwn w base e none 0 0 [] := ⟨rfl, Nat.le_refl _, Nat.zero_le _, .inl ⟨rfl, rfl⟩⟩
theorem SlOwn.toIn (h : SlOwn w base e A n c xs) : SlIn w A n xs := by
  obtain ⟨h1, h2, h3, h4⟩ := h
  refine ⟨h1, fun j u hu => ?_⟩
  have hj := (List.getElem?_eq_some_iff.1 hu).1
  rcases h4 with ⟨_, hc⟩ | ⟨g, cur, fz, rfl, _, hg, _, _, hx⟩
  · omega
  · refine ⟨_, rfl, ?_⟩
    have : (⟨g, 0, none⟩ : Addr).add j = ⟨g, j, none⟩ := by unfold Addr.add; split <;> simp_all
    rw [this, cell_of_row w g j cur e fz hg]
    exact hx j u hu
theorem heap_lt {w : World} {g : Nat} {o : Obj} (h : w.heap[g]? = some o) : g < w.heap.size := by
  rcases Nat.lt_or_ge g w.heap.size with h' | h'
  · exact h'
  · rw [Array.getElem?_eq_none h'] at h; cases h
theorem SlOwn.blk (h : SlOwn w base e A n c xs) : ∀ k, blkOf A = some k → base ≤ k ∧ k < w.heap.size := by
  intro k hk
  rcases h.2.2.2 with ⟨rfl, _⟩ | ⟨g, cur, fz, rfl, hb, hg, _⟩
  · cases hk
  · have : g = k := by simpa [blkOf] using hk
    subst this
    exact ⟨hb, heap_lt hg⟩
theorem SlOwn.keep (h : SlOwn w base e A n c xs) (hk : ∀ k, blkOf A = some k → w'.heap[k]? = w.heap[k]?) : SlOwn w' base e A n c xs := by
  obtain ⟨h1, h2, h3, h4⟩ := h
  refine ⟨h1, h2, h3, ?_⟩
  rcases h4 with h4 | ⟨g, cur, fz, rfl, hb, hg, hr⟩
  · exact .inl h4
  · exact .inr ⟨g, cur, fz, rfl, hb, (hk g rfl).trans hg, hr⟩
theorem SlOwn.below (h : SlOwn w base e A n c xs) (hb : Below w.heap.size w w') : SlOwn w' base e A n c xs := h.keep fun k hk => hb.block k (h.blk k hk).2
theorem SlOwn.grown (h : SlOwn w base e A n c xs) {row : Option Nat} (hg : w.grownBy w' row) (hr : ∀ k, blkOf A = some k → some k ≠ row) : SlOwn w' base e A n c xs :=
  h.keep fun k hk => hg.block k (h.blk k hk).2 (hr k hk)
theorem SlOwn.mono (h : SlOwn w base e A n c xs) {base' : Nat} (hb : base' ≤ base) : SlOwn w base' e A n c xs := by
  obtain ⟨h1, h2, h3, h4⟩ := h
  refine ⟨h1, h2, h3, ?_⟩
  rcases h4 with h4 | ⟨g, cur, fz, rfl, hb', hr⟩
  · exact .inl h4
  · exact .inr ⟨g, cur, fz, rfl, Nat.le_trans hb hb', hr⟩
theorem SlOwn.made (w : World) (base : Nat) (hb : base ≤ w.heap.size) (e : TypeId) (xs : List Value) (hm : xs.length ≤ maxLen) :
    SlOwn (w.alloc (.cells xs.toArray e)) base e (some ⟨w.heap.size, 0, none⟩) xs.length xs.length xs :=
  ⟨rfl, Nat.le_refl _, hm, .inr ⟨w.heap.size, xs.toArray, (0, 0), rfl, hb, heap_alloc_new w _, by simp, .inl (Nat.le_refl _), fun j u hu => by simpa using hu⟩⟩
theorem frozen_off {w : World} {g j : Nat} {cur : Array Value} {e : TypeId} {fz : Nat × Nat} (hg : w.heap[g]? = some (.cells cur e fz)) (hf : fz.2 ≤ fz.1 ∨ cur.size ≤ fz.1) (hj : j < cur.size) : w.frozen? ⟨g, j, none⟩ = false := by
  obtain ⟨a, b⟩ := fz
  simp only [World.frozen?, hg]
  have : ¬ (a ≤ j ∧ j < b) := by simp at hf; omega
  rcases Nat.lt_or_ge j a with h | h
  · simp [Nat.not_le.2 h]
  · have : ¬ j < b := fun h' => this ⟨h, h'⟩
    simp [this]
theorem SlOwn.cellAt (h : SlOwn w base e A n c xs) {k : Nat} (hk : k < n) : ∃ g u, A = some ⟨g, 0, none⟩ ∧ base ≤ g ∧ g < w.heap.size ∧ xs[k]? = some u ∧ w.cell? ⟨g, k, none⟩ = some u ∧ w.frozen? ⟨g, k, none⟩ = false := by
  obtain ⟨h1, h2, h3, h4⟩ := h
  rcases h4 with ⟨_, hc⟩ | ⟨g, cur, fz, rfl, hb, hg, hs, hf, hx⟩
  · omega
  · have hu : xs[k]? = some (xs[k]'(by omega)) := List.getElem?_eq_getElem (by omega)
    exact ⟨g, _, rfl, hb, heap_lt hg, hu, (cell_of_row w g k cur e fz hg).trans (hx k _ hu), frozen_off hg (by omega) (by omega)⟩
end

/-- The cells of one block written one by one: what becomes of it, and of the others. -/
theorem setCells_row (g : Nat) (e : TypeId) (fz : Nat × Nat) : ∀ (vs : List Value) (o : Nat) (w : World) (cur : Array Value), w.heap[g]? = some (.cells cur e fz) →
    ∃ cur', (w.setCells g o vs).heap[g]? = some (.cells cur' e fz) ∧ cur'.size = cur.size ∧ (∀ j, j < o → cur'[j]? = cur[j]?) ∧ (∀ j u, vs[j]? = some u → o + j < cur.size → cur'[o + j]? = some u)
  | [], o, w, cur, h => ⟨cur, h, rfl, fun _ _ => rfl, fun j u hu => by simp at hu⟩
  | v :: r, o, w, cur, h => by
    have h' : (w.setCell ⟨g, o, none⟩ v).heap[g]? = some (.cells (cur.setIfInBounds o v) e fz) := by
      simp [World.setCell, Array.getElem?_modify, h]
    obtain ⟨cur', a, b, c, d⟩ := setCells_row g e fz r (o + 1) _ _ h'
    refine ⟨cur', a, by rw [b]; simp, fun j hj => ?_, fun j u hu hlt => ?_⟩
    · rw [c j (by omega), Array.getElem?_setIfInBounds, if_neg (by omega)]
    · match j, hu with
      | 0, hu =>
        simp at hu; subst hu
        rw [Nat.add_zero, c o (by omega), Array.getElem?_setIfInBounds, if_pos rfl, if_pos (by simpa using hlt)]
      | j + 1, hu =>
        have := d j u (by simpa using hu) (by simp; omega)
        rw [show o + (j + 1) = o + 1 + j by omega]; exact this
theorem setCells_grown (g : Nat) : ∀ (vs : List Value) (o : Nat) (w : World), w.grownBy (w.setCells g o vs) (some g)
  | [], o, w => World.grownBy.refl w _
  | v :: r, o, w => by
    have h1 : w.grownBy (w.setCell ⟨g, o, none⟩ v) (some g) := ⟨rfl, rfl, rfl, by simp [World.setCell], fun k _ hk => Below.heap_setCell w ⟨g, o, none⟩ v k (fun he => hk (by simp [he]))⟩
    exact h1.trans (setCells_grown g r (o + 1) _)

/-- append onto a slice of the call's own: whatever the source. -/
theorem append_own {P : Program} (w : World) (t ty e : TypeId) (i : TypeInfo) (z : Value) (bytes : Nat) (ht : P.underlying t = some (.slice e)) (hi : P.info? e = some i) (hz : i.zero = some z)
    (hsz : i.size = 1) (hby : i.bytes = bytes) (hzs : z.cells.size = 1) (base : Nat) (A : Option Addr) (n c : Nat) (xs : List Value) (ho : SlOwn w base e A n c xs)
    (A2 : Option Addr) (m c2 : Nat) (ys : List Value) (hin : SlIn w A2 m ys) (h1 : ∀ u ∈ ys, u.oneCell' = true) (h63 : n + m ≤ maxLen) (hbytes : (n + m) * bytes ≤ 140737488355328) (hbase : base ≤ w.heap.size) :
    ∃ A' c' w', (Builtin.append_ #[t, t] ty #[.slice A n c, .slice A2 m c2]).run P w = .ok (.slice A' (n + m) c') w' ∧ SlOwn w' base e A' (n + m) c' (xs ++ ys) ∧ w.grownBy w' (blkOf A) ∧
      (A' = A ∨ A' = some ⟨w.heap.size, 0, none⟩) := by
  obtain ⟨l1, l2, l3, l4⟩ := ho
  by_cases hm : m = 0
  · subst hm
    have hys : ys = [] := List.eq_nil_of_length_eq_zero hin.1
    subst hys
    refine ⟨A, c, w, ?_, by simpa using ⟨l1, l2, l3, l4⟩, World.grownBy.refl _ _, .inl rfl⟩
    have hfc : (Builtin.firstCells i.size 0 (.slice A2 0 c2)).run P w = .ok #[] w := by
      cases A2 with
      | none => exact run_firstCells_none (P := P) w _ _ _ _
      | some a => exact run_firstCells_some (P := P) w i.size 0 a 0 c2 [] (by simp) (by simp)
    cases A with
    | none => simp [Builtin.append_, run_underlying ht, sizeOf, typeInfo, hi, Builtin.lenOf, hfc, l2]
    | some a => simp [Builtin.append_, run_underlying ht, sizeOf, typeInfo, hi, Builtin.lenOf, hfc, l2, storeCells]
  · obtain ⟨a2, rfl, _⟩ := hin.2 0 _ (List.getElem?_eq_getElem (by have := hin.1; omega))
    have hnews : ∀ j u, ys[j]? = some u → w.cell? (a2.add j) = some u := fun j u hu => by
      obtain ⟨a, ha, hc⟩ := hin.2 j u hu
      injection ha with ha; subst ha; exact hc
    have hlen : ys.length = m * i.size := by rw [hsz, Nat.mul_one]; exact hin.1
    have hsmall : n + m ≤ 9223372036854775807 := by simp only [maxLen] at h63; omega
    have hcat : (xs ++ ys).length = n + m := by rw [List.length_append, l1, hin.1]
    have fresh : ∀ (old : Nat), SlOwn (w.drew.alloc (.cells (xs.toArray ++ ys.toArray ++ Builtin.zeroCells z.cells (grownCap w (n + m) old e - (n + m))) e)) base e (some ⟨w.heap.size, 0, none⟩) (n + m) (grownCap w (n + m) old e) (xs ++ ys) := by
      intro old
      have hge := grownCap_ge w (n + m) old e
      refine ⟨hcat, hge, grownCap_le_maxLen w (n + m) old e h63, .inr ⟨w.heap.size, _, (0, 0), rfl, hbase, heap_alloc_new w.drew _, ?_, .inl (Nat.le_refl _), fun j u hu => ?_⟩⟩
      · simp only [Array.size_append, List.size_toArray, size_zeroCells, hzs, Nat.mul_one, l1, hin.1]; omega
      · have hj := (List.getElem?_eq_some_iff.1 hu).1
        rw [Array.getElem?_append_left (by simpa using hj)]; simpa using hu
    have grew : ∀ (C : Array Value), w.grownBy (w.drew.alloc (.cells C e)) (blkOf A) := fun C => ⟨rfl, rfl, rfl, by simp, fun k hk _ => heap_alloc_old w.drew _ hk⟩
    rcases l4 with ⟨rfl, rfl⟩ | ⟨g, cur, fz, rfl, hb, hg, hs, hf, hx⟩
    · have hn : n = 0 := by omega
      subst hn
      have hxs : xs = [] := List.eq_nil_of_length_eq_zero l1
      subst hxs
      have hr := run_append_nil (P := P) w t ty e i z ht hi hz a2 m c2 ys hlen hnews (by omega) (by omega) (by rw [hby]; simp only [Nat.zero_add] at hbytes; omega)
      have hfr := fresh 0
      simp only [Nat.zero_add, List.nil_append, Array.empty_append] at hfr ⊢
      exact ⟨_, _, _, hr, hfr, grew _, .inr rfl⟩
    · by_cases hroom : n + m ≤ c
      · have hcells : ∀ j, j < ys.length → (w.cell? ⟨g, 0 + n * i.size + j, none⟩).isSome = true := fun j hj => by
          rw [hsz, cell_of_row w g _ cur e fz hg, Array.getElem?_eq_getElem (by have := hin.1; omega)]; rfl
        have hfz : ∀ j, j < ys.length → w.frozen? ⟨g, 0 + n * i.size + j, none⟩ = false := fun j hj => frozen_off hg (by omega) (by rw [hsz]; have := hin.1; omega)
        have hr := run_append_room_cells (P := P) w t ty e i ht hi g 0 n c a2 m c2 ys hlen hnews h1 hroom hcells hfz
        rw [hsz, Nat.mul_one, Nat.zero_add] at hr
        obtain ⟨cur', q1, q2, q3, q4⟩ := setCells_row g e fz ys n w cur hg
        refine ⟨_, _, _, hr, ⟨hcat, hroom, l3, .inr ⟨g, cur', fz, rfl, hb, q1, by omega, hf, fun j u hu => ?_⟩⟩, setCells_grown g ys n w, .inl rfl⟩
        by_cases hj : j < n
        · rw [List.getElem?_append_left (by omega)] at hu
          rw [q3 j hj]; exact hx j u hu
        · rw [List.getElem?_append_right (by omega), l1] at hu
          have hjl := (List.getElem?_eq_some_iff.1 hu).1
          have := q4 (j - n) u hu (by have := hin.1; omega)
          rwa [show n + (j - n) = j by omega] at this
      · have holds : ∀ j u, xs[j]? = some u → w.cell? ((⟨g, 0, none⟩ : Addr).add j) = some u := fun j u hu => by
          have : (⟨g, 0, none⟩ : Addr).add j = ⟨g, j, none⟩ := by unfold Addr.add; split <;> simp_all
          rw [this, cell_of_row w g j cur e fz hg]; exact hx j u hu
        have hr := run_append_grow (P := P) w t ty e i z ht hi hz ⟨g, 0, none⟩ n c xs (by rw [hsz, Nat.mul_one]; exact l1) holds a2 m c2 ys hlen hnews (by omega) (by omega) (growslice_fits (by omega) (by rw [hby]; exact hbytes))
        exact ⟨_, _, _, hr, fresh c, grew _, .inr rfl⟩

/-- At the operation. -/
theorem wpList_append_sl {P : Program} (w : World) {ops : Array Oper} {rest : List Oper} {o : Oper} {a : Act} {Q : Exit → Act → World → Prop} (hgd : o.guard = none) (s x : Operand) (t : TypeId)
    (hop : o.op = .call { callee := .builtin .append, args := #[s, x], argTypes := #[t, t] })
    (e : TypeId) (i : TypeInfo) (z : Value) (bytes : Nat) (ht : P.underlying t = some (.slice e)) (hi : P.info? e = some i) (hz : i.zero = some z)
    (hsz : i.size = 1) (hby : i.bytes = bytes) (hzs : z.cells.size = 1) (base : Nat) (A : Option Addr) (n c : Nat) (xs : List Value) (hs : a.eval s = .slice A n c) (ho : SlOwn w base e A n c xs)
    (A2 : Option Addr) (m c2 : Nat) (ys : List Value) (hx : a.eval x = .slice A2 m c2) (hin : SlIn w A2 m ys) (h1 : ∀ u ∈ ys, u.oneCell' = true) (h63 : n + m ≤ maxLen) (hbytes : (n + m) * bytes ≤ 140737488355328) (hbase : base ≤ w.heap.size)
    (h : ∀ A' c' w', SlOwn w' base e A' (n + m) c' (xs ++ ys) → w.grownBy w' (blkOf A) → (A' = A ∨ A' = some ⟨w.heap.size, 0, none⟩) → wpList P ops Q rest (a.put o.dst (.slice A' (n + m) c')) w') : wpList P ops Q (o :: rest) a w := by
  refine wpList_plain hgd fun K hK => ?_
  obtain ⟨A', c', w', hr, h2, h3, h4⟩ := append_own (P := P) w t o.type e i z bytes ht hi hz hsz hby hzs base A n c xs ho A2 m c2 ys hin h1 h63 hbytes hbase
  unfold Oper.wp execOp
  simp only [hop, resolve, invoke, builtin, Sem.run_bind, Sem.run_pure, Result.andThen_ok, List.map_toArray, List.map_cons, List.map_nil, hs, hx, hr]
  exact hK _ _ (h A' c' w' h2 h3 h4)

/-- Bytes as cells. -/
def u8s (l : List Int) : List Value := l.map (Value.int .u8)
theorem u8s_length (l : List Int) : (u8s l).length = l.length := by unfold u8s; simp
theorem u8s_append (a b : List Int) : u8s (a ++ b) = u8s a ++ u8s b := by unfold u8s; simp
theorem u8s_one {l : List Int} : ∀ u ∈ u8s l, u.oneCell' = true := by
  intro u hu; unfold u8s at hu; obtain ⟨x, _, rfl⟩ := List.mem_map.1 hu; rfl
theorem u8s_get {l : List Int} {k : Nat} {x : Int} (h : l[k]? = some x) : (u8s l)[k]? = some (.int .u8 x) := by unfold u8s; simp [h]
theorem u8s_get_inv {l : List Int} {k : Nat} {u : Value} (h : (u8s l)[k]? = some u) : ∃ x, l[k]? = some x ∧ u = .int .u8 x := by
  unfold u8s at h; rw [List.getElem?_map] at h
  cases e : l[k]? with
  | none => rw [e] at h; cases h
  | some x => rw [e] at h; exact ⟨x, rfl, by simpa using h.symm⟩
theorem SlIn.len8 {w : World} {A : Option Addr} {n : Nat} {l : List Int} (h : SlIn w A n (u8s l)) : l.length = n := by rw [← h.1, u8s_length]

/-- 'string(b)'. -/
theorem conv_text {P : Program} {w : World} {src dst e : TypeId} {A : Option Addr} {n : Nat} {l : List Int} (c : Nat) (hs : P.underlying src = some (.slice e)) (he : P.underlying e = some (.int .u8)) (hd : P.underlying dst = some .string)
    (h : SlIn w A n (u8s l)) : (convert src dst (.slice A n c)).run P w = .ok (.string (toBA l)) w := by
  have hl := h.len8
  have key : ∀ (l : List Int) (b : ByteArray), l.foldl (fun r n => r.push (UInt8.ofNat n.toNat)) b = b ++ toBA l := by
    intro l
    induction l with
    | nil => intro b; apply ByteArray.ext; simp [toBA]
    | cons x r ih =>
      intro b
      rw [List.foldl_cons, ih]
      apply ByteArray.ext
      simp [toBA, ByteArray.data_append]
  cases A with
  | none =>
    have : n = 0 := by
      rcases Nat.eq_zero_or_pos n with h0 | h0
      · exact h0
      · obtain ⟨a, ha, _⟩ := h.2 0 _ (List.getElem?_eq_getElem (by have := h.1; omega)); cases ha
    subst this
    have : l = [] := List.eq_nil_of_length_eq_zero hl
    subst this
    rw [run_convert_bytes_string w src dst e none 0 c hs he hd]
    simp [Conv.bytesToString, toBA]
    rfl
  | some a =>
    subst hl
    have := run_string_of (P := P) w src dst e a l.length c l hs he hd rfl (fun j v hv => by
      obtain ⟨a', ha, hc⟩ := h.2 j v hv
      injection ha with ha; subst ha; exact hc)
    rw [this, key]
    congr 2
    first | done | (apply ByteArray.ext; simp)

/-- '[]byte(s)'. -/
theorem conv_bytes {P : Program} (w : World) (src dst e : TypeId) (s : ByteArray) (hs : P.underlying src = some .string) (hd : P.underlying dst = some (.slice e)) (he : P.underlying e = some (.int .u8)) (hm : s.size ≤ maxLen) :
    ∃ c w', (convert src dst (.string s)).run P w = .ok (.slice (some ⟨w.heap.size, 0, none⟩) s.size c) w' ∧ SlOwn w' w.heap.size e (some ⟨w.heap.size, 0, none⟩) s.size c (u8s (bl s)) ∧ Below w.heap.size w w' := by
  refine ⟨_, _, run_bytes_of_string w src dst e s hs hd he, ?_, ((Below.refl _ w).drew).alloc (Nat.le_refl _) _⟩
  have hge := grownCap_ge w s.size 0 e
  have hsz : (bytesRow s (grownCap w s.size 0 e)).size = grownCap w s.size 0 e := by
    unfold bytesRow
    simp only [Array.size_append, Array.size_map, Array.size_replicate]
    show s.size + _ = _
    omega
  refine ⟨by rw [u8s_length, bl_length], hge, grownCap_le_maxLen w _ 0 e hm, .inr ⟨_, _, _, rfl, Nat.le_refl _, heap_alloc_new w.drew _, hsz, .inr (by rw [hsz]; exact Nat.le_refl _), fun j u hu => ?_⟩⟩
  have hj := (List.getElem?_eq_some_iff.1 hu).1
  rw [u8s_length, bl_length] at hj
  unfold bytesRow
  rw [Array.getElem?_append_left (by simp only [Array.size_map]; exact hj), Array.getElem?_map]
  unfold u8s bl at hu
  rw [List.map_map, List.getElem?_map] at hu
  rw [← hu, ← Array.getElem?_toList]
  rfl

/-- Block g is just these cells, of element type t. -/
def StB (w : World) (g : Nat) (t : TypeId) (cs : Array Value) : Prop := w.heap[g]? = some (.cells cs t (0, 0))
section
variable {w w' : World} {g : Nat} {t : TypeId} {cs : Array Value}
theorem StB.lt (h : StB w g t cs) : g < w.heap.size := heap_lt h
theorem StB.cell (h : StB w g t cs) (i : Nat) : w.cell? ⟨g, i, none⟩ = cs[i]? := cell_of_row w g i cs t (0, 0) h
theorem StB.free (h : StB w g t cs) (i : Nat) : w.frozen? ⟨g, i, none⟩ = false := by
  unfold StB at h
  simp [World.frozen?, h]
theorem StB.new (w : World) (t : TypeId) (cs : Array Value) : StB (w.alloc (.cells cs t)) w.heap.size t cs := heap_alloc_new w _
theorem StB.drew (h : StB w g t cs) : StB w.drew g t cs := h
theorem StB.set_ (h : StB w g t cs) (i : Nat) (u : Value) : StB (w.setCell ⟨g, i, none⟩ u) g t (cs.setIfInBounds i u) := by
  unfold StB at h ⊢
  simp [World.setCell, Array.getElem?_modify, h]
theorem StB.far (h : StB w g t cs) {p : Addr} (hp : g ≠ p.block) (u : Value) : StB (w.setCell p u) g t cs := (Below.heap_setCell w p u g hp).trans h
theorem StB.below (h : StB w g t cs) (hb : Below w.heap.size w w') : StB w' g t cs := (hb.block g h.lt).trans h
theorem StB.grown {row : Option Nat} (h : StB w g t cs) (hb : w.grownBy w' row) (hg : some g ≠ row) : StB w' g t cs := (hb.block g h.lt hg).trans h
theorem StB.onto (h : StB w g t cs) (x : Above w) : StB (onto w x) g t cs := h.below (onto_below w x)
end

/-- Only block g, and what is new, has turned. -/
theorem only_set {a w : World} {g : Nat} (h : a.grownBy w (some g)) (i : Nat) (u : Value) : a.grownBy (w.setCell ⟨g, i, none⟩ u) (some g) :=
  ⟨h.os, h.tape, h.output, by simpa [World.setCell] using h.size, fun k hk hne => (Below.heap_setCell w ⟨g, i, none⟩ u k (fun he => hne (by rw [he]))).trans (h.block k hk hne)⟩
theorem only_call {a w w' : World} {row : Option Nat} (h : a.grownBy w row) (hb : Below w.heap.size w w') : a.grownBy w' row :=
  ⟨hb.os.trans h.os, hb.tape.trans h.tape, hb.output.trans h.output, Nat.le_trans h.size hb.size, fun k hk hne => (hb.block k (Nat.lt_of_lt_of_le hk h.size)).trans (h.block k hk hne)⟩
theorem only_of {a w : World} (h : Below a.heap.size a w) (row : Option Nat) : a.grownBy w row := ⟨h.os, h.tape, h.output, h.size, fun k hk _ => h.block k hk⟩
theorem only_new {a w w' : World} {row row' : Option Nat} (h : a.grownBy w row) (k : w.grownBy w' row') (hr : ∀ j, row' = some j → a.heap.size ≤ j) : a.grownBy w' row :=
  ⟨k.os.trans h.os, k.tape.trans h.tape, k.output.trans h.output, Nat.le_trans h.size k.size, fun j hj hne => (k.block j (Nat.lt_of_lt_of_le hj h.size) (fun e => by have := hr j e.symm; omega)).trans (h.block j hj hne)⟩
end Go.Proofs.YtoeanbfemgmgnaaGreatDoor

namespace Go.Proofs.YtoeanbfemgmgnaaGreatDoor
open Go.RowKit Go.ChangeShapes Go.WideShapes Go.ChangeAt Go.Deep
set_option linter.unusedVariables false

/-- A slice of bytes as it lies: where, how long, how much room, what it holds. -/
structure Row8 where
  a : Option Addr
  n : Nat
  c : Nat
  l : List Int
def Row8.v (r : Row8) : Value := .slice r.a r.n r.c
structure Row8.Ok (w : World) (r : Row8) : Prop where
  reads : SlIn w r.a r.n (u8s r.l)
  bytes : ∀ x ∈ r.l, 0 ≤ x ∧ x ≤ 255
  room : r.n ≤ r.c
  least : r.c ≤ 140737488351232

theorem weights_all {H : Type} {P : Program} {e : TypeId} : ∀ {ds : List (DataW H)} {d : DataW H} {x : Nat}, d ∈ ds → x ∈ d.weights P e → x ∈ DataW.weightsAll P e ds
  | y :: r, d, x, hd, hx => by
    simp only [DataW.weightsAll, List.mem_append]
    rcases List.mem_cons.1 hd with rfl | hd
    · exact .inl hx
    · exact .inr (weights_all hd hx)
/-- What the reach says of one argument. -/
def Light {H : Type} (P : Program) (t : TypeId) (d : DataW H) : Prop := ∀ x ∈ d.weights P t, x ≤ 140737488351232
theorem light_each {H : Type} {P : Program} {ts : List TypeId} {ds : List (DataW H)} (h : (DataW.weightsEach P ts ds).all (· ≤ reachBytes) = true) {j : Nat} {t : TypeId} {d : DataW H} (ht : ts[j]? = some t) (hd : ds[j]? = some d) : Light P t d := by
  intro x hx
  have := List.all_eq_true.1 h _ (DataW.weights_mem_each ht hd x hx)
  exact of_decide_eq_true this

section
variable {H : Type} {enc : TypeId × Value → H} {P : Program} {w : World} {base b0 : Nat} {held : Bool} {r : Reach}
end
end Go.Proofs.YtoeanbfemgmgnaaGreatDoor

namespace Go.Proofs.YtoeanbfemgmgnaaGreatDoor
open Go.RowKit
set_option linter.unusedVariables false

section
variable {P : Program} {w w' : World} {g : Nat} {t : TypeId} {cs : Array Value}
theorem StB.range (h : StB w g t cs) (o : Nat) (l : List Value) (hl : (cs.toList.drop o).take l.length = l) : w.rangeAt g o l := fun j v hv => by
  rw [h.cell]
  have hj : j < l.length := (List.getElem?_eq_some_iff.1 hv).1
  rw [← hl, List.getElem?_take_of_lt hj, List.getElem?_drop] at hv
  simpa using hv
theorem StB.row (h : StB w g t cs) (c' : Array Value) : StB (w.setRow g c') g t c' := setRow_heap w g cs c' t (0, 0) h
theorem StB.alloc (h : StB w g t cs) (o : Obj) : StB (w.alloc o) g t cs := h.below ((Below.refl _ _).alloc (Nat.le_refl _) o)
theorem StB.made {g : Nat} (w : World) (hg : g = w.heap.size) (t : TypeId) (cs : Array Value) : StB (w.alloc (.cells cs t)) g t cs := by rw [hg]; exact StB.new w t cs
end
end Go.Proofs.YtoeanbfemgmgnaaGreatDoor

namespace Go.Proofs.YtoeanbfemgmgnaaGreatDoor
open Go.RowKit
set_option linter.unusedVariables false

/-- Only blocks of S, and new ones, have turned. -/
structure Touch (w w' : World) (S : Nat → Prop) : Prop where
  os : w'.os = w.os
  tape : w'.tape = w.tape
  output : w'.output = w.output
  size : w.heap.size ≤ w'.heap.size
  block : ∀ k, k < w.heap.size → ¬ S k → w'.heap[k]? = w.heap[k]?
/-- What of S' wasn't there lies in S. -/
def Sub (w : World) (S' S : Nat → Prop) : Prop := ∀ k, S' k → S k ∨ w.heap.size ≤ k
theorem Sub.refl (w : World) (S : Nat → Prop) : Sub w S S := fun _ h => .inl h

section
variable {w w' w2 : World} {S S' S2 : Nat → Prop}
theorem Touch.refl (w : World) (S : Nat → Prop) : Touch w w S := ⟨rfl, rfl, rfl, Nat.le_refl _, fun _ _ _ => rfl⟩
theorem Touch.trans (h : Touch w w' S) (hs : Sub w S' S) (k : Touch w' w2 S') : Touch w w2 S :=
  ⟨k.os.trans h.os, k.tape.trans h.tape, k.output.trans h.output, Nat.le_trans h.size k.size, fun j hj hn => (k.block j (Nat.lt_of_lt_of_le hj h.size) (fun hs' => by
    rcases hs j hs' with h1 | h1
    · exact hn h1
    · omega)).trans (h.block j hj hn)⟩
theorem Touch.mono (h : Touch w w' S) (hs : ∀ k, S k → S' k) : Touch w w' S' := ⟨h.os, h.tape, h.output, h.size, fun k hk hn => h.block k hk (fun h' => hn (hs k h'))⟩
theorem Touch.of_below (h : Below w.heap.size w w') (S : Nat → Prop) : Touch w w' S := ⟨h.os, h.tape, h.output, h.size, fun k hk _ => h.block k hk⟩
theorem Touch.of_grown {row : Option Nat} (h : w.grownBy w' row) (hr : ∀ k, row = some k → S k) : Touch w w' S :=
  ⟨h.os, h.tape, h.output, h.size, fun k hk hn => h.block k hk (fun e => hn (hr k e.symm))⟩
theorem Touch.then_below (h : Touch w w' S) (k : Below w'.heap.size w' w2) : Touch w w2 S := h.trans (Sub.refl w S) (Touch.of_below k S)
theorem Touch.then_set (h : Touch w w' S) {p : Addr} (hp : S p.block ∨ w.heap.size ≤ p.block) (u : Value) : Touch w (w'.setCell p u) S :=
  ⟨h.os, h.tape, h.output, by simpa [World.setCell] using h.size, fun k hk hn => (Below.heap_setCell w' p u k (fun e => by
    rcases hp with hp | hp
    · rw [← e] at hp; exact hn hp
    · omega)).trans (h.block k hk hn)⟩
theorem Touch.then_alloc (h : Touch w w' S) (o : Obj) : Touch w (w'.alloc o) S := h.then_below ((Below.refl _ _).alloc (Nat.le_refl _) o)
theorem Touch.then_drew (h : Touch w w' S) : Touch w w'.drew S := ⟨h.os, h.tape, h.output, h.size, h.block⟩
theorem Touch.then_grown (h : Touch w w' S) {row : Option Nat} (k : w'.grownBy w2 row) (hr : ∀ j, row = some j → S j ∨ w.heap.size ≤ j) : Touch w w2 S :=
  ⟨k.os.trans h.os, k.tape.trans h.tape, k.output.trans h.output, Nat.le_trans h.size k.size, fun j hj hn => (k.block j (Nat.lt_of_lt_of_le hj h.size) (fun e => by
    rcases hr j e.symm with h1 | h1
    · exact hn h1
    · omega)).trans (h.block j hj hn)⟩
theorem Touch.below (h : Touch w w' S) {B : Nat} (hB : B ≤ w.heap.size) (hS : ∀ k, S k → B ≤ k) : Below B w w' :=
  ⟨h.os, h.tape, h.output, h.size, fun k hk => h.block k (by omega) (fun h' => by have := hS k h'; omega)⟩
theorem Sub.trans (h : Sub w S' S) (hz : w.heap.size ≤ w'.heap.size) (k : Sub w' S2 S') : Sub w S2 S := fun j hj => by
  rcases k j hj with h1 | h1
  · exact h j h1
  · exact .inr (by omega)
theorem StB.touch {g : Nat} {t : TypeId} {cs : Array Value} (h : StB w g t cs) (k : Touch w w' S) (hg : ¬ S g) : StB w' g t cs := (k.block g h.lt hg).trans h
theorem SlOwn.touch {base : Nat} {e : TypeId} {A : Option Addr} {n c : Nat} {xs : List Value} (h : SlOwn w base e A n c xs) (k : Touch w w' S) (hA : ∀ j, blkOf A = some j → ¬ S j) : SlOwn w' base e A n c xs :=
  h.keep fun j hj => k.block j (h.blk j hj).2 (hA j hj)
end

/-- Blocks of unlike kinds are two. -/
theorem SlOwn.unlike_st {w : World} {base : Nat} {e T : TypeId} {A : Option Addr} {n c g : Nat} {xs : List Value} {cs : Array Value} (h : SlOwn w base e A n c xs) (hs : StB w g T cs) (he : e ≠ T) : ∀ k, blkOf A = some k → k ≠ g := by
  intro k hk hkg
  rcases h.2.2.2 with ⟨rfl, _⟩ | ⟨q, cur, fz, rfl, _, hg, _⟩
  · cases hk
  · have : q = k := by simpa [blkOf] using hk
    subst this hkg
    unfold StB at hs
    rw [hs] at hg
    injection hg with hg
    injection hg with _ h2 _
    exact he h2.symm
theorem SlOwn.unlike {w : World} {base base' : Nat} {e e' : TypeId} {A A' : Option Addr} {n c n' c' : Nat} {xs xs' : List Value} (h : SlOwn w base e A n c xs) (h' : SlOwn w base' e' A' n' c' xs') (he : e ≠ e') : ∀ k, blkOf A = some k → blkOf A' ≠ some k := by
  intro k hk hk'
  rcases h.2.2.2 with ⟨rfl, _⟩ | ⟨q, cur, fz, rfl, _, hg, _⟩
  · cases hk
  · rcases h'.2.2.2 with ⟨rfl, _⟩ | ⟨q', cur', fz', rfl, _, hg', _⟩
    · cases hk'
    · have e1 : q = k := by simpa [blkOf] using hk
      have e2 : q' = k := by simpa [blkOf] using hk'
      subst e1 e2
      rw [hg] at hg'
      injection hg' with hg'
      injection hg' with _ h2 _
      exact he h2

/-- Texts as cells. -/
def strs (l : List ByteArray) : List Value := l.map Value.string
theorem strs_length (l : List ByteArray) : (strs l).length = l.length := by unfold strs; simp
theorem strs_append (a b : List ByteArray) : strs (a ++ b) = strs a ++ strs b := by unfold strs; simp
theorem strs_get {l : List ByteArray} {k : Nat} {x : ByteArray} (h : l[k]? = some x) : (strs l)[k]? = some (.string x) := by unfold strs; simp [h]
theorem SlIn.lenS {w : World} {A : Option Addr} {n : Nat} {l : List ByteArray} (h : SlIn w A n (strs l)) : l.length = n := by rw [← h.1, strs_length]

/-- append as one step of a region that draws its order. -/
theorem step_append_sl {P : Program} {ops : Array Oper} {o : Oper} {a : Act} {w : World} {K : Act → World → Prop} {Q : Exit → Act → World → Prop} {E : Prop}
    (hg : o.guard = none) (s x : Operand) (t : TypeId) (hop : o.op = .call { callee := .builtin .append, args := #[s, x], argTypes := #[t, t] })
    (e : TypeId) (i : TypeInfo) (z : Value) (bytes : Nat) (ht : P.underlying t = some (.slice e)) (hi : P.info? e = some i) (hz : i.zero = some z)
    (hsz : i.size = 1) (hby : i.bytes = bytes) (hzs : z.cells.size = 1) (base : Nat) (A : Option Addr) (n c : Nat) (xs : List Value) (hs : a.eval s = .slice A n c) (ho : SlOwn w base e A n c xs)
    (A2 : Option Addr) (m c2 : Nat) (ys : List Value) (hx : a.eval x = .slice A2 m c2) (hin : SlIn w A2 m ys) (h1 : ∀ u ∈ ys, u.oneCell' = true) (h63 : n + m ≤ maxLen) (hbytes : (n + m) * bytes ≤ 140737488355328) (hbase : base ≤ w.heap.size)
    (h : ∀ A' c' w', SlOwn w' base e A' (n + m) c' (xs ++ ys) → w.grownBy w' (blkOf A) → (A' = A ∨ A' = some ⟨w.heap.size, 0, none⟩) → K (a.put o.dst (.slice A' (n + m) c')) w') :
    if Region.wanted o (yielded ops a.tmps) = true then Oper.wp P o a w K Q else E := by
  have hw : Region.wanted o (yielded ops a.tmps) = true := by simp [Region.wanted, hg]
  rw [if_pos hw]
  obtain ⟨A', c', w', hr, h2, h3, h4⟩ := append_own (P := P) w t o.type e i z bytes ht hi hz hsz hby hzs base A n c xs ho A2 m c2 ys hin h1 h63 hbytes hbase
  unfold Oper.wp
  simp [execOp, hop, resolve, invoke, builtin, hs, hx, hr, Result.andThen]
  exact h A' c' w' h2 h3 h4

/-- One text in a new block. -/
theorem slIn_new1 (w : World) (t : TypeId) (u : Value) : SlIn (w.alloc (.cells #[u] t)) (some ⟨w.heap.size, 0, none⟩) 1 [u] :=
  (SlOwn.made w 0 (Nat.zero_le _) t [u] (by show 1 ≤ maxLen; unfold maxLen; omega)).toIn

/-- A cell of one's own slice written. -/
theorem SlOwn.store {w : World} {base : Nat} {e : TypeId} {g n c : Nat} {xs : List Value} (h : SlOwn w base e (some ⟨g, 0, none⟩) n c xs) (k : Nat) (u : Value) (hk : k < n) : SlOwn (w.setCell ⟨g, k, none⟩ u) base e (some ⟨g, 0, none⟩) n c (xs.set k u) := by
  obtain ⟨h1, h2, h3, h4⟩ := h
  refine ⟨by simpa using h1, h2, h3, ?_⟩
  rcases h4 with ⟨h0, _⟩ | ⟨q, cur, fz, hq, hb, hg, hs, hf, hx⟩
  · cases h0
  · have : q = g := by simp only [Option.some.injEq, Addr.mk.injEq] at hq; exact hq.1.symm
    subst this
    refine .inr ⟨q, cur.setIfInBounds k u, fz, rfl, hb, by simp [World.setCell, Array.getElem?_modify, hg], by simp [hs], hf, fun j v hv => ?_⟩
    rw [Array.getElem?_setIfInBounds]
    by_cases hj : k = j
    · subst hj
      rw [List.getElem?_set_self (by omega)] at hv
      rw [if_pos rfl, if_pos (by omega)]; exact hv
    · rw [List.getElem?_set_ne hj] at hv
      rw [if_neg hj]; exact hx j v hv

end Go.Proofs.YtoeanbfemgmgnaaGreatDoor

namespace Go.Proofs.YtoeanbfemgmgnaaGreatDoor
open Go.RowKit
set_option linter.unusedVariables false

/-- The blocks T are there. -/
def Lies (W : World) (T : Nat → Prop) : Prop := ∀ k, T k → k < W.heap.size
theorem Lies.later {W W' : World} {T : Nat → Prop} (h : Lies W T) (hz : W.heap.size ≤ W'.heap.size) : Lies W' T := fun k hk => Nat.lt_of_lt_of_le (h k hk) hz
/-- What is said by one whose blocks T are stays true where others alone turn, from B on. -/
def AbT {β : Type} (B : Nat) (J : β → World → (Nat → Prop) → Prop) : Prop :=
  ∀ s W1 W2 T S, J s W1 T → Lies W1 T → Touch W1 W2 S → (∀ k, S k → ¬ T k ∧ B ≤ k) → J s W2 T
theorem AbT.mono {β : Type} {B B' : Nat} {J : β → World → (Nat → Prop) → Prop} (h : AbT B J) (hb : B ≤ B') : AbT B' J :=
  fun s W1 W2 T S hs hl ht hS => h s W1 W2 T S hs hl ht (fun k hk => ⟨(hS k hk).1, Nat.le_trans hb (hS k hk).2⟩)

/-- What a round leaves: blocks of its own T2 (what it had, what it was handed, new ones); it has written into what it had alone. -/
def Left {β : Type} (W1 : World) (T B : Nat → Prop) (J : β → World → (Nat → Prop) → Prop) (s : β) (W2 : World) : Prop :=
  ∃ T2, Lies W2 T2 ∧ Sub W1 T2 (fun k => T k ∨ B k) ∧ Touch W1 W2 T ∧ J s W2 T2

/-- An iterator that writes new blocks of its own alone, hands on values of evs, in order, and stops when it is told to. -/
def SeqT {α γ : Type} (F : Fence) (n : Nat) (P : Program) (gf : Nat) (lb : Array Value) (encs : α → Array Value) (gh : α → γ) (hand : α → World → Prop) (blk : α → Nat → Prop) (evs : List γ) (W : World) : Prop :=
  ∀ (l : Nat) (J Jx : List γ → World → (Nat → Prop) → Prop), AbT W.heap.size J → AbT W.heap.size Jx →
    (∀ pre x W1 T, J pre W1 T → Lies W1 T → pre ++ [gh x] <+: evs → hand x W1 → (∀ k, blk x k → ¬ T k ∧ W.heap.size ≤ k ∧ k < W1.heap.size) → W.heap.size ≤ W1.heap.size →
      YieldAt F (n - 1) P l (encs x) W1 fun e W2 => (e = .returned (.bool true) ∧ Left W1 T (blk x) J (pre ++ [gh x]) W2) ∨ (e = .returned (.bool false) ∧ Left W1 T (blk x) Jx (pre ++ [gh x]) W2)) →
    ∀ T, J [] W T → Lies W T → CallsIn F n P gf (#[.func (.yield l) #[] #[]] ++ lb) W fun e W2 => (∃ v, e = .returned v) ∧ ∃ T2, Lies W2 T2 ∧ (J evs W2 T2 ∨ ∃ pre, pre <+: evs ∧ Jx pre W2 T2)

/-- How a round's body may be left. -/
def postT {β : Type} (I : β → World → (Nat → Prop) → Prop) (Ix : Code → β → World → (Nat → Prop) → Prop) (s : β) (W : World) (T B : Nat → Prop) : Exit → Act → World → Prop
  | .normal, _, W' => Left W T B I s W'
  | .ret, _, W' => Left W T B (Ix .ret) s W'
  | .exit id, _, W' => Left W T B (Ix (.exit id)) s W'
  | .goto t, _, W' => Left W T B (Ix (.goto t)) s W'
  | .panic _, _, _ => False
  | .outgrown, _, _ => False

theorem Touch.putObj (W : World) (l : Nat) (o : Obj) : Touch W (W.putObj l o) (fun k => k = l) :=
  ⟨rfl, rfl, rfl, by simp, fun k hk hn => World.putObj_heap_other hn⟩

/-- A range over such a function. -/
theorem wpIn_range_T {F : Fence} {n : Nat} {P : Program} {α γ : Type} {g : Operand} {ps : Array Tmp} {assign body : Code} {Q : Exit → Act → World → Prop} {a : Act} {w : World}
    (hro : F.round = none) (h1 : F.depth.isSome = true → 1 ≤ n) {gf : Nat} {lb : Array Value} (hg : a.eval g = .func (.func gf) #[] lb) (hFg : F.fn gf) (eg : ∀ args w, (callFunc gf args).run P w = .ok (.enter gf args) w)
    {encs : α → Array Value} {gh : α → γ} {hand : α → World → Prop} {blk : α → Nat → Prop} {evs : List γ} (hseq : ∀ W1, Below w.heap.size w W1 → SeqT F (n - 1) P gf lb encs gh hand blk evs W1)
    (hh : ∀ x W W' S, hand x W → Touch W W' S → (∀ k, S k → ¬ blk x k) → (∀ k, blk x k → k < W.heap.size) → hand x W') (hps : ∀ x, (encs x).size = ps.size)
    (I : List γ → World → (Nat → Prop) → Prop) (Ix : Code → List γ → World → (Nat → Prop) → Prop) (hI : AbT w.heap.size I) (hIx : ∀ c, AbT w.heap.size (Ix c)) (T0 : Nat → Prop) (h0 : I [] w T0) (hT0 : Lies w T0) (a₁ : α → World → Act) (w₁ : α → World → World) (hw₁ : ∀ x W, Below W.heap.size W (w₁ x W))
    (hassign : ∀ (l : Nat) (x : α) (W : World) (K : Act → World → Prop), K (a₁ x W) (w₁ x W) →
      assign.wpIn (F.inRound l) (n - 1 - 1) P (Exit.then K (fun _ _ _ => False)) { tmps := (ps.zip (encs x)).foldl (fun t (p, v) => t.setIfInBounds p v) a.tmps, defers := [] } W)
    (hbody : ∀ (l : Nat) (pre : List γ) (x : α) (V W : World) (T : Nat → Prop), I pre W T → Lies V T → pre ++ [gh x] <+: evs → hand x W → (∀ k, blk x k → ¬ T k ∧ w.heap.size ≤ k ∧ k < V.heap.size) → w.heap.size ≤ V.heap.size →
      Touch (w₁ x V) W (fun k => k = l) → l < V.heap.size →
      body.wpIn (F.inRound l) (n - 1 - 1) P (postT I Ix (pre ++ [gh x]) W T (blk x)) (a₁ x V) W)
    (hdone : ∀ (D : Nat) (W : World) (T : Nat → Prop), w.heap.size ≤ D → I evs W T → Lies W T → ¬ T D → W.heap[D]? = some (.deferred (some [])) → Q .normal { a with defers := { target := .collected D, args := #[] } :: a.defers } W)
    (hstop : ∀ (D : Nat) (c : Code) (pre : List γ) (W : World) (T : Nat → Prop), w.heap.size ≤ D → pre <+: evs → Ix c pre W T → Lies W T → ¬ T D → W.heap[D]? = some (.deferred (some [])) → c.wpIn F n P Q { a with defers := { target := .collected D, args := #[] } :: a.defers } W) :
    (Code.rangeFunc g ps assign body).wpIn F n P Q a w := by
  refine wpIn_rangeFunc ?_
  intro fn hfn
  rw [hro]
  obtain ⟨rec, hrec⟩ : ∃ rec : LoopState → Option Code → Loop, rec = fun st pe => { state := st, pending := pe, fn, tmps := a.tmps, params := ps, assign, body, defers := w.heap.size } := ⟨_, rfl⟩
  obtain ⟨W1, hW1⟩ : ∃ W1, (w.alloc (.deferred (some []))).alloc (.loop (rec .ready none)) = W1 := ⟨_, rfl⟩
  have hsz : W1.heap.size = w.heap.size + 2 := by rw [← hW1]; simp
  have hL1 : W1.heap[w.heap.size + 1]? = some (.loop (rec .ready none)) := by
    rw [← hW1]; have := World.alloc_heap_new (w.alloc (.deferred (some []))) (.loop (rec .ready none)); rwa [World.size_alloc] at this
  have hK1 : W1.heap[w.heap.size]? = some (.deferred (some [])) := by
    rw [← hW1]; exact (Below.heap_alloc _ _ _ (by simp)).trans (World.alloc_heap_new w _)
  have hb1 : Below w.heap.size w W1 := by
    rw [← hW1]; exact (((Below.refl _ w).alloc (Nat.le_refl _) _).alloc (by simp) _)
  have hI1 : I [] W1 T0 := hI _ _ _ _ (fun _ => False) h0 hT0 (Touch.of_below hb1 _) (fun k hk => hk.elim)
  refine ⟨w.heap.size + 1, [{ target := .collected w.heap.size, args := #[] }], W1, { target := .fn (.func gf) lb, args := #[.func (.yield (w.heap.size + 1)) #[] #[]] }, W1, gf,
    #[.func (.yield (w.heap.size + 1)) #[] #[]] ++ lb, W1, ?_, ?_, ?_, ?_, h1, ?_⟩
  · rw [← hW1, hrec]; exact run_enterLoop_outer _ _ _ _ _
  · simp only [resolve, hg]
    simp [go_sem]
  · intro f' hf'; simp [Target.leads] at hf'; subst hf'; exact hFg
  · simp [invoke, go_sem, eg]
  · obtain ⟨book, hbook⟩ : ∃ book : LoopState → Option Code → World → (Nat → Prop) → (Nat → Prop) → Prop, book = fun st pe W T T' => (∀ k, T' k ↔ (T k ∨ k = w.heap.size + 1 ∨ k = w.heap.size)) ∧ ¬ T (w.heap.size + 1) ∧ ¬ T w.heap.size ∧
      W.heap[w.heap.size + 1]? = some (.loop (rec st pe)) ∧ W.heap[w.heap.size]? = some (.deferred (some [])) := ⟨_, rfl⟩
    have habs : ∀ {β : Type} {J : β → World → (Nat → Prop) → Prop} (st : LoopState) (pe : Option Code), AbT w.heap.size J → AbT W1.heap.size (fun s W T' => ∃ T, book st pe W T T' ∧ Lies W T ∧ J s W T) := by
      intro β J st pe hJ s X Y T' S hs hl ht hS
      obtain ⟨T, hb, hlT, hj⟩ := hs
      rw [hbook] at hb
      obtain ⟨b1, b2, b3, b4, b5⟩ := hb
      have m1 : T' (w.heap.size + 1) := (b1 _).2 (.inr (.inl rfl))
      have m2 : T' w.heap.size := (b1 _).2 (.inr (.inr rfl))
      refine ⟨T, ?_, hlT.later ht.size, hJ _ _ _ _ _ hj hlT ht (fun k hk => ⟨fun h => (hS k hk).1 ((b1 k).2 (.inl h)), by have := (hS k hk).2; omega⟩)⟩
      rw [hbook]
      exact ⟨b1, b2, b3, (ht.block _ (hl _ m1) (fun h => (hS _ h).1 m1)).trans b4, (ht.block _ (hl _ m2) (fun h => (hS _ h).1 m2)).trans b5⟩
    refine (hseq W1 hb1 (w.heap.size + 1) (fun s W T' => ∃ T, book .ready none W T T' ∧ Lies W T ∧ I s W T) (fun s W T' => ∃ c, ∃ T, book .done (some c) W T T' ∧ Lies W T ∧ Ix c s W T)
      (habs _ _ hI) (fun s X Y T' S ⟨c, h⟩ hl ht hS => ⟨c, habs _ _ (hIx c) s X Y T' S h hl ht hS⟩) ?_ (fun k => T0 k ∨ k = w.heap.size + 1 ∨ k = w.heap.size)
      ⟨T0, by rw [hbook]; exact ⟨fun _ => Iff.rfl, fun h => by have := hT0 _ h; omega, fun h => by have := hT0 _ h; omega, hL1, hK1⟩, hT0.later hb1.size, hI1⟩
      (fun k hk => by
        rcases hk with hk | hk | hk
        · have := hT0 k hk; omega
        · omega
        · omega)).mono ?_
    · rintro pre x W T' ⟨T, hb, hlT, hi⟩ hl hpre hhand hblk hge
      rw [hbook] at hb
      obtain ⟨b1, b2, b3, b4, b5⟩ := hb
      have hlt : w.heap.size + 1 < W.heap.size := (Array.getElem?_eq_some_iff.1 b4).1
      have hbl := hw₁ x W
      have b4' : (w₁ x W).heap[w.heap.size + 1]? = some (.loop (rec .ready none)) := (hbl.block _ hlt).trans b4
      have b5' : (w₁ x W).heap[w.heap.size]? = some (.deferred (some [])) := (hbl.block _ (by omega)).trans b5
      have hzl := hbl.size
      have hy := run_yield (P := P) (args := encs x) b4 (by rw [hrec]; exact hps x)
      rw [hrec] at hy
      refine ⟨fn, _, assign, body, hy, roundIn_of_wpIn hfn (hassign _ x W _ ⟨_, run_beginRound b4' (by rw [hrec]), ?_⟩)⟩
      obtain ⟨W2, hW2⟩ : ∃ W2, (w₁ x W).putObj (w.heap.size + 1) (.loop { rec .ready none with state := .busy }) = W2 := ⟨_, rfl⟩
      rw [hW2]
      have t2' : Touch (w₁ x W) W2 (fun k => k = w.heap.size + 1) := by rw [← hW2]; exact Touch.putObj _ _ _
      have t2 : Touch W W2 (fun k => k = w.heap.size + 1) := (Touch.of_below hbl _).trans (Sub.refl _ _) t2'
      have c2 : W2.heap[w.heap.size + 1]? = some (.loop { rec .ready none with state := .busy }) := by rw [← hW2]; exact World.putObj_heap_same (by omega)
      have d2 : W2.heap[w.heap.size]? = some (.deferred (some [])) := (t2.block _ (by omega) (by omega)).trans b5
      have hi2 : I pre W2 T := hI _ _ _ _ _ hi hlT t2 (fun k hk => by subst hk; exact ⟨b2, by omega⟩)
      have hnb : ∀ k, blk x k → k ≠ w.heap.size + 1 ∧ k ≠ w.heap.size := fun k hk => ⟨fun e => (hblk k hk).1 ((b1 k).2 (.inr (.inl e))), fun e => (hblk k hk).1 ((b1 k).2 (.inr (.inr e)))⟩
      have hhand2 : hand x W2 := hh _ _ _ _ hhand t2 (fun k hk hkb => (hnb k hkb).1 hk) (fun k hk => (hblk k hk).2.2)
      have sz2 : W.heap.size ≤ W2.heap.size := t2.size
      refine wpIn_mono (hbody _ pre x W W2 T hi2 hlT hpre hhand2 (fun k hk => ⟨fun h => (hblk k hk).1 ((b1 k).2 (.inl h)), by have := (hblk k hk).2.1; omega, (hblk k hk).2.2⟩) (by omega) t2' hlt) ?_
      have fin : ∀ (jump : Option Code) (W3 : World), Touch W2 W3 T →
          (Instr.endRound (w.heap.size + 1) jump).run P W3 = .ok (.bool jump.isNone) (W3.putObj (w.heap.size + 1) (.loop (rec (if jump.isNone then .ready else .done) jump))) ∧
          w.heap.size + 1 < W3.heap.size ∧ W3.heap[w.heap.size]? = some (.deferred (some [])) := fun jump W3 t3 => by
        have c3 : W3.heap[w.heap.size + 1]? = some (.loop { rec .ready none with state := .busy }) := (t3.block _ (by omega) b2).trans c2
        have := run_endRound (P := P) jump c3
        rw [hrec] at this ⊢
        exact ⟨this, (Array.getElem?_eq_some_iff.1 c3).1, (t3.block _ (by omega) b3).trans d2⟩
      have join : ∀ {J : List γ → World → (Nat → Prop) → Prop} (hJ : AbT w.heap.size J) (st : LoopState) (jump pe : Option Code) (W3 : World) (_ : Left W2 T (blk x) J (pre ++ [gh x]) W3) (hst : st = if jump.isNone then LoopState.ready else .done) (hpe : pe = jump),
          Left W T' (blk x) (fun s W T' => ∃ T, book st pe W T T' ∧ Lies W T ∧ J s W T) (pre ++ [gh x]) (W3.putObj (w.heap.size + 1) (.loop (rec (if jump.isNone then .ready else .done) jump))) := by
        intro J hJ st jump pe W3 hleft hst hpe
        subst hst hpe
        obtain ⟨T2, e1, e2, e3, e4⟩ := hleft
        obtain ⟨_, f2, f3⟩ := fin pe W3 e3
        have t4 := Touch.putObj W3 (w.heap.size + 1) (.loop (rec (if pe.isNone then .ready else .done) pe))
        have n1 : ¬ T2 (w.heap.size + 1) := fun h => by
          rcases e2 _ h with (h | h) | h
          · exact b2 h
          · exact (hnb _ h).1 rfl
          · omega
        have n2 : ¬ T2 w.heap.size := fun h => by
          rcases e2 _ h with (h | h) | h
          · exact b3 h
          · exact (hnb _ h).2 rfl
          · omega
        refine ⟨fun k => T2 k ∨ k = w.heap.size + 1 ∨ k = w.heap.size, ?_, ?_, ?_, T2, ?_, e1.later t4.size, hJ _ _ _ _ _ e4 e1 t4 (fun k hk => by subst hk; exact ⟨n1, by omega⟩)⟩
        · rintro k (hk | rfl | rfl)
          · have := e1 k hk; have := t4.size; omega
          · have := t4.size; omega
          · have := t4.size; omega
        · rintro k (hk | rfl | rfl)
          · rcases e2 k hk with (h | h) | h
            · exact .inl (.inl ((b1 k).2 (.inl h)))
            · exact .inl (.inr h)
            · exact .inr (by omega)
          · exact .inl (.inl ((b1 _).2 (.inr (.inl rfl))))
          · exact .inl (.inl ((b1 _).2 (.inr (.inr rfl))))
        · refine ((t2.mono (S' := T') ?_).trans (Sub.refl _ _) (e3.mono ?_)).trans (Sub.refl _ _) (t4.mono ?_)
          · rintro k rfl; exact (b1 _).2 (.inr (.inl rfl))
          · intro k hk; exact (b1 _).2 (.inl hk)
          · rintro k rfl; exact (b1 _).2 (.inr (.inl rfl))
        · rw [hbook]
          exact ⟨fun _ => Iff.rfl, n1, n2, World.putObj_heap_same f2, (World.putObj_heap_other (by omega)).trans f3⟩
      rintro e a3 W3 hp
      cases e with
      | normal => exact ⟨_, _, (fin none W3 hp.choose_spec.2.2.1).1, .inl ⟨rfl, join hI .ready none none W3 hp rfl rfl⟩⟩
      | ret =>
        refine ⟨_, _, (fin (some .ret) W3 hp.choose_spec.2.2.1).1, .inr ⟨rfl, ?_⟩⟩
        obtain ⟨T2, e1, e2, e3, e4⟩ := join (hIx .ret) .done (some .ret) (some .ret) W3 hp rfl rfl
        exact ⟨T2, e1, e2, e3, .ret, e4⟩
      | exit id =>
        refine ⟨_, _, (fin (some (.exit id)) W3 hp.choose_spec.2.2.1).1, .inr ⟨rfl, ?_⟩⟩
        obtain ⟨T2, e1, e2, e3, e4⟩ := join (hIx (.exit id)) .done (some (.exit id)) (some (.exit id)) W3 hp rfl rfl
        exact ⟨T2, e1, e2, e3, .exit id, e4⟩
      | goto t =>
        refine ⟨_, _, (fin (some (.goto t)) W3 hp.choose_spec.2.2.1).1, .inr ⟨rfl, ?_⟩⟩
        obtain ⟨T2, e1, e2, e3, e4⟩ := join (hIx (.goto t)) .done (some (.goto t)) (some (.goto t)) W3 hp rfl rfl
        exact ⟨T2, e1, e2, e3, .goto t, e4⟩
      | panic ch => exact hp.elim
      | outgrown => exact hp.elim
    · subst hrec
      rintro e W2 ⟨⟨v, rfl⟩, T', hl', (⟨T, hb, hlT, hi⟩ | ⟨pre, hpre, c, T, hb, hlT, hi⟩)⟩
      · rw [hbook] at hb
        obtain ⟨b1, b2, b3, b4, b5⟩ := hb
        have t4 := fun o => Touch.putObj W2 (w.heap.size + 1) o
        exact ⟨none, _, run_endLoop (P := P) b4 (by simp), hdone w.heap.size _ T (Nat.le_refl _) (hI _ _ _ _ _ hi hlT (t4 _) (fun k hk => by subst hk; exact ⟨b2, by omega⟩)) (hlT.later (t4 _).size) b3 ((World.putObj_heap_other (by omega)).trans b5)⟩
      · rw [hbook] at hb
        obtain ⟨b1, b2, b3, b4, b5⟩ := hb
        have t4 := fun o => Touch.putObj W2 (w.heap.size + 1) o
        exact ⟨some c, _, run_endLoop (P := P) b4 (by simp), hstop w.heap.size c pre _ T (Nat.le_refl _) hpre (hIx c _ _ _ _ _ hi hlT (t4 _) (fun k hk => by subst hk; exact ⟨b2, by omega⟩)) (hlT.later (t4 _).size) b3 ((World.putObj_heap_other (by omega)).trans b5)⟩
end Go.Proofs.YtoeanbfemgmgnaaGreatDoor

namespace Go.Proofs.YtoeanbfemgmgnaaGreatDoor
open Go.RowKit
set_option linter.unusedVariables false

theorem wpList_make_sl {P : Program} (w : World) {ops : Array Oper} {rest : List Oper} {o : Oper} {a : Act} {Q : Exit → Act → World → Prop} (hgd : o.guard = none) (l c : Operand) (t : TypeId)
    (hop : o.op = Op.makeSlice t l c) (base : Nat) (e : TypeId) (i : TypeInfo) (z : Value) (bytes : Nat) (ht : P.underlying t = some (.slice e)) (hi : P.info? e = some i) (hz : i.zero = some z) (hsz : i.size = 1) (hby : i.bytes = bytes) (hzc : z.cells = #[z])
    (kl kc : IntKind) (L C : Int) (n m : Nat) (hl : a.eval l = .int kl L) (hc : a.eval c = .int kc C) (hL : L = (n : Int)) (hC : C = (m : Int)) (hnm : n ≤ m) (hb : bytes * m ≤ 281474976710656) (hm : m ≤ maxLen) (hbase : base ≤ w.heap.size)
    (h : ∀ w', SlOwn w' base e (some ⟨w.heap.size, 0, none⟩) n m (List.replicate n z) → Below w.heap.size w w' → wpList P ops Q rest (a.put o.dst (.slice (some ⟨w.heap.size, 0, none⟩) n m)) w') :
    wpList P ops Q (o :: rest) a w := by
  refine wpList_plain hgd fun K hK => ?_
  subst hL hC
  have hm' : (m : Int) ≤ 9223372036854775807 := by unfold maxLen at hm; omega
  have hb' : (i.bytes : Int) * (m : Int) ≤ 281474976710656 := by
    have h : ((i.bytes * m : Nat) : Int) ≤ 281474976710656 := by rw [hby]; omega
    rwa [Int.natCast_mul] at h
  have hr := run_make (P := P) w t e i z ht hi hz kl kc n m (by omega) (by omega) hb' hm'
  simp only [Int.toNat_natCast] at hr
  unfold Oper.wp
  simp [execOp, hop, hl, hc, hr, Result.andThen]
  refine hK _ _ (h _ ⟨by simp, hnm, hm, .inr ⟨w.heap.size, _, (0, 0), rfl, hbase, heap_alloc_new w _, by rw [size_madeCells, hsz]; omega, .inl (Nat.le_refl _), fun j u hu => ?_⟩⟩ ((Below.refl _ w).alloc (Nat.le_refl _) _))
  have hj : j < n := by have := (List.getElem?_eq_some_iff.1 hu).1; simpa using this
  rw [List.getElem?_replicate, if_pos hj] at hu
  have hu' : z = u := by simpa using hu
  subst hu'
  simp only [madeCells, hsz, Nat.mul_one, hzc]
  rw [Array.getElem?_map, Array.getElem?_range, if_pos (show j < m by omega)]
  simp [Nat.mod_one]
end Go.Proofs.YtoeanbfemgmgnaaGreatDoor

namespace Go.Proofs.YtoeanbfemgmgnaaGreatDoor
open Go.RowKit
set_option linter.unusedVariables false

/-- No defer statement. -/
def straight (o : Oper) : Bool := match o.op with | .defer _ => false | _ => true
theorem straight_ne {o : Oper} (h : straight o = true) : ∀ c, o.op ≠ .defer c := fun c e => by unfold straight at h; rw [e] at h; cases h
section
variable {P : Program} {l n : Nat} {os : List Oper} {C : World → Prop} {Q : Exit → Act → World → Prop}
end
end Go.Proofs.YtoeanbfemgmgnaaGreatDoor

namespace Go.Proofs.YtoeanbfemgmgnaaGreatDoor
open Go.RowKit
set_option linter.unusedVariables false

section
variable {P : Program} {l n : Nat} {ops : Array Oper} {C : World → Prop} {Q : Exit → Act → World → Prop}
/-- In state a the operation yields v in every world of the class, and turns nothing. -/
def CYields (P : Program) (ops : Array Oper) (C : World → Prop) (o : Oper) (v : Value) (a : Act) : Prop :=
  (Region.wanted o (yielded ops a.tmps) = true ∧ ∀ w, C w → (execOp a.eval o).run P w = .ok (.value v) w) ∨ (Region.wanted o (yielded ops a.tmps) = false ∧ v = undef)
theorem CYields.put {o : Oper} {v : Value} {a : Act} (hy : CYields P ops C o v a) (hs : ∀ cs b, o.op ≠ .select cs b) (dst : Option Tmp) (u : Value) (h : ∀ d, dst = some d → d ∉ o.looksAt ops) : CYields P ops C o v (a.put dst u) := by
  unfold CYields
  rw [wanted_put o a dst u h, execOp_put o hs a dst u h]
  exact hy

theorem CYields.one {i : Nat} {o : Oper} {v : Value} {a : Act} {w : World} (hi : ops[i]? = some o) (hd : straight o = true) (hy : CYields P ops C o v a) (hw : C w) {K : Act → World → Prop} (h : K (a.put o.dst v) w) : wpOpIn Fence.wide n P ops Q i K a w := by
  unfold wpOpIn
  simp only [hi]
  rcases hy with ⟨h1, h2⟩ | ⟨h1, rfl⟩
  · rw [if_pos h1]
    refine ⟨fun _ _ => trivial, ?_⟩
    rw [Oper.semAt_eq _ _ _ (straight_ne hd), h2 w hw]
    exact h
  · rw [if_neg (by rw [h1]; simp)]
    exact ⟨fun _ _ => trivial, h⟩
end
section
variable {P : Program} {l n : Nat} {os : List Oper} {C : World → Prop} {Q : Exit → Act → World → Prop}
end
end Go.Proofs.YtoeanbfemgmgnaaGreatDoor

namespace Go.Proofs.YtoeanbfemgmgnaaGreatDoor
open Go.RowKit
set_option linter.unusedVariables false

section
variable {P : Program} {ops : Array Oper} {md : Region.Mode} {C : World → Prop}
/-- What stands behind n waits for n, step by step. -/
def rootedB (md : Region.Mode) (ops : Array Oper) (n : Nat) : Bool :=
  (List.range ops.size).all fun t => decide (t ≤ n) || (List.range t).any fun j => decide (n ≤ j) && Region.waitsFor md ops t j
theorem head_first {n : Nat} {listed : Array Bool} (hs : Region.sinkB md ops n = true) (hc : rootedB md ops n = true) (hn : n < ops.size) (inv : HeadInv md ops n listed) :
    ∀ (d i : Nat), n - i = d → i < n → listed.getD i true = false → ∀ t, n ≤ t → t ∉ Region.ready md ops listed := by
  intro d
  induction d using Nat.strongRecOn with
  | _ d ih =>
    intro i hd hi hun t ht hr
    obtain ⟨_, ot, hot, hall⟩ := mem_ready.1 hr
    have htlt : t < ops.size := (Array.getElem?_eq_some_iff.1 hot).1
    by_cases htn : t = n
    · subst htn
      have h1 := List.all_eq_true.1 hs i (List.mem_range.2 hi)
      obtain ⟨j, hj, hj2⟩ := List.any_eq_true.1 h1
      simp only [Bool.and_eq_true, decide_eq_true_eq] at hj2
      obtain ⟨oj, hoj, e, he, hb, hon⟩ := Region.waitsFor_spec hj2.2
      have hjle : j ≤ t := by have := List.mem_range.1 hj; omega
      by_cases hjt : j = t
      · subst hjt
        have : oj = ot := Option.some.inj (hoj.symm.trans hot)
        subst this
        have h2 := hall e he hb
        rw [hon, getD_both hun] at h2
        cases h2
      · cases hl : listed.getD j false with
        | true =>
          have h2 := inv.closed j oj hoj hl e he hb
          rw [hon, getD_both hun] at h2
          cases h2
        | false =>
          have hjs : j < listed.size := by rw [inv.size]; omega
          exact ih (t - j) (by omega) j rfl (by omega) (getD_in hjs hl) t (Nat.le_refl _) hr
    · have h1 := List.all_eq_true.1 hc t (List.mem_range.2 htlt)
      simp only [Bool.or_eq_true, decide_eq_true_eq] at h1
      rcases h1 with h1 | h1
      · omega
      · obtain ⟨j, hj, hj2⟩ := List.any_eq_true.1 h1
        simp only [Bool.and_eq_true, decide_eq_true_eq] at hj2
        have hjt := List.mem_range.1 hj
        obtain ⟨o', ho', e, he, hb, hon⟩ := Region.waitsFor_spec hj2.2
        have : o' = ot := Option.some.inj (ho'.symm.trans hot)
        subst this
        have h2 := hall e he hb
        rw [hon, getD_both (inv.tail j hj2.1 (by omega))] at h2
        cases h2

/-- The head, in whatever order. -/
def anyH (P : Program) (md : Region.Mode) (ops : Array Oper) (C : World → Prop) (n : Nat) (L : Array Bool → Act → Prop) : Nat → Array Bool → Act → Prop
  | 0, listed, a => L listed a
  | f + 1, listed, a =>
    Region.ready md ops listed ≠ [] ∧ ∀ i ∈ Region.ready md ops listed, i < n ∧ qOp P ops C i (anyH P md ops C n L f (listed.setIfInBounds i true)) a
theorem any_of_head {n g : Nat} {L : Array Bool → Act → Prop} {Q' : Exit → Act → World → Prop} (hL : ∀ listed a w, C w → L listed a → wpAny P md ops Q' g listed a w) :
    ∀ (f : Nat) (listed : Array Bool) (a : Act) (w : World), C w → anyH P md ops C n L f listed a → wpAny P md ops Q' (f + g) listed a w
  | 0, listed, a, w, hw, h => by rw [Nat.zero_add]; exact hL _ _ _ hw h
  | f + 1, listed, a, w, hw, h => by
    rw [show f + 1 + g = (f + g) + 1 by omega]
    exact ⟨fun h0 => absurd h0 h.1, fun i hi => wpOp_of_qOp hw (fun a' w' hw' h' => any_of_head hL f _ a' w' hw' h') (h.2 i hi).2⟩
theorem anyH_first {n i : Nat} {oi : Oper} {v : Value} {L : Array Bool → Act → Prop} (hi : ops[i]? = some oi) (hsel : ∀ (j : Nat) (o : Oper) cs b, ops[j]? = some o → o.op ≠ .select cs b)
    (hs : Region.sinkB md ops n = true) (hc : rootedB md ops n = true) (hn : n < ops.size) (hin : i < n)
    (hdone : ∀ listed a, L listed a → ∀ j ∈ Region.ready md ops listed, n ≤ j) :
    ∀ (f : Nat) (listed : Array Bool) (a : Act), HeadInv md ops n listed →
      (∀ j oj, ops[j]? = some oj → j ≠ i → listed.getD j true = false → (∀ e ∈ oj.after, Region.binds md e = true → e.on ≠ i) → oi.apart ops oj = true) →
      i ∈ Region.ready md ops listed → YieldsIn P ops C oi v a →
      anyH P md ops C n L f (listed.setIfInBounds i true) (a.put oi.dst v) → anyH P md ops C n L (f + 1) listed a := by
  intro f
  induction f with
  | zero =>
    intro listed a inv _ hr hy H
    have hun := (mem_ready.1 hr).1
    refine ⟨fun h => (by rw [h] at hr; cases hr), fun j hj => ?_⟩
    have hjn : j < n := by
      rcases Nat.lt_or_ge j n with h | h
      · exact h
      · exact absurd hj (head_first hs hc hn inv _ i rfl hin hun j h)
    refine ⟨hjn, ?_⟩
    by_cases hji : j = i
    · subst hji; exact hy.qOp hi H
    · have := hdone _ _ H j (ready_mono hj hji)
      omega
  | succ f ih =>
    intro listed a inv hfree hr hy H
    have hun := (mem_ready.1 hr).1
    refine ⟨fun h => (by rw [h] at hr; cases hr), fun j hj => ?_⟩
    have hjn : j < n := by
      rcases Nat.lt_or_ge j n with h | h
      · exact h
      · exact absurd hj (head_first hs hc hn inv _ i rfl hin hun j h)
    refine ⟨hjn, ?_⟩
    by_cases hji : j = i
    · subst hji; exact hy.qOp hi H
    · have h1 := (H.2 j (ready_mono hj hji)).2
      obtain ⟨hjun, oj, hoj, hall⟩ := mem_ready.1 hj
      have hnot : ∀ e ∈ oj.after, Region.binds md e = true → e.on ≠ i := fun e he hb heq => by
        have h1 := hall e he hb
        rw [heq, getD_both hun] at h1
        cases h1
      have h2 := qOp_put hoj (hfree j oj hoj hji hjun hnot) (fun cs b => hsel i oi cs b hi) (fun cs b => hsel j oj cs b hoj) hy h1
      have hfree' : ∀ k ok, ops[k]? = some ok → k ≠ i → (listed.setIfInBounds j true).getD k true = false →
          (∀ e ∈ ok.after, Region.binds md e = true → e.on ≠ i) → oi.apart ops ok = true := fun k ok hk hki hun hno => by
        refine hfree k ok hk hki ?_ hno
        by_cases hjk : j = k
        · subst hjk; exact hjun
        · rw [getD_set_ne true hjk] at hun; exact hun
      refine qOp_mono (fun a' h3 => ih (listed.setIfInBounds j true) a' (inv.set hj hjn) hfree' (ready_mono hr (Ne.symm hji)) h3.1 ?_) h2
      rw [Array.setIfInBounds_comm _ _ hji]
      exact h3.2

/-- The middle alone is ready, and what stands behind it may be walked as it is written. -/
def midB (md : Region.Mode) (ops : Array Oper) (n : Nat) (listed : Array Bool) : Bool :=
  decide (Region.ready md ops listed = [n]) && Region.lexFrom md ops (ops.size - (n + 1)) (n + 1) (listed.setIfInBounds n true)
def headB (md : Region.Mode) (ops : Array Oper) (n : Nat) : Nat → Nat → Array Bool → Bool
  | 0, k, listed => midB md ops n listed
  | f + 1, k, listed => (Region.ready md ops listed).contains k && Region.free md ops listed k && headB md ops n f (k + 1) (listed.setIfInBounds k true)
def middleB (md : Region.Mode) (ops : Array Oper) (n : Nat) : Bool :=
  Region.noSelect ops && decide (n < ops.size) && Region.sinkB md ops n && rootedB md ops n && headB md ops n n 0 (Array.replicate ops.size false)
theorem anyH_lex {n : Nat} {Lq : Act → Prop} (hsel : Region.noSelect ops = true) (hs : Region.sinkB md ops n = true) (hc : rootedB md ops n = true) (hn : n < ops.size) :
    ∀ (l : List Oper) (k : Nat) (listed : Array Bool) (a : Act), (∀ j, j < l.length → l[j]? = ops[k + j]?) → k + l.length = n → HeadInv md ops n listed →
    headB md ops n l.length k listed = true → wpQuiet P ops C Lq l a →
    anyH P md ops C n (fun listed' a' => midB md ops n listed' = true ∧ Lq a') l.length listed a
  | [], k, listed, a, _, hk, _, hB, h => ⟨by simpa [headB] using hB, h⟩
  | o :: l, k, listed, a, hl, hk, inv, hB, h => by
    have h0 : ops[k]? = some o := by simpa using (hl 0 (by simp)).symm
    simp only [List.length_cons, headB, Bool.and_eq_true] at hB
    obtain ⟨⟨hr, hf⟩, hB'⟩ := hB
    have hkn : k < n := by simp only [List.length_cons] at hk; omega
    have hr' : k ∈ Region.ready md ops listed := by simpa using hr
    have hst : qOp P ops C k (wpQuiet P ops C Lq l) a := by unfold qOp; simp only [h0]; exact h
    obtain ⟨v, hy, hK⟩ := yieldsIn_of_qOp h0 hst
    exact anyH_first h0 (Region.noSelect_spec hsel) hs hc hn hkn (fun listed' a' hL j hj => by
        have h1 := hL.1
        simp only [midB, Bool.and_eq_true, decide_eq_true_eq] at h1
        rw [h1.1] at hj
        have : j = n := by simpa using hj
        omega) l.length listed a inv (Region.free_spec h0 hf) hr' hy
      (anyH_lex hsel hs hc hn l (k + 1) _ _ (fun j hj => by have := hl (j + 1) (by simp; omega); simpa [Nat.add_assoc, Nat.add_comm 1 j] using this) (by simp only [List.length_cons] at hk; omega) (inv.set hr' hkn) hB' hK)
end

/-- THE REGION: a quiet head, one operation that may answer as it will, a quiet rest. -/
theorem one_in_the_middle {P : Program} {id : Nat} {Q : Exit → Act → World → Prop} {a : Act} {w : World} {l : List Oper} (n : Nat) {o : Oper} (hm : P.follows .mixedOrders = true) (hB : middleB .any l.toArray n = true) (ho : l[n]? = some o)
    (h : wpQuiet P l.toArray (fun w' => ∃ x, w' = onto w x) (fun a' => ∀ w', (∃ x, w' = onto w x) → ∀ K : Act → World → Prop,
      (∀ b v, wpQuiet P l.toArray (fun v' => ∃ x, v' = onto v x) (fun b' => ∀ v', (∃ x, v' = onto v x) → Q .normal b' v') (l.drop (n + 1)) b → K b v) →
      Region.wanted o (yielded l.toArray a'.tmps) = true ∧ o.wp P a' w' K Q) (l.take n) a) : (Code.region id l.toArray true).wp P Q a w := by
  simp only [middleB, Bool.and_eq_true, decide_eq_true_eq] at hB
  obtain ⟨⟨⟨⟨hsel, hn⟩, hs⟩, hc⟩, hlex⟩ := hB
  have hn' : n < l.length := by simpa using hn
  have htl : (l.take n).length = n := by simp; omega
  have inv0 : HeadInv .any l.toArray n (Array.replicate l.toArray.size false) :=
    ⟨by simp, fun j oj _ hl => (by rw [getD_replicate_false] at hl; cases hl), fun t _ ht => getD_in (by simpa using ht) (getD_replicate_false _ _)⟩
  have H := anyH_lex (P := P) (md := .any) (C := fun w' => ∃ x, w' = onto w x) hsel hs hc hn (l.take n) 0 (Array.replicate l.toArray.size false) a (fun j hj => by
    have hj' : j < n := by rw [htl] at hj; exact hj
    simp [hj']) (by simpa using htl) inv0 (by rw [htl]; exact hlex) h
  refine wp_region_any hm ?_
  have hgap : l.toArray.size - n = (l.toArray.size - (n + 1)) + 1 := by omega
  have := any_of_head (Q' := Q) (g := l.toArray.size - n) (fun listed a' w' hw' hL => by
    obtain ⟨hmid, hq⟩ := hL
    simp only [midB, Bool.and_eq_true, decide_eq_true_eq] at hmid
    rw [hgap]
    refine ⟨fun h0 => (by rw [hmid.1] at h0; cases h0), fun i hi => ?_⟩
    rw [hmid.1] at hi
    obtain rfl : i = n := by simpa using hi
    unfold wpOp
    have hoi : l.toArray[i]? = some o := by simpa using ho
    simp only [hoi]
    have h3 := hq w' hw' _ (fun b v hb => hb)
    rw [if_pos h3.1]
    refine .inl (Oper.wp_mono (fun b v hb => ?_) h3.2)
    have hdl : (l.drop (i + 1)).length = l.toArray.size - (i + 1) := by simp
    have h4 := wpAnyQ_lex (P := P) (md := .any) (C := fun v' => ∃ x, v' = onto v x) hsel (l.drop (i + 1)) (i + 1) (listed.setIfInBounds i true) b (fun j => by simp [List.getElem?_drop]) (by rw [hdl]; exact hmid.2) hb
    rw [hdl] at h4
    exact wpAny_of_quiet (Q := fun b' => ∀ v', (∃ x, v' = onto v x) → Q .normal b' v') (fun _ v' hv' h => h v' hv') _ _ _ v (onto_self v) h4) _ _ _ _ (onto_of ((Below.refl _ w).drew)) H
  rw [htl, show n + (l.toArray.size - n) = l.toArray.size by omega] at this
  exact this
end Go.Proofs.YtoeanbfemgmgnaaGreatDoor

namespace Go.Proofs.YtoeanbfemgmgnaaGreatDoor
open Go.RowKit Go.ChangeShapes Go.WideShapes Go.ChangeAt Go.Deep
set_option linter.unusedVariables false

/-- Slices V that read as the records rs. -/
def RowsIn (W : World) (V : List Value) (rs : List (List ByteArray)) : Prop :=
  V.length = rs.length ∧ ∀ (j : Nat) (x : List ByteArray), rs[j]? = some x → ∃ A a, V[j]? = some (.slice A x.length a) ∧ SlIn W A x.length (Go.Proofs.YtoeanbfemgmgnaaGreatDoor.strs x)
theorem RowsIn.below {W W' : World} {V : List Value} {rs : List (List ByteArray)} (h : RowsIn W V rs) (hb : Below W.heap.size W W') : RowsIn W' V rs := ⟨h.1, fun j x hx => by
  obtain ⟨A, a, h1, h2⟩ := h.2 j x hx
  exact ⟨A, a, h1, h2.below hb⟩⟩
/-- A table: the slice at A. -/
def TabIn (W : World) (A : Option Addr) (n : Nat) (V : List Value) (rs : List (List ByteArray)) : Prop := SlIn W A n V ∧ RowsIn W V rs
theorem TabIn.below {W W' : World} {A : Option Addr} {n : Nat} {V : List Value} {rs : List (List ByteArray)} (h : TabIn W A n V rs) (hb : Below W.heap.size W W') : TabIn W' A n V rs := ⟨h.1.below hb, h.2.below hb⟩
theorem TabIn.len {W : World} {A : Option Addr} {n : Nat} {V : List Value} {rs : List (List ByteArray)} (h : TabIn W A n V rs) : rs.length = n := by rw [← h.2.1, h.1.1]
theorem TabIn.row {W : World} {A : Option Addr} {n : Nat} {V : List Value} {rs : List (List ByteArray)} (h : TabIn W A n V rs) {k : Nat} {r : List ByteArray} (hk : rs[k]? = some r) :
    ∃ a B b, A = some a ∧ W.cell? (a.add k) = some (.slice B r.length b) ∧ SlIn W B r.length (Go.Proofs.YtoeanbfemgmgnaaGreatDoor.strs r) := by
  obtain ⟨B, b, h1, h2⟩ := h.2.2 k r hk
  obtain ⟨a, ha, hc⟩ := h.1.at_ h1
  exact ⟨a, B, b, ha, hc, h2⟩
theorem TabIn.one {W : World} {A : Option Addr} {n c : Nat} {l : List ByteArray} {B : Addr} (h : SlIn W A n (Go.Proofs.YtoeanbfemgmgnaaGreatDoor.strs l)) (hn : l.length = n) (hB : W.cell? B = some (.slice A n c)) : TabIn W (some B) 1 [.slice A n c] [l] := by
  refine ⟨⟨rfl, fun j u hu => ?_⟩, rfl, fun j x hx => ?_⟩
  · match j, hu with
    | 0, hu =>
      simp at hu; subst hu
      exact ⟨B, rfl, by have : B.add 0 = B := by cases B; simp [Addr.add]
                        rw [this]; exact hB⟩
    | j + 1, hu => simp at hu
  · match j, hx with
    | 0, hx =>
      simp at hx; subst hx
      subst hn
      exact ⟨A, c, rfl, h⟩
    | j + 1, hx => simp at hx

section
variable {H : Type} {enc : TypeId × Value → H} {P : Program} {w : World} {base b0 : Nat} {held : Bool} {r : Reach}
theorem open_tabs {t e q : TypeId} {v : Value} {d : DataW H} {p : List MemPlace} (ht : P.underlying t = some (.slice e)) (he : P.underlying e = some (.slice q)) (hq : P.underlying q = some .string) (ce : P.cellsOf e = 1) (cq : P.cellsOf q = 1) (hlight : Light P t d)
    (hval : Value.okWide P w r b0 t v) (h : DataW.Trod enc P w base (fun _ => true) held t v d p) :
    ∃ (A : Option Addr) (n c : Nat) (V : List Value) (rs : List (List ByteArray)), v = .slice A n c ∧ n ≤ c ∧ c ≤ maxLen ∧ TabIn w A n V rs ∧ ∀ x ∈ rs, x.length ≤ maxLen ∧ ∀ s ∈ x, s.size ≤ 140737488351232 := by
  obtain ⟨A, n, c, rfl⟩ := okWide_slice ht hval
  obtain ⟨fuel, hf⟩ := h
  rcases open_slice1 ht ce hf with ⟨hcs, _⟩ | ⟨a, len, cap, m, k, V, D, Pl, hcs, hb, hl, hm, hmm, hx, hrow⟩
  · simp [Value.cells] at hcs
    obtain ⟨rfl, rfl, rfl⟩ := hcs
    exact ⟨none, 0, 0, [], [], rfl, Nat.le_refl _, Nat.zero_le _, ⟨SlIn.nothing _ _, rfl, fun j x h => by simp at h⟩, by simp⟩
  · simp [Value.cells] at hcs
    obtain ⟨rfl, rfl, rfl⟩ := hcs
    simp only [if_true] at hmm
    subst hmm
    simp only [Prod.mk.injEq] at hx
    obtain ⟨rfl, _⟩ := hx
    have each : ∀ j, j < n → ∃ y : List ByteArray, (∃ B C, V j = .slice B y.length C ∧ SlIn w B y.length (Go.Proofs.YtoeanbfemgmgnaaGreatDoor.strs y)) ∧ y.length ≤ maxLen ∧ ∀ s ∈ y, s.size ≤ 140737488351232 := by
      intro j hj
      rcases open_strings he hq cq (hrow j (by omega)).2 with ⟨hcs, hy⟩ | ⟨a', len', cap', ss, hcs, hb', hl', hm', hz, hy, hcell, hwz⟩
      · exact ⟨[], ⟨none, 0, by simpa using hcs, SlIn.nothing _ _⟩, Nat.zero_le _, by simp⟩
      · simp only [Prod.mk.injEq] at hy
        simp only [if_true] at hz
        have hlen : (ss.take len').length = len' := by rw [List.length_take]; omega
        refine ⟨ss.take len', ⟨some a', cap', by rw [hlen]; simpa using hcs, ⟨by rw [strs_length], fun i u hu => ⟨a', rfl, ?_⟩⟩⟩, by omega, fun s hs => ?_⟩
        · unfold Go.Proofs.YtoeanbfemgmgnaaGreatDoor.strs at hu
          rw [List.getElem?_map] at hu
          cases hi : (ss.take len')[i]? with
          | none => rw [hi] at hu; cases hu
          | some x =>
            rw [hi] at hu
            simp only [Option.map_some, Option.some.injEq] at hu
            subst hu
            have hil := (List.getElem?_eq_some_iff.1 hi).1
            rw [List.length_take] at hil
            rw [List.getElem?_take_of_lt (by omega)] at hi
            rw [hcell i (by omega), List.getD_eq_getElem?_getD, hi]
            rfl
        · have := hlight s.size (by
            simp only [DataW.weights, ht]
            refine List.mem_cons_of_mem _ (List.mem_append_left _ ?_)
            refine weights_all (List.mem_map.2 ⟨j, List.mem_range.2 hj, rfl⟩) ?_
            rw [hy.1]
            simp only [DataW.weights, he]
            refine List.mem_cons_of_mem _ (List.mem_append_left _ ?_)
            refine weights_all (List.mem_map.2 ⟨s, hs, rfl⟩) ?_
            simp [DataW.weights])
          exact this
    obtain ⟨y, hy⟩ := choose_lt each
    refine ⟨some a, n, m, (List.range n).map V, (List.range n).map y, rfl, hl, hm, ⟨⟨by simp, fun j u hu => ⟨a, rfl, ?_⟩⟩, by simp, fun j x hx => ?_⟩, fun x hx => ?_⟩
    · rw [List.getElem?_map] at hu
      cases hj : (List.range n)[j]? with
      | none => rw [hj] at hu; cases hu
      | some i =>
        obtain ⟨hjl, hji⟩ := List.getElem?_eq_some_iff.1 hj
        rw [List.length_range] at hjl
        rw [List.getElem_range] at hji
        subst hji
        rw [hj] at hu
        simp only [Option.map_some, Option.some.injEq] at hu
        subst hu
        exact (hrow j (by omega)).1
    · rw [List.getElem?_map] at hx ⊢
      cases hj : (List.range n)[j]? with
      | none => rw [hj] at hx; cases hx
      | some i =>
        obtain ⟨hjl, hji⟩ := List.getElem?_eq_some_iff.1 hj
        rw [List.length_range] at hjl
        rw [List.getElem_range] at hji
        subst hji
        rw [hj] at hx
        simp only [Option.map_some, Option.some.injEq] at hx
        subst hx
        obtain ⟨⟨B, C, h1, h2⟩, _⟩ := hy j hjl
        exact ⟨B, C, by simp [h1], h2⟩
    · obtain ⟨j, hj, rfl⟩ := List.mem_map.1 hx
      exact (hy j (List.mem_range.1 hj)).2
end
end Go.Proofs.YtoeanbfemgmgnaaGreatDoor

namespace Go.Proofs.YtoeanbfemgmgnaaGreatDoor
open Go.RowKit
set_option linter.unusedVariables false

/-- What is said by one whose blocks T are stays true where others of K alone turn. -/
def AbK {β : Type} (K : Nat → Prop) (J : β → World → (Nat → Prop) → Prop) : Prop :=
  ∀ s W1 W2 T S, J s W1 T → Lies W1 T → Touch W1 W2 S → (∀ k, S k → ¬ T k ∧ K k) → J s W2 T
theorem AbK.mono {β : Type} {K K' : Nat → Prop} {J : β → World → (Nat → Prop) → Prop} (h : AbK K J) (hb : ∀ k, K' k → K k) : AbK K' J :=
  fun s W1 W2 T S hs hl ht hS => h s W1 W2 T S hs hl ht (fun k hk => ⟨(hS k hk).1, hb k (hS k hk).2⟩)

end Go.Proofs.YtoeanbfemgmgnaaGreatDoor

namespace Go.Proofs.YtoeanbfemgmgnaaGreatDoor
open Go.RowKit
set_option linter.unusedVariables false

theorem builder_below {T e : TypeId} {B b : Nat} {bs : List Value} {w w' : World} (h : Lib.IsBuilderF T e B b bs w) (hb : Below w.heap.size w w') : Lib.IsBuilderF T e B b bs w' := by
  have hg : w.grownBy w' none := ⟨hb.os, hb.tape, hb.output, hb.size, fun k hk _ => hb.block k hk⟩
  have one : ∀ p, Lib.BuilderAtF T e B b p bs w → Lib.BuilderAtF T e B b p bs w' := by
    rintro p ⟨hB, v, hbk, hown, hne⟩
    refine ⟨hB, v, ?_, hown.kept hg ?_, hne⟩
    · rw [hb.block b (Array.getElem?_eq_some_iff.1 hbk).1]; exact hbk
    · cases v.ownBlock with
      | none => exact .inl rfl
      | some z => exact .inr (by simp)
  exact h.imp (one _) (one _)

theorem own_kept {base : Nat} {e t : TypeId} {b : Nat} {A : Option Addr} {n c : Nat} {xs : List Value} {w w' : World} (h : SlOwn w base e A n c xs) (hk : Lib.OthersKept t (some b) w w') (he : e ≠ t) (hb : b < base) : SlOwn w' base e A n c xs := by
  refine h.keep fun k hkA => ?_
  obtain ⟨h1, h2, h3, h4⟩ := h
  rcases h4 with ⟨rfl, _⟩ | ⟨g, cur, fz, rfl, hg, hgk, _⟩
  · simp [blkOf] at hkA
  · simp [blkOf] at hkA
    subst hkA
    rw [hgk]
    exact hk g _ hgk (fun e => by injection e with e; omega) (fun c' fz' he' => by injection he' with _ he' _; exact he he')
end Go.Proofs.YtoeanbfemgmgnaaGreatDoor

namespace Go.Proofs.YtoeanbfemgmgnaaGreatDoor
open Go.ChangeShapes Go.WideShapes Go.ChangeAt Go.RowKit
set_option linter.unusedVariables false

theorem wpListIn_append_sl {F : Fence} {N : Nat} {P : Program} (w : World) {ops : Array Oper} {rest : List Oper} {o : Oper} {a : Act} {Q : Exit → Act → World → Prop} (hgd : o.guard = none) (s x : Operand) (t : TypeId)
    (hop : o.op = .call { callee := .builtin .append, args := #[s, x], argTypes := #[t, t] })
    (e : TypeId) (i : TypeInfo) (z : Value) (bytes : Nat) (ht : P.underlying t = some (.slice e)) (hi : P.info? e = some i) (hz : i.zero = some z)
    (hsz : i.size = 1) (hby : i.bytes = bytes) (hzs : z.cells.size = 1) (base : Nat) (A : Option Addr) (n c : Nat) (xs : List Value) (hs : a.eval s = .slice A n c) (ho : SlOwn w base e A n c xs)
    (A2 : Option Addr) (m c2 : Nat) (ys : List Value) (hx : a.eval x = .slice A2 m c2) (hin : SlIn w A2 m ys) (h1 : ∀ u ∈ ys, u.oneCell' = true) (h63 : n + m ≤ maxLen) (hbytes : (n + m) * bytes ≤ 140737488355328) (hbase : base ≤ w.heap.size)
    (h : ∀ A' c' w', SlOwn w' base e A' (n + m) c' (xs ++ ys) → w.grownBy w' (blkOf A) → (A' = A ∨ A' = some ⟨w.heap.size, 0, none⟩) → wpListIn F N P ops Q rest (a.put o.dst (.slice A' (n + m) c')) w') : wpListIn F N P ops Q (o :: rest) a w := by
  refine wpListIn_plain hgd fun K hK => ?_
  obtain ⟨A', c', w', hr, h2, h3, h4⟩ := append_own (P := P) w t o.type e i z bytes ht hi hz hsz hby hzs base A n c xs ho A2 m c2 ys hin h1 h63 hbytes hbase
  unfold Oper.wpIn
  refine ⟨?_, ?_⟩
  · simp [Oper.about, hop, resolve, Target.leads, Sem.run_pure]
  · rw [Oper.semAt_plain F _ _ (by rw [hop]; intro c hc'; cases hc')]
    simp [execOp, hop, resolve, invoke, builtin, hs, hx, hr, Result.andThen]
    exact hK _ _ (h A' c' w' h2 h3 h4)
theorem yieldAt_depth {n m : Nat} {P : Program} {l : Nat} {args : Array Value} {W : World} {R : Ending → World → Prop} (h : YieldAt Fence.wide n P l args W R) : YieldAt Fence.wide m P l args W R := by
  obtain ⟨fn, tmps, assign, body, hy, hR⟩ := h
  exact ⟨fn, tmps, assign, body, hy, hR.1, fun c cs _ => hR.2 c cs (fun _ h => by simp [Fence.wide] at h)⟩
end Go.Proofs.YtoeanbfemgmgnaaGreatDoor

namespace Go.Proofs.YtoeanbfemgmgnaaGreatDoor
open Go.RowKit
set_option linter.unusedVariables false

/-- The slice (A, n, c) reads as xs and lies in a block whose cells can be written; or it is nil. -/
def SlAt (w : World) (e : TypeId) (A : Option Addr) (n c : Nat) (xs : List Value) : Prop :=
  xs.length = n ∧ n ≤ c ∧ c ≤ maxLen ∧ ((A = none ∧ c = 0) ∨
    ∃ (g off : Nat) (cur : Array Value) (fz : Nat × Nat), A = some ⟨g, off, none⟩ ∧ w.heap[g]? = some (.cells cur e fz) ∧ off + c ≤ cur.size ∧ (fz.2 ≤ fz.1 ∨ cur.size ≤ fz.1) ∧ ∀ (j : Nat) (u : Value), xs[j]? = some u → cur[off + j]? = some u)

section
variable {w w' : World} {e : TypeId} {A : Option Addr} {n c : Nat} {xs : List Value}
theorem SlAt.nothing (w : World) (e : TypeId) : SlAt w e none 0 0 [] := ⟨rfl, Nat.le_refl _, Nat.zero_le _, .inl ⟨rfl, rfl⟩⟩
theorem SlOwn.toAt {base : Nat} (h : SlOwn w base e A n c xs) : SlAt w e A n c xs := by
  obtain ⟨h1, h2, h3, h4⟩ := h
  refine ⟨h1, h2, h3, ?_⟩
  rcases h4 with h4 | ⟨g, cur, fz, rfl, _, hg, hs, hf, hx⟩
  · exact .inl h4
  · exact .inr ⟨g, 0, cur, fz, rfl, hg, by omega, by omega, fun j u hu => by rw [Nat.zero_add]; exact hx j u hu⟩
theorem SlAt.toIn (h : SlAt w e A n c xs) : SlIn w A n xs := by
  obtain ⟨h1, h2, h3, h4⟩ := h
  refine ⟨h1, fun j u hu => ?_⟩
  have hj := (List.getElem?_eq_some_iff.1 hu).1
  rcases h4 with ⟨_, hc⟩ | ⟨g, off, cur, fz, rfl, hg, _, _, hx⟩
  · omega
  · refine ⟨_, rfl, ?_⟩
    rw [Addr.add_lit, cell_of_row w g _ cur e fz hg]
    exact hx j u hu
theorem SlAt.blk (h : SlAt w e A n c xs) : ∀ k, blkOf A = some k → k < w.heap.size := by
  intro k hk
  rcases h.2.2.2 with ⟨rfl, _⟩ | ⟨g, off, cur, fz, rfl, hg, _⟩
  · cases hk
  · have : g = k := by simpa [blkOf] using hk
    subst this
    exact heap_lt hg
theorem SlAt.keep (h : SlAt w e A n c xs) (hk : ∀ k, blkOf A = some k → w'.heap[k]? = w.heap[k]?) : SlAt w' e A n c xs := by
  obtain ⟨h1, h2, h3, h4⟩ := h
  refine ⟨h1, h2, h3, ?_⟩
  rcases h4 with h4 | ⟨g, off, cur, fz, rfl, hg, hr⟩
  · exact .inl h4
  · exact .inr ⟨g, off, cur, fz, rfl, (hk g rfl).trans hg, hr⟩
theorem SlAt.below (h : SlAt w e A n c xs) (hb : Below w.heap.size w w') : SlAt w' e A n c xs := h.keep fun k hk => hb.block k (h.blk k hk)
theorem SlAt.touch {S : Nat → Prop} (h : SlAt w e A n c xs) (k : Touch w w' S) (hA : ∀ j, blkOf A = some j → ¬ S j) : SlAt w' e A n c xs :=
  h.keep fun j hj => k.block j (h.blk j hj) (hA j hj)
/-- s[k:]. -/
theorem SlAt.cut (h : SlAt w e A n c xs) {k : Nat} (hk : k ≤ n) : SlAt w e (if c = k then A else A.map (·.add k)) (n - k) (c - k) (xs.drop k) ∧ (∀ j, blkOf (if c = k then A else A.map (·.add k)) = some j → blkOf A = some j) := by
  obtain ⟨h1, h2, h3, h4⟩ := h
  refine ⟨⟨by rw [List.length_drop, h1], by omega, by omega, ?_⟩, fun j hj => ?_⟩
  · rcases h4 with ⟨rfl, rfl⟩ | ⟨g, off, cur, fz, rfl, hg, hs, hf, hx⟩
    · exact .inl ⟨by split <;> rfl, by omega⟩
    · refine .inr ?_
      by_cases hc : c = k
      · rw [if_pos hc]
        exact ⟨g, off, cur, fz, rfl, hg, by omega, hf, fun j u hu => by
          have := (List.getElem?_eq_some_iff.1 hu).1
          rw [List.length_drop] at this; omega⟩
      · rw [if_neg hc]
        exact ⟨g, off + k, cur, fz, by rw [Option.map_some, Addr.add_lit], hg, by omega, hf, fun j u hu => by
          rw [List.getElem?_drop] at hu
          rw [Nat.add_assoc]; exact hx _ u hu⟩
  · cases A with
    | none => split at hj <;> cases hj
    | some a =>
      split at hj
      · exact hj
      · simpa [blkOf, add_block] using hj
theorem SlAt.take (h : SlAt w e A n c xs) {k : Nat} (hk : k ≤ n) : SlAt w e A k c (xs.take k) := by
  obtain ⟨h1, h2, h3, h4⟩ := h
  refine ⟨by rw [List.length_take, h1]; omega, by omega, h3, ?_⟩
  rcases h4 with h4 | ⟨g, off, cur, fz, rfl, hg, hs, hf, hx⟩
  · exact .inl h4
  · refine .inr ⟨g, off, cur, fz, rfl, hg, hs, hf, fun j u hu => ?_⟩
    have hlt : j < k := by have := (List.getElem?_eq_some_iff.1 hu).1; rw [List.length_take] at this; omega
    rw [List.getElem?_take_of_lt hlt] at hu
    exact hx j u hu
end

theorem byteCells_u8s (s : ByteArray) : byteCells s = u8s (bl s) := by
  unfold byteCells u8s bl
  rw [List.map_map]
  rfl

/-- append onto such a one, out of a text. -/
theorem append_at {P : Program} (w : World) (t tx ty e : TypeId) (i : TypeInfo) (z : Value) (bytes : Nat) (ht : P.underlying t = some (.slice e)) (hx : P.underlying tx = some .string) (hi : P.info? e = some i) (hz : i.zero = some z)
    (hsz : i.size = 1) (hby : i.bytes = bytes) (hzs : z.cells.size = 1) (A : Option Addr) (n c : Nat) (l : List Int) (ho : SlAt w e A n c (u8s l))
    (s : ByteArray) (h63 : n + s.size ≤ maxLen) (hbytes : (n + s.size) * bytes ≤ 140737488355328) :
    ∃ A' c' w', (Builtin.append_ #[t, tx] ty #[.slice A n c, .string s]).run P w = .ok (.slice A' (n + s.size) c') w' ∧ SlAt w' e A' (n + s.size) c' (u8s (l ++ bl s)) ∧ w.grownBy w' (blkOf A) ∧
      (blkOf A' = blkOf A ∨ blkOf A' = some w.heap.size) := by
  have hsrc : Src P i.size tx (.string s) s.size (u8s (bl s)) w := by rw [← byteCells_u8s, hsz]; exact Src.ofString w hx s
  obtain ⟨l1, l2, l3, l4⟩ := ho
  have hbl : (u8s (bl s)).length = s.size := by rw [u8s_length, bl_length]
  have hcat : (u8s (l ++ bl s)).length = n + s.size := by rw [u8s_append, List.length_append, l1, hbl]
  have hsmall : n + s.size ≤ 9223372036854775807 := by simp only [maxLen] at h63; omega
  by_cases hm : s.size = 0
  · have hs0 : bl s = [] := List.eq_nil_of_length_eq_zero (by rw [bl_length]; exact hm)
    have hsrc0 := hsrc
    rw [hs0, hm] at hsrc0
    have hr := run_append_nothing (P := P) w t tx ty e i ht hi A n c l2 (.string s) hsrc0
    refine ⟨A, c, w, ?_, ?_, World.grownBy.refl _ _, .inl rfl⟩
    · rw [hm, Nat.add_zero]; exact hr
    · rw [hm, hs0, Nat.add_zero, List.append_nil]; exact ⟨l1, l2, l3, l4⟩
  · by_cases hroom : n + s.size ≤ c
    · rcases l4 with ⟨rfl, rfl⟩ | ⟨g, off, cur, fz, rfl, hg, hs, hf, hxx⟩
      · omega
      · have hcells : ∀ j, j < (u8s (bl s)).length → (w.cell? ⟨g, off + n * i.size + j, none⟩).isSome = true := fun j hj => by
          rw [hsz, cell_of_row w g _ cur e fz hg, Array.getElem?_eq_getElem (by rw [hbl] at hj; omega)]; rfl
        have hfz : ∀ j, j < (u8s (bl s)).length → w.frozen? ⟨g, off + n * i.size + j, none⟩ = false := fun j hj => frozen_off hg hf (by rw [hsz]; rw [hbl] at hj; omega)
        have hr := run_append_room_src (P := P) w t tx ty e i ht hi g off n c (.string s) s.size (u8s (bl s)) hsrc hroom hcells hfz
        rw [hsz, Nat.mul_one] at hr
        obtain ⟨cur', q1, q2, q3, q4⟩ := setCells_row g e fz (u8s (bl s)) (off + n) w cur hg
        refine ⟨_, _, _, hr, ⟨hcat, hroom, l3, .inr ⟨g, off, cur', fz, rfl, q1, by omega, by omega, fun j u hu => ?_⟩⟩, setCells_grown g _ (off + n) w, .inl rfl⟩
        rw [u8s_append] at hu
        by_cases hj : j < n
        · rw [List.getElem?_append_left (by omega)] at hu
          rw [q3 (off + j) (by omega)]; exact hxx j u hu
        · rw [List.getElem?_append_right (by omega), l1] at hu
          have hjl := (List.getElem?_eq_some_iff.1 hu).1
          have := q4 (j - n) u hu (by rw [hbl] at hjl; omega)
          rwa [show off + n + (j - n) = off + j by omega] at this
    · have hold : (Builtin.firstCells i.size n (.slice A n c)).run P w.drew = .ok (u8s l).toArray w.drew := by
        rcases l4 with ⟨rfl, rfl⟩ | ⟨g, off, cur, fz, rfl, hg, hs, hf, hxx⟩
        · obtain rfl : n = 0 := by omega
          have : u8s l = [] := List.eq_nil_of_length_eq_zero l1
          rw [this]
          exact run_firstCells_none (P := P) w.drew i.size 0 0 0
        · refine run_firstCells_some (P := P) w.drew i.size n ⟨g, off, none⟩ n c (u8s l) (by rw [hsz, Nat.mul_one]; exact l1) (fun j u hu => ?_)
          rw [Addr.add_lit]
          have : w.drew.cell? ⟨g, off + j, none⟩ = cur[off + j]? := cell_of_row w.drew g _ cur e fz hg
          rw [this]; exact hxx j u hu
      have hr := run_append_grow_src (P := P) w t tx ty e i z ht hi hz A n c (u8s l) hold (.string s) s.size (u8s (bl s)) hsrc (by omega) (by omega) (growslice_fits (by omega) (by rw [hby]; exact hbytes))
      have hge := grownCap_ge w (n + s.size) c e
      refine ⟨_, _, _, hr, ⟨hcat, hge, grownCap_le_maxLen w (n + s.size) c e h63, .inr ⟨w.heap.size, 0, _, (0, 0), rfl, heap_alloc_new w.drew _, ?_, .inl (Nat.le_refl _), fun j u hu => ?_⟩⟩, ⟨rfl, rfl, rfl, by simp, fun k hk _ => heap_alloc_old w.drew _ hk⟩, .inr rfl⟩
      · simp only [Array.size_append, List.size_toArray, size_zeroCells, hzs, Nat.mul_one, List.length_append, l1, hbl]; omega
      · have hj := (List.getElem?_eq_some_iff.1 hu).1
        rw [Nat.zero_add, Array.getElem?_append_left (by rw [← u8s_append]; simpa using hj), ← u8s_append]; simpa using hu

/-- At the operation. -/
theorem wpList_append_at {P : Program} (w : World) {ops : Array Oper} {rest : List Oper} {o : Oper} {a : Act} {Q : Exit → Act → World → Prop} (hgd : o.guard = none) (s x : Operand) (t tx : TypeId)
    (hop : o.op = .call { callee := .builtin .append, args := #[s, x], argTypes := #[t, tx] })
    (e : TypeId) (i : TypeInfo) (z : Value) (bytes : Nat) (ht : P.underlying t = some (.slice e)) (hx : P.underlying tx = some .string) (hi : P.info? e = some i) (hz : i.zero = some z)
    (hsz : i.size = 1) (hby : i.bytes = bytes) (hzs : z.cells.size = 1) (A : Option Addr) (n c : Nat) (l : List Int) (hs : a.eval s = .slice A n c) (ho : SlAt w e A n c (u8s l))
    (v : ByteArray) (hv : a.eval x = .string v) (h63 : n + v.size ≤ maxLen) (hbytes : (n + v.size) * bytes ≤ 140737488355328)
    (h : ∀ A' c' w', SlAt w' e A' (n + v.size) c' (u8s (l ++ bl v)) → w.grownBy w' (blkOf A) → (blkOf A' = blkOf A ∨ blkOf A' = some w.heap.size) → wpList P ops Q rest (a.put o.dst (.slice A' (n + v.size) c')) w') : wpList P ops Q (o :: rest) a w := by
  refine wpList_plain hgd fun K hK => ?_
  obtain ⟨A', c', w', hr, h2, h3, h4⟩ := append_at (P := P) w t tx o.type e i z bytes ht hx hi hz hsz hby hzs A n c l ho v h63 hbytes
  unfold Oper.wp execOp
  simp only [hop, resolve, invoke, builtin, Sem.run_bind, Sem.run_pure, Result.andThen_ok, List.map_toArray, List.map_cons, List.map_nil, hs, hv, hr]
  exact hK _ _ (h A' c' w' h2 h3 h4)
end Go.Proofs.YtoeanbfemgmgnaaGreatDoor

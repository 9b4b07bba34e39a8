/- Helpers over any program: worlds that lie above a given one ('onto'), so that a region that draws its order and holds calls that make memory is walked once, in the order of the text. No condition. -/
import Derived.WalkKit
import Derived.ProofKit
import Derived.OpenShut
import Derived.Below
import Derived.Lib.Hide
import Derived.Outline
import Derived.RegionTactic
import Derived.ChangeAlike
import Derived.BigQuiet
import Derived.Deep.Light
import Derived.Handy
import Derived.Laws.BytesString
import Derived.Laws.Cells
namespace Go.Proofs.YtngdmkhinebbdaaDoor
open Go.RowKit

/-- A world above w: all of w's blocks as they were. -/
structure Above (w : World) where
  it : World
  isAbove : Below w.heap.size w it
instance (w : World) : Nonempty (Above w) := ⟨⟨w, Below.refl _ _⟩⟩
def onto (w : World) (x : Above w) : World := x.1
theorem onto_below (w : World) (x : Above w) : Below w.heap.size w (onto w x) := x.2
theorem onto_self (w : World) : ∃ x, w = onto w x := ⟨⟨w, Below.refl _ _⟩, rfl⟩
theorem onto_of {w w' : World} (h : Below w.heap.size w w') : ∃ x, w' = onto w x := ⟨⟨w', h⟩, rfl⟩
@[go_sem] theorem cell?_onto (w : World) (x : Above w) (b o : Nat) (h : b < w.heap.size) : (onto w x).cell? ⟨b, o, none⟩ = w.cell? ⟨b, o, none⟩ := x.2.cell (p := ⟨b, o, none⟩) h
@[go_sem] theorem frozen?_onto (w : World) (x : Above w) (b o : Nat) (h : b < w.heap.size) : (onto w x).frozen? ⟨b, o, none⟩ = w.frozen? ⟨b, o, none⟩ := x.2.frozen (p := ⟨b, o, none⟩) h
theorem onto_size (w : World) (x : Above w) : w.heap.size ≤ (onto w x).heap.size := x.2.size
@[go_sem] theorem lt_onto (w : World) (x : Above w) (b : Nat) (h : b < w.heap.size) : (b < (onto w x).heap.size) = True := by
  have := onto_size w x; simp; omega
@[go_sem] theorem ne_onto (w : World) (x : Above w) (b : Nat) (h : b < w.heap.size) : (b = (onto w x).heap.size) = False := by
  have := onto_size w x; simp; omega
@[go_sem] theorem ne_onto' (w : World) (x : Above w) (b : Nat) (h : b < w.heap.size) : ((onto w x).heap.size = b) = False := by
  have := onto_size w x; simp; omega
def Above.up {w : World} (x : Above w) (y : Above (onto w x)) : Above w := ⟨y.it, x.isAbove.trans (y.isAbove.mono (onto_size w x))⟩
@[go_sem] theorem onto_onto (w : World) (x : Above w) (y : Above (onto w x)) : onto (onto w x) y = onto w (x.up y) := rfl
def Above.drew {w : World} (x : Above w) : Above w := ⟨x.it.drew, x.isAbove.drew⟩
@[go_sem] theorem onto_drew (w : World) (x : Above w) : (onto w x).drew = onto w x.drew := rfl
@[go_sem] theorem lt_onto_succ (w : World) (x : Above w) (b k : Nat) (h : b < w.heap.size) : (b < (onto w x).heap.size + k) = True := by
  have := onto_size w x; simp; omega
@[go_sem] theorem ne_onto_succ (w : World) (x : Above w) (b k : Nat) (h : b < w.heap.size) : (b = (onto w x).heap.size + k) = False := by
  have := onto_size w x; simp; omega
@[go_sem] theorem ne_onto_succ' (w : World) (x : Above w) (b k : Nat) (h : b < w.heap.size) : ((onto w x).heap.size + k = b) = False := by
  have := onto_size w x; simp; omega
@[go_sem] theorem lt_plus2 (n : Nat) : (n < n + 2) = True := by simp
@[go_sem] theorem lt_plus2' (n : Nat) : (n < n + 1 + 1) = True := by simp; try omega
@[go_sem] theorem lt_plus3 (n : Nat) : (n < n + 3) = True := by simp
@[go_sem] theorem lt_plus3' (n : Nat) : (n < n + 1 + 1 + 1) = True := by simp; try omega
@[go_sem] theorem lt_plus4 (n : Nat) : (n < n + 4) = True := by simp
@[go_sem] theorem lt_plus4' (n : Nat) : (n < n + 1 + 1 + 1 + 1) = True := by simp; try omega
@[go_sem] theorem lt_plus5 (n : Nat) : (n < n + 5) = True := by simp
@[go_sem] theorem lt_plus5' (n : Nat) : (n < n + 1 + 1 + 1 + 1 + 1) = True := by simp; try omega
@[go_sem] theorem lt_plus6 (n : Nat) : (n < n + 6) = True := by simp
@[go_sem] theorem lt_plus6' (n : Nat) : (n < n + 1 + 1 + 1 + 1 + 1 + 1) = True := by simp; try omega
/-- A later world is above w, too. -/
theorem below_onto {B : Nat} {v w : World} (h : Below B v w) (hB : B ≤ w.heap.size) (x : Above w) : Below B v (onto w x) := h.trans (x.2.mono hB)

/-- A region that draws its order, whose operations read and whose calls leave all that was there as it was. -/
theorem wp_region_onto {P : Program} {id : Nat} {Q : Exit → Act → World → Prop} {a : Act} {w : World} {l : List Oper} (hm : P.follows .mixedOrders = true) (hB : Region.lexB .any l.toArray = true)
    (h : wpQuiet P l.toArray (fun w' => ∃ x, w' = onto w x) (fun a' => ∀ w', (∃ x, w' = onto w x) → Q .normal a' w') l a) : (Code.region id l.toArray true).wp P Q a w :=
  wp_region_quiet (C := fun w' => ∃ x, w' = onto w x) hm hB (onto_of ((Below.refl _ w).drew)) (by simpa using h)

theorem calls_onto {P : Program} {f : FuncId} {args : Array Value} {w : World} {x : Above w} {v : Value}
    (h : Calls P f args (onto w x) fun e w' => e = .returned v ∧ Below (onto w x).heap.size (onto w x) w') : Calls P f args (onto w x) fun e w'' => e = .returned v ∧ ∃ y, w'' = onto w y :=
  h.mono fun _ _ ⟨he, hb⟩ => ⟨he, onto_of ((onto_below w x).trans (hb.mono (onto_size w x)))⟩
theorem calls_onto_same {P : Program} {f : FuncId} {args : Array Value} {w : World} {x : Above w} {v : Value}
    (h : Calls P f args (onto w x) fun e w' => e = .returned v ∧ onto w x = w') : Calls P f args (onto w x) fun e w'' => e = .returned v ∧ ∃ y, w'' = onto w y :=
  h.mono fun _ _ ⟨he, hb⟩ => ⟨he, ⟨x, hb.symm⟩⟩

/-- A contract's world as one above. -/
theorem above {P : Program} {f : FuncId} {args : Array Value} {w : World} {v : Ending} (h : Calls P f args w fun e w' => e = v ∧ Below w.heap.size w w') : Calls P f args w fun e w' => e = v ∧ ∃ y, w' = onto w y :=
  h.mono fun _ _ ⟨he, hb⟩ => ⟨he, onto_of hb⟩
theorem up_alloc {w v : World} (h : Below w.heap.size w v) (o : Obj) : Below w.heap.size w (v.alloc o) := h.alloc h.size o
theorem up_onto {w v : World} (h : Below w.heap.size w v) (x : Above v) : Below w.heap.size w (onto v x) := below_onto h h.size x
theorem up_drew {w v : World} (h : Below w.heap.size w v) : Below w.heap.size w v.drew := h.drew
theorem up_drewN {w v : World} (h : Below w.heap.size w v) (n : Nat) : Below w.heap.size w (v.drewN n) := ⟨h.os, h.tape, h.output, h.size, h.block⟩
theorem up_set {w v : World} (h : Below w.heap.size w v) {p : Addr} (hp : w.heap.size ≤ p.block) (u : Value) : Below w.heap.size w (v.setCell p u) := h.setCell hp u
theorem le_onto (w : World) (x : Above w) (b : Nat) (h : b ≤ w.heap.size) : b ≤ (onto w x).heap.size := Nat.le_trans h (onto_size w x)

theorem lt_of_cell {w : World} {a : Addr} {v : Value} (h : w.cell? a = some v) : a.block < w.heap.size := by
  rcases Nat.lt_or_ge a.block w.heap.size with h' | h'
  · exact h'
  · simp [World.cell?, Array.getElem?_eq_none h'] at h
/-- What lay there lies there still. -/
theorem mem_up {U V : World} (hb : Below U.heap.size U V) {a : Addr} {v : Value} (h : U.cell? a = some v) (hf : U.frozen? a = false) : V.cell? a = some v ∧ V.frozen? a = false :=
  ⟨(hb.cell (lt_of_cell h)).trans h, (hb.frozen (lt_of_cell h)).trans hf⟩
theorem ret_bool {a b : Bool} (h : a = b) : Ending.returned (.bool a) = .returned (.bool b) := by rw [h]
theorem ret_int {k : IntKind} {a b : Int} (h : a = b) : Ending.returned (.int k a) = .returned (.int k b) := by rw [h]
theorem ret_string {a b : ByteArray} (h : a = b) : Ending.returned (.string a) = .returned (.string b) := by rw [h]
theorem bcell {W w1 : World} (hb : Below W.heap.size W w1) : (∀ b o, b < W.heap.size → w1.cell? ⟨b, o, none⟩ = W.cell? ⟨b, o, none⟩) ∧ (∀ b o, b < W.heap.size → w1.frozen? ⟨b, o, none⟩ = W.frozen? ⟨b, o, none⟩) :=
  ⟨fun b o h => hb.cell (p := ⟨b, o, none⟩) h, fun b o h => hb.frozen (p := ⟨b, o, none⟩) h⟩

/-- 'string(b)' of bytes whose cells are known. -/
theorem run_string_of {P : Program} (w : World) (src dst e : TypeId) (a : Addr) (l c : Nat) (ns : List Int) (hs : P.underlying src = some (.slice e)) (he : P.underlying e = some (.int .u8)) (hd : P.underlying dst = some .string)
    (hl : l = ns.length) (h : ∀ j v, (ns.map (Value.int .u8))[j]? = some v → w.cell? (a.add j) = some v) :
    (convert src dst (.slice (some a) l c)).run P w = .ok (.string (ns.foldl (fun r n => r.push (UInt8.ofNat n.toNat)) ByteArray.empty)) w := by
  subst hl
  rw [run_convert_bytes_string w src dst e _ _ _ hs he hd]
  refine run_bytesToString w a _ c ns ?_
  have := run_loadCells_list (P := P) (w := w) a (ns.map (Value.int .u8)) h
  simpa using this
theorem run_string_two {P : Program} (w : World) (src dst e : TypeId) (hs : P.underlying src = some (.slice e)) (he : P.underlying e = some (.int .u8)) (hd : P.underlying dst = some .string) (x y : Int) (t : TypeId) (c : Nat) :
    (convert src dst (.slice (some ⟨w.heap.size, 0, none⟩) 2 c)).run P (w.alloc (.cells #[.int .u8 x, .int .u8 y] t)).drew = .ok (.string ⟨#[UInt8.ofNat x.toNat, UInt8.ofNat y.toNat]⟩) (w.alloc (.cells #[.int .u8 x, .int .u8 y] t)).drew := by
  have := run_string_of (P := P) (w.alloc (.cells #[.int .u8 x, .int .u8 y] t)).drew src dst e ⟨w.heap.size, 0, none⟩ 2 c [x, y] hs he hd rfl (by
    intro j v hv
    match j, hv with
    | 0, hv => simp at hv; subst hv; simp [Addr.add, go_sem]
    | 1, hv => simp at hv; subst hv; simp [Addr.add, go_sem]
    | j + 2, hv => simp at hv)
  rw [this]; rfl
theorem run_string_one {P : Program} (w : World) (src dst e : TypeId) (hs : P.underlying src = some (.slice e)) (he : P.underlying e = some (.int .u8)) (hd : P.underlying dst = some .string) (x : Int) (t : TypeId) (c : Nat) :
    (convert src dst (.slice (some ⟨w.heap.size, 0, none⟩) 1 c)).run P (w.alloc (.cells #[.int .u8 x] t)).drew = .ok (.string ⟨#[UInt8.ofNat x.toNat]⟩) (w.alloc (.cells #[.int .u8 x] t)).drew := by
  have := run_string_of (P := P) (w.alloc (.cells #[.int .u8 x] t)).drew src dst e ⟨w.heap.size, 0, none⟩ 1 c [x] hs he hd rfl (by
    intro j v hv
    match j, hv with
    | 0, hv => simp at hv; subst hv; simp [Addr.add, go_sem]
    | j + 1, hv => simp at hv)
  rw [this]; rfl
theorem run_string_one' {P : Program} (w : World) (src dst e : TypeId) (hs : P.underlying src = some (.slice e)) (he : P.underlying e = some (.int .u8)) (hd : P.underlying dst = some .string) (x : Int) (t : TypeId) (c : Nat) :
    (convert src dst (.slice (some ⟨w.heap.size, 0, none⟩) 1 c)).run P (w.alloc (.cells #[.int .u8 x] t)) = .ok (.string ⟨#[UInt8.ofNat x.toNat]⟩) (w.alloc (.cells #[.int .u8 x] t)) := by
  have := run_string_of (P := P) (w.alloc (.cells #[.int .u8 x] t)) src dst e ⟨w.heap.size, 0, none⟩ 1 c [x] hs he hd rfl (by
    intro j v hv
    match j, hv with
    | 0, hv => simp at hv; subst hv; simp [Addr.add, go_sem]
    | j + 1, hv => simp at hv)
  rw [this]; rfl
end Go.Proofs.YtngdmkhinebbdaaDoor

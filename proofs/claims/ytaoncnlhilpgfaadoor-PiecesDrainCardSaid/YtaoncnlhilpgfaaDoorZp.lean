/- Events, as plain data: their cells, lists of them laid out. What each byte comes to (layer 4), as plain functions. The maker (layer 5), as plain functions. Layer 6: all bytes of a text, one by one, by the table and the maker (mch); and by the grammar, place by place (rdGo): plain functions. Layer 6: the table and the maker come to what the grammar says: fields. Layer 6: the table and the maker come to what the grammar says: lines, and all of a text. Layer 6: the table and the maker come to what the grammar says: all lines of a text. Layer 2, the plain words: which bytes go on from which state, the state behind a text, the document's sequences, and that both tell the same. No program. Layer 2, the plain words: the document's sequences and the states tell the same. No program. Layer 2, the plain words: a text that begins with no sequence; which beginnings can be one; the longest beginning. No program. Layer 3, plain words: the mark at the head of a list of bytes; what is kept back of it, what is handed on. No condition. Layer 8, plain: why a field must be quoted. No program. Layer 6: the mark taken away, all bytes of a text (whP), and what the document's definition tells (whR). Layer 6, plain: what the grammar tells is bounded, and its kinds are other than 1; the document's Parse, said of what Read told (rpK, rpA, rpRs). Layer 8, plain: a record none of whose fields must be quoted, laid with Delims between and an end of line behind, is read as it was (nd_plain). No program. Layer 8, plain: all of a text: what is laid bare though it need not be quoted is read as it was (nd_plain). No program. Layers 9 and 10, plain: a field quoted (quoL), a text taken apart (unqL); fields written, bare or quoted, with Delims between and an end of line or nothing behind, are read as they were. Layer 9, plain: each byte c of a text replaced (repl); pairs of c; what Count and ReplaceAll tell of them; a text is one that repl made just if all its c stand in pairs. Layer 10, plain: lines of records one behind the other, each field written bare or quoted, are read as the table (tab_read). No program. Layer 10, plain: a table as it is written (canT) is no longer than any text that ends with an end of line and is read as it, but where a mark stands bare behind blank lines. No program. Layer 10, plain: what a text that is read without fault is made of is UTF-8, field by field; the shortest text (wr_short); no byte can be left out (wr_less). No program. -/
import Derived.Test.YtaoncnlhilpgfaaDoorZk
import Derived.Below
import Derived.Lib.Hide
import Derived.Lib.ReplaceLaws
namespace Go.Proofs.YtaoncnlhilpgfaaDoor
open Go.RowKit
set_option linter.unusedVariables false
set_option linter.unusedSimpArgs false

structure Ev where
  bg : Bool
  ad : Bool
  fi : Bool
  li : Bool
  re : Bool
  b : Int
deriving DecidableEq
theorem list_of {α : Type} (p : Nat → α → Prop) : ∀ n, (∀ i, i < n → ∃ x, p i x) → ∃ l : List α, l.length = n ∧ ∀ i x, l[i]? = some x → p i x
  | 0, _ => ⟨[], rfl, fun i x h => by simp at h⟩
  | n + 1, h => by
    obtain ⟨l, hl, hp⟩ := list_of p n fun i hi => h i (by omega)
    obtain ⟨x, hx⟩ := h n (by omega)
    refine ⟨l ++ [x], by simp [hl], fun i y hy => ?_⟩
    by_cases hi : i < n
    · rw [List.getElem?_append_left (by omega)] at hy; exact hp i y hy
    · rw [List.getElem?_append_right (by omega)] at hy
      have : i = n := by
        have := (List.getElem?_eq_some_iff.1 hy).1
        simp at this; omega
      subst this
      rw [hl] at hy
      simp at hy; subst hy; exact hx
theorem mem_cell {w w' : World} (hb : Below w.heap.size w w') {a : Addr} {v : Value} (h : w.cell? a = some v) : w'.cell? a = some v := (hb.cell (lt_of_cell h)).trans h
end Go.Proofs.YtaoncnlhilpgfaaDoor

namespace Go.Proofs.YtaoncnlhilpgfaaDoor
open Go.RowKit
set_option linter.unusedVariables false
set_option linter.unusedSimpArgs false

def evAdd (b : Int) : Ev := ⟨false, true, false, false, false, b⟩
end Go.Proofs.YtaoncnlhilpgfaaDoor

namespace Go.Proofs.YtaoncnlhilpgfaaDoor
open Go.RowKit
set_option linter.unusedVariables false
set_option linter.unusedSimpArgs false

/-- What a maker has. -/
structure Mk where
  lf : Int
  ls : Int
  lr : Int
  u : Bool
  fd : List Int
  rc : List ByteArray
  bg : Int
  ct : Int
  wd : Int
  er : Int

def mPut (s : Mk) : Mk := { s with fd := [], rc := s.rc ++ [toBA s.fd] }
def mBound (s : Mk) : Bool := s.u && decide (0 < s.ct)
def mB (b : Bool) (s : Mk) : Mk := if b = true then (if s.lr ≤ s.bg then { s with er := 9 } else { s with bg := s.bg + 1 }) else s
def mA (a : Bool) (v : Int) (s : Mk) : Mk := if a = true then (if s.lf ≤ (s.fd.length : Int) then { s with er := 7 } else { s with fd := s.fd ++ [v] }) else s
def mEndF (s : Mk) : Mk := if s.ls ≤ (s.rc.length : Int) + 1 then { mPut s with er := 8 } else if mBound s = true ∧ (s.rc.length : Int) + 1 = s.wd then { mPut s with er := 10 } else mPut s
def mEndL (s : Mk) : Mk := if mBound s = true ∧ (s.rc.length : Int) + 1 ≠ s.wd then { mPut s with er := 10 } else mPut s
def mF (f : Bool) (s : Mk) : Mk := if f = true then mEndF s else s
def mL (l : Bool) (s : Mk) : Mk := if l = true then mEndL s else s
def mThen (s : Mk) (f : Mk → Mk) : Mk := if s.er = 0 then f s else s
def mGather (e : Ev) (s : Mk) : Mk := mThen (mThen (mThen (mB e.bg s) (mA e.ad e.b)) (mF e.fi)) (mL e.li)
def mOut (s : Mk) : Mk := { s with rc := [], wd := if s.ct = 0 then (s.rc.length : Int) else s.wd, ct := s.ct + 1 }
def mTake (e : Ev) (s : Mk) : Mk := mThen s fun s => mThen (mGather e s) fun t => if e.re = true then mOut t else t
def mTold (e : Ev) (s : Mk) : Bool := decide (s.er = 0) && (decide ((mGather e s).er = 0) && e.re)
def mRec (e : Ev) (s : Mk) : List ByteArray := if mTold e s = true then (mGather e s).rc else []

theorem mThen_go {s : Mk} (h : s.er = 0) (f : Mk → Mk) : mThen s f = f s := if_pos h
theorem mThen_stop {s : Mk} (h : s.er ≠ 0) (f : Mk → Mk) : mThen s f = s := if_neg h
/-- A maker's numbers, as they come: no sum of them wraps. -/
structure Mk.Ok (s : Mk) (N : Nat) : Prop where
  lr : s.lr ≤ 2147483648
  bg : 0 ≤ s.bg
  bgN : s.bg ≤ N
  ct : 0 ≤ s.ct
  ctN : s.ct ≤ N
  fdN : s.fd.length ≤ N
  rcN : s.rc.length ≤ 2 * N

/-- What a part of an event turns at most. -/
structure Few (s t : Mk) (i j k : Nat) : Prop where
  lf : t.lf = s.lf
  ls : t.ls = s.ls
  lr : t.lr = s.lr
  u : t.u = s.u
  ct : t.ct = s.ct
  bg : s.bg ≤ t.bg
  bgi : t.bg ≤ s.bg + i
  fd : t.fd.length ≤ s.fd.length + j
  rc : t.rc.length ≤ s.rc.length + k
theorem Few.refl (s : Mk) (i j k : Nat) : Few s s i j k := ⟨rfl, rfl, rfl, rfl, rfl, Int.le_refl _, by omega, by omega, by omega⟩
theorem Few.trans {s t v : Mk} {i j k i' j' k' : Nat} (h : Few s t i j k) (q : Few t v i' j' k') : Few s v (i + i') (j + j') (k + k') :=
  ⟨q.lf.trans h.lf, q.ls.trans h.ls, q.lr.trans h.lr, q.u.trans h.u, q.ct.trans h.ct, by have := h.bg; have := q.bg; omega, by have := h.bgi; have := q.bgi; omega, by have := h.fd; have := q.fd; omega, by have := h.rc; have := q.rc; omega⟩
theorem Few.ok {s t : Mk} {N : Nat} (h : Few s t 1 1 2) (ok : s.Ok N) : t.Ok (N + 1) :=
  ⟨by rw [h.lr]; exact ok.lr, by have := ok.bg; have := h.bg; omega, by have := ok.bgN; have := h.bgi; omega, by rw [h.ct]; exact ok.ct, by rw [h.ct]; have := ok.ctN; omega, by have := ok.fdN; have := h.fd; omega, by have := ok.rcN; have := h.rc; omega⟩
theorem mTake2 {e : Ev} {s : Mk} (h : s.er = 0) (hr : e.re = false) : mTake e s = mGather e s := by
  unfold mTake
  rw [mThen_go h]
  by_cases q : (mGather e s).er = 0
  · rw [mThen_go q, if_neg (by simp [hr])]
  · rw [mThen_stop q]
theorem mRec2 {e : Ev} {s : Mk} (hr : e.re = false) : mRec e s = [] ∧ mTold e s = false := by
  have : mTold e s = false := by simp [mTold, hr]
  exact ⟨by simp [mRec, this], this⟩
end Go.Proofs.YtaoncnlhilpgfaaDoor

namespace Go.Proofs.YtaoncnlhilpgfaaDoor
open Go.RowKit
set_option linter.unusedVariables false
set_option linter.unusedSimpArgs false

/-- Records, each with the place of the byte that made it whole; the first fault (0: none), and its place. -/
structure Got where
  rs : List (List ByteArray × Nat)
  k : Int
  at_ : Nat
def Got.more (r : List ByteArray) (i : Nat) (o : Got) : Got := ⟨(r, i) :: o.rs, o.k, o.at_⟩

/-! ### By the table -/
/-! ### By the grammar: of a text's rest, at a place -/
/-- What a field comes to: the fault (0: none), the field, the place behind it (of the fault), and the rest. -/
structure Fld where
  k : Int
  f : List Int
  i : Nat
  l : List Int
def stops (d b : Int) : Bool := b == d || (b == 10 || b == 13)
/-- What may stand behind a quoted field. -/
def behind (d : Int) (x : Fld) : Fld :=
  if x.k ≠ 0 then x else match x.l with
    | [] => x
    | b :: _ => if stops d b = true then x else ⟨5, x.f, x.i, []⟩
end Go.Proofs.YtaoncnlhilpgfaaDoor

namespace Go.Proofs.YtaoncnlhilpgfaaDoor
open Go.RowKit
set_option linter.unusedVariables false
set_option linter.unusedSimpArgs false

/-! ### What each event comes to -/
theorem mThen_noF (s : Mk) : mThen s (mF false) = s := by unfold mThen; split <;> rfl
theorem mThen_noL (s : Mk) : mThen s (mL false) = s := by unfold mThen; split <;> rfl
theorem gat_add {m : Mk} (h : m.er = 0) (b : Int) : mGather (evAdd b) m = mA true b m := by
  show mThen (mThen (mThen m (mA true b)) (mF false)) (mL false) = _
  rw [mThen_noL, mThen_noF, mThen_go h]
theorem take_add {m : Mk} (h : m.er = 0) (b : Int) : mTake (evAdd b) m = mA true b m ∧ mTold (evAdd b) m = false :=
  ⟨(mTake2 h rfl).trans (gat_add h b), (mRec2 rfl).2⟩
/-! ### One byte of the table -/
section
variable {d q e t : Int} {m : Mk} {i : Nat} {b : Int} {r : List Int} {v : Ev} {n k : Int}
end

/-- A dialect that is right. -/
structure Dia (d q e : Int) : Prop where
  dq : d ≠ q
  d10 : d ≠ 10
  d13 : d ≠ 13
  q10 : q ≠ 10
  q13 : q ≠ 13
section
variable {d q e : Int}
end

section
variable {d q e : Int} (hd : Dia d q e)
include hd
end
end Go.Proofs.YtaoncnlhilpgfaaDoor

namespace Go.Proofs.YtaoncnlhilpgfaaDoor
open Go.RowKit
set_option linter.unusedVariables false
set_option linter.unusedSimpArgs false

section
variable {d q e : Int}
variable (hd : Dia d q e)
include hd
end

section
variable {d q e : Int} (hd : Dia d q e)
include hd
end
end Go.Proofs.YtaoncnlhilpgfaaDoor

namespace Go.Proofs.YtaoncnlhilpgfaaDoor
open Go.RowKit
set_option linter.unusedVariables false
set_option linter.unusedSimpArgs false

section
variable {d q e : Int} (hd : Dia d q e)
include hd
end
end Go.Proofs.YtaoncnlhilpgfaaDoor

namespace Go.Proofs.YtaoncnlhilpgfaaDoor
set_option linter.unusedVariables false

/-- Does a byte go on from a state? -/
def utOk (s b : Int) : Bool :=
  if s = 0 then decide (b ≤ 127 ∨ (194 ≤ b ∧ b ≤ 244))
  else if s = 1 ∨ s = 2 ∨ s = 3 then decide (128 ≤ b ∧ b ≤ 191)
  else if s = 4 then decide (160 ≤ b ∧ b ≤ 191)
  else if s = 5 then decide (128 ≤ b ∧ b ≤ 159)
  else if s = 6 then decide (144 ≤ b ∧ b ≤ 191)
  else if s = 7 then decide (128 ≤ b ∧ b ≤ 143)
  else false
/-- The state of a first byte. -/
def utFi (b : Int) : Int := if b ≤ 127 then 0 else if b ≤ 223 then 1 else if b = 224 then 4 else if b = 237 then 5 else if b ≤ 239 then 2 else if b = 240 then 6 else if b ≤ 243 then 3 else 7
/-- The state behind a byte; 0 where it doesn't go on. -/
def utNx (s b : Int) : Int := if utOk s b = true then (if s = 0 then utFi b else if s = 1 then 0 else if s = 2 ∨ s = 4 ∨ s = 5 then 1 else 2) else 0

/-- The state behind as many bytes as go on. -/
def utRs : Int → List Int → Int
  | s, [] => s
  | s, b :: r => if utOk s b = true then utRs (utNx s b) r else s
/-- How many go on. -/
def utRn : Int → List Int → Nat
  | _, [] => 0
  | s, b :: r => if utOk s b = true then utRn (utNx s b) r + 1 else 0
/-- The longest beginning: state, place, the longest so far. -/
def utLon : Int → Nat → Nat → List Int → Nat
  | _, _, lg, [] => lg
  | s, k, lg, b :: r => if utOk s b = true then utLon (utNx s b) (k + 1) (if utNx s b = 0 then k + 1 else lg) r else lg

theorem utRn_le (s : Int) (l : List Int) : utRn s l ≤ l.length := by
  induction l generalizing s with
  | nil => simp [utRn]
  | cons b r ih => simp only [utRn]; split; · simpa using ih _
                   · simp
/-- All of the first text goes on: the second one goes on from there. -/
theorem utR_app (s : Int) (a b : List Int) (h : utRn s a = a.length) : utRs s (a ++ b) = utRs (utRs s a) b ∧ utRn s (a ++ b) = a.length + utRn (utRs s a) b := by
  induction a generalizing s with
  | nil => simp [utRs]
  | cons x r ih =>
    simp only [utRn] at h
    split at h
    · rename_i hx
      obtain ⟨h1, h2⟩ := ih _ (by simpa using h)
      simp only [List.cons_append, utRs, utRn, if_pos hx, h1, h2, List.length_cons]
      exact ⟨trivial, by omega⟩
    · simp at h
theorem utLon_app (s : Int) (k lg : Nat) (a b : List Int) (h : utRn s a = a.length) : utLon s k lg (a ++ b) = utLon (utRs s a) (k + a.length) (utLon s k lg a) b := by
  induction a generalizing s k lg with
  | nil => simp [utRs, utLon]
  | cons x r ih =>
    simp only [utRn] at h
    split at h
    · rename_i hx
      simp only [List.cons_append, utLon, utRs, if_pos hx, ih _ _ _ (by simpa using h), List.length_cons]
      congr 1
      omega
    · simp at h
theorem utLon_shift (s : Int) (k lg j : Nat) (l : List Int) : utLon s (k + j) (lg + j) l = utLon s k lg l + j := by
  induction l generalizing s k lg with
  | nil => simp [utLon]
  | cons x r ih =>
    simp only [utLon]
    split
    · have := ih (utNx s x) (k + 1) (if utNx s x = 0 then k + 1 else lg)
      rw [← this]
      congr 1
      · omega
      · split <;> omega
    · rfl
/-- A text that goes on whole and ends in state 0 is its own longest beginning. -/
theorem utLon_all (s : Int) (k lg : Nat) (l : List Int) (h : utRn s l = l.length) (h0 : utRs s l = 0) (hs : s = 0 → lg = k) : utLon s k lg l = k + l.length := by
  induction l generalizing s k lg with
  | nil => simp [utRs] at h0; simp [utLon, hs h0]
  | cons x r ih =>
    simp only [utRn] at h
    split at h
    · rename_i hx
      simp only [utRs, if_pos hx] at h0
      simp only [utLon, if_pos hx, List.length_cons]
      rw [ih (utNx s x) (k + 1) _ (by simpa using h) h0 (by intro e; rw [if_pos e])]
      omega
    · simp at h
/-! ### The document's sequences -/
def utB (l : List Int) (i : Nat) : Int := (l[i]?).getD 0
def utS1 (a : Int) : Prop := a ≤ 127
def utS2 (a b : Int) : Prop := 194 ≤ a ∧ a ≤ 223 ∧ 128 ≤ b ∧ b ≤ 191
def utP3 (a b : Int) : Prop := (a = 224 ∧ 160 ≤ b ∧ b ≤ 191) ∨ (a = 237 ∧ 128 ≤ b ∧ b ≤ 159) ∨ (225 ≤ a ∧ a ≤ 239 ∧ a ≠ 237 ∧ 128 ≤ b ∧ b ≤ 191)
def utP4 (a b : Int) : Prop := (a = 240 ∧ 144 ≤ b ∧ b ≤ 191) ∨ (a = 244 ∧ 128 ≤ b ∧ b ≤ 143) ∨ (241 ≤ a ∧ a ≤ 243 ∧ 128 ≤ b ∧ b ≤ 191)
def utS3 (a b c : Int) : Prop := utP3 a b ∧ 128 ≤ c ∧ c ≤ 191
def utS4 (a b c d : Int) : Prop := utP4 a b ∧ 128 ≤ c ∧ c ≤ 191 ∧ 128 ≤ d ∧ d ≤ 191
instance (a : Int) : Decidable (utS1 a) := by unfold utS1; infer_instance
instance (a b : Int) : Decidable (utS2 a b) := by unfold utS2; infer_instance
instance (a b : Int) : Decidable (utP3 a b) := by unfold utP3; infer_instance
instance (a b : Int) : Decidable (utP4 a b) := by unfold utP4; infer_instance
instance (a b c : Int) : Decidable (utS3 a b c) := by unfold utS3; infer_instance
instance (a b c d : Int) : Decidable (utS4 a b c d) := by unfold utS4; infer_instance
/-- Is the beginning of n bytes a sequence? -/
def utHit (l : List Int) (n : Nat) : Bool :=
  decide (n ≤ l.length) && match n with
    | 1 => decide (utS1 (utB l 0))
    | 2 => decide (utS2 (utB l 0) (utB l 1))
    | 3 => decide (utS3 (utB l 0) (utB l 1) (utB l 2))
    | 4 => decide (utS4 (utB l 0) (utB l 1) (utB l 2) (utB l 3))
    | _ => false
def utSize (l : List Int) : Nat := if utHit l 1 = true then 1 else if utHit l 2 = true then 2 else if utHit l 3 = true then 3 else if utHit l 4 = true then 4 else 0

theorem utHit_0 (n : Nat) (h : 1 ≤ n) : utHit [] n = false := by
  match n, h with
  | n + 1, _ => simp [utHit]
theorem utSize_nil : utSize [] = 0 := by simp [utSize, utHit_0]
theorem utSize_1 (a : Int) : utSize [a] = if utS1 a then 1 else 0 := by simp [utSize, utHit, utB]
theorem utSize_2 (a b : Int) : utSize [a, b] = if utS1 a then 1 else if utS2 a b then 2 else 0 := by simp [utSize, utHit, utB]
theorem utSize_3 (a b c : Int) : utSize [a, b, c] = if utS1 a then 1 else if utS2 a b then 2 else if utS3 a b c then 3 else 0 := by simp [utSize, utHit, utB]
theorem utSize_4 (a b c d : Int) (r : List Int) : utSize (a :: b :: c :: d :: r) = if utS1 a then 1 else if utS2 a b then 2 else if utS3 a b c then 3 else if utS4 a b c d then 4 else 0 := by
  simp [utSize, utHit, utB]
theorem utSize_le (l : List Int) : utSize l ≤ l.length ∧ utSize l ≤ 4 := by
  have h : ∀ n, utHit l n = true → n ≤ l.length := fun n h => by simp only [utHit, Bool.and_eq_true, decide_eq_true_eq] at h; exact h.1
  unfold utSize
  (repeat' split) <;> first | exact ⟨h _ (by assumption), by omega⟩ | exact ⟨by omega, by omega⟩
end Go.Proofs.YtaoncnlhilpgfaaDoor

namespace Go.Proofs.YtaoncnlhilpgfaaDoor
set_option linter.unusedVariables false

theorem ut_cls (a : Int) : (a ≤ 127 ∧ utOk 0 a = true ∧ utNx 0 a = 0) ∨ (194 ≤ a ∧ a ≤ 223 ∧ utOk 0 a = true ∧ utNx 0 a = 1) ∨ (a = 224 ∧ utOk 0 a = true ∧ utNx 0 a = 4) ∨ (a = 237 ∧ utOk 0 a = true ∧ utNx 0 a = 5) ∨
    (225 ≤ a ∧ a ≤ 239 ∧ a ≠ 237 ∧ utOk 0 a = true ∧ utNx 0 a = 2) ∨ (a = 240 ∧ utOk 0 a = true ∧ utNx 0 a = 6) ∨ (241 ≤ a ∧ a ≤ 243 ∧ utOk 0 a = true ∧ utNx 0 a = 3) ∨ (a = 244 ∧ utOk 0 a = true ∧ utNx 0 a = 7) ∨
    (((128 ≤ a ∧ a ≤ 193) ∨ 245 ≤ a) ∧ utOk 0 a = false ∧ utNx 0 a = 0) := by
  unfold utNx utOk utFi
  by_cases h1 : a ≤ 127
  · simp [h1]
  by_cases h2 : a ≤ 193
  · simp; omega
  by_cases h3 : a ≤ 223
  · simp; omega
  by_cases h4 : a = 224
  · simp [h4]
  by_cases h5 : a = 237
  · simp [h5]
  by_cases h6 : a ≤ 239
  · simp [h4, h5]; omega
  by_cases h7 : a = 240
  · simp [h7]
  by_cases h8 : a ≤ 243
  · simp [h4, h5, h7]; omega
  by_cases h9 : a = 244
  · simp [h9]
  · simp; omega

theorem ut_two (a b : Int) (h0 : utOk 0 a = true) (h1 : utNx 0 a ≠ 0) : (utS2 a b ∧ utOk (utNx 0 a) b = true ∧ utNx (utNx 0 a) b = 0) ∨ (utP3 a b ∧ utOk (utNx 0 a) b = true ∧ utNx (utNx 0 a) b = 1) ∨
    (utP4 a b ∧ utOk (utNx 0 a) b = true ∧ utNx (utNx 0 a) b = 2) ∨ (¬ utS2 a b ∧ ¬ utP3 a b ∧ ¬ utP4 a b ∧ utOk (utNx 0 a) b = false) := by
  rcases ut_cls a with ⟨c, _, e⟩ | ⟨c, d, _, e⟩ | ⟨c, _, e⟩ | ⟨c, _, e⟩ | ⟨c, d, f, _, e⟩ | ⟨c, _, e⟩ | ⟨c, d, _, e⟩ | ⟨c, _, e⟩ | ⟨c, d, e⟩
  · exact absurd e h1
  all_goals try (rw [d] at h0; cases h0; done)
  all_goals
    rw [e]
    clear h0 h1 e
    unfold utS2 utP3 utP4 utNx
    simp only [utOk]
    by_cases k : 128 ≤ b ∧ b ≤ 191
    all_goals simp
    all_goals omega
theorem ut_ok1 (b : Int) : utOk 1 b = decide (128 ≤ b ∧ b ≤ 191) := by simp [utOk]
theorem ut_ok2 (b : Int) : utOk 2 b = decide (128 ≤ b ∧ b ≤ 191) := by simp [utOk]
theorem ut_nx1 (b : Int) : utNx 1 b = 0 := by simp [utNx]
theorem ut_nx2 (b : Int) (h : 128 ≤ b ∧ b ≤ 191) : utNx 2 b = 1 := by simp [utNx, ut_ok2, h]
theorem ut_ok0 (a : Int) : utOk 0 a = true ↔ a ≤ 127 ∨ (194 ≤ a ∧ a ≤ 244) := by simp [utOk]
theorem ut_nx0 (a : Int) (h : utOk 0 a = true) : utNx 0 a = 0 ↔ utS1 a := by
  unfold utS1
  rcases ut_cls a with ⟨c, _, e⟩ | ⟨c, d, _, e⟩ | ⟨c, _, e⟩ | ⟨c, _, e⟩ | ⟨c, d, f, _, e⟩ | ⟨c, _, e⟩ | ⟨c, d, _, e⟩ | ⟨c, _, e⟩ | ⟨c, d, e⟩
  all_goals try (rw [d] at h; cases h; done)
  all_goals (rw [e]; constructor <;> intro <;> omega)
theorem utS2_ok {a b : Int} (h : utS2 a b) : utOk 0 a = true ∧ ¬ utS1 a := by rw [ut_ok0]; unfold utS1; unfold utS2 at h; omega
theorem utP3_ok {a b : Int} (h : utP3 a b) : utOk 0 a = true ∧ ¬ utS1 a := by rw [ut_ok0]; unfold utS1; unfold utP3 at h; omega
theorem utP4_ok {a b : Int} (h : utP4 a b) : utOk 0 a = true ∧ ¬ utS1 a := by rw [ut_ok0]; unfold utS1; unfold utP4 at h; omega
theorem ut_excl {a b : Int} : ¬ (utS2 a b ∧ utP3 a b) ∧ ¬ (utS2 a b ∧ utP4 a b) ∧ ¬ (utP3 a b ∧ utP4 a b) := by unfold utS2 utP3 utP4; omega
/-- The second byte's state. -/
theorem ut_nxS2 {a b : Int} (h : utS2 a b) : utOk (utNx 0 a) b = true ∧ utNx (utNx 0 a) b = 0 := by
  obtain ⟨o, n⟩ := utS2_ok h
  rcases ut_two a b o (fun e => n ((ut_nx0 a o).1 e)) with ⟨_, x, y⟩ | ⟨k, _⟩ | ⟨k, _⟩ | ⟨k, _⟩
  · exact ⟨x, y⟩
  · exact absurd ⟨h, k⟩ ut_excl.1
  · exact absurd ⟨h, k⟩ ut_excl.2.1
  · exact absurd h k
theorem ut_nxP3 {a b : Int} (h : utP3 a b) : utOk (utNx 0 a) b = true ∧ utNx (utNx 0 a) b = 1 := by
  obtain ⟨o, n⟩ := utP3_ok h
  rcases ut_two a b o (fun e => n ((ut_nx0 a o).1 e)) with ⟨k, _⟩ | ⟨_, x, y⟩ | ⟨k, _⟩ | ⟨_, k, _⟩
  · exact absurd ⟨k, h⟩ ut_excl.1
  · exact ⟨x, y⟩
  · exact absurd ⟨h, k⟩ ut_excl.2.2
  · exact absurd h k
theorem ut_nxP4 {a b : Int} (h : utP4 a b) : utOk (utNx 0 a) b = true ∧ utNx (utNx 0 a) b = 2 := by
  obtain ⟨o, n⟩ := utP4_ok h
  rcases ut_two a b o (fun e => n ((ut_nx0 a o).1 e)) with ⟨k, _⟩ | ⟨k, _⟩ | ⟨_, x, y⟩ | ⟨_, _, k, _⟩
  · exact absurd ⟨k, h⟩ ut_excl.2.1
  · exact absurd ⟨k, h⟩ ut_excl.2.2
  · exact ⟨x, y⟩
  · exact absurd h k

/-- Of a text that begins with a sequence: it goes on whole, and back to state 0. -/
theorem ut_F1 (l : List Int) (h : 0 < utSize l) : utRn 0 (l.take (utSize l)) = utSize l ∧ utRs 0 (l.take (utSize l)) = 0 := by
  have hS1 : ∀ a, utS1 a → utRn 0 [a] = 1 ∧ utRs 0 [a] = 0 := fun a h => by
    have o : utOk 0 a = true := by rw [ut_ok0]; unfold utS1 at h; omega
    simp [utRn, utRs, o, (ut_nx0 a o).2 h]
  have hS2 : ∀ a b, utS2 a b → utRn 0 [a, b] = 2 ∧ utRs 0 [a, b] = 0 := fun a b h => by
    obtain ⟨o, n⟩ := utS2_ok h
    obtain ⟨x, y⟩ := ut_nxS2 h
    simp [utRn, utRs, o, x, y]
  have hS3 : ∀ a b c, utS3 a b c → utRn 0 [a, b, c] = 3 ∧ utRs 0 [a, b, c] = 0 := fun a b c h => by
    obtain ⟨h, k⟩ := h
    obtain ⟨o, n⟩ := utP3_ok h
    obtain ⟨x, y⟩ := ut_nxP3 h
    simp [utRn, utRs, o, x, y, ut_ok1, ut_nx1, k]
  have hS4 : ∀ a b c d, utS4 a b c d → utRn 0 [a, b, c, d] = 4 ∧ utRs 0 [a, b, c, d] = 0 := fun a b c d h => by
    obtain ⟨h, k1, k2, k3, k4⟩ := h
    obtain ⟨o, n⟩ := utP4_ok h
    obtain ⟨x, y⟩ := ut_nxP4 h
    simp [utRn, utRs, o, x, y, ut_ok1, ut_nx1, ut_ok2, ut_nx2 c ⟨k1, k2⟩, k1, k2, k3, k4]
  rcases l with _ | ⟨a, _ | ⟨b, _ | ⟨c, _ | ⟨d, r⟩⟩⟩⟩
  · rw [utSize_nil] at h; omega
  · rw [utSize_1] at h ⊢
    split at h
    · rename_i k; simp only [if_pos k]; exact hS1 a k
    · omega
  · rw [utSize_2] at h ⊢
    split at h
    · rename_i k; simp only [if_pos k]; exact hS1 a k
    · rename_i k; simp only [if_neg k]
      split at h
      · rename_i k; simp only [if_pos k]; exact hS2 a b k
      · omega
  · rw [utSize_3] at h ⊢
    split at h
    · rename_i k; simp only [if_pos k]; exact hS1 a k
    · rename_i k; simp only [if_neg k]
      split at h
      · rename_i k; simp only [if_pos k]; exact hS2 a b k
      · rename_i k; simp only [if_neg k]
        split at h
        · rename_i k; simp only [if_pos k]; exact hS3 a b c k
        · omega
  · rw [utSize_4] at h ⊢
    split at h
    · rename_i k; simp only [if_pos k]; exact hS1 a k
    · rename_i k; simp only [if_neg k]
      split at h
      · rename_i k; simp only [if_pos k]; exact hS2 a b k
      · rename_i k; simp only [if_neg k]
        split at h
        · rename_i k; simp only [if_pos k]; exact hS3 a b c k
        · rename_i k; simp only [if_neg k]
          split at h
          · rename_i k; simp only [if_pos k]; exact hS4 a b c d k
          · omega
end Go.Proofs.YtaoncnlhilpgfaaDoor

namespace Go.Proofs.YtaoncnlhilpgfaaDoor
set_option linter.unusedVariables false

/-- Of a text that begins with no sequence: at most three bytes go on, and none of them ends one. -/
theorem ut_F2 (l : List Int) (h : utSize l = 0) : utLon 0 0 0 l = 0 ∧ utRn 0 l ≤ 3 ∧ (utRn 0 l = 0 ∨ utRs 0 l ≠ 0) := by
  rcases l with _ | ⟨a, l⟩
  · simp [utLon, utRn]
  cases o : utOk 0 a
  · simp [utLon, utRn, o]
  by_cases n : utS1 a
  · exfalso
    rcases l with _ | ⟨b, _ | ⟨c, _ | ⟨d, r⟩⟩⟩
    · rw [utSize_1, if_pos n] at h; cases h
    · rw [utSize_2, if_pos n] at h; cases h
    · rw [utSize_3, if_pos n] at h; cases h
    · rw [utSize_4, if_pos n] at h; cases h
  have n0 : utNx 0 a ≠ 0 := fun e => n ((ut_nx0 a o).1 e)
  rcases l with _ | ⟨b, l⟩
  · simp [utLon, utRn, utRs, o, n0]
  rcases ut_two a b o n0 with ⟨k, x, y⟩ | ⟨k, x, y⟩ | ⟨k, x, y⟩ | ⟨_, _, _, x⟩
  · exfalso
    rcases l with _ | ⟨c, _ | ⟨d, r⟩⟩
    · rw [utSize_2, if_neg n, if_pos k] at h; cases h
    · rw [utSize_3, if_neg n, if_pos k] at h; cases h
    · rw [utSize_4, if_neg n, if_pos k] at h; cases h
  · have k2 : ¬ utS2 a b := fun e => ut_excl.1 ⟨e, k⟩
    rcases l with _ | ⟨c, l⟩
    · simp [utLon, utRn, utRs, o, n0, x, y]
    by_cases z : 128 ≤ c ∧ c ≤ 191
    · exfalso
      rcases l with _ | ⟨d, r⟩
      · rw [utSize_3, if_neg n, if_neg k2, if_pos ⟨k, z⟩] at h; cases h
      · rw [utSize_4, if_neg n, if_neg k2, if_pos ⟨k, z⟩] at h; cases h
    · have z' : utOk 1 c = false := by rw [ut_ok1]; simpa using z
      simp [utLon, utRn, utRs, o, n0, x, y, z']
  · have k2 : ¬ utS2 a b := fun e => ut_excl.2.1 ⟨e, k⟩
    have k3 : ¬ utP3 a b := fun e => ut_excl.2.2 ⟨e, k⟩
    rcases l with _ | ⟨c, l⟩
    · simp [utLon, utRn, utRs, o, n0, x, y]
    by_cases z : 128 ≤ c ∧ c ≤ 191
    · have z' : utOk 2 c = true := by rw [ut_ok2]; simpa using z
      have z2 := ut_nx2 c z
      rcases l with _ | ⟨d, r⟩
      · simp [utLon, utRn, utRs, o, n0, x, y, z', z2]
      by_cases t : 128 ≤ d ∧ d ≤ 191
      · exfalso
        rw [utSize_4, if_neg n, if_neg k2, if_neg (fun e => k3 e.1), if_pos ⟨k, z.1, z.2, t⟩] at h; cases h
      · have t' : utOk 1 d = false := by rw [ut_ok1]; simpa using t
        simp [utLon, utRn, utRs, o, n0, x, y, z', z2, t']
    · have z' : utOk 2 c = false := by rw [ut_ok2]; simpa using z
      simp [utLon, utRn, utRs, o, n0, x, y, z']
  · simp [utLon, utRn, utRs, o, n0, x]

/-! ### Which texts are a beginning of a sequence -/
/-! ### The longest beginning that is well formed -/
def utWhole (l : List Int) : Nat := if h : utSize l = 0 then 0 else utSize l + utWhole (l.drop (utSize l))
termination_by l.length
decreasing_by
  have := (utSize_le l).1
  simp only [List.length_drop]
  omega

theorem utWhole_0 {l : List Int} (h : utSize l = 0) : utWhole l = 0 := by rw [utWhole, dif_pos h]
theorem utWhole_pos {l : List Int} (h : utSize l ≠ 0) : utWhole l = utSize l + utWhole (l.drop (utSize l)) := by rw [utWhole, dif_neg h]
/-- All at once: the longest beginning; that the run comes to state 0 behind it; that what is behind begins with no sequence. -/
theorem utWhole_spec (m : Nat) : ∀ l : List Int, l.length ≤ m → utWhole l ≤ l.length ∧ utLon 0 0 0 l = utWhole l ∧ utSize (l.drop (utWhole l)) = 0 ∧ utRn 0 l = utWhole l + utRn 0 (l.drop (utWhole l)) ∧ utRs 0 l = utRs 0 (l.drop (utWhole l)) := by
  induction m with
  | zero =>
    intro l hl
    have : l = [] := List.eq_nil_of_length_eq_zero (by omega)
    subst this
    simp [utWhole_0 utSize_nil, utLon, utSize_nil]
  | succ m ih =>
    intro l hl
    by_cases h : utSize l = 0
    · simp [utWhole_0 h, (ut_F2 l h).1, h]
    · have hle := (utSize_le l).1
      obtain ⟨f1, f2⟩ := ut_F1 l (by omega)
      have hlen : (l.take (utSize l)).length = utSize l := by rw [List.length_take]; omega
      have hsp : l = l.take (utSize l) ++ l.drop (utSize l) := (List.take_append_drop _ _).symm
      obtain ⟨i1, i2, i3, i4, i5⟩ := ih (l.drop (utSize l)) (by rw [List.length_drop]; omega)
      have hw := utWhole_pos h
      have hd : l.drop (utWhole l) = (l.drop (utSize l)).drop (utWhole (l.drop (utSize l))) := by rw [List.drop_drop, hw]
      have hlon : utLon 0 0 0 l = utSize l + utLon 0 0 0 (l.drop (utSize l)) := by
        conv => lhs; rw [hsp]
        rw [utLon_app _ _ _ _ _ (by rw [f1, hlen]), f2, hlen, utLon_all 0 0 0 _ (by rw [f1, hlen]) f2 (fun _ => rfl), hlen, utLon_shift]
        omega
      obtain ⟨r1, r2⟩ := utR_app 0 (l.take (utSize l)) (l.drop (utSize l)) (by rw [f1, hlen])
      rw [← hsp, f2] at r1 r2
      rw [hlen] at r2
      refine ⟨?_, ?_, ?_, ?_, ?_⟩
      · rw [List.length_drop] at i1; omega
      · rw [hlon, hw, i2]
      · rw [hd]; exact i3
      · rw [r2, hd, hw, i4]; omega
      · rw [r1, hd, i5]
end Go.Proofs.YtaoncnlhilpgfaaDoor

namespace Go.Proofs.YtaoncnlhilpgfaaDoor
set_option linter.unusedVariables false
set_option linter.unusedSimpArgs false

def bomMk : List Int := [239, 187, 191]
def bomHad (t : List Int) : Bool := bomMk.isPrefixOf t
end Go.Proofs.YtaoncnlhilpgfaaDoor

namespace Go.Proofs.YtaoncnlhilpgfaaDoor
open Go.RowKit
set_option linter.unusedVariables false

def hasL (f : List Int) (b : Int) : Bool := decide (b ∈ f)
/-- Why a field must be quoted. -/
def whyN (d q : Int) (f : List Int) (al fi : Bool) : Int :=
  if hasL f d = true then 1 else if hasL f q = true then 2 else if (hasL f 13 || hasL f 10) = true then 3 else if f = [] ∧ al = true then 4 else if fi = true ∧ bomHad f = true then 5 else 0
def numB (b : Bool) : Int := if b = true then 1 else 0
end Go.Proofs.YtaoncnlhilpgfaaDoor

namespace Go.Proofs.YtaoncnlhilpgfaaDoor
open Go.RowKit
set_option linter.unusedVariables false
set_option linter.unusedSimpArgs false

section
variable {d q e : Int}
end

theorem utWhole_iff (s : List Int) (h : utRn 0 s = s.length) : utWhole s < s.length ↔ utRs 0 s ≠ 0 := by
  obtain ⟨h1, h2, h3, h4, h5⟩ := utWhole_spec s.length s (Nat.le_refl _)
  have hl : (s.drop (utWhole s)).length = s.length - utWhole s := List.length_drop
  constructor
  · intro hlt
    rw [h5]
    rcases (ut_F2 _ h3).2.2 with h0 | h0
    · omega
    · exact h0
  · intro hne
    rcases Nat.lt_or_ge (utWhole s) s.length with h' | h'
    · exact h'
    · exfalso
      apply hne
      rw [h5, List.drop_eq_nil_of_le h', utRs]

end Go.Proofs.YtaoncnlhilpgfaaDoor

namespace Go.Proofs.YtaoncnlhilpgfaaDoor
open Go.RowKit
set_option linter.unusedVariables false
set_option linter.unusedSimpArgs false

section
variable {s : Mk}
end
/-- A maker of these limits, ahead of a text; what the grammar tells of it. -/
structure GotOk (G : Got) (n : Nat) : Prop where
  k : G.k ≠ 1
  e : ∀ p ∈ G.rs, p.2 ≤ n
  len : G.rs.length ≤ n + 1
  a : G.at_ ≤ n
  z : G.k = 0 → G.at_ = 0
end Go.Proofs.YtaoncnlhilpgfaaDoor

namespace Go.Proofs.YtaoncnlhilpgfaaDoor
open Go.RowKit
set_option linter.unusedVariables false
set_option linter.unusedSimpArgs false

/-- Fields, laid with Delims between. -/
def layL (d : Int) : List (List Int) → List Int
  | [] => []
  | [f] => f
  | f :: g :: r => f ++ d :: layL d (g :: r)
def endL (e : Int) : List Int := if e = 2 then [13, 10] else [10]

section
variable {d q e lf : Int}
theorem endL_cons (e : Int) : ∃ c rest, endL e = c :: rest ∧ (c = 10 ∨ c = 13) := by
  unfold endL; split
  · exact ⟨13, [10], rfl, .inr rfl⟩
  · exact ⟨10, [], rfl, .inl rfl⟩
end
end Go.Proofs.YtaoncnlhilpgfaaDoor

namespace Go.Proofs.YtaoncnlhilpgfaaDoor
open Go.RowKit
set_option linter.unusedVariables false
set_option linter.unusedSimpArgs false

theorem utWhole_all {l : List Int} (h : utWhole l = l.length) : utRn 0 l = l.length ∧ utRs 0 l = 0 := by
  obtain ⟨_, _, _, h4, h5⟩ := utWhole_spec l.length l (Nat.le_refl _)
  rw [h, List.drop_length] at h4 h5
  exact ⟨by rw [h4]; simp [utRn], by rw [h5]; rfl⟩
theorem utAll_whole {l : List Int} (h : utRn 0 l = l.length) (h0 : utRs 0 l = 0) : ¬ utWhole l < l.length := fun hlt => (utWhole_iff l h).1 hlt h0
section
variable {d q e : Int}
theorem toBA_bl (s : ByteArray) : toBA (bl s) = s := bl_inj (bl_toBA (bl s) (fun x hx => by
  unfold bl at hx
  obtain ⟨c, _, rfl⟩ := List.mem_map.1 hx
  exact ⟨byte_lo c, byte_hi c⟩))
end
end Go.Proofs.YtaoncnlhilpgfaaDoor

namespace Go.Proofs.YtaoncnlhilpgfaaDoor
open Go.RowKit
set_option linter.unusedVariables false
set_option linter.unusedSimpArgs false

/-- A field's bytes, each Quote twice. -/
def dbl (q : Int) : List Int → List Int
  | [] => []
  | b :: r => if b = q then q :: q :: dbl q r else b :: dbl q r
/-- A field quoted. -/
def quoL (q : Int) (f : List Int) : List Int := q :: (dbl q f ++ [q])
theorem dbl_append (q : Int) : ∀ a b, dbl q (a ++ b) = dbl q a ++ dbl q b
  | [], b => rfl
  | x :: a, b => by
    rw [List.cons_append, dbl, dbl, dbl_append q a b]
    split <;> rfl
theorem dbl_len (q : Int) : ∀ f : List Int, f.length ≤ (dbl q f).length ∧ (dbl q f).length ≤ 2 * f.length
  | [] => ⟨Nat.le_refl _, Nat.le_refl _⟩
  | b :: r => by
    have := dbl_len q r
    rw [dbl]
    split <;> simp <;> omega
theorem quoL_len (q : Int) (f : List Int) : (quoL q f).length = (dbl q f).length + 2 := by simp [quoL]
/-! ### It is read as it was -/
section
variable {d q e lf : Int}
/-- What stands behind a field: nothing, or a stop. -/
def Stop (d : Int) (rest : List Int) : Prop := rest = [] ∨ ∃ c r, rest = c :: r ∧ stops d c = true
/-- What stands behind a record: nothing, or an end of line and more. -/
def Ends (e : Int) (rest tail : List Int) : Prop := (rest = [] ∧ tail = []) ∨ rest = endL e ++ tail
theorem Ends.stop {rest tail : List Int} (h : Ends e rest tail) : Stop d rest := by
  rcases h with ⟨rfl, _⟩ | rfl
  · exact .inl rfl
  · obtain ⟨c, r, hE, hc⟩ := endL_cons e
    exact .inr ⟨c, r ++ tail, by rw [hE]; rfl, by rcases hc with rfl | rfl <;> simp [stops]⟩
end
end Go.Proofs.YtaoncnlhilpgfaaDoor

namespace Go.Proofs.YtaoncnlhilpgfaaDoor
set_option linter.unusedVariables false
set_option linter.unusedSimpArgs false

/-- Each byte c replaced by n. -/
def repl (c : UInt8) (n : List UInt8) : List UInt8 → List UInt8
  | [] => []
  | b :: r => if b = c then n ++ repl c n r else b :: repl c n r
theorem repl_append (c : UInt8) (n : List UInt8) : ∀ a b, repl c n (a ++ b) = repl c n a ++ repl c n b
  | [], b => rfl
  | x :: a, b => by
    rw [List.cons_append, repl, repl, repl_append c n a b]
    split <;> simp
theorem repl_none (c : UInt8) (n : List UInt8) : ∀ l : List UInt8, c ∉ l → repl c n l = l
  | [], _ => rfl
  | b :: r, h => by
    rw [repl, if_neg (fun e => h (by rw [e]; exact List.mem_cons_self ..)), repl_none c n r (fun hc => h (List.mem_cons_of_mem _ hc))]
theorem repl_len (c : UInt8) (n : List UInt8) : ∀ l : List UInt8, (repl c n l).length + l.count c = l.length + l.count c * n.length
  | [] => by simp [repl]
  | b :: r => by
    have ih := repl_len c n r
    rw [repl]
    by_cases h : b = c
    · rw [if_pos h, h, List.count_cons_self, List.length_append, List.length_cons, Nat.add_mul, Nat.one_mul]
      omega
    · rw [if_neg h, List.count_cons_of_ne (by simpa using h), List.length_cons, List.length_cons]
      omega
/-- Where the first c stands. -/
theorem index_split (c : UInt8) : ∀ l : List UInt8, (Lib.indexByte l c = -1 ∧ c ∉ l) ∨ ∃ i : Nat, Lib.indexByte l c = i ∧ i < l.length ∧ l = l.take i ++ c :: l.drop (i + 1) ∧ c ∉ l.take i
  | [] => .inl ⟨rfl, by simp⟩
  | b :: r => by
    by_cases h : b = c
    · refine .inr ⟨0, ?_, by simp, by simp [h], by simp⟩
      rw [Lib.indexByte, if_pos (by simpa using h)]; rfl
    · rcases index_split c r with ⟨h1, h2⟩ | ⟨i, h1, h2, h3, h4⟩
      · refine .inl ⟨?_, by simp only [List.mem_cons, not_or]; exact ⟨fun e => h e.symm, h2⟩⟩
        rw [Lib.indexByte, if_neg (by simpa using h), h1]; rfl
      · refine .inr ⟨i + 1, ?_, by simp; omega, ?_, ?_⟩
        · rw [Lib.indexByte, if_neg (by simpa using h), h1, if_neg (by simp <;> omega)]; rfl
        · rw [List.take_succ_cons, List.drop_succ_cons, List.cons_append, ← h3]
        · rw [List.take_succ_cons]; simp only [List.mem_cons, not_or]; exact ⟨fun e => h e.symm, h4⟩
theorem index_hit {c : UInt8} {l : List UInt8} (h : 0 < l.count c) : ∃ i : Nat, Lib.indexByte l c = i ∧ i < l.length ∧ l.count c = (l.drop (i + 1)).count c + 1 ∧ ∀ n, repl c n l = l.take i ++ n ++ repl c n (l.drop (i + 1)) := by
  rcases index_split c l with ⟨h1, h2⟩ | ⟨i, h1, h2, h3, h4⟩
  · exact absurd (List.count_eq_zero.2 h2) (by omega)
  · refine ⟨i, h1, h2, ?_, fun n => ?_⟩
    · have e : l.count c = (l.take i ++ c :: l.drop (i + 1)).count c := by rw [← h3]
      rw [e, List.count_append, List.count_eq_zero.2 h4, List.count_cons_self]; omega
    · have e : repl c n l = repl c n (l.take i ++ c :: l.drop (i + 1)) := by rw [← h3]
      rw [e, repl_append, repl_none c n _ h4, repl, if_pos rfl, List.append_assoc]
/-! ### As numbers -/
theorem repl_dbl (c : UInt8) : ∀ l : List UInt8, (repl c [c, c] l).map (fun b => (b.toNat : Int)) = dbl (c.toNat : Int) (l.map fun b => (b.toNat : Int))
  | [] => rfl
  | b :: r => by
    rw [repl, List.map_cons, dbl, ← repl_dbl c r]
    by_cases h : b = c
    · rw [if_pos h, if_pos (by rw [h])]; rfl
    · rw [if_neg h, if_neg (fun e => h (UInt8.toNat_inj.1 (by omega)))]; rfl
/-! ### Pairs -/
/-- One c for each pair. -/
def ones (c : UInt8) : List UInt8 → List UInt8
  | [] => []
  | [b] => [b]
  | b :: d :: r => if b = c ∧ d = c then c :: ones c r else b :: ones c (d :: r)
/-! ### What the library's words tell of pairs -/
/-! ### A text behind its first Quote -/
end Go.Proofs.YtaoncnlhilpgfaaDoor

namespace Go.Proofs.YtaoncnlhilpgfaaDoor
open Go.RowKit
set_option linter.unusedVariables false
set_option linter.unusedSimpArgs false

/-- Fields, each with how it is written. -/
abbrev Wrs := List (List Int × List Int)
def lineL (d e : Int) (r : Wrs) : List Int := layL d (r.map (·.2)) ++ endL e
section
variable {d q e : Int}
end
end Go.Proofs.YtaoncnlhilpgfaaDoor

namespace Go.Proofs.YtaoncnlhilpgfaaDoor
open Go.RowKit
set_option linter.unusedVariables false
set_option linter.unusedSimpArgs false

/-- A field as written. -/
def wriL (d q : Int) (f : List Int) (al fi : Bool) : List Int := if whyN d q f al fi = 0 then f else quoL q f
/-- A record's fields as written. -/
def canR (d q : Int) (al : Bool) : Bool → List (List Int) → Wrs
  | _, [] => []
  | fi, f :: r => (f, wriL d q f al fi) :: canR d q al false r
section
variable {d q e : Int}
theorem canR_nil (al fi : Bool) (l : List (List Int)) : (canR d q al fi l).map (·.2) = [] ↔ l = [] := by
  cases l <;> simp [canR]
/-- The field that stands first of all begins with a mark, and stands bare. -/
def bareMark : List Wrs → Prop
  | (p :: _) :: _ => bomHad p.1 = true ∧ p.2 = p.1
  | _ => False
instance : ∀ t, Decidable (bareMark t)
  | [] => isFalse (fun h => h)
  | [] :: _ => isFalse (fun h => h)
  | (p :: _) :: _ => inferInstanceAs (Decidable (_ ∧ _))
end
end Go.Proofs.YtaoncnlhilpgfaaDoor

namespace Go.Proofs.YtaoncnlhilpgfaaDoor
open Go.RowKit
set_option linter.unusedVariables false
set_option linter.unusedSimpArgs false

/-- All of it is UTF-8. -/
def UOk (l : List Int) : Prop := utRn 0 l = l.length ∧ utRs 0 l = 0
theorem uok_whole {l : List Int} (h : UOk l) : utWhole l = l.length := by
  have h1 := utAll_whole h.1 h.2
  have h2 := (utWhole_spec l.length l (Nat.le_refl _)).1
  omega
section
variable {d q e : Int}
end
end Go.Proofs.YtaoncnlhilpgfaaDoor

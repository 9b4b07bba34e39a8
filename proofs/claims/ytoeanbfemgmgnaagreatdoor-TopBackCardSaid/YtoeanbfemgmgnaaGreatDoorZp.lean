/- Events, as plain data: their cells, lists of them laid out. What each byte comes to (layer 4), as plain functions. The maker (layer 5), as plain functions. Layer 6: all bytes of a text, one by one, by the table and the maker (mch); and by the grammar, place by place (rdGo): plain functions. Layer 6: the table and the maker come to what the grammar says: fields. Layer 6: the table and the maker come to what the grammar says: lines, and all of a text. Layer 6: the table and the maker come to what the grammar says: all lines of a text. Layer 2, the plain words: which bytes go on from which state, the state behind a text, the document's sequences, and that both tell the same. No program. Layer 2, the plain words: the document's sequences and the states tell the same. No program. Layer 2, the plain words: a text that begins with no sequence; which beginnings can be one; the longest beginning. No program. Layer 3, plain words: the mark at the head of a list of bytes; what is kept back of it, what is handed on. No condition. Layer 8, plain: why a field must be quoted. No program. Layer 6: all bytes of a text, and whether they go on (mchU); the first fault of both. Layer 6: the mark taken away, all bytes of a text (whP), and what the document's definition tells (whR). Layer 6, plain: what the grammar tells is bounded, and its kinds are other than 1; the document's Parse, said of what Read told (rpK, rpA, rpRs). Layer 6, plain: how many fields a record of a text has at most. Layer 8, plain: a record none of whose fields must be quoted, laid with Delims between and an end of line behind, is read as it was (nd_plain). No program. Layer 8, plain: all of a text: what is laid bare though it need not be quoted is read as it was (nd_plain). No program. Layers 9 and 10, plain: a field quoted (quoL), a text taken apart (unqL); fields written, bare or quoted, with Delims between and an end of line or nothing behind, are read as they were. Layer 9, plain: a field quoted, alone, is read as one record of it (quo_read). No program. Layer 9, plain: each byte c of a text replaced (repl); pairs of c; what Count and ReplaceAll tell of them; a text is one that repl made just if all its c stand in pairs. Layer 10, plain: lines of records one behind the other, each field written bare or quoted, are read as the table (tab_read). No program. Layer 10, plain: a table as it is written (canT) is no longer than any text that ends with an end of line and is read as it, but where a mark stands bare behind blank lines. No program. Layer 10, plain: what a text that is read without fault is made of is UTF-8, field by field; the shortest text (wr_short); no byte can be left out (wr_less). No program. Layer 7, plain: the pieces of a text at places (pcs of the places sorted), and that joined they are the text; the ways to cut. No program. Layer 7, plain: the pieces of a text of sizes, over and over (ByR), and that joined they are the text. No program. -/
import Derived.Test.YtoeanbfemgmgnaaGreatDoorZk
import Derived.Below
import Derived.Lib.Hide
import Derived.Lib.ReplaceLaws
namespace Go.Proofs.YtoeanbfemgmgnaaGreatDoor
open Go.RowKit
set_option linter.unusedVariables false
set_option linter.unusedSimpArgs false

structure Ev where
  bg : Bool
  ad : Bool
  fi : Bool
  li : Bool
  re : Bool
  b : Int
deriving DecidableEq
def evArr (x : Ev) : Array Value := #[.bool x.bg, .bool x.ad, .bool x.fi, .bool x.li, .bool x.re, .int .u8 x.b]
theorem mem_cell {w w' : World} (hb : Below w.heap.size w w') {a : Addr} {v : Value} (h : w.cell? a = some v) : w'.cell? a = some v := (hb.cell (lt_of_cell h)).trans h
end Go.Proofs.YtoeanbfemgmgnaaGreatDoor

namespace Go.Proofs.YtoeanbfemgmgnaaGreatDoor
open Go.RowKit
set_option linter.unusedVariables false
set_option linter.unusedSimpArgs false

structure Res where
  ev : Ev
  n : Int
  k : Int
def ev0 : Ev := ⟨false, false, false, false, false, 0⟩
def evAdd (b : Int) : Ev := ⟨false, true, false, false, false, b⟩
def evRec : Ev := ⟨false, false, false, true, true, 0⟩
def oopB (e b : Int) : Bool := (b == 13 && e == 1) || (b == 10 && e == 2)
/-- what ends a field: the event, the state, and whether it does. -/
def parE (d b : Int) : Ev := if b = d then ⟨false, false, true, false, false, 0⟩ else if b = 13 then ⟨false, false, false, true, false, 0⟩ else if b = 10 then evRec else ev0
def parN (d b : Int) : Int := if b = d then 1 else if b = 13 then 5 else 0
def parB (d b : Int) : Bool := b == d || (b == 13 || b == 10)
def firstR (d q b : Int) : Res := if b = q then ⟨ev0, 3, 0⟩ else if parB d b = true then ⟨parE d b, parN d b, 0⟩ else ⟨evAdd b, 2, 0⟩
def bareR (d q b : Int) : Res := if b = q then ⟨ev0, 0, 4⟩ else firstR d q b
def quotedR (q b : Int) : Res := if b = q then ⟨ev0, 4, 0⟩ else ⟨evAdd b, 3, 0⟩
def closingR (d q b : Int) : Res := if b = q then ⟨evAdd b, 3, 0⟩ else if parB d b = true then ⟨parE d b, parN d b, 0⟩ else ⟨ev0, 0, 5⟩
def aheadR (d q b : Int) : Res := if b = 13 then ⟨ev0, 6, 0⟩ else if b = 10 then ⟨ev0, 0, 0⟩ else ⟨{ (firstR d q b).ev with bg := true }, (firstR d q b).n, (firstR d q b).k⟩
def feedR (v : Ev) (b : Int) : Res := if b = 10 then ⟨v, 0, 0⟩ else ⟨ev0, 0, 6⟩
def stepR (d q e s b : Int) : Res :=
  if s = 0 then (if oopB e b = true then ⟨ev0, 0, 6⟩ else aheadR d q b)
  else if s = 1 then (if oopB e b = true then ⟨ev0, 0, 6⟩ else firstR d q b)
  else if s = 2 then (if oopB e b = true then ⟨ev0, 0, 6⟩ else bareR d q b)
  else if s = 3 then quotedR q b
  else if s = 4 then (if oopB e b = true then ⟨ev0, 0, 6⟩ else closingR d q b)
  else if s = 5 then feedR ⟨false, false, false, false, true, 0⟩ b
  else feedR ev0 b
def closeE (s : Int) : Ev := if s = 1 ∨ s = 2 ∨ s = 4 then evRec else ev0
def closeK (s : Int) : Int := if s = 3 then 11 else if s = 5 ∨ s = 6 then 6 else 0

theorem beq_t {a b : Int} (h : (a == b) = true) : (a = b) = True := eq_true (by simpa using h)
theorem beq_f {a b : Int} (h : (a == b) = false) : (a = b) = False := eq_false (by simpa using h)

theorem stepR_n {d q e s b : Int} : 0 ≤ (stepR d q e s b).n ∧ (stepR d q e s b).n ≤ 6 := by
  have f : 0 ≤ (firstR d q b).n ∧ (firstR d q b).n ≤ 6 := by
    unfold firstR parN; (repeat' split) <;> simp
  have c : 0 ≤ (closingR d q b).n ∧ (closingR d q b).n ≤ 6 := by
    unfold closingR parN; (repeat' split) <;> simp
  have g : ∀ v, 0 ≤ (feedR v b).n ∧ (feedR v b).n ≤ 6 := by
    intro v; unfold feedR; (repeat' split) <;> simp
  unfold stepR bareR quotedR aheadR
  (repeat' split) <;> first | exact f | exact c | exact g _ | simp
theorem stepR_b {d q e s b : Int} (h0 : 0 ≤ b) (h1 : b ≤ 255) : 0 ≤ (stepR d q e s b).ev.b ∧ (stepR d q e s b).ev.b ≤ 255 := by
  have p : 0 ≤ (parE d b).b ∧ (parE d b).b ≤ 255 := by
    unfold parE evRec ev0; (repeat' split) <;> simp
  have f : 0 ≤ (firstR d q b).ev.b ∧ (firstR d q b).ev.b ≤ 255 := by
    unfold firstR evAdd ev0; (repeat' split) <;> first | exact p | (simp; done) | exact ⟨h0, h1⟩
  have c : 0 ≤ (closingR d q b).ev.b ∧ (closingR d q b).ev.b ≤ 255 := by
    unfold closingR evAdd ev0; (repeat' split) <;> first | exact p | (simp; done) | exact ⟨h0, h1⟩
  unfold stepR bareR quotedR aheadR feedR evAdd ev0
  (repeat' split) <;> first | exact f | exact c | exact ⟨h0, h1⟩ | simp
theorem closeE_b (s : Int) : (closeE s).b = 0 := by unfold closeE evRec ev0; split <;> rfl

end Go.Proofs.YtoeanbfemgmgnaaGreatDoor

namespace Go.Proofs.YtoeanbfemgmgnaaGreatDoor
open Go.RowKit
set_option linter.unusedVariables false
set_option linter.unusedSimpArgs false

/-- What a maker has. -/
structure Mk where
  lf : Int
  ls : Int
  lr : Int
  u : Bool
  fd : List Int
  rc : List ByteArray
  bg : Int
  ct : Int
  wd : Int
  er : Int

def mPut (s : Mk) : Mk := { s with fd := [], rc := s.rc ++ [toBA s.fd] }
def mBound (s : Mk) : Bool := s.u && decide (0 < s.ct)
def mB (b : Bool) (s : Mk) : Mk := if b = true then (if s.lr ≤ s.bg then { s with er := 9 } else { s with bg := s.bg + 1 }) else s
def mA (a : Bool) (v : Int) (s : Mk) : Mk := if a = true then (if s.lf ≤ (s.fd.length : Int) then { s with er := 7 } else { s with fd := s.fd ++ [v] }) else s
def mEndF (s : Mk) : Mk := if s.ls ≤ (s.rc.length : Int) + 1 then { mPut s with er := 8 } else if mBound s = true ∧ (s.rc.length : Int) + 1 = s.wd then { mPut s with er := 10 } else mPut s
def mEndL (s : Mk) : Mk := if mBound s = true ∧ (s.rc.length : Int) + 1 ≠ s.wd then { mPut s with er := 10 } else mPut s
def mF (f : Bool) (s : Mk) : Mk := if f = true then mEndF s else s
def mL (l : Bool) (s : Mk) : Mk := if l = true then mEndL s else s
def mThen (s : Mk) (f : Mk → Mk) : Mk := if s.er = 0 then f s else s
def mGather (e : Ev) (s : Mk) : Mk := mThen (mThen (mThen (mB e.bg s) (mA e.ad e.b)) (mF e.fi)) (mL e.li)
def mOut (s : Mk) : Mk := { s with rc := [], wd := if s.ct = 0 then (s.rc.length : Int) else s.wd, ct := s.ct + 1 }
def mTake (e : Ev) (s : Mk) : Mk := mThen s fun s => mThen (mGather e s) fun t => if e.re = true then mOut t else t
def mTold (e : Ev) (s : Mk) : Bool := decide (s.er = 0) && (decide ((mGather e s).er = 0) && e.re)
def mRec (e : Ev) (s : Mk) : List ByteArray := if mTold e s = true then (mGather e s).rc else []

theorem mThen_go {s : Mk} (h : s.er = 0) (f : Mk → Mk) : mThen s f = f s := if_pos h
theorem mThen_stop {s : Mk} (h : s.er ≠ 0) (f : Mk → Mk) : mThen s f = s := if_neg h
/-- Stopped, it does nothing. -/
theorem mTake_stop {s : Mk} (h : s.er ≠ 0) (e : Ev) : mTake e s = s ∧ mTold e s = false ∧ mRec e s = [] := by
  have h2 : mTold e s = false := by simp [mTold, h]
  exact ⟨mThen_stop h _, h2, by simp [mRec, h2]⟩
theorem mPut_len (s : Mk) : (mPut s).rc.length = s.rc.length + 1 := by simp [mPut]
def mZ (s : Mk) : Mk := { s with er := 0 }
theorem mZ_self {s : Mk} (h : s.er = 0) : mZ s = s := by cases s; simp only [mZ] at *; subst h; rfl
theorem mZ_er {s : Mk} (v : Int) (h : s.er = 0) : mZ { s with er := v } = s := by cases s; simp only [mZ] at *; subst h; rfl
theorem mZ_endF {s : Mk} (h : s.er = 0) : mZ (mEndF s) = mPut s := by
  have h' : (mPut s).er = 0 := h
  unfold mEndF
  split
  · exact mZ_er 8 h'
  · split
    · exact mZ_er 10 h'
    · exact mZ_self h'
theorem mZ_endL {s : Mk} (h : s.er = 0) : mZ (mEndL s) = mPut s := by
  have h' : (mPut s).er = 0 := h
  unfold mEndL
  split
  · exact mZ_er 10 h'
  · exact mZ_self h'
theorem mEndF_ok {s : Mk} (h : (mEndF s).er = 0) : mEndF s = mPut s := by
  unfold mEndF at h ⊢
  split at h
  · cases h
  · split at h
    · cases h
    · rename_i h1 h2; rw [if_neg h1, if_neg h2]
theorem mGather1 {e : Ev} {s s1 : Mk} (h1 : mB e.bg s = s1) (hn : s1.er ≠ 0) : mGather e s = s1 := by
  unfold mGather; rw [h1, mThen_stop hn, mThen_stop hn, mThen_stop hn]
theorem mGather2 {e : Ev} {s s1 s2 : Mk} (h1 : mB e.bg s = s1) (e1 : s1.er = 0) (h2 : mA e.ad e.b s1 = s2) (hn : s2.er ≠ 0) : mGather e s = s2 := by
  unfold mGather; rw [h1, mThen_go e1, h2, mThen_stop hn, mThen_stop hn]
theorem mGather3 {e : Ev} {s s1 s2 s3 : Mk} (h1 : mB e.bg s = s1) (e1 : s1.er = 0) (h2 : mA e.ad e.b s1 = s2) (e2 : s2.er = 0) (h3 : mF e.fi s2 = s3) (hn : s3.er ≠ 0) : mGather e s = s3 := by
  unfold mGather; rw [h1, mThen_go e1, h2, mThen_go e2, h3, mThen_stop hn]
theorem mGather4 {e : Ev} {s s1 s2 s3 : Mk} (h1 : mB e.bg s = s1) (e1 : s1.er = 0) (h2 : mA e.ad e.b s1 = s2) (e2 : s2.er = 0) (h3 : mF e.fi s2 = s3) (e3 : s3.er = 0) : mGather e s = mL e.li s3 := by
  unfold mGather; rw [h1, mThen_go e1, h2, mThen_go e2, h3, mThen_go e3]

/-- A maker's numbers, as they come: no sum of them wraps. -/
structure Mk.Ok (s : Mk) (N : Nat) : Prop where
  lr : s.lr ≤ 2147483648
  bg : 0 ≤ s.bg
  bgN : s.bg ≤ N
  ct : 0 ≤ s.ct
  ctN : s.ct ≤ N
  fdN : s.fd.length ≤ N
  rcN : s.rc.length ≤ 2 * N

/-- What a part of an event turns at most. -/
structure Few (s t : Mk) (i j k : Nat) : Prop where
  lf : t.lf = s.lf
  ls : t.ls = s.ls
  lr : t.lr = s.lr
  u : t.u = s.u
  ct : t.ct = s.ct
  bg : s.bg ≤ t.bg
  bgi : t.bg ≤ s.bg + i
  fd : t.fd.length ≤ s.fd.length + j
  rc : t.rc.length ≤ s.rc.length + k
theorem Few.refl (s : Mk) (i j k : Nat) : Few s s i j k := ⟨rfl, rfl, rfl, rfl, rfl, Int.le_refl _, by omega, by omega, by omega⟩
theorem Few.trans {s t v : Mk} {i j k i' j' k' : Nat} (h : Few s t i j k) (q : Few t v i' j' k') : Few s v (i + i') (j + j') (k + k') :=
  ⟨q.lf.trans h.lf, q.ls.trans h.ls, q.lr.trans h.lr, q.u.trans h.u, q.ct.trans h.ct, by have := h.bg; have := q.bg; omega, by have := h.bgi; have := q.bgi; omega, by have := h.fd; have := q.fd; omega, by have := h.rc; have := q.rc; omega⟩
theorem Few.then_ {s t : Mk} {f : Mk → Mk} {i j k i' j' k' : Nat} (h : Few s t i j k) (q : Few t (f t) i' j' k') : Few s (mThen t f) (i + i') (j + j') (k + k') := by
  unfold mThen
  split
  · exact h.trans q
  · exact h.trans (Few.refl t i' j' k')
theorem few_er {s t : Mk} {i j k : Nat} (v : Int) (h : Few s t i j k) : Few s { t with er := v } i j k := ⟨h.lf, h.ls, h.lr, h.u, h.ct, h.bg, h.bgi, h.fd, h.rc⟩
theorem few_put (s : Mk) : Few s (mPut s) 0 0 1 := ⟨rfl, rfl, rfl, rfl, rfl, Int.le_refl _, by show s.bg ≤ s.bg + (0 : Nat); omega, by simp [mPut], by rw [mPut_len]; exact Nat.le_refl _⟩
theorem few_B (b : Bool) (s : Mk) : Few s (mB b s) 1 0 0 := by
  unfold mB
  split
  · split
    · exact few_er 9 (Few.refl s 1 0 0)
    · exact ⟨rfl, rfl, rfl, rfl, rfl, by show s.bg ≤ s.bg + 1; omega, by show s.bg + 1 ≤ s.bg + (1 : Nat); omega, by simp, by simp⟩
  · exact Few.refl s 1 0 0
theorem few_A (b : Bool) (v : Int) (s : Mk) : Few s (mA b v s) 0 1 0 := by
  unfold mA
  split
  · split
    · exact few_er 7 (Few.refl s 0 1 0)
    · exact ⟨rfl, rfl, rfl, rfl, rfl, Int.le_refl _, by show s.bg ≤ s.bg + (0 : Nat); omega, by simp, by simp⟩
  · exact Few.refl s 0 1 0
theorem few_F (b : Bool) (s : Mk) : Few s (mF b s) 0 0 1 := by
  unfold mF mEndF
  split
  · split
    · exact few_er 8 (few_put s)
    · split
      · exact few_er 10 (few_put s)
      · exact few_put s
  · exact Few.refl s 0 0 1
theorem few_L (b : Bool) (s : Mk) : Few s (mL b s) 0 0 1 := by
  unfold mL mEndL
  split
  · split
    · exact few_er 10 (few_put s)
    · exact few_put s
  · exact Few.refl s 0 0 1
theorem few_gather (e : Ev) (s : Mk) : Few s (mGather e s) 1 1 2 :=
  (((few_B e.bg s).then_ (few_A e.ad e.b _)).then_ (few_F e.fi _)).then_ (few_L e.li _)
theorem Few.ok {s t : Mk} {N : Nat} (h : Few s t 1 1 2) (ok : s.Ok N) : t.Ok (N + 1) :=
  ⟨by rw [h.lr]; exact ok.lr, by have := ok.bg; have := h.bg; omega, by have := ok.bgN; have := h.bgi; omega, by rw [h.ct]; exact ok.ct, by rw [h.ct]; have := ok.ctN; omega, by have := ok.fdN; have := h.fd; omega, by have := ok.rcN; have := h.rc; omega⟩
theorem mTake1 {e : Ev} {s : Mk} (h : s.er = 0) (h1 : (mGather e s).er ≠ 0) : mTake e s = mGather e s := by
  unfold mTake; rw [mThen_go h, mThen_stop h1]
theorem mTake2 {e : Ev} {s : Mk} (h : s.er = 0) (hr : e.re = false) : mTake e s = mGather e s := by
  unfold mTake
  rw [mThen_go h]
  by_cases q : (mGather e s).er = 0
  · rw [mThen_go q, if_neg (by simp [hr])]
  · rw [mThen_stop q]
theorem mTake3 {e : Ev} {s : Mk} (h : s.er = 0) (h1 : (mGather e s).er = 0) (hr : e.re = true) : mTake e s = mOut (mGather e s) := by
  unfold mTake; rw [mThen_go h, mThen_go h1, if_pos hr]
theorem mRec1 {e : Ev} {s : Mk} (h1 : (mGather e s).er ≠ 0) : mRec e s = [] ∧ mTold e s = false := by
  have : mTold e s = false := by simp [mTold, h1]
  exact ⟨by simp [mRec, this], this⟩
theorem mRec2 {e : Ev} {s : Mk} (hr : e.re = false) : mRec e s = [] ∧ mTold e s = false := by
  have : mTold e s = false := by simp [mTold, hr]
  exact ⟨by simp [mRec, this], this⟩
theorem mRec3 {e : Ev} {s : Mk} (h : s.er = 0) (h1 : (mGather e s).er = 0) (hr : e.re = true) : mRec e s = (mGather e s).rc ∧ mTold e s = true := by
  have : mTold e s = true := by simp [mTold, h, h1, hr]
  exact ⟨by simp [mRec, this], this⟩
theorem ok_take (e : Ev) {s : Mk} {N : Nat} (ok : s.Ok N) : (mTake e s).Ok (N + 1) := by
  have h0 : s.Ok (N + 1) := (Few.refl s 1 1 2).ok ok
  have h1 := (few_gather e s).ok ok
  by_cases e0 : s.er = 0
  · by_cases e1 : (mGather e s).er = 0
    · cases hr : e.re
      · rw [mTake2 e0 hr]; exact h1
      · rw [mTake3 e0 e1 hr]
        refine ⟨h1.lr, h1.bg, h1.bgN, ?_, ?_, h1.fdN, by simp [mOut]⟩
        · show 0 ≤ (mGather e s).ct + 1; have := h1.ct; omega
        · show (mGather e s).ct + 1 ≤ _; rw [(few_gather e s).ct]; have := ok.ctN; omega
    · rw [mTake1 e0 e1]; exact h1
  · rw [(mTake_stop e0 e).1]; exact h0

def withinB (n : Int) : Bool := decide (1 ≤ n) && decide (n ≤ 2147483648)
/-- A maker that was handed nothing. -/
def mk0 (a b c : Int) (u : Bool) : Mk := ⟨a, b, c, u, [], [], 0, 0, 0, 0⟩
theorem mk0_ok (a b c : Int) (u : Bool) (h : (withinB a && (withinB b && withinB c)) = true) : (mk0 a b c u).Ok 0 := by
  simp [withinB] at h
  exact ⟨by show c ≤ _; omega, Int.le_refl _, Int.le_refl _, Int.le_refl _, Int.le_refl _, Nat.le_refl _, Nat.le_refl _⟩
end Go.Proofs.YtoeanbfemgmgnaaGreatDoor

namespace Go.Proofs.YtoeanbfemgmgnaaGreatDoor
open Go.RowKit
set_option linter.unusedVariables false
set_option linter.unusedSimpArgs false

/-- Records, each with the place of the byte that made it whole; the first fault (0: none), and its place. -/
structure Got where
  rs : List (List ByteArray × Nat)
  k : Int
  at_ : Nat
def Got.more (r : List ByteArray) (i : Nat) (o : Got) : Got := ⟨(r, i) :: o.rs, o.k, o.at_⟩

/-! ### By the table -/
def mch (d q e : Int) : Int → Mk → Nat → List Int → Got
  | t, m, i, [] =>
    if closeK t ≠ 0 then ⟨[], closeK t, i⟩
    else if (mTake (closeE t) m).er ≠ 0 then ⟨[], (mTake (closeE t) m).er, i⟩
    else if mTold (closeE t) m = true then ⟨[(mRec (closeE t) m, i)], 0, 0⟩ else ⟨[], 0, 0⟩
  | t, m, i, b :: r =>
    if (stepR d q e t b).k ≠ 0 then ⟨[], (stepR d q e t b).k, i⟩
    else if (mTake (stepR d q e t b).ev m).er ≠ 0 then ⟨[], (mTake (stepR d q e t b).ev m).er, i⟩
    else if mTold (stepR d q e t b).ev m = true then (mch d q e (stepR d q e t b).n (mTake (stepR d q e t b).ev m) (i + 1) r).more (mRec (stepR d q e t b).ev m) i
    else mch d q e (stepR d q e t b).n (mTake (stepR d q e t b).ev m) (i + 1) r

/-! ### By the grammar: of a text's rest, at a place -/
/-- What a field comes to: the fault (0: none), the field, the place behind it (of the fault), and the rest. -/
structure Fld where
  k : Int
  f : List Int
  i : Nat
  l : List Int
def stops (d b : Int) : Bool := b == d || (b == 10 || b == 13)
/-- A quoted field, from behind its quote on. -/
def qGo (q lf : Int) : List Int → Nat → List Int → Fld
  | f, i, [] => ⟨11, f, i, []⟩
  | f, i, [b] => if b = q then ⟨0, f, i + 1, []⟩ else if (f.length : Int) = lf then ⟨7, f, i, []⟩ else ⟨11, f ++ [b], i + 1, []⟩
  | f, i, b :: c :: r =>
    if b = q then (if c = q then (if (f.length : Int) = lf then ⟨7, f, i + 1, []⟩ else qGo q lf (f ++ [c]) (i + 2) r) else ⟨0, f, i + 1, c :: r⟩)
    else if (f.length : Int) = lf then ⟨7, f, i, []⟩ else qGo q lf (f ++ [b]) (i + 1) (c :: r)
/-- A field that isn't quoted. -/
def bGo (d q lf : Int) : List Int → Nat → List Int → Fld
  | f, i, [] => ⟨0, f, i, []⟩
  | f, i, b :: r => if stops d b = true then ⟨0, f, i, b :: r⟩ else if b = q then ⟨4, f, i, []⟩ else if (f.length : Int) = lf then ⟨7, f, i, []⟩ else bGo d q lf (f ++ [b]) (i + 1) r
/-- What may stand behind a quoted field. -/
def behind (d : Int) (x : Fld) : Fld :=
  if x.k ≠ 0 then x else match x.l with
    | [] => x
    | b :: _ => if stops d b = true then x else ⟨5, x.f, x.i, []⟩
def fGo (d q lf : Int) (i : Nat) : List Int → Fld
  | [] => bGo d q lf [] i []
  | b :: r => if b = q then behind d (qGo q lf [] (i + 1) r) else bGo d q lf [] i (b :: r)
/-- What a line comes to: the fault (0: none) and its place; the record, where it was whole, and the rest with its place. -/
structure Lin where
  k : Int
  at_ : Nat
  rc : List ByteArray
  e : Nat
  i : Nat
  l : List Int
/-- Behind a record and a carriage return at a place. -/
def lnCr (m : Mk) (i : Nat) : List Int → Lin
  | [] => ⟨6, i + 1, [], 0, 0, []⟩
  | c :: r => if c = 10 then ⟨0, 0, m.rc, i + 1, i + 2, r⟩ else ⟨6, i + 1, [], 0, 0, []⟩
/-- What stands behind a record's last field, at a place: nothing, or a carriage return or a line feed. -/
def lnEnd (e : Int) (m : Mk) (i : Nat) : List Int → Lin
  | [] => if mBound m = true ∧ (m.rc.length : Int) ≠ m.wd then ⟨10, i, [], 0, 0, []⟩ else ⟨0, 0, m.rc, i, i, []⟩
  | b :: r =>
    if b = 10 then (if e = 2 then ⟨6, i, [], 0, 0, []⟩ else if mBound m = true ∧ (m.rc.length : Int) ≠ m.wd then ⟨10, i, [], 0, 0, []⟩ else ⟨0, 0, m.rc, i, i + 1, r⟩)
    else if e = 1 then ⟨6, i, [], 0, 0, []⟩ else if mBound m = true ∧ (m.rc.length : Int) ≠ m.wd then ⟨10, i, [], 0, 0, []⟩
    else lnCr m i r
/-- A record's fields from a place on (n: no more than that many), and the end of its line. -/
def lnGo (d q e : Int) : Nat → Mk → Nat → List Int → Lin
  | 0, m, i, l => ⟨0, 0, [], 0, 0, []⟩
  | n + 1, m, i, l =>
    if (fGo d q m.lf i l).k ≠ 0 then ⟨(fGo d q m.lf i l).k, (fGo d q m.lf i l).i, [], 0, 0, []⟩
    else match (fGo d q m.lf i l).l with
      | [] => lnEnd e { m with rc := m.rc ++ [toBA (fGo d q m.lf i l).f] } (fGo d q m.lf i l).i []
      | b :: r =>
        if b = d then
          (if (m.rc.length : Int) + 1 = m.ls then ⟨8, (fGo d q m.lf i l).i, [], 0, 0, []⟩ else if mBound m = true ∧ (m.rc.length : Int) + 1 = m.wd then ⟨10, (fGo d q m.lf i l).i, [], 0, 0, []⟩
          else lnGo d q e n { m with rc := m.rc ++ [toBA (fGo d q m.lf i l).f] } ((fGo d q m.lf i l).i + 1) r)
        else lnEnd e { m with rc := m.rc ++ [toBA (fGo d q m.lf i l).f] } (fGo d q m.lf i l).i (b :: r)
/-- All lines from a place on (n: no more than that many). -/
def rdGo (d q e : Int) : Nat → Mk → Nat → List Int → Got
  | 0, m, i, l => ⟨[], 0, 0⟩
  | n + 1, m, i, [] => ⟨[], 0, 0⟩
  | n + 1, m, i, b :: r =>
    if b = 10 then (if e = 2 then ⟨[], 6, i⟩ else rdGo d q e n m (i + 1) r)
    else if b = 13 then (if e = 1 then ⟨[], 6, i⟩ else if r.head? = some 10 then rdGo d q e n m (i + 2) r.tail else ⟨[], 6, i + 1⟩)
    else if m.bg = m.lr then ⟨[], 9, i⟩
    else if (lnGo d q e (r.length + 2) { m with bg := m.bg + 1 } i (b :: r)).k ≠ 0 then ⟨[], (lnGo d q e (r.length + 2) { m with bg := m.bg + 1 } i (b :: r)).k, (lnGo d q e (r.length + 2) { m with bg := m.bg + 1 } i (b :: r)).at_⟩
    else (rdGo d q e n (mOut { m with bg := m.bg + 1, rc := (lnGo d q e (r.length + 2) { m with bg := m.bg + 1 } i (b :: r)).rc }) (lnGo d q e (r.length + 2) { m with bg := m.bg + 1 } i (b :: r)).i (lnGo d q e (r.length + 2) { m with bg := m.bg + 1 } i (b :: r)).l).more (lnGo d q e (r.length + 2) { m with bg := m.bg + 1 } i (b :: r)).rc (lnGo d q e (r.length + 2) { m with bg := m.bg + 1 } i (b :: r)).e
end Go.Proofs.YtoeanbfemgmgnaaGreatDoor

namespace Go.Proofs.YtoeanbfemgmgnaaGreatDoor
open Go.RowKit
set_option linter.unusedVariables false
set_option linter.unusedSimpArgs false

/-! ### What each event comes to -/
theorem mThen_noF (s : Mk) : mThen s (mF false) = s := by unfold mThen; split <;> rfl
theorem mThen_noL (s : Mk) : mThen s (mL false) = s := by unfold mThen; split <;> rfl
theorem mThen_noA (s : Mk) (v : Int) : mThen s (mA false v) = s := by unfold mThen; split <;> rfl
theorem gat_add {m : Mk} (h : m.er = 0) (b : Int) : mGather (evAdd b) m = mA true b m := by
  show mThen (mThen (mThen m (mA true b)) (mF false)) (mL false) = _
  rw [mThen_noL, mThen_noF, mThen_go h]
theorem gat_fi {m : Mk} (h : m.er = 0) : mGather ⟨false, false, true, false, false, 0⟩ m = mEndF m := by
  show mThen (mThen (mThen m (mA false 0)) (mF true)) (mL false) = _
  rw [mThen_noL, mThen_noA, mThen_go h]; rfl
theorem gat_li {m : Mk} (h : m.er = 0) (r : Bool) : mGather ⟨false, false, false, true, r, 0⟩ m = mEndL m := by
  show mThen (mThen (mThen m (mA false 0)) (mF false)) (mL true) = _
  rw [mThen_noA, mThen_noF, mThen_go h]; rfl
theorem gat_0 {m : Mk} (r : Bool) : mGather ⟨false, false, false, false, r, 0⟩ m = m := by
  show mThen (mThen (mThen m (mA false 0)) (mF false)) (mL false) = _
  rw [mThen_noA, mThen_noF, mThen_noL]
theorem take_add {m : Mk} (h : m.er = 0) (b : Int) : mTake (evAdd b) m = mA true b m ∧ mTold (evAdd b) m = false :=
  ⟨(mTake2 h rfl).trans (gat_add h b), (mRec2 rfl).2⟩
theorem take_fi {m : Mk} (h : m.er = 0) : mTake ⟨false, false, true, false, false, 0⟩ m = mEndF m ∧ mTold ⟨false, false, true, false, false, 0⟩ m = false :=
  ⟨(mTake2 h rfl).trans (gat_fi h), (mRec2 rfl).2⟩
theorem take_li {m : Mk} (h : m.er = 0) : mTake ⟨false, false, false, true, false, 0⟩ m = mEndL m ∧ mTold ⟨false, false, false, true, false, 0⟩ m = false :=
  ⟨(mTake2 h rfl).trans (gat_li h false), (mRec2 rfl).2⟩
theorem take_0 {m : Mk} (h : m.er = 0) : mTake ev0 m = m ∧ mTold ev0 m = false :=
  ⟨(mTake2 h rfl).trans (gat_0 false), (mRec2 rfl).2⟩
theorem take_re {m : Mk} (h : m.er = 0) : mTake ⟨false, false, false, false, true, 0⟩ m = mOut m ∧ mTold ⟨false, false, false, false, true, 0⟩ m = true ∧ mRec ⟨false, false, false, false, true, 0⟩ m = m.rc := by
  have g := gat_0 (m := m) true
  have e1 : (mGather ⟨false, false, false, false, true, 0⟩ m).er = 0 := by rw [g]; exact h
  obtain ⟨r1, r2⟩ := mRec3 h e1 rfl
  exact ⟨(mTake3 h e1 rfl).trans (by rw [g]), r2, r1.trans (by rw [g])⟩
theorem take_rec1 {m : Mk} (h : m.er = 0) (h1 : (mEndL m).er = 0) : mTake evRec m = mOut (mEndL m) ∧ mTold evRec m = true ∧ mRec evRec m = (mEndL m).rc := by
  have g : mGather evRec m = mEndL m := gat_li h true
  have e1 : (mGather evRec m).er = 0 := by rw [g]; exact h1
  obtain ⟨r1, r2⟩ := mRec3 h e1 rfl
  exact ⟨(mTake3 h e1 rfl).trans (by rw [g]), r2, r1.trans (by rw [g])⟩
theorem take_rec2 {m : Mk} (h : m.er = 0) (h1 : (mEndL m).er ≠ 0) : mTake evRec m = mEndL m ∧ mTold evRec m = false := by
  have g : mGather evRec m = mEndL m := gat_li h true
  have e1 : (mGather evRec m).er ≠ 0 := by rw [g]; exact h1
  exact ⟨(mTake1 h e1).trans g, (mRec1 e1).2⟩

/-! ### One byte of the table -/
section
variable {d q e t : Int} {m : Mk} {i : Nat} {b : Int} {r : List Int} {v : Ev} {n k : Int}
theorem mch_k (hs : stepR d q e t b = ⟨v, n, k⟩) (hk : k ≠ 0) : mch d q e t m i (b :: r) = ⟨[], k, i⟩ := by
  rw [mch, hs, if_pos hk]
theorem mch_e (hs : stepR d q e t b = ⟨v, n, 0⟩) (he : (mTake v m).er ≠ 0) : mch d q e t m i (b :: r) = ⟨[], (mTake v m).er, i⟩ := by
  rw [mch, hs, if_neg (by simp), if_pos he]
theorem mch_go (hs : stepR d q e t b = ⟨v, n, 0⟩) (he : (mTake v m).er = 0) (ht : mTold v m = false) : mch d q e t m i (b :: r) = mch d q e n (mTake v m) (i + 1) r := by
  rw [mch, hs, if_neg (by simp), if_neg (by simpa using he), if_neg (by simp [ht])]
theorem mch_rec (hs : stepR d q e t b = ⟨v, n, 0⟩) (he : (mTake v m).er = 0) (ht : mTold v m = true) : mch d q e t m i (b :: r) = (mch d q e n (mTake v m) (i + 1) r).more (mRec v m) i := by
  rw [mch, hs, if_neg (by simp), if_neg (by simpa using he), if_pos ht]
end

/-- A dialect that is right. -/
structure Dia (d q e : Int) : Prop where
  dq : d ≠ q
  d10 : d ≠ 10
  d13 : d ≠ 13
  q10 : q ≠ 10
  q13 : q ≠ 13
/-- A maker in the midst of a record: nothing is wrong. -/
structure Mid (m : Mk) : Prop where
  er : m.er = 0
  fd : (m.fd.length : Int) ≤ m.lf
  rc : (m.rc.length : Int) < m.ls

section
variable {d q e : Int}
theorem st3_q : stepR d q e 3 q = ⟨ev0, 4, 0⟩ := by simp [stepR, quotedR]
theorem st3_b {b : Int} (h : b ≠ q) : stepR d q e 3 b = ⟨evAdd b, 3, 0⟩ := by simp [stepR, quotedR, h]
theorem st4_q (h : Dia d q e) : stepR d q e 4 q = ⟨evAdd q, 3, 0⟩ := by
  have : oopB e q = false := by simp [oopB, h.q10, h.q13]
  simp [stepR, this, closingR]
theorem st2_b (h : Dia d q e) {b : Int} (hq : b ≠ q) (hs : stops d b = false) : stepR d q e 2 b = ⟨evAdd b, 2, 0⟩ := by
  simp [stops] at hs
  have : oopB e b = false := by simp [oopB, hs.2.1, hs.2.2]
  simp [stepR, this, bareR, hq, firstR, parB, hs]
theorem st2_q (h : Dia d q e) : stepR d q e 2 q = ⟨ev0, 0, 4⟩ := by
  have : oopB e q = false := by simp [oopB, h.q10, h.q13]
  simp [stepR, this, bareR]
theorem st4_5 (h : Dia d q e) {b : Int} (hq : b ≠ q) (hs : stops d b = false) : stepR d q e 4 b = ⟨ev0, 0, 5⟩ := by
  simp [stops] at hs
  have : oopB e b = false := by simp [oopB, hs.2.1, hs.2.2]
  simp [stepR, this, closingR, hq, parB, hs]
/-- What stands behind a field is the same behind a bare one, a quoted one, and one that has no byte. -/
theorem st_same (h : Dia d q e) {b : Int} (hs : stops d b = true) : stepR d q e 4 b = stepR d q e 2 b ∧ stepR d q e 1 b = stepR d q e 2 b := by
  have hq : b ≠ q := by
    rintro rfl
    simp [stops, h.q10, h.q13] at hs
    exact h.dq hs.symm
  have hp : parB d b = true := by simp [stops] at hs; simp [parB]; omega
  cases ho : oopB e b <;> simp [stepR, ho, closingR, bareR, firstR, hq, hp]
theorem st1_b (h : Dia d q e) {b : Int} (hq : b ≠ q) : stepR d q e 1 b = stepR d q e 2 b := by
  cases ho : oopB e b <;> simp [stepR, ho, bareR, firstR, hq]
theorem st1_q (h : Dia d q e) : stepR d q e 1 q = ⟨ev0, 3, 0⟩ := by
  have : oopB e q = false := by simp [oopB, h.q10, h.q13]
  simp [stepR, this, firstR]
end

theorem add_ok {m : Mk} (h : ¬ (m.fd.length : Int) = m.lf) (hm : Mid m) (b : Int) : mA true b m = { m with fd := m.fd ++ [b] } ∧ Mid { m with fd := m.fd ++ [b] } := by
  have := hm.fd
  have h' : ¬ m.lf ≤ (m.fd.length : Int) := by omega
  refine ⟨?_, ⟨hm.er, ?_, hm.rc⟩⟩
  · unfold mA; rw [if_pos rfl, if_neg h']
  · simp; omega
theorem add_no {m : Mk} (h : (m.fd.length : Int) = m.lf) (b : Int) : (mA true b m).er = 7 := by
  unfold mA; rw [if_pos rfl, if_pos (by omega)]

section
variable {d q e : Int} (hd : Dia d q e)
include hd
/-- A quoted field. -/
theorem mch_q : ∀ (n : Nat) (l : List Int) (m : Mk) (i : Nat), l.length ≤ n → Mid m →
    ((qGo q m.lf m.fd i l).k ≠ 0 → mch d q e 3 m i l = ⟨[], (qGo q m.lf m.fd i l).k, (qGo q m.lf m.fd i l).i⟩) ∧
    ((qGo q m.lf m.fd i l).k = 0 → mch d q e 3 m i l = mch d q e 4 { m with fd := (qGo q m.lf m.fd i l).f } (qGo q m.lf m.fd i l).i (qGo q m.lf m.fd i l).l ∧
      Mid { m with fd := (qGo q m.lf m.fd i l).f } ∧ (∀ b r, (qGo q m.lf m.fd i l).l = b :: r → b ≠ q) ∧ (qGo q m.lf m.fd i l).l.length ≤ l.length)
  | n, [], m, i, hn, hm => by
    rw [qGo]
    exact ⟨fun _ => by rw [mch, if_pos (by decide)]; rfl, fun h => by cases h⟩
  | n, [b], m, i, hn, hm => by
    rw [qGo]
    by_cases hb : b = q
    · replace hb := hb.symm
      subst hb
      rw [if_pos rfl]
      refine ⟨fun h => absurd rfl h, fun _ => ⟨?_, hm, (fun b r h => by cases h), by simp⟩⟩
      have t := take_0 hm.er
      rw [mch_go st3_q (by rw [t.1]; exact hm.er) t.2, t.1]
    · rw [if_neg hb]
      have t := take_add hm.er b
      by_cases hl : (m.fd.length : Int) = m.lf
      · rw [if_pos hl]
        refine ⟨fun _ => ?_, fun h => by cases h⟩
        have e7 := add_no hl b
        rw [mch_e (st3_b hb) (by rw [t.1, e7]; decide), t.1, e7]
      · rw [if_neg hl]
        refine ⟨fun _ => ?_, fun h => by cases h⟩
        obtain ⟨a1, a2⟩ := add_ok hl hm b
        rw [mch_go (st3_b hb) (by rw [t.1, a1]; exact hm.er) t.2, mch, if_pos (by decide)]; rfl
  | 0, b :: c :: r, m, i, hn, hm => by simp at hn
  | n + 1, b :: c :: r, m, i, hn, hm => by
    rw [qGo]
    simp only [List.length_cons] at hn
    by_cases hb : b = q
    · replace hb := hb.symm
      subst hb
      rw [if_pos rfl]
      have t := take_0 hm.er
      have s1 : mch d q e 3 m i (q :: c :: r) = mch d q e 4 m (i + 1) (c :: r) := by
        rw [mch_go st3_q (by rw [t.1]; exact hm.er) t.2, t.1]
      by_cases hc : c = q
      · replace hc := hc.symm
        subst hc
        rw [if_pos rfl, s1]
        have t2 := take_add hm.er q
        by_cases hl : (m.fd.length : Int) = m.lf
        · rw [if_pos hl]
          refine ⟨fun _ => ?_, fun h => by cases h⟩
          have e7 := add_no hl q
          rw [mch_e (st4_q hd) (by rw [t2.1, e7]; decide), t2.1, e7]
        · rw [if_neg hl]
          obtain ⟨a1, a2⟩ := add_ok hl hm q
          rw [mch_go (st4_q hd) (by rw [t2.1, a1]; exact hm.er) t2.2, t2.1, a1]
          obtain ⟨i1, i2⟩ := mch_q n r _ (i + 2) (by omega) a2
          refine ⟨i1, fun h => ?_⟩
          obtain ⟨j1, j2, j3, j4⟩ := i2 h
          exact ⟨j1, j2, j3, Nat.le_trans j4 (by simp; omega)⟩
      · rw [if_neg hc]
        refine ⟨fun h => absurd rfl h, fun _ => ⟨s1, hm, fun b' r' h => ?_, by simp⟩⟩
        injection h with h1 h2
        subst h1; exact hc
    · rw [if_neg hb]
      have t := take_add hm.er b
      by_cases hl : (m.fd.length : Int) = m.lf
      · rw [if_pos hl]
        refine ⟨fun _ => ?_, fun h => by cases h⟩
        have e7 := add_no hl b
        rw [mch_e (st3_b hb) (by rw [t.1, e7]; decide), t.1, e7]
      · rw [if_neg hl]
        obtain ⟨a1, a2⟩ := add_ok hl hm b
        rw [mch_go (st3_b hb) (by rw [t.1, a1]; exact hm.er) t.2, t.1, a1]
        obtain ⟨i1, i2⟩ := mch_q n (c :: r) _ (i + 1) (by simp; omega) a2
        refine ⟨i1, fun h => ?_⟩
        obtain ⟨j1, j2, j3, j4⟩ := i2 h
        exact ⟨j1, j2, j3, Nat.le_trans j4 (by simp)⟩
/-- A field that isn't quoted, from its second byte on. -/
theorem mch_b : ∀ (l : List Int) (m : Mk) (i : Nat), Mid m →
    ((bGo d q m.lf m.fd i l).k ≠ 0 → mch d q e 2 m i l = ⟨[], (bGo d q m.lf m.fd i l).k, (bGo d q m.lf m.fd i l).i⟩) ∧
    ((bGo d q m.lf m.fd i l).k = 0 → mch d q e 2 m i l = mch d q e 2 { m with fd := (bGo d q m.lf m.fd i l).f } (bGo d q m.lf m.fd i l).i (bGo d q m.lf m.fd i l).l ∧
      Mid { m with fd := (bGo d q m.lf m.fd i l).f } ∧ (∀ b r, (bGo d q m.lf m.fd i l).l = b :: r → stops d b = true) ∧ (bGo d q m.lf m.fd i l).l.length ≤ l.length)
  | [], m, i, hm => by
    rw [bGo]
    exact ⟨fun h => absurd rfl h, fun _ => ⟨rfl, hm, fun b r h => (by cases h), Nat.le_refl _⟩⟩
  | b :: r, m, i, hm => by
    rw [bGo]
    cases hs : stops d b
    · rw [if_neg (by simp)]
      by_cases hb : b = q
      · replace hb := hb.symm
        subst hb
        rw [if_pos rfl]
        exact ⟨fun _ => mch_k (st2_q hd) (show (4 : Int) ≠ 0 by decide), fun h => by cases h⟩
      · rw [if_neg hb]
        have t := take_add hm.er b
        by_cases hl : (m.fd.length : Int) = m.lf
        · rw [if_pos hl]
          refine ⟨fun _ => ?_, fun h => by cases h⟩
          have e7 := add_no hl b
          rw [mch_e (st2_b hd hb hs) (by rw [t.1, e7]; decide), t.1, e7]
        · rw [if_neg hl]
          obtain ⟨a1, a2⟩ := add_ok hl hm b
          rw [mch_go (st2_b hd hb hs) (by rw [t.1, a1]; exact hm.er) t.2, t.1, a1]
          obtain ⟨i1, i2⟩ := mch_b r _ (i + 1) a2
          refine ⟨i1, fun h => ?_⟩
          obtain ⟨j1, j2, j3, j4⟩ := i2 h
          exact ⟨j1, j2, j3, Nat.le_trans j4 (by simp)⟩
    · rw [if_pos rfl]
      refine ⟨fun h => absurd rfl h, fun _ => ⟨rfl, hm, fun b' r' h => ?_, Nat.le_refl _⟩⟩
      injection h with h1 h2
      subst h1; exact hs
end
end Go.Proofs.YtoeanbfemgmgnaaGreatDoor

namespace Go.Proofs.YtoeanbfemgmgnaaGreatDoor
open Go.RowKit
set_option linter.unusedVariables false
set_option linter.unusedSimpArgs false

section
variable {d q e : Int}
theorem mch_st {t t' b : Int} {m : Mk} {i : Nat} {r : List Int} (h : stepR d q e t b = stepR d q e t' b) : mch d q e t m i (b :: r) = mch d q e t' m i (b :: r) := by
  rw [mch, mch, h]
theorem mch_nil12 {m : Mk} {i : Nat} : mch d q e 1 m i [] = mch d q e 2 m i [] := by
  rw [mch, mch, show closeK 1 = closeK 2 from rfl, show closeE 1 = closeE 2 from rfl]
theorem mch_nil42 {m : Mk} {i : Nat} : mch d q e 4 m i [] = mch d q e 2 m i [] := by
  rw [mch, mch, show closeK 4 = closeK 2 from rfl, show closeE 4 = closeE 2 from rfl]
theorem mch_nil0 {m : Mk} {i : Nat} (h : m.er = 0) : mch d q e 0 m i [] = ⟨[], 0, 0⟩ := by
  have t := take_0 h
  rw [mch, show closeK 0 = 0 from rfl, show closeE 0 = ev0 from rfl, if_neg (by simp), if_neg (by rw [t.1]; simpa using h), if_neg (by rw [t.2]; simp)]

variable (hd : Dia d q e)
include hd
/-- A field, from its first byte on. -/
theorem mch_f (l : List Int) (m : Mk) (i : Nat) (hm : Mid m) (hf : m.fd = []) :
    ((fGo d q m.lf i l).k ≠ 0 → mch d q e 1 m i l = ⟨[], (fGo d q m.lf i l).k, (fGo d q m.lf i l).i⟩) ∧
    ((fGo d q m.lf i l).k = 0 → mch d q e 1 m i l = mch d q e 2 { m with fd := (fGo d q m.lf i l).f } (fGo d q m.lf i l).i (fGo d q m.lf i l).l ∧
      Mid { m with fd := (fGo d q m.lf i l).f } ∧ (∀ b r, (fGo d q m.lf i l).l = b :: r → stops d b = true) ∧ (fGo d q m.lf i l).l.length ≤ l.length) := by
  match l with
  | [] =>
    have := mch_b hd [] m i hm
    rw [hf] at this
    rw [fGo, mch_nil12]
    exact this
  | b :: r =>
    rw [fGo]
    by_cases hb : b = q
    · rw [if_pos hb, hb]
      have t := take_0 hm.er
      rw [mch_go (st1_q hd) (by rw [t.1]; exact hm.er) t.2, t.1]
      obtain ⟨q1, q2⟩ := mch_q hd r.length r m (i + 1) (Nat.le_refl _) hm
      rw [hf] at q1 q2
      generalize hx : qGo q m.lf [] (i + 1) r = x at q1 q2 ⊢
      obtain ⟨k, f, i', l'⟩ := x
      dsimp only at q1 q2
      by_cases hk : k = 0
      · obtain ⟨j1, j2, j3, j4⟩ := q2 hk
        subst hk
        rw [j1]
        match l', j3, j4 with
        | [], j3, j4 =>
          simp only [behind]
          refine ⟨fun h => absurd rfl h, fun _ => ⟨mch_nil42, j2, (fun b r h => by cases h), by simp⟩⟩
        | c :: r', j3, j4 =>
          simp only [List.length_cons] at j4
          cases hs : stops d c
          · simp only [behind, hs]
            exact ⟨fun _ => mch_k (st4_5 hd (j3 c r' rfl) hs) (show (5 : Int) ≠ 0 by decide), fun h => by simp at h⟩
          · simp only [behind, hs]
            refine ⟨fun h => absurd rfl h, fun _ => ⟨mch_st (st_same hd hs).1, j2, (fun b r h => ?_), by simp; omega⟩⟩
            injection h with h1 h2
            rw [← h1]; exact hs
      · rw [q1 hk]
        have : behind d ⟨k, f, i', l'⟩ = ⟨k, f, i', l'⟩ := if_pos hk
        rw [this]
        exact ⟨fun _ => rfl, fun h => absurd h hk⟩
    · rw [if_neg hb, mch_st (st1_b hd hb)]
      have := mch_b hd (b :: r) m i hm
      rw [hf] at this
      exact this
end

theorem mEndL_ok {m : Mk} (h : ¬ (mBound m = true ∧ ((mPut m).rc.length : Int) ≠ m.wd)) : mEndL m = mPut m := by
  unfold mEndL
  rw [mPut_len] at h
  rw [if_neg (by intro h'; exact h ⟨h'.1, by have := h'.2; omega⟩)]
theorem mEndL_no {m : Mk} (h : mBound m = true ∧ ((mPut m).rc.length : Int) ≠ m.wd) : (mEndL m).er = 10 := by
  unfold mEndL
  rw [mPut_len] at h
  rw [if_pos ⟨h.1, by have := h.2; omega⟩]
section
variable {d q e : Int} (hd : Dia d q e)
include hd
theorem st2_10 (he : e ≠ 2) : stepR d q e 2 10 = ⟨evRec, 0, 0⟩ := by
  have ho : oopB e 10 = false := by simp [oopB, he]
  simp [stepR, ho, bareR, firstR, Ne.symm hd.q10, parB, parE, parN, Ne.symm hd.d10]
theorem st2_13 (he : e ≠ 1) : stepR d q e 2 13 = ⟨⟨false, false, false, true, false, 0⟩, 5, 0⟩ := by
  have ho : oopB e 13 = false := by simp [oopB, he]
  simp [stepR, ho, bareR, firstR, Ne.symm hd.q13, parB, parE, parN, Ne.symm hd.d13]
theorem st2_d : stepR d q e 2 d = ⟨⟨false, false, true, false, false, 0⟩, 1, 0⟩ := by
  have ho : oopB e d = false := by simp [oopB, hd.d10, hd.d13]
  simp [stepR, ho, bareR, firstR, hd.dq, parB, parE, parN]
omit hd in
theorem st_oop10 (he : e = 2) (t : Int) (ht : t = 0 ∨ t = 2) : stepR d q e t 10 = ⟨ev0, 0, 6⟩ := by
  have ho : oopB e 10 = true := by simp [oopB, he]
  rcases ht with rfl | rfl <;> simp [stepR, ho]
omit hd in
theorem st_oop13 (he : e = 1) (t : Int) (ht : t = 0 ∨ t = 2) : stepR d q e t 13 = ⟨ev0, 0, 6⟩ := by
  have ho : oopB e 13 = true := by simp [oopB, he]
  rcases ht with rfl | rfl <;> simp [stepR, ho]
omit hd in
theorem st5_10 : stepR d q e 5 10 = ⟨⟨false, false, false, false, true, 0⟩, 0, 0⟩ := by simp [stepR, feedR]
omit hd in
theorem st5_b {b : Int} (h : b ≠ 10) : stepR d q e 5 b = ⟨ev0, 0, 6⟩ := by simp [stepR, feedR, h]

/-- What stands behind a record's last field. -/
theorem mch_end (m : Mk) (i : Nat) (l : List Int) (hm : m.er = 0) (hl : ∀ b r, l = b :: r → b = 10 ∨ b = 13) :
    ((lnEnd e (mPut m) i l).k ≠ 0 → mch d q e 2 m i l = ⟨[], (lnEnd e (mPut m) i l).k, (lnEnd e (mPut m) i l).at_⟩) ∧
    ((lnEnd e (mPut m) i l).k = 0 → mch d q e 2 m i l = (mch d q e 0 (mOut (mPut m)) (lnEnd e (mPut m) i l).i (lnEnd e (mPut m) i l).l).more (mPut m).rc (lnEnd e (mPut m) i l).e ∧
      (lnEnd e (mPut m) i l).rc = (mPut m).rc ∧ (lnEnd e (mPut m) i l).l.length ≤ l.length - 1) := by
  have hb : mBound (mPut m) = mBound m := rfl
  have hw : (mPut m).wd = m.wd := rfl
  have h0 : (mPut m).er = 0 := hm
  match l, hl with
  | [], hl =>
    rw [lnEnd, hb, hw]
    by_cases hx : mBound m = true ∧ ((mPut m).rc.length : Int) ≠ m.wd
    · rw [if_pos hx]
      have e10 := mEndL_no hx
      have t := take_rec2 hm (by rw [e10]; decide)
      refine ⟨fun _ => ?_, fun h => by cases h⟩
      rw [mch, show closeK 2 = 0 from rfl, show closeE 2 = evRec from rfl, if_neg (by simp), if_pos (by rw [t.1, e10]; decide), t.1, e10]
    · rw [if_neg hx]
      have eo := mEndL_ok hx
      have t := take_rec1 hm (by rw [eo]; exact h0)
      rw [eo] at t
      refine ⟨fun h => absurd rfl h, fun _ => ⟨?_, rfl, Nat.le_refl _⟩⟩
      have h9 : (mOut (mPut m)).er = 0 := h0
      rw [mch_nil0 h9, mch, show closeK 2 = 0 from rfl, show closeE 2 = evRec from rfl, if_neg (by simp), if_neg (by rw [t.1]; simpa using h9), if_pos t.2.1, t.2.2]
      rfl
  | b :: r, hl =>
    rw [lnEnd, hb, hw]
    by_cases h10 : b = 10
    · rw [if_pos h10, h10]
      by_cases he : e = 2
      · rw [if_pos he]
        exact ⟨fun _ => mch_k (st_oop10 he 2 (.inr rfl)) (show (6 : Int) ≠ 0 by decide), fun h => by cases h⟩
      · rw [if_neg he]
        by_cases hx : mBound m = true ∧ ((mPut m).rc.length : Int) ≠ m.wd
        · rw [if_pos hx]
          have e10 := mEndL_no hx
          have t := take_rec2 hm (by rw [e10]; decide)
          refine ⟨fun _ => ?_, fun h => by cases h⟩
          rw [mch_e (st2_10 hd he) (by rw [t.1, e10]; decide), t.1, e10]
        · rw [if_neg hx]
          have eo := mEndL_ok hx
          have t := take_rec1 hm (by rw [eo]; exact h0)
          rw [eo] at t
          refine ⟨fun h => absurd rfl h, fun _ => ⟨?_, rfl, by simp⟩⟩
          rw [mch_rec (st2_10 hd he) (by rw [t.1]; exact h0) t.2.1, t.1, t.2.2]
    · have h13 : b = 13 := (hl b r rfl).resolve_left h10
      rw [if_neg h10, h13]
      by_cases he : e = 1
      · rw [if_pos he]
        exact ⟨fun _ => mch_k (st_oop13 he 2 (.inr rfl)) (show (6 : Int) ≠ 0 by decide), fun h => by cases h⟩
      · rw [if_neg he]
        have t := take_li hm
        by_cases hx : mBound m = true ∧ ((mPut m).rc.length : Int) ≠ m.wd
        · rw [if_pos hx]
          have e10 := mEndL_no hx
          refine ⟨fun _ => ?_, fun h => by cases h⟩
          rw [mch_e (st2_13 hd he) (by rw [t.1, e10]; decide), t.1, e10]
        · rw [if_neg hx]
          have eo := mEndL_ok hx
          have s1 : mch d q e 2 m i (13 :: r) = mch d q e 5 (mPut m) (i + 1) r := by
            rw [mch_go (st2_13 hd he) (by rw [t.1, eo]; exact h0) t.2, t.1, eo]
          rw [s1]
          match r with
          | [] => exact ⟨fun _ => by rw [mch, if_pos (by decide)]; rfl, fun h => by cases h⟩
          | c :: r' =>
            rw [lnCr]
            by_cases hc : c = 10
            · rw [if_pos hc, hc]
              have t2 := take_re h0
              refine ⟨fun h => absurd rfl h, fun _ => ⟨?_, rfl, by simp⟩⟩
              rw [mch_rec st5_10 (by rw [t2.1]; exact h0) t2.2.1, t2.1, t2.2.2]
            · rw [if_neg hc]
              exact ⟨fun _ => mch_k (st5_b hc) (show (6 : Int) ≠ 0 by decide), fun h => by cases h⟩
end
end Go.Proofs.YtoeanbfemgmgnaaGreatDoor

namespace Go.Proofs.YtoeanbfemgmgnaaGreatDoor
open Go.RowKit
set_option linter.unusedVariables false
set_option linter.unusedSimpArgs false

theorem mPut_with {m : Mk} (hf : m.fd = []) (f : List Int) : mPut { m with fd := f } = { m with rc := m.rc ++ [toBA f] } := by
  cases m; dsimp only at hf; subst hf; rfl
theorem mEndF8 {m : Mk} (h : m.ls ≤ (m.rc.length : Int) + 1) : (mEndF m).er = 8 := by unfold mEndF; rw [if_pos h]
theorem mEndF10 {m : Mk} (h : ¬ m.ls ≤ (m.rc.length : Int) + 1) (k : mBound m = true ∧ (m.rc.length : Int) + 1 = m.wd) : (mEndF m).er = 10 := by unfold mEndF; rw [if_neg h, if_pos k]
theorem mEndF_go {m : Mk} (h : ¬ m.ls ≤ (m.rc.length : Int) + 1) (k : ¬ (mBound m = true ∧ (m.rc.length : Int) + 1 = m.wd)) : mEndF m = mPut m := by unfold mEndF; rw [if_neg h, if_neg k]
section
variable {d q e : Int} (hd : Dia d q e)
include hd
theorem mch_line : ∀ (n : Nat) (l : List Int) (m : Mk) (i : Nat), l.length < n → Mid m → m.fd = [] →
    ((lnGo d q e n m i l).k ≠ 0 → mch d q e 1 m i l = ⟨[], (lnGo d q e n m i l).k, (lnGo d q e n m i l).at_⟩) ∧
    ((lnGo d q e n m i l).k = 0 → mch d q e 1 m i l = (mch d q e 0 (mOut { m with rc := (lnGo d q e n m i l).rc }) (lnGo d q e n m i l).i (lnGo d q e n m i l).l).more (lnGo d q e n m i l).rc (lnGo d q e n m i l).e ∧
      (lnGo d q e n m i l).l.length ≤ l.length - 1)
  | 0, l, m, i, hn, hm, hf => by omega
  | n + 1, l, m, i, hn, hm, hf => by
    obtain ⟨f1, f2⟩ := mch_f hd l m i hm hf
    rw [lnGo]
    generalize fGo d q m.lf i l = F at f1 f2 ⊢
    obtain ⟨k, f, i', l'⟩ := F
    dsimp only at f1 f2 ⊢
    by_cases hk : k = 0
    · subst hk
      rw [if_neg (by simp)]
      obtain ⟨g1, g2, g3, g4⟩ := f2 rfl
      rw [g1]
      have hp := mPut_with hf f
      match l', g2, g3, g4 with
      | [], g2, g3, g4 =>
        have h := mch_end hd { m with fd := f } i' [] g2.er (fun b r h => by cases h)
        rw [hp] at h
        refine ⟨h.1, fun hk => ?_⟩
        obtain ⟨h1, h2, h3⟩ := h.2 hk
        dsimp only at h1 h2 h3 ⊢
        refine ⟨?_, Nat.le_trans h3 (by simp)⟩
        rw [h1, h2]
      | b :: r, g2, g3, g4 =>
        simp only [List.length_cons] at g4
        by_cases hb : b = d
        · dsimp only
          rw [if_pos hb, hb]
          have t := take_fi (m := { m with fd := f }) g2.er
          have h8 := g2.rc
          dsimp only at h8
          by_cases hl : (m.rc.length : Int) + 1 = m.ls
          · rw [if_pos hl]
            have e8 : (mEndF { m with fd := f }).er = 8 := mEndF8 (show m.ls ≤ (m.rc.length : Int) + 1 by omega)
            refine ⟨fun _ => ?_, fun h => by cases h⟩
            rw [mch_e (st2_d hd) (by rw [t.1, e8]; decide), t.1, e8]
          · rw [if_neg hl]
            by_cases hw : mBound m = true ∧ (m.rc.length : Int) + 1 = m.wd
            · rw [if_pos hw]
              have e10 : (mEndF { m with fd := f }).er = 10 := mEndF10 (show ¬ m.ls ≤ (m.rc.length : Int) + 1 by omega) hw
              refine ⟨fun _ => ?_, fun h => by cases h⟩
              rw [mch_e (st2_d hd) (by rw [t.1, e10]; decide), t.1, e10]
            · rw [if_neg hw]
              have eo : mEndF { m with fd := f } = mPut { m with fd := f } := mEndF_go (show ¬ m.ls ≤ (m.rc.length : Int) + 1 by omega) hw
              have hm2 : Mid { m with rc := m.rc ++ [toBA f] } := ⟨hm.er, hm.fd, by simp; omega⟩
              rw [mch_go (st2_d hd) (by rw [t.1, eo]; exact hm.er) t.2, t.1, eo, hp]
              obtain ⟨i1, i2⟩ := mch_line n r { m with rc := m.rc ++ [toBA f] } (i' + 1) (by omega) hm2 hf
              refine ⟨i1, fun h => ?_⟩
              obtain ⟨j1, j2⟩ := i2 h
              exact ⟨j1, by omega⟩
        · dsimp only
          rw [if_neg hb]
          have hs := g3 b r rfl
          have h := mch_end hd { m with fd := f } i' (b :: r) g2.er (fun b' r' h => by
            injection h with h1 h2
            subst h1
            simp [stops] at hs; omega)
          rw [hp] at h
          refine ⟨h.1, fun hk => ?_⟩
          obtain ⟨h1, h2, h3⟩ := h.2 hk
          dsimp only at h1 h2
          simp only [List.length_cons] at h3
          refine ⟨?_, by omega⟩
          rw [h1, h2]
    · rw [if_pos hk, f1 hk]
      exact ⟨fun _ => rfl, fun h => absurd h hk⟩

omit hd in
theorem st0_10 (he : e ≠ 2) : stepR d q e 0 10 = ⟨ev0, 0, 0⟩ := by
  have ho : oopB e 10 = false := by simp [oopB, he]
  simp [stepR, ho, aheadR]
omit hd in
theorem st0_13 (he : e ≠ 1) : stepR d q e 0 13 = ⟨ev0, 6, 0⟩ := by
  have ho : oopB e 13 = false := by simp [oopB, he]
  simp [stepR, ho, aheadR]
omit hd in
theorem st6_10 : stepR d q e 6 10 = ⟨ev0, 0, 0⟩ := by simp [stepR, feedR]
omit hd in
theorem st6_b {b : Int} (h : b ≠ 10) : stepR d q e 6 b = ⟨ev0, 0, 6⟩ := by simp [stepR, feedR, h]
omit hd in
theorem st0_b {b : Int} (h10 : b ≠ 10) (h13 : b ≠ 13) : stepR d q e 0 b = ⟨{ (stepR d q e 1 b).ev with bg := true }, (stepR d q e 1 b).n, 0⟩ ∧ (stepR d q e 1 b).k = 0 ∧ (stepR d q e 1 b).ev.bg = false := by
  have ho : oopB e b = false := by simp [oopB, h10, h13]
  have h0 : stepR d q e 0 b = aheadR d q b := by simp [stepR, ho]
  have h1 : stepR d q e 1 b = firstR d q b := by simp [stepR, ho]
  have hk : (firstR d q b).k = 0 := by unfold firstR; (repeat' split) <;> rfl
  have hb : (firstR d q b).ev.bg = false := by
    unfold firstR parE evRec evAdd ev0
    (repeat' split) <;> rfl
  rw [h0, h1]
  refine ⟨?_, hk, hb⟩
  unfold aheadR
  rw [if_neg h13, if_neg h10, hk]
omit hd in
theorem take_bg {m : Mk} (h : m.er = 0) {v : Ev} (hv : v.bg = false) (hb : m.bg < m.lr) : mTake { v with bg := true } m = mTake v { m with bg := m.bg + 1 } ∧ mTold { v with bg := true } m = mTold v { m with bg := m.bg + 1 } ∧ mRec { v with bg := true } m = mRec v { m with bg := m.bg + 1 } := by
  have h1 : mB true m = { m with bg := m.bg + 1 } := by unfold mB; rw [if_pos rfl, if_neg (by omega)]
  have h2 : mB false { m with bg := m.bg + 1 } = { m with bg := m.bg + 1 } := rfl
  have hg : mGather { v with bg := true } m = mGather v { m with bg := m.bg + 1 } := by
    unfold mGather
    dsimp only
    rw [h1, hv, h2]
  have h3 : mTold { v with bg := true } m = mTold v { m with bg := m.bg + 1 } := by
    unfold mTold
    rw [hg]
  refine ⟨?_, h3, ?_⟩
  · unfold mTake
    rw [mThen_go h, mThen_go (show ({ m with bg := m.bg + 1 } : Mk).er = 0 from h), hg]
  · unfold mRec
    rw [h3, hg]
omit hd in
theorem take_bg9 {m : Mk} (h : m.er = 0) {v : Ev} (hb : m.bg = m.lr) : (mTake { v with bg := true } m).er = 9 := by
  have h1 : mB true m = { m with er := 9 } := by unfold mB; rw [if_pos rfl, if_pos (by omega)]
  have hg : mGather { v with bg := true } m = { m with er := 9 } := by
    unfold mGather
    dsimp only
    have s9 : ({ m with er := 9 } : Mk).er ≠ 0 := by show (9 : Int) ≠ 0; decide
    rw [h1, mThen_stop s9, mThen_stop s9, mThen_stop s9]
  rw [mTake1 h (by rw [hg]; simp), hg]

/-- All bytes of a text, one by one, come to what its grammar says. -/
theorem mch_all : ∀ (n : Nat) (l : List Int) (m : Mk) (i : Nat), l.length < n → m.er = 0 → m.fd = [] → m.rc = [] → 0 ≤ m.lf → 0 < m.ls → m.bg ≤ m.lr → mch d q e 0 m i l = rdGo d q e n m i l
  | 0, l, m, i, hn, _, _, _, _, _, _ => by omega
  | n + 1, [], m, i, hn, h0, _, _, _, _, _ => by rw [mch_nil0 h0, rdGo]
  | n + 1, b :: r, m, i, hn, h0, hf, hr, hlf, hls, hbg => by
    simp only [List.length_cons] at hn
    rw [rdGo]
    have t := take_0 h0
    by_cases h10 : b = 10
    · rw [if_pos h10, h10]
      by_cases he : e = 2
      · rw [if_pos he]; exact mch_k (st_oop10 he 0 (.inl rfl)) (show (6 : Int) ≠ 0 by decide)
      · rw [if_neg he, mch_go (st0_10 he) (by rw [t.1]; exact h0) t.2, t.1]
        exact mch_all n r m (i + 1) (by omega) h0 hf hr hlf hls hbg
    · rw [if_neg h10]
      by_cases h13 : b = 13
      · rw [if_pos h13, h13]
        by_cases he : e = 1
        · rw [if_pos he]; exact mch_k (st_oop13 he 0 (.inl rfl)) (show (6 : Int) ≠ 0 by decide)
        · rw [if_neg he, mch_go (st0_13 he) (by rw [t.1]; exact h0) t.2, t.1]
          match r with
          | [] => rw [if_neg (by simp), mch, if_pos (by decide)]; rfl
          | c :: r' =>
            simp only [List.length_cons] at hn
            by_cases hc : c = 10
            · rw [if_pos (by rw [hc]; rfl), hc, mch_go st6_10 (by rw [t.1]; exact h0) t.2, t.1]
              exact mch_all n r' m (i + 2) (by omega) h0 hf hr hlf hls hbg
            · rw [if_neg (by simpa using hc)]; exact mch_k (st6_b hc) (show (6 : Int) ≠ 0 by decide)
      · rw [if_neg h13]
        obtain ⟨s1, s2, s3⟩ := st0_b (d := d) (q := q) (e := e) h10 h13
        by_cases hb : m.bg = m.lr
        · rw [if_pos hb, mch_e s1 (by rw [take_bg9 h0 hb]; decide), take_bg9 h0 hb]
        · rw [if_neg hb]
          obtain ⟨t1, t2, t3⟩ := take_bg h0 s3 (by omega)
          have hs : mch d q e 0 m i (b :: r) = mch d q e 1 { m with bg := m.bg + 1 } i (b :: r) := by
            rw [mch, mch, s1, s2]
            dsimp only
            rw [t1, t2, t3]
          rw [hs]
          have hm1 : Mid { m with bg := m.bg + 1 } := ⟨h0, by show (m.fd.length : Int) ≤ m.lf; rw [hf]; simpa using hlf, by show (m.rc.length : Int) < m.ls; rw [hr]; simpa using hls⟩
          obtain ⟨l1, l2⟩ := mch_line hd (r.length + 2) (b :: r) { m with bg := m.bg + 1 } i (by simp) hm1 hf
          by_cases hk : (lnGo d q e (r.length + 2) { m with bg := m.bg + 1 } i (b :: r)).k = 0
          · rw [if_neg (by simpa using hk)]
            obtain ⟨j1, j2⟩ := l2 hk
            rw [j1]
            simp only [List.length_cons] at j2
            congr 1
            exact mch_all n _ _ _ (by omega) h0 hf rfl hlf hls (by show m.bg + 1 ≤ m.lr; omega)
          · rw [if_pos hk, l1 hk]
end
end Go.Proofs.YtoeanbfemgmgnaaGreatDoor

namespace Go.Proofs.YtoeanbfemgmgnaaGreatDoor
set_option linter.unusedVariables false

/-- Does a byte go on from a state? -/
def utOk (s b : Int) : Bool :=
  if s = 0 then decide (b ≤ 127 ∨ (194 ≤ b ∧ b ≤ 244))
  else if s = 1 ∨ s = 2 ∨ s = 3 then decide (128 ≤ b ∧ b ≤ 191)
  else if s = 4 then decide (160 ≤ b ∧ b ≤ 191)
  else if s = 5 then decide (128 ≤ b ∧ b ≤ 159)
  else if s = 6 then decide (144 ≤ b ∧ b ≤ 191)
  else if s = 7 then decide (128 ≤ b ∧ b ≤ 143)
  else false
/-- The state of a first byte. -/
def utFi (b : Int) : Int := if b ≤ 127 then 0 else if b ≤ 223 then 1 else if b = 224 then 4 else if b = 237 then 5 else if b ≤ 239 then 2 else if b = 240 then 6 else if b ≤ 243 then 3 else 7
/-- The state behind a byte; 0 where it doesn't go on. -/
def utNx (s b : Int) : Int := if utOk s b = true then (if s = 0 then utFi b else if s = 1 then 0 else if s = 2 ∨ s = 4 ∨ s = 5 then 1 else 2) else 0

/-- The state behind as many bytes as go on. -/
def utRs : Int → List Int → Int
  | s, [] => s
  | s, b :: r => if utOk s b = true then utRs (utNx s b) r else s
/-- How many go on. -/
def utRn : Int → List Int → Nat
  | _, [] => 0
  | s, b :: r => if utOk s b = true then utRn (utNx s b) r + 1 else 0
/-- The longest beginning: state, place, the longest so far. -/
def utLon : Int → Nat → Nat → List Int → Nat
  | _, _, lg, [] => lg
  | s, k, lg, b :: r => if utOk s b = true then utLon (utNx s b) (k + 1) (if utNx s b = 0 then k + 1 else lg) r else lg

theorem utRn_le (s : Int) (l : List Int) : utRn s l ≤ l.length := by
  induction l generalizing s with
  | nil => simp [utRn]
  | cons b r ih => simp only [utRn]; split; · simpa using ih _
                   · simp
/-- All of the first text goes on: the second one goes on from there. -/
theorem utR_app (s : Int) (a b : List Int) (h : utRn s a = a.length) : utRs s (a ++ b) = utRs (utRs s a) b ∧ utRn s (a ++ b) = a.length + utRn (utRs s a) b := by
  induction a generalizing s with
  | nil => simp [utRs]
  | cons x r ih =>
    simp only [utRn] at h
    split at h
    · rename_i hx
      obtain ⟨h1, h2⟩ := ih _ (by simpa using h)
      simp only [List.cons_append, utRs, utRn, if_pos hx, h1, h2, List.length_cons]
      exact ⟨trivial, by omega⟩
    · simp at h
theorem utLon_app (s : Int) (k lg : Nat) (a b : List Int) (h : utRn s a = a.length) : utLon s k lg (a ++ b) = utLon (utRs s a) (k + a.length) (utLon s k lg a) b := by
  induction a generalizing s k lg with
  | nil => simp [utRs, utLon]
  | cons x r ih =>
    simp only [utRn] at h
    split at h
    · rename_i hx
      simp only [List.cons_append, utLon, utRs, if_pos hx, ih _ _ _ (by simpa using h), List.length_cons]
      congr 1
      omega
    · simp at h
theorem utLon_shift (s : Int) (k lg j : Nat) (l : List Int) : utLon s (k + j) (lg + j) l = utLon s k lg l + j := by
  induction l generalizing s k lg with
  | nil => simp [utLon]
  | cons x r ih =>
    simp only [utLon]
    split
    · have := ih (utNx s x) (k + 1) (if utNx s x = 0 then k + 1 else lg)
      rw [← this]
      congr 1
      · omega
      · split <;> omega
    · rfl
/-- A text that goes on whole and ends in state 0 is its own longest beginning. -/
theorem utLon_all (s : Int) (k lg : Nat) (l : List Int) (h : utRn s l = l.length) (h0 : utRs s l = 0) (hs : s = 0 → lg = k) : utLon s k lg l = k + l.length := by
  induction l generalizing s k lg with
  | nil => simp [utRs] at h0; simp [utLon, hs h0]
  | cons x r ih =>
    simp only [utRn] at h
    split at h
    · rename_i hx
      simp only [utRs, if_pos hx] at h0
      simp only [utLon, if_pos hx, List.length_cons]
      rw [ih (utNx s x) (k + 1) _ (by simpa using h) h0 (by intro e; rw [if_pos e])]
      omega
    · simp at h
/-! ### The document's sequences -/
def utB (l : List Int) (i : Nat) : Int := (l[i]?).getD 0
def utS1 (a : Int) : Prop := a ≤ 127
def utS2 (a b : Int) : Prop := 194 ≤ a ∧ a ≤ 223 ∧ 128 ≤ b ∧ b ≤ 191
def utP3 (a b : Int) : Prop := (a = 224 ∧ 160 ≤ b ∧ b ≤ 191) ∨ (a = 237 ∧ 128 ≤ b ∧ b ≤ 159) ∨ (225 ≤ a ∧ a ≤ 239 ∧ a ≠ 237 ∧ 128 ≤ b ∧ b ≤ 191)
def utP4 (a b : Int) : Prop := (a = 240 ∧ 144 ≤ b ∧ b ≤ 191) ∨ (a = 244 ∧ 128 ≤ b ∧ b ≤ 143) ∨ (241 ≤ a ∧ a ≤ 243 ∧ 128 ≤ b ∧ b ≤ 191)
def utS3 (a b c : Int) : Prop := utP3 a b ∧ 128 ≤ c ∧ c ≤ 191
def utS4 (a b c d : Int) : Prop := utP4 a b ∧ 128 ≤ c ∧ c ≤ 191 ∧ 128 ≤ d ∧ d ≤ 191
instance (a : Int) : Decidable (utS1 a) := by unfold utS1; infer_instance
instance (a b : Int) : Decidable (utS2 a b) := by unfold utS2; infer_instance
instance (a b : Int) : Decidable (utP3 a b) := by unfold utP3; infer_instance
instance (a b : Int) : Decidable (utP4 a b) := by unfold utP4; infer_instance
instance (a b c : Int) : Decidable (utS3 a b c) := by unfold utS3; infer_instance
instance (a b c d : Int) : Decidable (utS4 a b c d) := by unfold utS4; infer_instance
/-- Is the beginning of n bytes a sequence? -/
def utHit (l : List Int) (n : Nat) : Bool :=
  decide (n ≤ l.length) && match n with
    | 1 => decide (utS1 (utB l 0))
    | 2 => decide (utS2 (utB l 0) (utB l 1))
    | 3 => decide (utS3 (utB l 0) (utB l 1) (utB l 2))
    | 4 => decide (utS4 (utB l 0) (utB l 1) (utB l 2) (utB l 3))
    | _ => false
def utSize (l : List Int) : Nat := if utHit l 1 = true then 1 else if utHit l 2 = true then 2 else if utHit l 3 = true then 3 else if utHit l 4 = true then 4 else 0

theorem utHit_0 (n : Nat) (h : 1 ≤ n) : utHit [] n = false := by
  match n, h with
  | n + 1, _ => simp [utHit]
theorem utSize_nil : utSize [] = 0 := by simp [utSize, utHit_0]
theorem utSize_1 (a : Int) : utSize [a] = if utS1 a then 1 else 0 := by simp [utSize, utHit, utB]
theorem utSize_2 (a b : Int) : utSize [a, b] = if utS1 a then 1 else if utS2 a b then 2 else 0 := by simp [utSize, utHit, utB]
theorem utSize_3 (a b c : Int) : utSize [a, b, c] = if utS1 a then 1 else if utS2 a b then 2 else if utS3 a b c then 3 else 0 := by simp [utSize, utHit, utB]
theorem utSize_4 (a b c d : Int) (r : List Int) : utSize (a :: b :: c :: d :: r) = if utS1 a then 1 else if utS2 a b then 2 else if utS3 a b c then 3 else if utS4 a b c d then 4 else 0 := by
  simp [utSize, utHit, utB]
theorem utSize_le (l : List Int) : utSize l ≤ l.length ∧ utSize l ≤ 4 := by
  have h : ∀ n, utHit l n = true → n ≤ l.length := fun n h => by simp only [utHit, Bool.and_eq_true, decide_eq_true_eq] at h; exact h.1
  unfold utSize
  (repeat' split) <;> first | exact ⟨h _ (by assumption), by omega⟩ | exact ⟨by omega, by omega⟩
end Go.Proofs.YtoeanbfemgmgnaaGreatDoor

namespace Go.Proofs.YtoeanbfemgmgnaaGreatDoor
set_option linter.unusedVariables false

theorem ut_cls (a : Int) : (a ≤ 127 ∧ utOk 0 a = true ∧ utNx 0 a = 0) ∨ (194 ≤ a ∧ a ≤ 223 ∧ utOk 0 a = true ∧ utNx 0 a = 1) ∨ (a = 224 ∧ utOk 0 a = true ∧ utNx 0 a = 4) ∨ (a = 237 ∧ utOk 0 a = true ∧ utNx 0 a = 5) ∨
    (225 ≤ a ∧ a ≤ 239 ∧ a ≠ 237 ∧ utOk 0 a = true ∧ utNx 0 a = 2) ∨ (a = 240 ∧ utOk 0 a = true ∧ utNx 0 a = 6) ∨ (241 ≤ a ∧ a ≤ 243 ∧ utOk 0 a = true ∧ utNx 0 a = 3) ∨ (a = 244 ∧ utOk 0 a = true ∧ utNx 0 a = 7) ∨
    (((128 ≤ a ∧ a ≤ 193) ∨ 245 ≤ a) ∧ utOk 0 a = false ∧ utNx 0 a = 0) := by
  unfold utNx utOk utFi
  by_cases h1 : a ≤ 127
  · simp [h1]
  by_cases h2 : a ≤ 193
  · simp; omega
  by_cases h3 : a ≤ 223
  · simp; omega
  by_cases h4 : a = 224
  · simp [h4]
  by_cases h5 : a = 237
  · simp [h5]
  by_cases h6 : a ≤ 239
  · simp [h4, h5]; omega
  by_cases h7 : a = 240
  · simp [h7]
  by_cases h8 : a ≤ 243
  · simp [h4, h5, h7]; omega
  by_cases h9 : a = 244
  · simp [h9]
  · simp; omega

theorem ut_two (a b : Int) (h0 : utOk 0 a = true) (h1 : utNx 0 a ≠ 0) : (utS2 a b ∧ utOk (utNx 0 a) b = true ∧ utNx (utNx 0 a) b = 0) ∨ (utP3 a b ∧ utOk (utNx 0 a) b = true ∧ utNx (utNx 0 a) b = 1) ∨
    (utP4 a b ∧ utOk (utNx 0 a) b = true ∧ utNx (utNx 0 a) b = 2) ∨ (¬ utS2 a b ∧ ¬ utP3 a b ∧ ¬ utP4 a b ∧ utOk (utNx 0 a) b = false) := by
  rcases ut_cls a with ⟨c, _, e⟩ | ⟨c, d, _, e⟩ | ⟨c, _, e⟩ | ⟨c, _, e⟩ | ⟨c, d, f, _, e⟩ | ⟨c, _, e⟩ | ⟨c, d, _, e⟩ | ⟨c, _, e⟩ | ⟨c, d, e⟩
  · exact absurd e h1
  all_goals try (rw [d] at h0; cases h0; done)
  all_goals
    rw [e]
    clear h0 h1 e
    unfold utS2 utP3 utP4 utNx
    simp only [utOk]
    by_cases k : 128 ≤ b ∧ b ≤ 191
    all_goals simp
    all_goals omega
theorem ut_ok1 (b : Int) : utOk 1 b = decide (128 ≤ b ∧ b ≤ 191) := by simp [utOk]
theorem ut_ok2 (b : Int) : utOk 2 b = decide (128 ≤ b ∧ b ≤ 191) := by simp [utOk]
theorem ut_nx1 (b : Int) : utNx 1 b = 0 := by simp [utNx]
theorem ut_nx2 (b : Int) (h : 128 ≤ b ∧ b ≤ 191) : utNx 2 b = 1 := by simp [utNx, ut_ok2, h]
theorem ut_ok0 (a : Int) : utOk 0 a = true ↔ a ≤ 127 ∨ (194 ≤ a ∧ a ≤ 244) := by simp [utOk]
theorem ut_nx0 (a : Int) (h : utOk 0 a = true) : utNx 0 a = 0 ↔ utS1 a := by
  unfold utS1
  rcases ut_cls a with ⟨c, _, e⟩ | ⟨c, d, _, e⟩ | ⟨c, _, e⟩ | ⟨c, _, e⟩ | ⟨c, d, f, _, e⟩ | ⟨c, _, e⟩ | ⟨c, d, _, e⟩ | ⟨c, _, e⟩ | ⟨c, d, e⟩
  all_goals try (rw [d] at h; cases h; done)
  all_goals (rw [e]; constructor <;> intro <;> omega)
theorem utS2_ok {a b : Int} (h : utS2 a b) : utOk 0 a = true ∧ ¬ utS1 a := by rw [ut_ok0]; unfold utS1; unfold utS2 at h; omega
theorem utP3_ok {a b : Int} (h : utP3 a b) : utOk 0 a = true ∧ ¬ utS1 a := by rw [ut_ok0]; unfold utS1; unfold utP3 at h; omega
theorem utP4_ok {a b : Int} (h : utP4 a b) : utOk 0 a = true ∧ ¬ utS1 a := by rw [ut_ok0]; unfold utS1; unfold utP4 at h; omega
theorem ut_excl {a b : Int} : ¬ (utS2 a b ∧ utP3 a b) ∧ ¬ (utS2 a b ∧ utP4 a b) ∧ ¬ (utP3 a b ∧ utP4 a b) := by unfold utS2 utP3 utP4; omega
/-- The second byte's state. -/
theorem ut_nxS2 {a b : Int} (h : utS2 a b) : utOk (utNx 0 a) b = true ∧ utNx (utNx 0 a) b = 0 := by
  obtain ⟨o, n⟩ := utS2_ok h
  rcases ut_two a b o (fun e => n ((ut_nx0 a o).1 e)) with ⟨_, x, y⟩ | ⟨k, _⟩ | ⟨k, _⟩ | ⟨k, _⟩
  · exact ⟨x, y⟩
  · exact absurd ⟨h, k⟩ ut_excl.1
  · exact absurd ⟨h, k⟩ ut_excl.2.1
  · exact absurd h k
theorem ut_nxP3 {a b : Int} (h : utP3 a b) : utOk (utNx 0 a) b = true ∧ utNx (utNx 0 a) b = 1 := by
  obtain ⟨o, n⟩ := utP3_ok h
  rcases ut_two a b o (fun e => n ((ut_nx0 a o).1 e)) with ⟨k, _⟩ | ⟨_, x, y⟩ | ⟨k, _⟩ | ⟨_, k, _⟩
  · exact absurd ⟨k, h⟩ ut_excl.1
  · exact ⟨x, y⟩
  · exact absurd ⟨h, k⟩ ut_excl.2.2
  · exact absurd h k
theorem ut_nxP4 {a b : Int} (h : utP4 a b) : utOk (utNx 0 a) b = true ∧ utNx (utNx 0 a) b = 2 := by
  obtain ⟨o, n⟩ := utP4_ok h
  rcases ut_two a b o (fun e => n ((ut_nx0 a o).1 e)) with ⟨k, _⟩ | ⟨k, _⟩ | ⟨_, x, y⟩ | ⟨_, _, k, _⟩
  · exact absurd ⟨k, h⟩ ut_excl.2.1
  · exact absurd ⟨k, h⟩ ut_excl.2.2
  · exact ⟨x, y⟩
  · exact absurd h k

/-- Of a text that begins with a sequence: it goes on whole, and back to state 0. -/
theorem ut_F1 (l : List Int) (h : 0 < utSize l) : utRn 0 (l.take (utSize l)) = utSize l ∧ utRs 0 (l.take (utSize l)) = 0 := by
  have hS1 : ∀ a, utS1 a → utRn 0 [a] = 1 ∧ utRs 0 [a] = 0 := fun a h => by
    have o : utOk 0 a = true := by rw [ut_ok0]; unfold utS1 at h; omega
    simp [utRn, utRs, o, (ut_nx0 a o).2 h]
  have hS2 : ∀ a b, utS2 a b → utRn 0 [a, b] = 2 ∧ utRs 0 [a, b] = 0 := fun a b h => by
    obtain ⟨o, n⟩ := utS2_ok h
    obtain ⟨x, y⟩ := ut_nxS2 h
    simp [utRn, utRs, o, x, y]
  have hS3 : ∀ a b c, utS3 a b c → utRn 0 [a, b, c] = 3 ∧ utRs 0 [a, b, c] = 0 := fun a b c h => by
    obtain ⟨h, k⟩ := h
    obtain ⟨o, n⟩ := utP3_ok h
    obtain ⟨x, y⟩ := ut_nxP3 h
    simp [utRn, utRs, o, x, y, ut_ok1, ut_nx1, k]
  have hS4 : ∀ a b c d, utS4 a b c d → utRn 0 [a, b, c, d] = 4 ∧ utRs 0 [a, b, c, d] = 0 := fun a b c d h => by
    obtain ⟨h, k1, k2, k3, k4⟩ := h
    obtain ⟨o, n⟩ := utP4_ok h
    obtain ⟨x, y⟩ := ut_nxP4 h
    simp [utRn, utRs, o, x, y, ut_ok1, ut_nx1, ut_ok2, ut_nx2 c ⟨k1, k2⟩, k1, k2, k3, k4]
  rcases l with _ | ⟨a, _ | ⟨b, _ | ⟨c, _ | ⟨d, r⟩⟩⟩⟩
  · rw [utSize_nil] at h; omega
  · rw [utSize_1] at h ⊢
    split at h
    · rename_i k; simp only [if_pos k]; exact hS1 a k
    · omega
  · rw [utSize_2] at h ⊢
    split at h
    · rename_i k; simp only [if_pos k]; exact hS1 a k
    · rename_i k; simp only [if_neg k]
      split at h
      · rename_i k; simp only [if_pos k]; exact hS2 a b k
      · omega
  · rw [utSize_3] at h ⊢
    split at h
    · rename_i k; simp only [if_pos k]; exact hS1 a k
    · rename_i k; simp only [if_neg k]
      split at h
      · rename_i k; simp only [if_pos k]; exact hS2 a b k
      · rename_i k; simp only [if_neg k]
        split at h
        · rename_i k; simp only [if_pos k]; exact hS3 a b c k
        · omega
  · rw [utSize_4] at h ⊢
    split at h
    · rename_i k; simp only [if_pos k]; exact hS1 a k
    · rename_i k; simp only [if_neg k]
      split at h
      · rename_i k; simp only [if_pos k]; exact hS2 a b k
      · rename_i k; simp only [if_neg k]
        split at h
        · rename_i k; simp only [if_pos k]; exact hS3 a b c k
        · rename_i k; simp only [if_neg k]
          split at h
          · rename_i k; simp only [if_pos k]; exact hS4 a b c d k
          · omega
end Go.Proofs.YtoeanbfemgmgnaaGreatDoor

namespace Go.Proofs.YtoeanbfemgmgnaaGreatDoor
set_option linter.unusedVariables false

/-- Of a text that begins with no sequence: at most three bytes go on, and none of them ends one. -/
theorem ut_F2 (l : List Int) (h : utSize l = 0) : utLon 0 0 0 l = 0 ∧ utRn 0 l ≤ 3 ∧ (utRn 0 l = 0 ∨ utRs 0 l ≠ 0) := by
  rcases l with _ | ⟨a, l⟩
  · simp [utLon, utRn]
  cases o : utOk 0 a
  · simp [utLon, utRn, o]
  by_cases n : utS1 a
  · exfalso
    rcases l with _ | ⟨b, _ | ⟨c, _ | ⟨d, r⟩⟩⟩
    · rw [utSize_1, if_pos n] at h; cases h
    · rw [utSize_2, if_pos n] at h; cases h
    · rw [utSize_3, if_pos n] at h; cases h
    · rw [utSize_4, if_pos n] at h; cases h
  have n0 : utNx 0 a ≠ 0 := fun e => n ((ut_nx0 a o).1 e)
  rcases l with _ | ⟨b, l⟩
  · simp [utLon, utRn, utRs, o, n0]
  rcases ut_two a b o n0 with ⟨k, x, y⟩ | ⟨k, x, y⟩ | ⟨k, x, y⟩ | ⟨_, _, _, x⟩
  · exfalso
    rcases l with _ | ⟨c, _ | ⟨d, r⟩⟩
    · rw [utSize_2, if_neg n, if_pos k] at h; cases h
    · rw [utSize_3, if_neg n, if_pos k] at h; cases h
    · rw [utSize_4, if_neg n, if_pos k] at h; cases h
  · have k2 : ¬ utS2 a b := fun e => ut_excl.1 ⟨e, k⟩
    rcases l with _ | ⟨c, l⟩
    · simp [utLon, utRn, utRs, o, n0, x, y]
    by_cases z : 128 ≤ c ∧ c ≤ 191
    · exfalso
      rcases l with _ | ⟨d, r⟩
      · rw [utSize_3, if_neg n, if_neg k2, if_pos ⟨k, z⟩] at h; cases h
      · rw [utSize_4, if_neg n, if_neg k2, if_pos ⟨k, z⟩] at h; cases h
    · have z' : utOk 1 c = false := by rw [ut_ok1]; simpa using z
      simp [utLon, utRn, utRs, o, n0, x, y, z']
  · have k2 : ¬ utS2 a b := fun e => ut_excl.2.1 ⟨e, k⟩
    have k3 : ¬ utP3 a b := fun e => ut_excl.2.2 ⟨e, k⟩
    rcases l with _ | ⟨c, l⟩
    · simp [utLon, utRn, utRs, o, n0, x, y]
    by_cases z : 128 ≤ c ∧ c ≤ 191
    · have z' : utOk 2 c = true := by rw [ut_ok2]; simpa using z
      have z2 := ut_nx2 c z
      rcases l with _ | ⟨d, r⟩
      · simp [utLon, utRn, utRs, o, n0, x, y, z', z2]
      by_cases t : 128 ≤ d ∧ d ≤ 191
      · exfalso
        rw [utSize_4, if_neg n, if_neg k2, if_neg (fun e => k3 e.1), if_pos ⟨k, z.1, z.2, t⟩] at h; cases h
      · have t' : utOk 1 d = false := by rw [ut_ok1]; simpa using t
        simp [utLon, utRn, utRs, o, n0, x, y, z', z2, t']
    · have z' : utOk 2 c = false := by rw [ut_ok2]; simpa using z
      simp [utLon, utRn, utRs, o, n0, x, y, z']
  · simp [utLon, utRn, utRs, o, n0, x]

/-! ### Which texts are a beginning of a sequence -/
/-! ### The longest beginning that is well formed -/
def utWhole (l : List Int) : Nat := if h : utSize l = 0 then 0 else utSize l + utWhole (l.drop (utSize l))
termination_by l.length
decreasing_by
  have := (utSize_le l).1
  simp only [List.length_drop]
  omega

theorem utWhole_0 {l : List Int} (h : utSize l = 0) : utWhole l = 0 := by rw [utWhole, dif_pos h]
theorem utWhole_pos {l : List Int} (h : utSize l ≠ 0) : utWhole l = utSize l + utWhole (l.drop (utSize l)) := by rw [utWhole, dif_neg h]
/-- All at once: the longest beginning; that the run comes to state 0 behind it; that what is behind begins with no sequence. -/
theorem utWhole_spec (m : Nat) : ∀ l : List Int, l.length ≤ m → utWhole l ≤ l.length ∧ utLon 0 0 0 l = utWhole l ∧ utSize (l.drop (utWhole l)) = 0 ∧ utRn 0 l = utWhole l + utRn 0 (l.drop (utWhole l)) ∧ utRs 0 l = utRs 0 (l.drop (utWhole l)) := by
  induction m with
  | zero =>
    intro l hl
    have : l = [] := List.eq_nil_of_length_eq_zero (by omega)
    subst this
    simp [utWhole_0 utSize_nil, utLon, utSize_nil]
  | succ m ih =>
    intro l hl
    by_cases h : utSize l = 0
    · simp [utWhole_0 h, (ut_F2 l h).1, h]
    · have hle := (utSize_le l).1
      obtain ⟨f1, f2⟩ := ut_F1 l (by omega)
      have hlen : (l.take (utSize l)).length = utSize l := by rw [List.length_take]; omega
      have hsp : l = l.take (utSize l) ++ l.drop (utSize l) := (List.take_append_drop _ _).symm
      obtain ⟨i1, i2, i3, i4, i5⟩ := ih (l.drop (utSize l)) (by rw [List.length_drop]; omega)
      have hw := utWhole_pos h
      have hd : l.drop (utWhole l) = (l.drop (utSize l)).drop (utWhole (l.drop (utSize l))) := by rw [List.drop_drop, hw]
      have hlon : utLon 0 0 0 l = utSize l + utLon 0 0 0 (l.drop (utSize l)) := by
        conv => lhs; rw [hsp]
        rw [utLon_app _ _ _ _ _ (by rw [f1, hlen]), f2, hlen, utLon_all 0 0 0 _ (by rw [f1, hlen]) f2 (fun _ => rfl), hlen, utLon_shift]
        omega
      obtain ⟨r1, r2⟩ := utR_app 0 (l.take (utSize l)) (l.drop (utSize l)) (by rw [f1, hlen])
      rw [← hsp, f2] at r1 r2
      rw [hlen] at r2
      refine ⟨?_, ?_, ?_, ?_, ?_⟩
      · rw [List.length_drop] at i1; omega
      · rw [hlon, hw, i2]
      · rw [hd]; exact i3
      · rw [r2, hd, hw, i4]; omega
      · rw [r1, hd, i5]
end Go.Proofs.YtoeanbfemgmgnaaGreatDoor

namespace Go.Proofs.YtoeanbfemgmgnaaGreatDoor
set_option linter.unusedVariables false
set_option linter.unusedSimpArgs false

def bomMk : List Int := [239, 187, 191]
def bomPre (t : List Int) : Bool := decide (t.length ≤ 2) && t.isPrefixOf bomMk
def bomHad (t : List Int) : Bool := bomMk.isPrefixOf t
def bomHeld (t : List Int) : Nat := if bomPre t = true then t.length else 0
def bomStrip (t : List Int) : List Int := if bomHad t = true then t.drop 3 else t
def bomTold (t : List Int) : List Int := if bomPre t = true then [] else bomStrip t
def bomStage (t : List Int) : Int := if bomPre t = true then 0 else 1
def cpl : List Int → List Int → Nat
  | x :: r, y :: q => if x = y then cpl r q + 1 else 0
  | _, _ => 0

theorem bomPre_cases {t : List Int} (h : bomPre t = true) : t = [] ∨ t = [239] ∨ t = [239, 187] := by
  match t, h with
  | [], _ => exact .inl rfl
  | [x], h => simp [bomPre, bomMk, List.isPrefixOf] at h; subst h; exact .inr (.inl rfl)
  | [x, y], h => simp [bomPre, bomMk, List.isPrefixOf] at h; obtain ⟨rfl, rfl⟩ := h; exact .inr (.inr rfl)
  | x :: y :: z :: r, h => simp [bomPre] at h
theorem bomPre_take {t : List Int} (h : bomPre t = true) : t = bomMk.take t.length ∧ t.length ≤ 2 := by
  rcases bomPre_cases h with rfl | rfl | rfl <;> exact ⟨rfl, by decide⟩

theorem cpl_le (a b : List Int) : cpl a b ≤ a.length ∧ cpl a b ≤ b.length := by
  induction a generalizing b with
  | nil => cases b <;> simp [cpl]
  | cons x r ih =>
    cases b with
    | nil => simp [cpl]
    | cons y q =>
      have := ih q
      simp only [cpl, List.length_cons]
      split <;> omega
/-- What n is, that a loop finds. -/
theorem cpl_is : ∀ (a b : List Int) (n : Nat), n ≤ a.length → n ≤ b.length → a.take n = b.take n → (n < a.length → n < b.length → a[n]? ≠ b[n]?) → cpl a b = n
  | [], b, n, h1, _, _, _ => by have : n = 0 := by simpa using h1
                                subst this; cases b <;> rfl
  | x :: r, [], n, _, h2, _, _ => by have : n = 0 := by simpa using h2
                                     subst this; rfl
  | x :: r, y :: q, 0, _, _, _, h => by
    have := h (by simp) (by simp)
    simp at this
    simp [cpl, this]
  | x :: r, y :: q, n + 1, h1, h2, h3, h4 => by
    simp only [List.take_succ_cons, List.cons.injEq] at h3
    simp only [cpl, h3.1, if_true]
    rw [cpl_is r q n (by simpa using h1) (by simpa using h2) h3.2 (fun a b => by simpa using h4 (by simpa using a) (by simpa using b))]

theorem bom_cons_pre (x y z : Int) (r : List Int) : bomPre (x :: y :: z :: r) = false := by simp [bomPre]
theorem bom_feed1 {t b : List Int} (h : bomPre t = true) (hn : t.length + cpl (bomMk.drop t.length) b = 3) :
    bomHad (t ++ b) = true ∧ bomPre (t ++ b) = false ∧ bomTold (t ++ b) = b.drop (cpl (bomMk.drop t.length) b) := by
  have key : bomHad (t ++ b) = true ∧ bomPre (t ++ b) = false ∧ (t ++ b).drop 3 = b.drop (cpl (bomMk.drop t.length) b) := by
    rcases bomPre_cases h with rfl | rfl | rfl
    · match b, hn with
      | [], hn => simp [cpl, bomMk] at hn
      | [x], hn => have := (cpl_le (bomMk.drop 0) [x]).2; simp at hn this; omega
      | [x, y], hn => have := (cpl_le (bomMk.drop 0) [x, y]).2; simp at hn this; omega
      | x :: y :: z :: r, hn =>
        simp only [List.length_nil, List.drop_zero, bomMk, cpl] at hn
        by_cases e1 : 239 = x <;> by_cases e2 : 187 = y <;> by_cases e3 : 191 = z <;> simp [e1, e2, e3] at hn
        · subst e1 e2 e3; exact ⟨by simp [bomHad, bomMk, List.isPrefixOf], bom_cons_pre _ _ _ _, by simp [bomMk, cpl]⟩
    · match b, hn with
      | [], hn => simp [cpl, bomMk] at hn
      | [x], hn => have := (cpl_le (bomMk.drop 1) [x]).2; simp at hn this; omega
      | x :: y :: r, hn =>
        simp only [List.length_singleton, bomMk, List.drop_succ_cons, List.drop_zero, cpl] at hn
        by_cases e1 : 187 = x <;> by_cases e2 : 191 = y <;> simp [e1, e2] at hn
        · subst e1 e2; exact ⟨by simp [bomHad, bomMk, List.isPrefixOf], bom_cons_pre _ _ _ _, by simp [bomMk, cpl]⟩
    · match b, hn with
      | [], hn => simp [cpl, bomMk] at hn
      | x :: r, hn =>
        simp only [List.length_cons, List.length_nil, bomMk, List.drop_succ_cons, List.drop_zero, cpl] at hn
        by_cases e1 : 191 = x <;> simp [e1] at hn
        · subst e1; exact ⟨by simp [bomHad, bomMk, List.isPrefixOf], bom_cons_pre _ _ _ _, by simp [bomMk, cpl]⟩
  refine ⟨key.1, key.2.1, ?_⟩
  unfold bomTold bomStrip
  rw [key.2.1, key.1, if_neg (by simp), if_pos rfl, key.2.2]
theorem bom_had_pre {t : List Int} (h : bomPre t = true) : bomHad t = false := by
  rcases bomPre_cases h with rfl | rfl | rfl <;> rfl
theorem bom_feed2 {t b : List Int} (h : bomPre t = true) (hn : t.length + cpl (bomMk.drop t.length) b ≠ 3) (hb : cpl (bomMk.drop t.length) b = b.length) :
    bomPre (t ++ b) = true := by
  rcases bomPre_cases h with rfl | rfl | rfl
  · match b, hn, hb with
    | [], hn, hb => rfl
    | [x], hn, hb => by_cases e1 : 239 = x <;> simp [bomMk, cpl, e1] at hb; subst e1; rfl
    | [x, y], hn, hb =>
      by_cases e1 : 239 = x <;> by_cases e2 : 187 = y <;> simp [bomMk, cpl, e1, e2] at hb; subst e1 e2; rfl
    | x :: y :: z :: r, hn, hb =>
      have := (cpl_le (bomMk.drop 0) (x :: y :: z :: r)).1
      simp [bomMk] at this hn hb; omega
  · match b, hn, hb with
    | [], hn, hb => rfl
    | [x], hn, hb => by_cases e1 : 187 = x <;> simp [bomMk, cpl, e1] at hb; subst e1; rfl
    | x :: y :: r, hn, hb =>
      have := (cpl_le (bomMk.drop 1) (x :: y :: r)).1
      simp [bomMk] at this hn hb; omega
  · match b, hn, hb with
    | [], hn, hb => rfl
    | x :: r, hn, hb =>
      have := (cpl_le (bomMk.drop 2) (x :: r)).1
      simp [bomMk] at this hn hb; omega
theorem bom_feed3 {t b : List Int} (h : bomPre t = true) (hn : t.length + cpl (bomMk.drop t.length) b ≠ 3) (hb : cpl (bomMk.drop t.length) b ≠ b.length) :
    bomPre (t ++ b) = false ∧ bomHad (t ++ b) = false ∧ bomTold (t ++ b) = t ++ b := by
  have key : bomPre (t ++ b) = false ∧ bomHad (t ++ b) = false := by
    rcases bomPre_cases h with rfl | rfl | rfl
    · match b, hn, hb with
      | [], hn, hb => simp [cpl, bomMk] at hb
      | [x], hn, hb => by_cases e1 : 239 = x <;> simp [bomMk, cpl, e1] at hb; exact ⟨by simp [bomPre, bomMk, List.isPrefixOf, Ne.symm e1], by simp [bomHad, bomMk, List.isPrefixOf]⟩
      | [x, y], hn, hb =>
        refine ⟨?_, by simp [bomHad, bomMk, List.isPrefixOf]⟩
        by_cases e1 : x = 239 <;> by_cases e2 : y = 187 <;> simp [bomPre, bomMk, List.isPrefixOf, e1, e2]
        subst e1 e2; simp [bomMk, cpl] at hb
      | x :: y :: z :: r, hn, hb =>
        refine ⟨bom_cons_pre _ _ _ _, ?_⟩
        by_cases e1 : 239 = x <;> by_cases e2 : 187 = y <;> by_cases e3 : 191 = z <;> simp [bomMk, cpl, e1, e2, e3] at hn <;> simp [bomHad, bomMk, List.isPrefixOf, e1, e2, e3]
    · match b, hn, hb with
      | [], hn, hb => simp [cpl, bomMk] at hb
      | [x], hn, hb => by_cases e1 : 187 = x <;> simp [bomMk, cpl, e1] at hb; exact ⟨by simp [bomPre, bomMk, List.isPrefixOf, Ne.symm e1], by simp [bomHad, bomMk, List.isPrefixOf]⟩
      | x :: y :: r, hn, hb =>
        refine ⟨bom_cons_pre _ _ _ _, ?_⟩
        by_cases e1 : 187 = x <;> by_cases e2 : 191 = y <;> simp [bomMk, cpl, e1, e2] at hn <;> simp [bomHad, bomMk, List.isPrefixOf, e1, e2]
    · match b, hn, hb with
      | [], hn, hb => simp [cpl, bomMk] at hb
      | x :: r, hn, hb =>
        refine ⟨bom_cons_pre _ _ _ _, ?_⟩
        by_cases e1 : 191 = x <;> simp [bomMk, cpl, e1] at hn; simp [bomHad, bomMk, List.isPrefixOf, e1]
  refine ⟨key.1, key.2, ?_⟩
  unfold bomTold bomStrip
  rw [key.1, key.2, if_neg (by simp), if_neg (by simp)]
theorem bom_settled {t : List Int} (b : List Int) (h : bomPre t = false) : bomPre (t ++ b) = false ∧ bomHad (t ++ b) = bomHad t ∧ bomTold (t ++ b) = bomTold t ++ b := by
  have key : bomPre (t ++ b) = false ∧ bomHad (t ++ b) = bomHad t := by
    match t, h with
    | [], h => simp [bomPre, bomMk, List.isPrefixOf] at h
    | [x], h =>
      have e : x ≠ 239 := by simpa [bomPre, bomMk, List.isPrefixOf] using h
      have e' : (239 == x) = false := by simpa using Ne.symm e
      match b with
      | [] => exact ⟨h, rfl⟩
      | [y] => exact ⟨by simp [bomPre, bomMk, List.isPrefixOf, e], by simp [bomHad, bomMk, List.isPrefixOf]⟩
      | y :: z :: r => exact ⟨bom_cons_pre _ _ _ _, by simp [bomHad, bomMk, List.isPrefixOf, e']⟩
    | [x, y], h =>
      have e : x = 239 → y ≠ 187 := by simpa [bomPre, bomMk, List.isPrefixOf] using h
      match b with
      | [] => exact ⟨h, rfl⟩
      | z :: r =>
        refine ⟨bom_cons_pre _ _ _ _, ?_⟩
        by_cases e1 : 239 = x
        · have := Ne.symm (e e1.symm)
          simp [bomHad, bomMk, List.isPrefixOf, this]
        · simp [bomHad, bomMk, List.isPrefixOf, e1]
    | x :: y :: z :: r, h => exact ⟨bom_cons_pre _ _ _ _, by simp [bomHad, bomMk, List.isPrefixOf]⟩
  refine ⟨key.1, key.2, ?_⟩
  unfold bomTold bomStrip
  rw [key.1, key.2, h]
  simp only [Bool.false_eq_true, if_false]
  split
  · rename_i hh
    rw [List.drop_append_of_le_length]
    match t, hh with
    | [], hh => simp [bomHad, bomMk, List.isPrefixOf] at hh
    | [x], hh => simp [bomHad, bomMk, List.isPrefixOf] at hh
    | [x, y], hh => simp [bomHad, bomMk, List.isPrefixOf] at hh
    | x :: y :: z :: r, hh => simp
  · rfl
end Go.Proofs.YtoeanbfemgmgnaaGreatDoor

namespace Go.Proofs.YtoeanbfemgmgnaaGreatDoor
open Go.RowKit
set_option linter.unusedVariables false

def hasL (f : List Int) (b : Int) : Bool := decide (b ∈ f)
/-- Why a field must be quoted. -/
def whyN (d q : Int) (f : List Int) (al fi : Bool) : Int :=
  if hasL f d = true then 1 else if hasL f q = true then 2 else if (hasL f 13 || hasL f 10) = true then 3 else if f = [] ∧ al = true then 4 else if fi = true ∧ bomHad f = true then 5 else 0
def numB (b : Bool) : Int := if b = true then 1 else 0
theorem why0 {d q : Int} {f : List Int} {al fi : Bool} (h : whyN d q f al fi = 0) : hasL f d = false ∧ hasL f q = false ∧ hasL f 13 = false ∧ hasL f 10 = false := by
  unfold whyN at h
  cases hd : hasL f d
  · cases hq : hasL f q
    · cases h13 : hasL f 13
      · cases h10 : hasL f 10
        · exact ⟨rfl, rfl, rfl, rfl⟩
        · rw [hd, hq, h13, h10] at h; simp at h
      · rw [hd, hq, h13] at h; simp at h
    · rw [hd, hq] at h; simp at h
  · rw [hd] at h; simp at h
theorem hasL_not {f : List Int} {b : Int} (h : hasL f b = false) : b ∉ f := by unfold hasL at h; exact of_decide_eq_false h
end Go.Proofs.YtoeanbfemgmgnaaGreatDoor

namespace Go.Proofs.YtoeanbfemgmgnaaGreatDoor
open Go.RowKit
set_option linter.unusedVariables false
set_option linter.unusedSimpArgs false

/-- As mch, and each byte must go on, first of all. -/
def mchU (d q e : Int) : Int → Int → Mk → Nat → List Int → Got
  | u, t, m, i, [] =>
    if u ≠ 0 then ⟨[], 12, i⟩
    else if closeK t ≠ 0 then ⟨[], closeK t, i⟩
    else if (mTake (closeE t) m).er ≠ 0 then ⟨[], (mTake (closeE t) m).er, i⟩
    else if mTold (closeE t) m = true then ⟨[(mRec (closeE t) m, i)], 0, 0⟩ else ⟨[], 0, 0⟩
  | u, t, m, i, b :: r =>
    if utOk u b = false then ⟨[], 3, i⟩
    else if (stepR d q e t b).k ≠ 0 then ⟨[], (stepR d q e t b).k, i⟩
    else if (mTake (stepR d q e t b).ev m).er ≠ 0 then ⟨[], (mTake (stepR d q e t b).ev m).er, i⟩
    else if mTold (stepR d q e t b).ev m = true then (mchU d q e (utNx u b) (stepR d q e t b).n (mTake (stepR d q e t b).ev m) (i + 1) r).more (mRec (stepR d q e t b).ev m) i
    else mchU d q e (utNx u b) (stepR d q e t b).n (mTake (stepR d q e t b).ev m) (i + 1) r
/-- The records that are whole ahead of a place, and a fault there. -/
def Got.upto (g : Got) (k : Int) (n : Nat) : Got := ⟨g.rs.filter fun p => decide (p.2 < n), k, n⟩
/-- The first fault of the text's bytes (they go on up to place n; u: the state behind the last one; N: the text's end) and of its grammar. -/
def Got.merge (g : Got) (n N : Nat) (u : Int) : Got :=
  if n < N then (if g.k ≠ 0 ∧ g.at_ < n then g else g.upto 3 n)
  else if u ≠ 0 ∧ ¬ (g.k ≠ 0 ∧ g.at_ < N) then g.upto 12 N else g

section
variable {d q e : Int}
theorem mch_from : ∀ (l : List Int) (t : Int) (m : Mk) (i : Nat), ((mch d q e t m i l).k ≠ 0 → i ≤ (mch d q e t m i l).at_) ∧ ∀ p ∈ (mch d q e t m i l).rs, i ≤ p.2
  | [], t, m, i => by
    rw [mch]
    split
    · exact ⟨fun _ => Nat.le_refl _, by simp⟩
    · split
      · exact ⟨fun _ => Nat.le_refl _, by simp⟩
      · split
        · exact ⟨fun h => absurd rfl h, by simp⟩
        · exact ⟨fun h => absurd rfl h, by simp⟩
  | b :: r, t, m, i => by
    have ih := mch_from r (stepR d q e t b).n (mTake (stepR d q e t b).ev m) (i + 1)
    rw [mch]
    split
    · exact ⟨fun _ => Nat.le_refl _, by simp⟩
    · split
      · exact ⟨fun _ => Nat.le_refl _, by simp⟩
      · split
        · refine ⟨fun h => Nat.le_trans (Nat.le_succ i) (ih.1 h), fun p hp => ?_⟩
          rcases List.mem_cons.1 hp with rfl | hp
          · exact Nat.le_refl _
          · exact Nat.le_trans (Nat.le_succ i) (ih.2 p hp)
        · exact ⟨fun h => Nat.le_trans (Nat.le_succ i) (ih.1 h), fun p hp => Nat.le_trans (Nat.le_succ i) (ih.2 p hp)⟩
theorem filter_none {l : List (List ByteArray × Nat)} {n : Nat} (h : ∀ p ∈ l, n ≤ p.2) : l.filter (fun p => decide (p.2 < n)) = [] := by
  rw [List.filter_eq_nil_iff]
  intro p hp
  have := h p hp
  simp; omega
theorem more_merge {g : Got} {r : List ByteArray} {i n N : Nat} {u : Int} (h : i < n) (hN : i < N) : (g.more r i).merge n N u = (g.merge n N u).more r i := by
  unfold Got.merge Got.more Got.upto
  dsimp only
  split
  · split
    · rfl
    · simp [h]
  · split
    · simp [hN]
    · rfl
/-- Both faults at once are the first one of each. -/
theorem mchU_is : ∀ (l : List Int) (u t : Int) (m : Mk) (i : Nat), mchU d q e u t m i l = (mch d q e t m i l).merge (i + utRn u l) (i + l.length) (utRs u l)
  | [], u, t, m, i => by
    have hf := mch_from (d := d) (q := q) (e := e) [] t m i
    have hL : mchU d q e u t m i [] = if u ≠ 0 then ⟨[], 12, i⟩ else mch d q e t m i [] := by rw [mchU, mch]
    have hg : ∀ g : Got, g.merge (i + 0) (i + 0) u = if u ≠ 0 ∧ ¬ (g.k ≠ 0 ∧ g.at_ < i + 0) then g.upto 12 (i + 0) else g := fun g => by
      unfold Got.merge; rw [if_neg (by omega)]
    rw [hL, utRs, utRn]
    show _ = (mch d q e t m i []).merge (i + 0) (i + 0) u
    rw [hg]
    by_cases hu : u = 0
    · rw [if_neg (by simpa using hu), if_neg (by rintro ⟨h, _⟩; exact h hu)]
    · have : ¬ ((mch d q e t m i []).k ≠ 0 ∧ (mch d q e t m i []).at_ < i + 0) := by
        rintro ⟨h1, h2⟩
        have := hf.1 h1
        omega
      rw [if_pos hu, if_pos ⟨hu, this⟩, Got.upto, filter_none (by simpa using hf.2)]
      simp
  | b :: r, u, t, m, i => by
    rw [mchU]
    cases hu : utOk u b
    · rw [if_pos rfl, utRn, if_neg (by simp [hu]), utRs, if_neg (by simp [hu]), Got.merge, if_pos (by simp)]
      have hf := mch_from (d := d) (q := q) (e := e) (b :: r) t m i
      rw [if_neg (by rintro ⟨h1, h2⟩; have := hf.1 h1; omega), Got.upto, filter_none (by simpa using hf.2)]
      simp
    · rw [if_neg (by simp), utRn, if_pos hu, utRs, if_pos hu]
      have e1 : i + (utRn (utNx u b) r + 1) = (i + 1) + utRn (utNx u b) r := by omega
      have e2 : i + (b :: r).length = (i + 1) + r.length := by simp; omega
      rw [e1, e2, mch]
      have one : ∀ k : Int, k ≠ 0 → (⟨[], k, i⟩ : Got).merge (i + 1 + utRn (utNx u b) r) (i + 1 + r.length) (utRs (utNx u b) r) = ⟨[], k, i⟩ := fun k hk => by
        unfold Got.merge
        split
        · rw [if_pos ⟨hk, by show i < _; omega⟩]
        · rw [if_neg (by rintro ⟨_, h⟩; exact h ⟨hk, by show i < _; omega⟩)]
      split
      · rename_i h; rw [one _ h]
      · split
        · rename_i h; rw [one _ h]
        · split
          · rw [mchU_is r, more_merge (by omega) (by omega)]
          · rw [mchU_is r]
end
end Go.Proofs.YtoeanbfemgmgnaaGreatDoor

namespace Go.Proofs.YtoeanbfemgmgnaaGreatDoor
open Go.RowKit
set_option linter.unusedVariables false
set_option linter.unusedSimpArgs false

def Got.shift (g : Got) (o : Nat) : Got := ⟨g.rs.map fun p => (p.1, p.2 + o), g.k, if g.k = 0 then 0 else g.at_ + o⟩
section
variable {d q e : Int}
theorem mch_facts : ∀ (l : List Int) (t : Int) (m : Mk) (i : Nat), ((mch d q e t m i l).k ≠ 0 → (mch d q e t m i l).at_ ≤ i + l.length) ∧ ((mch d q e t m i l).k = 0 → (mch d q e t m i l).at_ = 0) ∧
    ∀ p ∈ (mch d q e t m i l).rs, (mch d q e t m i l).k ≠ 0 → p.2 < (mch d q e t m i l).at_
  | [], t, m, i => by
    rw [mch]
    split
    · rename_i h; exact ⟨fun _ => by simp, fun h' => absurd h' h, by simp⟩
    · split
      · rename_i h; exact ⟨fun _ => by simp, fun h' => absurd h' h, by simp⟩
      · split
        · exact ⟨fun h => absurd rfl h, fun _ => rfl, fun p _ h => absurd rfl h⟩
        · exact ⟨fun h => absurd rfl h, fun _ => rfl, by simp⟩
  | b :: r, t, m, i => by
    obtain ⟨i1, i2, i3⟩ := mch_facts r (stepR d q e t b).n (mTake (stepR d q e t b).ev m) (i + 1)
    have hf := (mch_from (d := d) (q := q) (e := e) r (stepR d q e t b).n (mTake (stepR d q e t b).ev m) (i + 1)).1
    rw [mch]
    split
    · rename_i h; exact ⟨fun _ => by simp, fun h' => absurd h' h, by simp⟩
    · split
      · rename_i h; exact ⟨fun _ => by simp, fun h' => absurd h' h, by simp⟩
      · split
        · refine ⟨fun h => Nat.le_trans (i1 h) (by simp; omega), i2, fun p hp h => ?_⟩
          rcases List.mem_cons.1 hp with rfl | hp
          · exact hf h
          · exact i3 p hp h
        · exact ⟨fun h => Nat.le_trans (i1 h) (by simp; omega), i2, i3⟩
theorem shift_more (g : Got) (r : List ByteArray) (i o : Nat) : (g.more r i).shift o = (g.shift o).more r (i + o) := rfl
theorem mch_shift : ∀ (l : List Int) (t : Int) (m : Mk) (i o : Nat), mch d q e t m (i + o) l = (mch d q e t m i l).shift o
  | [], t, m, i, o => by
    rw [mch, mch]
    split
    · rename_i h; simp [Got.shift, h]
    · split
      · rename_i h; simp [Got.shift, h]
      · split <;> simp [Got.shift]
  | b :: r, t, m, i, o => by
    have ih := mch_shift r (stepR d q e t b).n (mTake (stepR d q e t b).ev m) (i + 1) o
    rw [show i + 1 + o = i + o + 1 by omega] at ih
    rw [mch, mch, ih]
    split
    · rename_i h; simp [Got.shift, h]
    · split
      · rename_i h; simp [Got.shift, h]
      · split
        · rw [shift_more]
        · rfl
end

def whOff (s : List Int) : Nat := if bomHad s = true then 3 else 0
/-- All of a text: its records, and its first fault, its place in the text. -/
def whP (d q e : Int) (m : Mk) (s : List Int) : Got := mchU d q e 0 0 m (whOff s) (bomStrip s)

theorem bom_split {s : List Int} (h : bomHad s = true) : s = bomMk ++ bomStrip s := by
  unfold bomStrip
  rw [if_pos h]
  unfold bomHad at h
  obtain ⟨t, rfl⟩ := List.isPrefixOf_iff_prefix.1 h
  simp [bomMk]
theorem whOff_len (s : List Int) : whOff s + (bomStrip s).length = s.length := by
  unfold whOff
  cases h : bomHad s
  · simp [bomStrip, h]
  · have := congrArg List.length (bom_split h)
    simp [bomMk] at this
    simp; omega
theorem utRn_strip (s : List Int) : utRn 0 s = whOff s + utRn 0 (bomStrip s) ∧ utRs 0 s = utRs 0 (bomStrip s) := by
  unfold whOff
  cases h : bomHad s
  · simp [bomStrip, h]
  · have hs := bom_split h
    obtain ⟨a1, a2⟩ := utR_app 0 bomMk (bomStrip s) (by decide)
    rw [← hs] at a1 a2
    rw [show utRs 0 bomMk = 0 by decide] at a1 a2
    exact ⟨a2, a1⟩
theorem utWhole_iff (s : List Int) (h : utRn 0 s = s.length) : utWhole s < s.length ↔ utRs 0 s ≠ 0 := by
  obtain ⟨h1, h2, h3, h4, h5⟩ := utWhole_spec s.length s (Nat.le_refl _)
  have hl : (s.drop (utWhole s)).length = s.length - utWhole s := List.length_drop
  constructor
  · intro hlt
    rw [h5]
    rcases (ut_F2 _ h3).2.2 with h0 | h0
    · omega
    · exact h0
  · intro hne
    rcases Nat.lt_or_ge (utWhole s) s.length with h' | h'
    · exact h'
    · exfalso
      apply hne
      rw [h5, List.drop_eq_nil_of_le h', utRs]

/-- The document's definition, of what its grammar told (places without the mark). -/
def whKA (g : Got) (s : List Int) : Int × Nat :=
  let at1 := if g.k = 0 then s.length else g.at_ + whOff s
  if utRn 0 s < s.length then (if g.k = 0 ∨ utRn 0 s ≤ at1 then (3, utRn 0 s) else (g.k, at1))
  else if utWhole s < s.length ∧ at1 = s.length then (12, at1) else (g.k, at1)
def whRs (g : Got) (s : List Int) : List (List ByteArray) :=
  (g.rs.filter fun p => decide ((whKA g s).1 = 0) || decide (p.2 + whOff s < (whKA g s).2)).map (·.1)
theorem wh_is {d q e : Int} (hd : Dia d q e) (m : Mk) (s : List Int) (h0 : m.er = 0) (hf : m.fd = []) (hr : m.rc = []) (hlf : 0 ≤ m.lf) (hls : 0 < m.ls) (hbg : m.bg ≤ m.lr) (n : Nat) (hn : (bomStrip s).length < n) :
    (whP d q e m s).rs.map (·.1) = whRs (rdGo d q e n m 0 (bomStrip s)) s ∧ (whP d q e m s).k = (whKA (rdGo d q e n m 0 (bomStrip s)) s).1 ∧ ((whP d q e m s).k ≠ 0 → (whP d q e m s).at_ = (whKA (rdGo d q e n m 0 (bomStrip s)) s).2) := by
  rw [← mch_all hd n (bomStrip s) m 0 hn h0 hf hr hlf hls hbg]
  unfold whP
  rw [mchU_is, show whOff s = 0 + whOff s by omega, mch_shift, show 0 + whOff s = whOff s by omega]
  obtain ⟨f1, f2, f3⟩ := mch_facts (d := d) (q := q) (e := e) (bomStrip s) 0 m 0
  generalize mch d q e 0 m 0 (bomStrip s) = g at f1 f2 f3 ⊢
  obtain ⟨u1, u2⟩ := utRn_strip s
  have hw := utWhole_iff s
  have hlen := whOff_len s
  have hle := utRn_le 0 s
  rw [← u1, ← u2, hlen]
  have hat : g.k ≠ 0 → (g.shift (whOff s)).at_ = g.at_ + whOff s := fun h => if_neg h
  unfold Got.merge
  by_cases h1 : utRn 0 s < s.length
  · rw [if_pos h1]
    by_cases hk : g.k = 0
    · have hka : whKA g s = (3, utRn 0 s) := by unfold whKA; simp only [h1, hk, if_true, true_or]
      rw [if_neg (by rintro ⟨h, _⟩; exact h hk)]
      unfold whRs
      rw [hka]
      refine ⟨?_, rfl, fun _ => rfl⟩
      simp [Got.upto, Got.shift, List.filter_map, Function.comp_def]
    · by_cases ha : utRn 0 s ≤ g.at_ + whOff s
      · have hka : whKA g s = (3, utRn 0 s) := by unfold whKA; simp only [h1, hk, if_true, if_false, ha, or_true]
        rw [if_neg (by rintro ⟨_, h⟩; rw [hat hk] at h; omega)]
        unfold whRs
        rw [hka]
        refine ⟨?_, rfl, fun _ => rfl⟩
        simp [Got.upto, Got.shift, List.filter_map, Function.comp_def]
      · have hka : whKA g s = (g.k, g.at_ + whOff s) := by unfold whKA; simp only [h1, hk, if_true, if_false, ha, or_self]
        rw [if_pos ⟨hk, by rw [hat hk]; omega⟩]
        unfold whRs
        rw [hka]
        refine ⟨?_, rfl, fun _ => hat hk⟩
        have : g.rs.filter (fun p => decide (g.k = 0) || decide (p.2 + whOff s < g.at_ + whOff s)) = g.rs := by
          rw [List.filter_eq_self]
          intro p hp
          have := f3 p hp hk
          simp [hk]; omega
        dsimp only
        rw [this]
        simp [Got.shift, Function.comp_def]
  · rw [if_neg h1]
    have hw' := hw (by omega)
    by_cases hk : g.k = 0
    · by_cases hu : utRs 0 s = 0
      · have hka : whKA g s = (0, s.length) := by
          unfold whKA
          simp only [hk, if_true, h1, if_false]
          rw [if_neg (by rintro ⟨h, _⟩; exact hw'.1 h hu)]
        rw [if_neg (by rintro ⟨h, _⟩; exact h hu)]
        unfold whRs
        rw [hka]
        refine ⟨?_, hk, fun h => absurd hk h⟩
        simp [Got.shift, Function.comp_def]
        rw [List.filter_eq_self.2 (fun _ _ => rfl)]
      · have hka : whKA g s = (12, s.length) := by
          unfold whKA
          simp only [hk, if_true, h1, if_false]
          rw [if_pos ⟨hw'.2 hu, trivial⟩]
        rw [if_pos ⟨hu, by rintro ⟨h, _⟩; exact h hk⟩]
        unfold whRs
        rw [hka]
        refine ⟨?_, rfl, fun _ => rfl⟩
        simp [Got.upto, Got.shift, List.filter_map, Function.comp_def]
    · have hbd := f1 hk
      by_cases hu : utRs 0 s = 0 ∨ g.at_ + whOff s < s.length
      · have hka : whKA g s = (g.k, g.at_ + whOff s) := by
          unfold whKA
          simp only [hk, h1, if_false]
          rw [if_neg (by
            rintro ⟨h, h'⟩
            rcases hu with hu | hu
            · exact hw'.1 h hu
            · omega)]
        rw [if_neg (by
          rintro ⟨h, h'⟩
          rcases hu with hu | hu
          · exact h hu
          · exact h' ⟨hk, by rw [hat hk]; exact hu⟩)]
        unfold whRs
        rw [hka]
        refine ⟨?_, rfl, fun _ => hat hk⟩
        have : g.rs.filter (fun p => decide (g.k = 0) || decide (p.2 + whOff s < g.at_ + whOff s)) = g.rs := by
          rw [List.filter_eq_self]
          intro p hp
          have := f3 p hp hk
          simp [hk]; omega
        dsimp only
        rw [this]
        simp [Got.shift, Function.comp_def]
      · have hN : g.at_ + whOff s = s.length := by omega
        have hka : whKA g s = (12, s.length) := by
          unfold whKA
          simp only [hk, h1, if_false]
          rw [if_pos ⟨hw'.2 (fun h => hu (.inl h)), hN⟩, hN]
        rw [if_pos ⟨fun h => hu (.inl h), by rintro ⟨_, h⟩; rw [hat hk] at h; omega⟩]
        unfold whRs
        rw [hka]
        refine ⟨?_, rfl, fun _ => rfl⟩
        simp [Got.upto, Got.shift, List.filter_map, Function.comp_def]
end Go.Proofs.YtoeanbfemgmgnaaGreatDoor

namespace Go.Proofs.YtoeanbfemgmgnaaGreatDoor
open Go.RowKit
set_option linter.unusedVariables false
set_option linter.unusedSimpArgs false

section
variable {s : Mk}
theorem not1_B (b : Bool) (h : s.er ≠ 1) : (mB b s).er ≠ 1 := by unfold mB; split <;> (try split) <;> simp_all
theorem not1_A (b : Bool) (v : Int) (h : s.er ≠ 1) : (mA b v s).er ≠ 1 := by unfold mA; split <;> (try split) <;> simp_all
theorem not1_F (b : Bool) (h : s.er ≠ 1) : (mF b s).er ≠ 1 := by unfold mF mEndF; (repeat' split) <;> simp_all [mPut]
theorem not1_L (b : Bool) (h : s.er ≠ 1) : (mL b s).er ≠ 1 := by unfold mL mEndL; (repeat' split) <;> simp_all [mPut]
theorem not1_then {f : Mk → Mk} (h : s.er ≠ 1) (hf : ∀ t : Mk, t.er ≠ 1 → (f t).er ≠ 1) : (mThen s f).er ≠ 1 := by unfold mThen; split; exact hf s h; exact h
theorem not1_gather (e : Ev) (h : s.er ≠ 1) : (mGather e s).er ≠ 1 :=
  not1_then (not1_then (not1_then (not1_B _ h) fun t ht => not1_A _ _ ht) fun t ht => not1_F _ ht) fun t ht => not1_L _ ht
theorem not1_take (e : Ev) (h : s.er ≠ 1) : (mTake e s).er ≠ 1 :=
  not1_then h fun t ht => not1_then (not1_gather e ht) fun v hv => by split <;> exact hv
end
theorem not1_close (t : Int) : closeK t ≠ 1 := by unfold closeK; (repeat' split) <;> simp
theorem not1_first (d q b : Int) : (firstR d q b).k ≠ 1 := by unfold firstR; (repeat' split) <;> simp
theorem not1_step (d q e t b : Int) : (stepR d q e t b).k ≠ 1 := by
  have h1 := not1_first d q b
  have h2 : (bareR d q b).k ≠ 1 := by unfold bareR; split; simp; exact h1
  have h3 : (quotedR q b).k ≠ 1 := by unfold quotedR; split <;> simp
  have h4 : (closingR d q b).k ≠ 1 := by unfold closingR; (repeat' split) <;> simp
  have h5 : (aheadR d q b).k ≠ 1 := by
    unfold aheadR; split
    · simp
    · split
      · simp
      · exact h1
  have h6 : ∀ v, (feedR v b).k ≠ 1 := fun v => by unfold feedR; split <;> simp
  unfold stepR
  split
  · split; simp; exact h5
  · split
    · split; simp; exact h1
    · split
      · split; simp; exact h2
      · split
        · exact h3
        · split
          · split; simp; exact h4
          · split <;> exact h6 _
theorem mch_kinds {d q e : Int} : ∀ (l : List Int) (t : Int) (m : Mk) (i : Nat), m.er ≠ 1 → (mch d q e t m i l).k ≠ 1 ∧ (∀ p ∈ (mch d q e t m i l).rs, p.2 ≤ i + l.length) ∧ (mch d q e t m i l).rs.length ≤ l.length + 1 ∧ (mch d q e t m i l).at_ ≤ i + l.length
  | [], t, m, i, h => by
    rw [mch]
    split
    · exact ⟨not1_close t, by simp, by simp, by simp⟩
    · split
      · exact ⟨not1_take _ h, by simp, by simp, by simp⟩
      · split
        · exact ⟨by simp, by simp, by simp, by simp⟩
        · exact ⟨by simp, by simp, by simp, by simp⟩
  | b :: r, t, m, i, h => by
    obtain ⟨i1, i2, i3, i4⟩ := mch_kinds r (stepR d q e t b).n (mTake (stepR d q e t b).ev m) (i + 1) (not1_take _ h)
    rw [mch]
    split
    · exact ⟨not1_step d q e t b, by simp, by simp, by simp⟩
    · split
      · exact ⟨not1_take _ h, by simp, by simp, by simp⟩
      · split
        · refine ⟨i1, fun p hp => ?_, by simp [Got.more]; omega, by simp [Got.more]; omega⟩
          rcases List.mem_cons.1 hp with rfl | hp
          · simp
          · have := i2 p hp; simp; omega
        · exact ⟨i1, fun p hp => by have := i2 p hp; simp; omega, by simp; omega, by simp; omega⟩

/-- A maker of these limits, ahead of a text; what the grammar tells of it. -/
structure GotOk (G : Got) (n : Nat) : Prop where
  k : G.k ≠ 1
  e : ∀ p ∈ G.rs, p.2 ≤ n
  len : G.rs.length ≤ n + 1
  a : G.at_ ≤ n
  z : G.k = 0 → G.at_ = 0
theorem got_ok {d q e : Int} (hd : Dia d q e) (m : Mk) (s : List Int) (h0 : m.er = 0) (hf : m.fd = []) (hr : m.rc = []) (hlf : 0 ≤ m.lf) (hls : 0 < m.ls) (hbg : m.bg ≤ m.lr) (n : Nat) (hn : s.length < n) : GotOk (rdGo d q e n m 0 s) s.length := by
  rw [← mch_all hd n s m 0 hn h0 hf hr hlf hls hbg]
  obtain ⟨h1, h2, h3, h4⟩ := mch_kinds (d := d) (q := q) (e := e) s 0 m 0 (by rw [h0]; decide)
  exact ⟨h1, fun p hp => by have := h2 p hp; omega, h3, by omega, (mch_facts s 0 m 0).2.1⟩
end Go.Proofs.YtoeanbfemgmgnaaGreatDoor

namespace Go.Proofs.YtoeanbfemgmgnaaGreatDoor
open Go.RowKit
set_option linter.unusedVariables false
set_option linter.unusedSimpArgs false

theorem mchU_wide {d q e : Int} : ∀ (l : List Int) (u t : Int) (m : Mk) (i N : Nat), m.Ok N → ∀ p ∈ (mchU d q e u t m i l).rs, p.1.length ≤ 2 * (N + l.length + 1)
  | [], u, t, m, i, N, ok, p, hp => by
    rw [mchU] at hp
    have hg := (few_gather (closeE t) m).rc
    have hN := ok.rcN
    have hr : (mRec (closeE t) m).length ≤ 2 * (N + 1) := by
      unfold mRec; split
      · omega
      · simp
    split at hp
    · simp at hp
    · split at hp
      · simp at hp
      · split at hp
        · simp at hp
        · split at hp
          · simp at hp; subst hp; simp; omega
          · simp at hp
  | b :: r, u, t, m, i, N, ok, p, hp => by
    have ih := mchU_wide (d := d) (q := q) (e := e) r (utNx u b) (stepR d q e t b).n (mTake (stepR d q e t b).ev m) (i + 1) (N + 1) (ok_take _ ok)
    have hg := (few_gather (stepR d q e t b).ev m).rc
    have hN := ok.rcN
    have hr : (mRec (stepR d q e t b).ev m).length ≤ 2 * (N + 1) := by
      unfold mRec; split
      · omega
      · simp
    rw [mchU] at hp
    split at hp
    · simp at hp
    · split at hp
      · simp at hp
      · split at hp
        · simp at hp
        · split at hp
          · rcases List.mem_cons.1 hp with rfl | hp
            · simp; omega
            · have := ih p hp; simp; omega
          · have := ih p hp; simp; omega
end Go.Proofs.YtoeanbfemgmgnaaGreatDoor

namespace Go.Proofs.YtoeanbfemgmgnaaGreatDoor
open Go.RowKit
set_option linter.unusedVariables false
set_option linter.unusedSimpArgs false

/-- None of these bytes parts, quotes, or ends a line. -/
def bareL (d q : Int) (f : List Int) : Prop := ∀ b ∈ f, stops d b = false ∧ b ≠ q
/-- Fields, laid with Delims between. -/
def layL (d : Int) : List (List Int) → List Int
  | [] => []
  | [f] => f
  | f :: g :: r => f ++ d :: layL d (g :: r)
def endL (e : Int) : List Int := if e = 2 then [13, 10] else [10]

section
variable {d q e lf : Int}
theorem bGo_run : ∀ (l f : List Int) (i : Nat) (c : Int) (rest : List Int), bareL d q l → stops d c = true → (f.length : Int) + l.length < lf + 1 →
    bGo d q lf f i (l ++ c :: rest) = ⟨0, f ++ l, i + l.length, c :: rest⟩
  | [], f, i, c, rest, _, hc, _ => by simp [bGo, hc]
  | b :: l, f, i, c, rest, hl, hc, hf => by
    obtain ⟨h1, h2⟩ := hl b (List.mem_cons_self ..)
    have hlen : ¬ (f.length : Int) = lf := by simp at hf; omega
    rw [List.cons_append, bGo, if_neg (by rw [h1]; simp), if_neg h2, if_neg hlen, bGo_run l (f ++ [b]) (i + 1) c rest (fun x hx => hl x (List.mem_cons_of_mem _ hx)) hc (by simp at hf ⊢; omega)]
    simp; omega
theorem endL_cons (e : Int) : ∃ c rest, endL e = c :: rest ∧ (c = 10 ∨ c = 13) := by
  unfold endL; split
  · exact ⟨13, [10], rfl, .inr rfl⟩
  · exact ⟨10, [], rfl, .inl rfl⟩
end
end Go.Proofs.YtoeanbfemgmgnaaGreatDoor

namespace Go.Proofs.YtoeanbfemgmgnaaGreatDoor
open Go.RowKit
set_option linter.unusedVariables false
set_option linter.unusedSimpArgs false

theorem utWhole_all {l : List Int} (h : utWhole l = l.length) : utRn 0 l = l.length ∧ utRs 0 l = 0 := by
  obtain ⟨_, _, _, h4, h5⟩ := utWhole_spec l.length l (Nat.le_refl _)
  rw [h, List.drop_length] at h4 h5
  exact ⟨by rw [h4]; simp [utRn], by rw [h5]; rfl⟩
theorem utAll_whole {l : List Int} (h : utRn 0 l = l.length) (h0 : utRs 0 l = 0) : ¬ utWhole l < l.length := fun hlt => (utWhole_iff l h).1 hlt h0
theorem ut_ascii {b : Int} (h : b ≤ 127) : utRn 0 [b] = 1 ∧ utRs 0 [b] = 0 := by
  have h1 : utOk 0 b = true := by rw [ut_ok0]; exact .inl h
  have h2 : utNx 0 b = 0 := (ut_nx0 b h1).2 h
  simp [utRn, utRs, h1, h2]
theorem ut_two_ok {a b : List Int} (h1 : utRn 0 a = a.length ∧ utRs 0 a = 0) (h2 : utRn 0 b = b.length ∧ utRs 0 b = 0) : utRn 0 (a ++ b) = (a ++ b).length ∧ utRs 0 (a ++ b) = 0 := by
  obtain ⟨g1, g2⟩ := utR_app 0 a b h1.1
  rw [h1.2] at g1 g2
  exact ⟨by rw [g2, h2.1]; simp, by rw [g1, h2.2]⟩
section
variable {d q e : Int}
theorem ut_end (e : Int) : utRn 0 (endL e) = (endL e).length ∧ utRs 0 (endL e) = 0 := by
  unfold endL; split
  · exact ut_two_ok (a := [13]) (b := [10]) (by simpa using ut_ascii (b := 13) (by decide)) (by simpa using ut_ascii (b := 10) (by decide))
  · simpa using ut_ascii (b := 10) (by decide)
/-- A text whose first byte of 127 or below stands within a mark's length has no mark. -/
theorem no_mark {a : List Int} {c : Int} {rest : List Int} (hc : c ≤ 127) (ha : bomHad a = false) : bomHad (a ++ c :: rest) = false := by
  unfold bomHad bomMk at ha ⊢
  have h1 : (239 == c) = false := by simp; omega
  have h2 : (187 == c) = false := by simp; omega
  have h3 : (191 == c) = false := by simp; omega
  match a, ha with
  | [], _ => simp [List.isPrefixOf, h1]
  | [x], _ => simp [List.isPrefixOf, h2]
  | [x, y], _ => simp [List.isPrefixOf, h3]
  | x :: y :: z :: r, ha => simpa [List.isPrefixOf] using ha
theorem toBA_bl (s : ByteArray) : toBA (bl s) = s := bl_inj (bl_toBA (bl s) (fun x hx => by
  unfold bl at hx
  obtain ⟨c, _, rfl⟩ := List.mem_map.1 hx
  exact ⟨byte_lo c, byte_hi c⟩))
end
end Go.Proofs.YtoeanbfemgmgnaaGreatDoor

namespace Go.Proofs.YtoeanbfemgmgnaaGreatDoor
open Go.RowKit
set_option linter.unusedVariables false
set_option linter.unusedSimpArgs false

/-- A field's bytes, each Quote twice. -/
def dbl (q : Int) : List Int → List Int
  | [] => []
  | b :: r => if b = q then q :: q :: dbl q r else b :: dbl q r
/-- A field quoted. -/
def quoL (q : Int) (f : List Int) : List Int := q :: (dbl q f ++ [q])
theorem dbl_append (q : Int) : ∀ a b, dbl q (a ++ b) = dbl q a ++ dbl q b
  | [], b => rfl
  | x :: a, b => by
    rw [List.cons_append, dbl, dbl, dbl_append q a b]
    split <;> rfl
theorem dbl_len (q : Int) : ∀ f : List Int, f.length ≤ (dbl q f).length ∧ (dbl q f).length ≤ 2 * f.length
  | [] => ⟨Nat.le_refl _, Nat.le_refl _⟩
  | b :: r => by
    have := dbl_len q r
    rw [dbl]
    split <;> simp <;> omega
theorem quoL_len (q : Int) (f : List Int) : (quoL q f).length = (dbl q f).length + 2 := by simp [quoL]
/-! ### It is read as it was -/
section
variable {d q e lf : Int}
theorem qGo_run : ∀ (l f : List Int) (i : Nat) (rest : List Int), (rest = [] ∨ ∃ c r, rest = c :: r ∧ c ≠ q) → (f.length : Int) + l.length < lf + 1 →
    qGo q lf f i (dbl q l ++ q :: rest) = ⟨0, f ++ l, i + (dbl q l).length + 1, rest⟩
  | [], f, i, rest, hr, hf => by
    rcases hr with rfl | ⟨c, r, rfl, hc⟩
    · simp [dbl, qGo]
    · simp [dbl, qGo, hc]
  | b :: l, f, i, rest, hr, hf => by
    have hlen : ¬ (f.length : Int) = lf := by simp at hf; omega
    rw [dbl]
    split
    · rename_i h
      rw [List.cons_append, List.cons_append, qGo, if_pos rfl, if_pos rfl, if_neg hlen, qGo_run l (f ++ [q]) (i + 2) rest hr (by simp at hf ⊢; omega), h]
      simp; omega
    · rename_i h
      have ih := qGo_run l (f ++ [b]) (i + 1) rest hr (by simp at hf ⊢; omega)
      rw [List.cons_append]
      cases hd : dbl q l ++ q :: rest with
      | nil => simp at hd
      | cons c t =>
        rw [qGo, if_neg h, if_neg hlen, ← hd, ih]
        simp; omega
/-- What stands behind a field: nothing, or a stop. -/
def Stop (d : Int) (rest : List Int) : Prop := rest = [] ∨ ∃ c r, rest = c :: r ∧ stops d c = true
/-- A field f, written so. -/
def Wr (d q : Int) (f t : List Int) : Prop := (bareL d q f ∧ t = f) ∨ t = quoL q f
theorem bGo_stop : ∀ (l f : List Int) (i : Nat) (rest : List Int), bareL d q l → Stop d rest → (f.length : Int) + l.length < lf + 1 → bGo d q lf f i (l ++ rest) = ⟨0, f ++ l, i + l.length, rest⟩ := by
  intro l f i rest hl hr hf
  rcases hr with rfl | ⟨c, r, rfl, hc⟩
  · induction l generalizing f i with
    | nil => simp [bGo]
    | cons b l ih =>
      obtain ⟨h1, h2⟩ := hl b (List.mem_cons_self ..)
      have hlen : ¬ (f.length : Int) = lf := by simp at hf; omega
      have := ih (f ++ [b]) (i + 1) (fun x hx => hl x (List.mem_cons_of_mem _ hx)) (by simp at hf ⊢; omega)
      rw [List.cons_append, bGo, if_neg (by rw [h1]; simp), if_neg h2, if_neg hlen, this]
      simp; omega
  · exact bGo_run l f i c r hl hc hf
theorem fGo_wr (hd : Dia d q e) {f t : List Int} (hw : Wr d q f t) (i : Nat) (rest : List Int) (hr : Stop d rest) (hf : (f.length : Int) < lf + 1) : fGo d q lf i (t ++ rest) = ⟨0, f, i + t.length, rest⟩ := by
  have hq : ∀ c r, rest = c :: r → c ≠ q := by
    rintro c r rfl
    rcases hr with h | ⟨c', r', h, hc⟩
    · cases h
    · injection h with h1 h2
      subst h1
      rintro rfl
      simp [stops] at hc
      have := hd.dq; have := hd.q10; have := hd.q13
      omega
  rcases hw with ⟨hb, rfl⟩ | rfl
  · have h := bGo_stop (lf := lf) t [] i rest hb hr (by simpa using hf)
    cases t with
    | nil =>
      rw [List.nil_append] at h ⊢
      cases rest with
      | nil => simpa [fGo] using h
      | cons c r => rw [fGo, if_neg (hq c r rfl)]; simpa using h
    | cons b r => rw [List.cons_append] at h ⊢; rw [fGo, if_neg (hb b (List.mem_cons_self ..)).2]; simpa using h
  · have h := qGo_run (q := q) (lf := lf) f [] (i + 1) rest (by
      cases rest with
      | nil => exact .inl rfl
      | cons c r => exact .inr ⟨c, r, rfl, hq c r rfl⟩) (by simpa using hf)
    have he : quoL q f ++ rest = q :: (dbl q f ++ q :: rest) := by simp [quoL]
    rw [he, fGo, if_pos rfl, h, quoL_len]
    unfold behind
    rcases hr with rfl | ⟨c, r, rfl, hc⟩
    · simp; omega
    · simp [hc]; omega
/-- What stands behind a record: nothing, or an end of line and more. -/
def Ends (e : Int) (rest tail : List Int) : Prop := (rest = [] ∧ tail = []) ∨ rest = endL e ++ tail
theorem Ends.stop {rest tail : List Int} (h : Ends e rest tail) : Stop d rest := by
  rcases h with ⟨rfl, _⟩ | rfl
  · exact .inl rfl
  · obtain ⟨c, r, hE, hc⟩ := endL_cons e
    exact .inr ⟨c, r ++ tail, by rw [hE]; rfl, by rcases hc with rfl | rfl <;> simp [stops]⟩
theorem lnEnd_wr (he : e = 1 ∨ e = 2 ∨ e = 3) (m : Mk) (hu : m.u = false) (i : Nat) {rest tail : List Int} (h : Ends e rest tail) : ∃ e' i', lnEnd e m i rest = ⟨0, 0, m.rc, e', i', tail⟩ := by
  have hb : mBound m = false := by simp [mBound, hu]
  rcases h with ⟨rfl, rfl⟩ | rfl
  · exact ⟨i, i, by simp [lnEnd, hb]⟩
  · rcases he with rfl | rfl | rfl
    · exact ⟨i, i + 1, by simp [endL, lnEnd, hb]⟩
    · exact ⟨i + 1, i + 2, by simp [endL, lnEnd, hb, lnCr]⟩
    · exact ⟨i, i + 1, by simp [endL, lnEnd, hb]⟩
theorem lnGo_wr (hd : Dia d q e) (he : e = 1 ∨ e = 2 ∨ e = 3) {rest tail : List Int} (hE : Ends e rest tail) : ∀ (r : List (List Int × List Int)) (n : Nat) (m : Mk) (i : Nat), r ≠ [] → (∀ p ∈ r, Wr d q p.1 p.2 ∧ (p.1.length : Int) < m.lf + 1) → m.u = false → (m.rc.length : Int) + r.length < m.ls + 1 → r.length ≤ n →
    ∃ e' i', lnGo d q e n m i (layL d (r.map (·.2)) ++ rest) = ⟨0, 0, m.rc ++ r.map (fun p => toBA p.1), e', i', tail⟩
  | [], _, _, _, h, _, _, _, _ => absurd rfl h
  | [p], n, m, i, _, hf, hu, hs, hn => by
    obtain ⟨n, rfl⟩ : ∃ k, n = k + 1 := ⟨n - 1, by simp at hn; omega⟩
    obtain ⟨h1, h2⟩ := hf p (List.mem_cons_self ..)
    have hx := fGo_wr hd h1 i rest hE.stop h2
    obtain ⟨e', i', hend⟩ := lnEnd_wr he { m with rc := m.rc ++ [toBA p.1] } hu (i + p.2.length) hE
    refine ⟨e', i', ?_⟩
    show lnGo d q e (n + 1) m i (p.2 ++ rest) = _
    rw [lnGo, hx]
    simp only [ne_eq, not_true_eq_false, if_false]
    cases rest with
    | nil => exact hend
    | cons c t =>
      have hcd : c ≠ d := by
        rcases hE with ⟨h, _⟩ | h
        · cases h
        · obtain ⟨c', r', hE', hc⟩ := endL_cons e
          rw [hE'] at h
          injection h with h1 h2
          have := hd.d10; have := hd.d13
          rcases hc with hc | hc <;> omega
      simp only [hcd, if_false]
      exact hend
  | p :: g :: r, n, m, i, _, hf, hu, hs, hn => by
    obtain ⟨n, rfl⟩ : ∃ k, n = k + 1 := ⟨n - 1, by simp at hn; omega⟩
    obtain ⟨h1, h2⟩ := hf p (List.mem_cons_self ..)
    have hx := fGo_wr hd h1 i (d :: (layL d ((g :: r).map (·.2)) ++ rest)) (.inr ⟨d, _, rfl, by simp [stops]⟩) h2
    obtain ⟨e', i', ih⟩ := lnGo_wr hd he hE (g :: r) n { m with rc := m.rc ++ [toBA p.1] } (i + p.2.length + 1) (by simp) (fun x hx => hf x (List.mem_cons_of_mem _ hx)) hu (by simp at hs ⊢; omega) (by simp at hn ⊢; omega)
    refine ⟨e', i', ?_⟩
    have hls : ¬ (m.rc.length : Int) + 1 = m.ls := by simp at hs; omega
    have hb : mBound m = false := by simp [mBound, hu]
    have hl : layL d ((p :: g :: r).map (·.2)) ++ rest = p.2 ++ d :: (layL d ((g :: r).map (·.2)) ++ rest) := by
      simp [layL]
    rw [hl, lnGo, hx]
    simp only [ne_eq, not_true_eq_false, if_false, if_true, hls, hb, Bool.false_eq_true, false_and]
    rw [ih]
    simp
/-- A record written, behind it an end of line (or nothing), behind that the rest: it is read as it was, and then the rest. -/
theorem rdGo_wr (hd : Dia d q e) (he : e = 1 ∨ e = 2 ∨ e = 3) {rest tail : List Int} (hE : Ends e rest tail) (r : List (List Int × List Int)) (n : Nat) (m : Mk) (i : Nat) (h0 : r ≠ []) (h1 : layL d (r.map (·.2)) ≠ []) (hf : ∀ p ∈ r, Wr d q p.1 p.2 ∧ (p.1.length : Int) < m.lf + 1) (hu : m.u = false) (hrc : m.rc = []) (hs : (r.length : Int) < m.ls + 1) (hbg : ¬ m.bg = m.lr) :
    ∃ e' i', rdGo d q e (n + 1) m i (layL d (r.map (·.2)) ++ rest) = (rdGo d q e n (mOut { m with bg := m.bg + 1, rc := r.map (fun p => toBA p.1) }) i' tail).more (r.map (fun p => toBA p.1)) e' := by
  have hd10 := hd.d10; have hd13 := hd.d13; have hq10 := hd.q10; have hq13 := hd.q13
  obtain ⟨b, t, hbt, hb⟩ : ∃ b t, layL d (r.map (·.2)) = b :: t ∧ b ≠ 10 ∧ b ≠ 13 := by
    have head : ∀ p ∈ r, ∀ x y, p.2 = x :: y → x ≠ 10 ∧ x ≠ 13 := fun p hp x y hx => by
      rcases (hf p hp).1 with ⟨h2, h3⟩ | h2
      · have := (h2 x (by rw [← h3, hx]; exact List.mem_cons_self ..)).1
        simp [stops] at this
        exact this.2
      · rw [hx] at h2
        injection h2 with h2 _
        omega
    match r, h0, h1, head with
    | [p], _, h1, head =>
      simp only [List.map_cons, List.map_nil, layL] at h1 ⊢
      cases hp : p.2 with
      | nil => exact absurd hp h1
      | cons x y => exact ⟨x, y, rfl, head p (List.mem_cons_self ..) x y hp⟩
    | p :: g :: r, _, _, head =>
      cases hp : p.2 with
      | nil => exact ⟨d, layL d ((g :: r).map (·.2)), by simp [layL, hp], hd10, hd13⟩
      | cons x y => exact ⟨x, y ++ d :: layL d ((g :: r).map (·.2)), by simp [layL, hp], head p (List.mem_cons_self ..) x y hp⟩
  have hlen : r.length ≤ (t ++ rest).length + 2 := by
    have h2 : ∀ r : List (List Int), r.length ≤ (layL d r).length + 1 := by
      intro r
      induction r with
      | nil => simp
      | cons f r ih =>
        cases r with
        | nil => simp
        | cons g r => simp [layL] at ih ⊢; omega
    have h3 := congrArg List.length hbt
    have h4 := h2 (r.map (·.2))
    simp at h3 h4 ⊢; omega
  obtain ⟨e', i', hln⟩ := lnGo_wr hd he hE r ((t ++ rest).length + 2) { m with bg := m.bg + 1 } i h0 hf hu (by rw [hrc]; simpa using hs) hlen
  rw [hbt, List.cons_append] at hln ⊢
  refine ⟨e', i', ?_⟩
  rw [rdGo, if_neg hb.1, if_neg hb.2, if_neg hbg, hln]
  simp [hrc]
end
end Go.Proofs.YtoeanbfemgmgnaaGreatDoor

namespace Go.Proofs.YtoeanbfemgmgnaaGreatDoor
open Go.RowKit
set_option linter.unusedVariables false
set_option linter.unusedSimpArgs false

theorem ut_low {s b : Int} (hb : b ≤ 127) (h : utOk s b = true) : s = 0 ∧ utNx s b = 0 := by
  by_cases h0 : s = 0
  · subst h0
    exact ⟨rfl, (ut_nx0 b h).2 hb⟩
  · exfalso
    unfold utOk at h
    rw [if_neg h0] at h
    repeat' split at h
    all_goals (simp at h; try omega)
/-- Doubling a byte of 127 or below leaves a text's UTF-8 as it is. -/
theorem ut_dbl {q : Int} (hq : q ≤ 127) : ∀ (l : List Int) (s : Int), utRn s l = l.length → utRn s (dbl q l) = (dbl q l).length ∧ utRs s (dbl q l) = utRs s l
  | [], s, _ => by simp [dbl, utRn, utRs]
  | b :: r, s, h => by
    rw [utRn] at h
    cases ho : utOk s b
    · rw [ho] at h; simp at h
    · rw [ho] at h
      simp at h
      obtain ⟨g1, g2⟩ := ut_dbl hq r (utNx s b) h
      rw [dbl]
      split
      · rename_i hb
        subst hb
        obtain ⟨hs, hn⟩ := ut_low hq ho
        subst hs
        rw [hn] at g1 g2
        simp only [utRn, utRs, ho, hn, if_true, List.length_cons, g1, g2]
        exact ⟨trivial, trivial⟩
      · simp only [utRn, utRs, ho, if_true, List.length_cons, g1, g2]
        exact ⟨trivial, trivial⟩
theorem ut_quo {q : Int} (hq : q ≤ 127) {l : List Int} (h : utWhole l = l.length) : utRn 0 (quoL q l) = (quoL q l).length ∧ utRs 0 (quoL q l) = 0 := by
  obtain ⟨h1, h2⟩ := utWhole_all h
  obtain ⟨g1, g2⟩ := ut_dbl hq l 0 h1
  have ha : utRn 0 [q] = [q].length ∧ utRs 0 [q] = 0 := by simpa using ut_ascii hq
  exact ut_two_ok (a := [q]) ha (ut_two_ok ⟨g1, g2.trans h2⟩ ha)
section
variable {d q e : Int}
end
end Go.Proofs.YtoeanbfemgmgnaaGreatDoor

namespace Go.Proofs.YtoeanbfemgmgnaaGreatDoor
set_option linter.unusedVariables false
set_option linter.unusedSimpArgs false

/-- Each byte c replaced by n. -/
def repl (c : UInt8) (n : List UInt8) : List UInt8 → List UInt8
  | [] => []
  | b :: r => if b = c then n ++ repl c n r else b :: repl c n r
theorem repl_append (c : UInt8) (n : List UInt8) : ∀ a b, repl c n (a ++ b) = repl c n a ++ repl c n b
  | [], b => rfl
  | x :: a, b => by
    rw [List.cons_append, repl, repl, repl_append c n a b]
    split <;> simp
theorem repl_none (c : UInt8) (n : List UInt8) : ∀ l : List UInt8, c ∉ l → repl c n l = l
  | [], _ => rfl
  | b :: r, h => by
    rw [repl, if_neg (fun e => h (by rw [e]; exact List.mem_cons_self ..)), repl_none c n r (fun hc => h (List.mem_cons_of_mem _ hc))]
theorem repl_len (c : UInt8) (n : List UInt8) : ∀ l : List UInt8, (repl c n l).length + l.count c = l.length + l.count c * n.length
  | [] => by simp [repl]
  | b :: r => by
    have ih := repl_len c n r
    rw [repl]
    by_cases h : b = c
    · rw [if_pos h, h, List.count_cons_self, List.length_append, List.length_cons, Nat.add_mul, Nat.one_mul]
      omega
    · rw [if_neg h, List.count_cons_of_ne (by simpa using h), List.length_cons, List.length_cons]
      omega
/-- Where the first c stands. -/
theorem index_split (c : UInt8) : ∀ l : List UInt8, (Lib.indexByte l c = -1 ∧ c ∉ l) ∨ ∃ i : Nat, Lib.indexByte l c = i ∧ i < l.length ∧ l = l.take i ++ c :: l.drop (i + 1) ∧ c ∉ l.take i
  | [] => .inl ⟨rfl, by simp⟩
  | b :: r => by
    by_cases h : b = c
    · refine .inr ⟨0, ?_, by simp, by simp [h], by simp⟩
      rw [Lib.indexByte, if_pos (by simpa using h)]; rfl
    · rcases index_split c r with ⟨h1, h2⟩ | ⟨i, h1, h2, h3, h4⟩
      · refine .inl ⟨?_, by simp only [List.mem_cons, not_or]; exact ⟨fun e => h e.symm, h2⟩⟩
        rw [Lib.indexByte, if_neg (by simpa using h), h1]; rfl
      · refine .inr ⟨i + 1, ?_, by simp; omega, ?_, ?_⟩
        · rw [Lib.indexByte, if_neg (by simpa using h), h1, if_neg (by simp <;> omega)]; rfl
        · rw [List.take_succ_cons, List.drop_succ_cons, List.cons_append, ← h3]
        · rw [List.take_succ_cons]; simp only [List.mem_cons, not_or]; exact ⟨fun e => h e.symm, h4⟩
theorem index_hit {c : UInt8} {l : List UInt8} (h : 0 < l.count c) : ∃ i : Nat, Lib.indexByte l c = i ∧ i < l.length ∧ l.count c = (l.drop (i + 1)).count c + 1 ∧ ∀ n, repl c n l = l.take i ++ n ++ repl c n (l.drop (i + 1)) := by
  rcases index_split c l with ⟨h1, h2⟩ | ⟨i, h1, h2, h3, h4⟩
  · exact absurd (List.count_eq_zero.2 h2) (by omega)
  · refine ⟨i, h1, h2, ?_, fun n => ?_⟩
    · have e : l.count c = (l.take i ++ c :: l.drop (i + 1)).count c := by rw [← h3]
      rw [e, List.count_append, List.count_eq_zero.2 h4, List.count_cons_self]; omega
    · have e : repl c n l = repl c n (l.take i ++ c :: l.drop (i + 1)) := by rw [← h3]
      rw [e, repl_append, repl_none c n _ h4, repl, if_pos rfl, List.append_assoc]
/-! ### As numbers -/
theorem repl_dbl (c : UInt8) : ∀ l : List UInt8, (repl c [c, c] l).map (fun b => (b.toNat : Int)) = dbl (c.toNat : Int) (l.map fun b => (b.toNat : Int))
  | [] => rfl
  | b :: r => by
    rw [repl, List.map_cons, dbl, ← repl_dbl c r]
    by_cases h : b = c
    · rw [if_pos h, if_pos (by rw [h])]; rfl
    · rw [if_neg h, if_neg (fun e => h (UInt8.toNat_inj.1 (by omega)))]; rfl
/-! ### Pairs -/
/-- One c for each pair. -/
def ones (c : UInt8) : List UInt8 → List UInt8
  | [] => []
  | [b] => [b]
  | b :: d :: r => if b = c ∧ d = c then c :: ones c r else b :: ones c (d :: r)
/-! ### What the library's words tell of pairs -/
/-! ### A text behind its first Quote -/
end Go.Proofs.YtoeanbfemgmgnaaGreatDoor

namespace Go.Proofs.YtoeanbfemgmgnaaGreatDoor
open Go.RowKit
set_option linter.unusedVariables false
set_option linter.unusedSimpArgs false

/-- Fields, each with how it is written. -/
abbrev Wrs := List (List Int × List Int)
def lineL (d e : Int) (r : Wrs) : List Int := layL d (r.map (·.2)) ++ endL e
def tabL (d e : Int) : List Wrs → List Int
  | [] => []
  | r :: t => lineL d e r ++ tabL d e t
/-- A record that may be written so. -/
structure RecOk (d q : Int) (lf ls : Int) (r : Wrs) : Prop where
  some : r ≠ []
  lay : layL d (r.map (·.2)) ≠ []
  wr : ∀ p ∈ r, Wr d q p.1 p.2
  lf : ∀ p ∈ r, (p.1.length : Int) < lf + 1
  ls : (r.length : Int) < ls + 1
section
variable {d q e : Int}
theorem tab_go (hd : Dia d q e) (he : e = 1 ∨ e = 2 ∨ e = 3) : ∀ (t : List Wrs) (n : Nat) (m : Mk) (i : Nat), (∀ r ∈ t, RecOk d q m.lf m.ls r) → m.u = false → m.rc = [] → m.bg + t.length ≤ m.lr → t.length < n →
    (rdGo d q e n m i (tabL d e t)).k = 0 ∧ (rdGo d q e n m i (tabL d e t)).rs.map (·.1) = t.map (fun r => r.map fun p => toBA p.1)
  | [], n, m, i, _, _, _, _, hn => by
    obtain ⟨n, rfl⟩ : ∃ k, n = k + 1 := ⟨n - 1, by simp at hn; omega⟩
    exact ⟨rfl, rfl⟩
  | r :: t, n, m, i, hok, hu, hrc, hlr, hn => by
    obtain ⟨n, rfl⟩ : ∃ k, n = k + 1 := ⟨n - 1, by simp at hn; omega⟩
    have h1 := hok r (List.mem_cons_self ..)
    obtain ⟨e', i', h2⟩ := rdGo_wr hd he (rest := endL e ++ tabL d e t) (tail := tabL d e t) (.inr rfl) r n m i h1.some h1.lay (fun p hp => ⟨h1.wr p hp, h1.lf p hp⟩) hu hrc h1.ls (by simp at hlr; omega)
    obtain ⟨g1, g2⟩ := tab_go hd he t n (mOut { m with bg := m.bg + 1, rc := r.map (fun p => toBA p.1) }) i' (fun x hx => by
      have := hok x (List.mem_cons_of_mem _ hx)
      exact ⟨this.some, this.lay, this.wr, this.lf, this.ls⟩) hu rfl (by show m.bg + 1 + (t.length : Int) ≤ m.lr; simp at hlr; omega) (by simp at hn; omega)
    have h3 : tabL d e (r :: t) = layL d (r.map (·.2)) ++ (endL e ++ tabL d e t) := by
      show (layL d (r.map (·.2)) ++ endL e) ++ tabL d e t = _
      rw [List.append_assoc]
    rw [h3, h2]
    exact ⟨g1, by simp [Got.more, g2]⟩
theorem ut_wr (hq : q ≤ 127) {f t : List Int} (hw : Wr d q f t) (h : utWhole f = f.length) : utRn 0 t = t.length ∧ utRs 0 t = 0 := by
  rcases hw with ⟨_, rfl⟩ | rfl
  · exact utWhole_all h
  · exact ut_quo hq h
theorem ut_lay2 (hd : d ≤ 127) : ∀ r : List (List Int), (∀ f ∈ r, utRn 0 f = f.length ∧ utRs 0 f = 0) → utRn 0 (layL d r) = (layL d r).length ∧ utRs 0 (layL d r) = 0
  | [], _ => by simp [layL, utRn, utRs]
  | [f], h => h f (List.mem_cons_self ..)
  | f :: g :: r, h => by
    have h2 := ut_two_ok (a := [d]) (by simpa using ut_ascii hd) (ut_lay2 hd (g :: r) (fun x hx => h x (List.mem_cons_of_mem _ hx)))
    rw [layL]
    exact ut_two_ok (h f (List.mem_cons_self ..)) h2
theorem ut_tab (hd : d ≤ 127) (hq : q ≤ 127) : ∀ t : List Wrs, (∀ r ∈ t, ∀ p ∈ r, Wr d q p.1 p.2 ∧ utWhole p.1 = p.1.length) → utRn 0 (tabL d e t) = (tabL d e t).length ∧ utRs 0 (tabL d e t) = 0
  | [], _ => by simp [tabL, utRn, utRs]
  | r :: t, h => by
    refine ut_two_ok (ut_two_ok (ut_lay2 hd _ fun f hf => ?_) (ut_end e)) (ut_tab hd hq t fun x hx => h x (List.mem_cons_of_mem _ hx))
    obtain ⟨p, hp, rfl⟩ := List.mem_map.1 hf
    obtain ⟨h1, h2⟩ := h r (List.mem_cons_self ..) p hp
    exact ut_wr hq h1 h2
/-- The first field of all is written so that no mark begins the text. -/
def NoMark (d q : Int) : List Wrs → Prop
  | [] => True
  | r :: _ => ∀ p ps, r = p :: ps → (bareL d q p.1 ∧ p.2 = p.1 ∧ bomHad p.1 = false) ∨ p.2 = quoL q p.1
theorem tab_mark (hd : d ≤ 127) (hq : q ≤ 127) (t : List Wrs) (ht : ∀ r ∈ t, r ≠ []) (h : NoMark d q t) : bomHad (tabL d e t) = false := by
  cases t with
  | nil => rfl
  | cons r t =>
    cases r with
    | nil => exact absurd rfl (ht [] (List.mem_cons_self ..))
    | cons p ps =>
      obtain ⟨c, rest, hc, h2⟩ : ∃ c rest, c ≤ 127 ∧ tabL d e ((p :: ps) :: t) = p.2 ++ c :: rest := by
        obtain ⟨c, rest, hE, hc⟩ := endL_cons e
        cases ps with
        | nil => exact ⟨c, rest ++ tabL d e t, by omega, by simp [tabL, lineL, layL, hE]⟩
        | cons g ps => exact ⟨d, layL d ((g :: ps).map (·.2)) ++ (endL e ++ tabL d e t), hd, by simp [tabL, lineL, layL]⟩
      rw [h2]
      rcases h p ps rfl with ⟨_, h3, h4⟩ | h3
      · rw [h3]; exact no_mark hc h4
      · have h1 : (239 == q) = false := by simp; omega
        rw [h3]
        simp [bomHad, bomMk, quoL, List.isPrefixOf, h1]
/-- A TABLE WRITTEN IS READ AS THE TABLE. -/
theorem tab_read3 (hd : Dia d q e) (hd7 : d ≤ 127) (hq7 : q ≤ 127) (he : e = 1 ∨ e = 2 ∨ e = 3) (t : List Wrs) (lf ls lr : Int) (hW : (t.length : Int) ≤ lr) (hok : ∀ r ∈ t, RecOk d q lf ls r) (hu : ∀ r ∈ t, ∀ p ∈ r, utWhole p.1 = p.1.length) (hm : NoMark d q t) (n : Nat) (hn : t.length < n) (T : List Int) (hT : T = tabL d e t) :
    whRs (rdGo d q e n (mk0 lf ls lr false) 0 (bomStrip T)) T = t.map (fun r => r.map fun p => toBA p.1) ∧ (whKA (rdGo d q e n (mk0 lf ls lr false) 0 (bomStrip T)) T).1 = 0 := by
  subst hT
  have hnm := tab_mark (e := e) hd7 hq7 t (fun r hr => (hok r hr).some) hm
  have hst : bomStrip (tabL d e t) = tabL d e t := by unfold bomStrip; rw [hnm]; simp
  have hoff : whOff (tabL d e t) = 0 := by unfold whOff; rw [hnm]; simp
  obtain ⟨g1, g2⟩ := tab_go hd he t n (mk0 lf ls lr false) 0 hok rfl rfl (by show (0 : Int) + t.length ≤ lr; omega) hn
  have hut := ut_tab (e := e) hd7 hq7 t (fun r hr p hp => ⟨(hok r hr).wr p hp, hu r hr p hp⟩)
  have hk : (whKA (rdGo d q e n (mk0 lf ls lr false) 0 (tabL d e t)) (tabL d e t)).1 = 0 := by
    unfold whKA
    simp only [g1, if_true]
    rw [if_neg (by omega), if_neg (fun h => utAll_whole hut.1 hut.2 h.1)]
  rw [hst]
  refine ⟨?_, hk⟩
  unfold whRs
  rw [hk, ← g2]
  congr 1
  rw [List.filter_eq_self]
  intro p _
  simp
end
end Go.Proofs.YtoeanbfemgmgnaaGreatDoor

namespace Go.Proofs.YtoeanbfemgmgnaaGreatDoor
open Go.RowKit
set_option linter.unusedVariables false
set_option linter.unusedSimpArgs false

/-- A field as written. -/
def wriL (d q : Int) (f : List Int) (al fi : Bool) : List Int := if whyN d q f al fi = 0 then f else quoL q f
/-- A record's fields as written. -/
def canR (d q : Int) (al : Bool) : Bool → List (List Int) → Wrs
  | _, [] => []
  | fi, f :: r => (f, wriL d q f al fi) :: canR d q al false r
/-- A table's. -/
def canT (d q : Int) : Bool → List (List (List Int)) → List Wrs
  | _, [] => []
  | fi, r :: t => canR d q (decide (r.length = 1)) fi r :: canT d q false t
def flds (r : Wrs) : List (List Int) := r.map (·.1)
section
variable {d q e : Int}
theorem canR_nil (al fi : Bool) (l : List (List Int)) : (canR d q al fi l).map (·.2) = [] ↔ l = [] := by
  cases l <;> simp [canR]
/-- The field that stands first of all begins with a mark, and stands bare. -/
def bareMark : List Wrs → Prop
  | (p :: _) :: _ => bomHad p.1 = true ∧ p.2 = p.1
  | _ => False
instance : ∀ t, Decidable (bareMark t)
  | [] => isFalse (fun h => h)
  | [] :: _ => isFalse (fun h => h)
  | (p :: _) :: _ => inferInstanceAs (Decidable (_ ∧ _))
end
end Go.Proofs.YtoeanbfemgmgnaaGreatDoor

namespace Go.Proofs.YtoeanbfemgmgnaaGreatDoor
open Go.RowKit
set_option linter.unusedVariables false
set_option linter.unusedSimpArgs false

section
variable {d q e : Int}
theorem flds_can (al : Bool) : ∀ (r : List (List Int)) (fi : Bool), flds (canR d q al fi r) = r
  | [], _ => rfl
  | f :: r, fi => by
    have := flds_can al r false
    unfold flds at this ⊢
    rw [canR, List.map_cons, this]
theorem flds_canT : ∀ (t : List (List (List Int))) (fi : Bool), (canT d q fi t).map flds = t
  | [], _ => rfl
  | r :: t, fi => by rw [canT, List.map_cons, flds_can, flds_canT t false]
theorem wriL_wr (f : List Int) (al fi : Bool) : Wr d q f (wriL d q f al fi) := by
  unfold wriL
  split
  · rename_i h
    obtain ⟨h1, h2, h3, h4⟩ := why0 h
    refine .inl ⟨fun b hb => ⟨?_, fun hq => hasL_not h2 (hq ▸ hb)⟩, rfl⟩
    have n1 : b ≠ d := fun h => hasL_not h1 (h ▸ hb)
    have n2 : b ≠ 13 := fun h => hasL_not h3 (h ▸ hb)
    have n3 : b ≠ 10 := fun h => hasL_not h4 (h ▸ hb)
    simp [stops]; omega
  · exact .inr rfl
theorem canR_wr (al : Bool) : ∀ (r : List (List Int)) (fi : Bool), ∀ p ∈ canR d q al fi r, Wr d q p.1 p.2
  | [], _, p, h => by simp [canR] at h
  | f :: r, fi, p, h => by
    rw [canR] at h
    rcases List.mem_cons.1 h with rfl | h
    · exact wriL_wr f al fi
    · exact canR_wr al r false p h
theorem why_alone (fi : Bool) : whyN d q [] true fi ≠ 0 := by
  unfold whyN; simp [hasL]
theorem canR_lay {r : List (List Int)} (h : r ≠ []) (fi : Bool) : layL d ((canR d q (decide (r.length = 1)) fi r).map (·.2)) ≠ [] := by
  match r, h with
  | [f], _ =>
    show wriL d q f true fi ≠ []
    by_cases hf : f = []
    · subst hf
      unfold wriL
      rw [if_neg (why_alone fi)]
      simp [quoL]
    · unfold wriL
      split
      · exact hf
      · simp [quoL]
  | f :: g :: r, _ => simp [canR, layL]
/-- A table's text may be read (RecOk) where its records have fields. -/
theorem canT_ok (lf ls : Int) : ∀ (t : List (List (List Int))) (fi : Bool), (∀ r ∈ t, r ≠ [] ∧ (r.length : Int) < ls + 1 ∧ ∀ f ∈ r, (f.length : Int) < lf + 1) → ∀ z ∈ canT d q fi t, RecOk d q lf ls z
  | [], _, _, z, hz => by simp [canT] at hz
  | r :: t, fi, h, z, hz => by
    rw [canT] at hz
    rcases List.mem_cons.1 hz with rfl | hz
    · obtain ⟨h1, h2, h3⟩ := h r (List.mem_cons_self ..)
      have hf := flds_can (d := d) (q := q) (decide (r.length = 1)) r fi
      refine ⟨fun h0 => h1 (by rw [← hf, h0]; rfl), canR_lay h1 fi, canR_wr _ r fi, fun p hp => h3 p.1 ?_, ?_⟩
      · have : p.1 ∈ flds (canR d q (decide (r.length = 1)) fi r) := List.mem_map_of_mem hp
        rwa [hf] at this
      · have := congrArg List.length hf
        simp [flds] at this
        rw [this]; exact h2
    · exact canT_ok lf ls t false (fun x hx => h x (List.mem_cons_of_mem _ hx)) z hz
theorem why_mark {f : List Int} (al : Bool) (h : bomHad f = true) : whyN d q f al true ≠ 0 := by
  unfold whyN
  repeat' split
  all_goals simp_all
theorem canT_mark (t : List (List (List Int))) : NoMark d q (canT d q true t) := by
  cases t with
  | nil => exact trivial
  | cons r t =>
    intro p ps hp
    cases r with
    | nil => simp [canR] at hp
    | cons f r =>
      simp only [canR] at hp
      injection hp with hp _
      subst hp
      cases hm : bomHad f
      · rcases wriL_wr (d := d) (q := q) f (decide ((f :: r).length = 1)) true with ⟨h1, h2⟩ | h2
        · exact .inl ⟨h1, h2, rfl⟩
        · exact .inr h2
      · right
        show wriL d q f _ true = _
        unfold wriL
        rw [if_neg (why_mark _ hm)]
end
end Go.Proofs.YtoeanbfemgmgnaaGreatDoor

namespace Go.Proofs.YtoeanbfemgmgnaaGreatDoor
set_option linter.unusedVariables false

def holdN (m : Nat) (n : Int) : Nat := if n < 0 then 0 else if (m : Int) < n then m else n.toNat
theorem holdN_le (m : Nat) (n : Int) : holdN m n ≤ m := by unfold holdN; split; omega; split <;> omega
def ins (x : Nat) : List Nat → List Nat
  | [] => [x]
  | y :: r => if x ≤ y then x :: y :: r else y :: ins x r
/-- All of a list, one behind the other. -/
def jn : List ByteArray → ByteArray
  | [] => ByteArray.empty
  | x :: r => x ++ jn r
theorem jn_append : ∀ a b, jn (a ++ b) = jn a ++ jn b
  | [], b => by simp [jn]
  | x :: r, b => by simp [jn, jn_append r b, ByteArray.append_assoc]
theorem jn_snoc (a : List ByteArray) (x : ByteArray) : jn (a ++ [x]) = jn a ++ x := by rw [jn_append]; simp [jn]
theorem jn_take_le (l : List ByteArray) (k : Nat) : (jn (l.take k)).size ≤ (jn l).size := by
  have h := jn_append (l.take k) (l.drop k)
  rw [List.take_append_drop] at h
  rw [h, ByteArray.size_append]; omega
theorem ext_join (s : ByteArray) {a b c : Nat} (h1 : a ≤ b) (h2 : b ≤ c) : s.extract a b ++ s.extract b c = s.extract a c := by
  apply ByteArray.ext
  simp only [ByteArray.data_append, ByteArray.data_extract, Array.extract_append_extract]
  congr 1 <;> omega
/-- A list without its k-th, as far as it has been gone through. -/
def gone (l : List Nat) (k i : Nat) : List Nat := if i ≤ k then l.take i else (l.take i).eraseIdx k
end Go.Proofs.YtoeanbfemgmgnaaGreatDoor

namespace Go.Proofs.YtoeanbfemgmgnaaGreatDoor
set_option linter.unusedVariables false

/-- The pieces from p on, where rest is what is left of this turn through the sizes. -/
inductive ByR (s : ByteArray) (z : List Int) : Nat → List Int → List ByteArray → Prop
  | done {p : Nat} {rest : List Int} : s.size ≤ p → ByR s z p rest []
  | wrap {p : Nat} {X : List ByteArray} : p < s.size → ByR s z p z X → ByR s z p [] X
  | step {p : Nat} {n : Int} {r : List Int} {X : List ByteArray} : p < s.size → ByR s z (p + holdN (s.size - p) n) r X → ByR s z p (n :: r) (s.extract p (p + holdN (s.size - p) n) :: X)
theorem ByR.at_end {s : ByteArray} {z : List Int} {p : Nat} {rest : List Int} {X : List ByteArray} (h : ByR s z p rest X) (hp : s.size ≤ p) : X = [] := by
  cases h with
  | done _ => rfl
  | wrap h _ => omega
  | step h _ => omega
theorem ByR.joined {s : ByteArray} {z : List Int} {p : Nat} {rest : List Int} {X : List ByteArray} (h : ByR s z p rest X) : p ≤ s.size → jn X = s.extract p s.size := by
  induction h with
  | @done p rest hp =>
    intro h
    obtain rfl : p = s.size := by omega
    apply ByteArray.ext
    simp [jn]
  | wrap hp _ ih => exact ih
  | @step p n r X hp _ ih =>
    intro _
    have := holdN_le (s.size - p) n
    rw [jn, ih (by omega), ext_join s (by omega) (by omega)]
/-- What By answers. -/
def ByOut (s : ByteArray) (z : List Int) (X : List ByteArray) : Prop :=
  if s.size = 0 ∨ z.any (fun n => decide (0 < n)) = false then X = [s] else ByR s z 0 z X
theorem ByOut.joined {s : ByteArray} {z : List Int} {X : List ByteArray} (h : ByOut s z X) : jn X = s := by
  unfold ByOut at h
  split at h
  · rw [h]; simp [jn]
  · rw [h.joined (Nat.zero_le _)]; simp
end Go.Proofs.YtoeanbfemgmgnaaGreatDoor

/- Layer 12, plain: how far a reader has walked (Rn), byte by byte; what it tells by now; that at the end it is what all of its text comes to. -/
import Derived.Test.YtoeanbfemgmgnaaGreatDoorPtr
import Derived.Test.YtoeanbfemgmgnaaGreatDoorZw
import Derived.Test.YtoeanbfemgmgnaaGreatDoorCbs
namespace Go.Proofs.YtoeanbfemgmgnaaGreatDoor
open Go.RowKit
set_option linter.unusedVariables false
set_option linter.unusedSimpArgs false

/-- How far a walk has come: both states, the maker, the records by now, the fault and its place (0, 0: none). -/
structure Rn where
  u : Int
  t : Int
  m : Mk
  rs : List (List ByteArray)
  k : Int
  at_ : Nat
def rnB (d q e : Int) (R : Rn) (i : Nat) (b : Int) : Rn :=
  if R.k ≠ 0 then R
  else if (pasB d q e R.u R.t R.m b).k ≠ 0 then ⟨R.u, R.t, R.m, R.rs, (pasB d q e R.u R.t R.m b).k, i⟩
  else ⟨(pasB d q e R.u R.t R.m b).u, (pasB d q e R.u R.t R.m b).t, (pasB d q e R.u R.t R.m b).m, if (pasB d q e R.u R.t R.m b).told = true then R.rs ++ [(pasB d q e R.u R.t R.m b).l] else R.rs, 0, 0⟩
def rnL (d q e : Int) : Rn → Nat → List Int → Rn
  | R, _, [] => R
  | R, i, b :: r => rnL d q e (rnB d q e R i b) (i + 1) r
def Rn.K (R : Rn) : Int × Int := (R.k, if R.k = 0 then 0 else (R.at_ : Int))
/-- What is told of a text: records, fault, place. -/
def Got.fin (g : Got) (pre : List (List ByteArray)) : List (List ByteArray) × Int × Int := (pre ++ g.rs.map (·.1), g.k, if g.k = 0 then 0 else (g.at_ : Int))
def Rn.fin (R : Rn) : List (List ByteArray) × Int × Int := (R.rs, R.K)
/-- What the end comes to. -/
def rnE (R : Rn) (i : Nat) : List (List ByteArray) × Int × Int :=
  if R.k ≠ 0 then R.fin
  else if (pasE R.u R.t R.m).k ≠ 0 then (R.rs, (pasE R.u R.t R.m).k, i)
  else (if (pasE R.u R.t R.m).told = true then R.rs ++ [(pasE R.u R.t R.m).l] else R.rs, 0, 0)
section
variable {d q e : Int}
theorem rnB_stop {R : Rn} (h : R.k ≠ 0) (i : Nat) (b : Int) : rnB d q e R i b = R := if_pos h
theorem rnL_stop : ∀ (l : List Int) {R : Rn} (h : R.k ≠ 0) (i : Nat), rnL d q e R i l = R
  | [], R, h, i => rfl
  | b :: r, R, h, i => by rw [rnL, rnB_stop h]; exact rnL_stop r h (i + 1)
theorem rnL_app : ∀ (l r : List Int) (R : Rn) (i : Nat), rnL d q e R i (l ++ r) = rnL d q e (rnL d q e R i l) (i + l.length) r
  | [], r, R, i => rfl
  | b :: l, r, R, i => by
    rw [List.cons_append, rnL, rnL, rnL_app l r, List.length_cons, show i + 1 + l.length = i + (l.length + 1) by omega]
theorem rnL_snoc (l : List Int) (b : Int) (R : Rn) (i : Nat) : rnL d q e R i (l ++ [b]) = rnB d q e (rnL d q e R i l) (i + l.length) b := rnL_app l [b] R i
theorem fin_more (g : Got) (r : List ByteArray) (i : Nat) (pre : List (List ByteArray)) : (g.more r i).fin pre = g.fin (pre ++ [r]) := by
  unfold Got.fin Got.more; simp
theorem rnL_is : ∀ (l r : List Int) (R : Rn) (i : Nat), R.k = 0 →
    (mchU d q e R.u R.t R.m i (l ++ r)).fin R.rs = if (rnL d q e R i l).k ≠ 0 then (rnL d q e R i l).fin else (mchU d q e (rnL d q e R i l).u (rnL d q e R i l).t (rnL d q e R i l).m (i + l.length) r).fin (rnL d q e R i l).rs
  | [], r, R, i, h => by rw [rnL, if_neg (by simpa using h)]; rfl
  | b :: l, r, R, i, h => by
    have hv := mchU_cons (d := d) (q := q) (e := e) (u := R.u) (t := R.t) (m := R.m) (i := i) (b := b) (r := l ++ r) rfl
    rw [List.cons_append, hv, rnL]
    have hlen : i + (b :: l).length = i + 1 + l.length := by rw [List.length_cons]; omega
    by_cases hk : (pasB d q e R.u R.t R.m b).k ≠ 0
    · have hb : rnB d q e R i b = ⟨R.u, R.t, R.m, R.rs, (pasB d q e R.u R.t R.m b).k, i⟩ := by
        unfold rnB; rw [if_neg (by simpa using h), if_pos hk]
      have hk2 : (rnB d q e R i b).k ≠ 0 := by rw [hb]; exact hk
      rw [if_pos hk, rnL_stop l hk2, if_pos hk2, hb]
      unfold Got.fin Rn.fin Rn.K
      simp
    · have hb : rnB d q e R i b = ⟨(pasB d q e R.u R.t R.m b).u, (pasB d q e R.u R.t R.m b).t, (pasB d q e R.u R.t R.m b).m, if (pasB d q e R.u R.t R.m b).told = true then R.rs ++ [(pasB d q e R.u R.t R.m b).l] else R.rs, 0, 0⟩ := by
        unfold rnB; rw [if_neg (by simpa using h), if_neg hk]
      have ih := rnL_is l r (rnB d q e R i b) (i + 1) (by rw [hb])
      rw [hlen, ← ih, if_neg hk, hb]
      dsimp only
      split
      · rw [fin_more]
      · rfl
theorem rnE_is (R : Rn) (i : Nat) (h : R.k = 0) : (mchU d q e R.u R.t R.m i []).fin R.rs = rnE R i := by
  rw [mchU_nil (d := d) (q := q) (e := e) rfl]
  unfold rnE
  rw [if_neg (show ¬ R.k ≠ 0 by simpa using h)]
  by_cases hk : (pasE R.u R.t R.m).k ≠ 0
  · rw [if_pos hk, if_pos hk]
    have hk' : ¬ (pasE R.u R.t R.m).k = 0 := hk
    unfold Got.fin
    simp [hk']
  · rw [if_neg hk, if_neg hk]
    by_cases ht : (pasE R.u R.t R.m).told = true
    · rw [if_pos ht, if_pos ht]; unfold Got.fin; simp
    · rw [if_neg ht, if_neg ht]; unfold Got.fin; simp
/-- What is so of a walk over N bytes. -/
structure Rn.Ok (R : Rn) (N : Nat) : Prop where
  m : R.m.Ok N
  t0 : 0 ≤ R.t
  t6 : R.t ≤ 6
  few : R.rs.length ≤ N
theorem rnB_ok {R : Rn} {N : Nat} (ok : R.Ok N) (i : Nat) (b : Int) : (rnB d q e R i b).Ok (N + 1) := by
  have hf := pasB_facts (d := d) (q := q) (e := e) (b := b) (v := pasB d q e R.u R.t R.m b) ok.m ok.t0 ok.t6 rfl
  have h0 : R.m.Ok (N + 1) := (Few.refl R.m 1 1 2).ok ok.m
  have hl := ok.few
  unfold rnB
  split
  · exact ⟨h0, ok.t0, ok.t6, by omega⟩
  · split
    · exact ⟨h0, ok.t0, ok.t6, by show R.rs.length ≤ _; omega⟩
    · refine ⟨hf.1, hf.2.1, hf.2.2, ?_⟩
      dsimp only
      split
      · simp; omega
      · omega
theorem rnL_ok : ∀ (l : List Int) {R : Rn} {N : Nat} (ok : R.Ok N) (i : Nat), (rnL d q e R i l).Ok (N + l.length)
  | [], R, N, ok, i => ok
  | b :: r, R, N, ok, i => by
    have := rnL_ok r (rnB_ok (d := d) (q := q) (e := e) ok i b) (i + 1)
    rw [rnL, List.length_cons, show N + (r.length + 1) = N + 1 + r.length by omega]
    exact this
end

/-! ### A reader -/
def RdS.r0 (X : RdS) : Rn := ⟨0, 0, mk0 X.lf X.ls X.lr X.un, [], 0, 0⟩
def RdS.run (X : RdS) : Rn := rnL X.d X.q X.e X.r0 (whOff (bl X.x)) (bomTold (bl X.x))
/-- What it tells by now. -/
def RdS.now (X : RdS) : List (List ByteArray) × Int × Int := if X.cl = true then (X.rs, X.K) else X.run.fin
def kfx (X : RdS) : Int × Int := X.now.2
def cfx (X : RdS) : Int := (X.now.1.length : Int)
def ofx (X : RdS) : Int := if (kfx X).1 ≠ 0 then (kfx X).2 else (X.x.size : Int)
theorem told_app (s b : List Int) : ∃ out, bomTold (s ++ b) = bomTold s ++ out := by
  cases hp : bomPre s
  · exact ⟨b, (bom_settled b hp).2.2⟩
  · exact ⟨bomTold (s ++ b), by unfold bomTold; simp [hp]⟩
theorem held_at (s : List Int) : bomHeld s ≤ s.length ∧ (bomMk.take (bomHeld s)).length = bomHeld s := by
  have h2 := bomHeld_le s
  constructor
  · unfold bomHeld; split
    · exact Nat.le_refl _
    · exact Nat.zero_le _
  · rw [List.length_take]; simp [bomMk]; omega
theorem told_at (s : List Int) : whOff s + (bomTold s).length + bomHeld s = s.length := by
  have h1 := whOff_len s
  have h2 := congrArg List.length (bom_closes s)
  have h3 := (held_at s).2
  rw [List.length_append, h3] at h2
  omega
theorem run_feed (X : RdS) (b : ByteArray) (out : List Int) (h : bomTold (bl X.x ++ bl b) = bomTold (bl X.x) ++ out) : (X.feed b).run = rnL X.d X.q X.e X.run (X.x.size + b.size - out.length) out := by
  show rnL X.d X.q X.e X.r0 (whOff (bl (X.x ++ b))) (bomTold (bl (X.x ++ b))) = _
  rw [bl_append, h, rnL_app]
  have e1 : rnL X.d X.q X.e X.r0 (whOff (bl X.x ++ bl b)) (bomTold (bl X.x)) = X.run := by
    unfold RdS.run
    cases hp : bomPre (bl X.x)
    · have : whOff (bl X.x ++ bl b) = whOff (bl X.x) := by unfold whOff; rw [(bom_settled (bl b) hp).2.1]
      rw [this]
    · have : bomTold (bl X.x) = [] := by unfold bomTold; rw [hp, if_pos rfl]
      rw [this]; rfl
  rw [e1]
  cases out with
  | nil => rfl
  | cons c r =>
    have hp : bomPre (bl X.x ++ bl b) = false := by
      cases hp : bomPre (bl X.x ++ bl b)
      · rfl
      · have : bomTold (bl X.x ++ bl b) = [] := by unfold bomTold; rw [hp, if_pos rfl]
        rw [this] at h
        have := congrArg List.length h
        simp at this
    have hh : bomHeld (bl X.x ++ bl b) = 0 := by unfold bomHeld; rw [hp]; rfl
    have ha := told_at (bl X.x ++ bl b)
    rw [hh, h, List.length_append, List.length_append, bl_length, bl_length] at ha
    have hi : whOff (bl X.x ++ bl b) + (bomTold (bl X.x)).length = X.x.size + b.size - (c :: r).length := by omega
    rw [hi]
theorem Mk.Ok.up {s : Mk} {N M : Nat} (h : s.Ok N) (hm : N ≤ M) : s.Ok M := ⟨h.lr, h.bg, by have := h.bgN; omega, h.ct, by have := h.ctN; omega, by have := h.fdN; omega, by have := h.rcN; omega⟩
theorem run_ok {X : RdS} (h : X.Ok) : X.run.Ok X.x.size := by
  have h0 : X.r0.Ok 0 := ⟨mk0_ok _ _ _ _ h.fits, Int.le_refl _, by show (0 : Int) ≤ 6; omega, Nat.le_refl _⟩
  have h1 := rnL_ok (d := X.d) (q := X.q) (e := X.e) (bomTold (bl X.x)) h0 (whOff (bl X.x))
  have h2 := told_at (bl X.x)
  rw [bl_length] at h2
  refine ⟨h1.m.up (by omega), h1.t0, h1.t6, Nat.le_trans h1.few (by omega)⟩
/-- What all of its text comes to, as walked. -/
theorem run_shut (X : RdS) : (X.rs, X.K) = rnE (rnL X.d X.q X.e X.run (X.x.size - bomHeld (bl X.x)) (bomMk.take (bomHeld (bl X.x)))) X.x.size := by
  have ha := told_at (bl X.x)
  have hh := held_at (bl X.x)
  rw [bl_length] at ha hh
  have hc := bom_closes (bl X.x)
  have e0 : (X.rs, X.K) = (mchU X.d X.q X.e X.r0.u X.r0.t X.r0.m (whOff (bl X.x)) (bomStrip (bl X.x))).fin X.r0.rs := by
    show _ = X.g.fin []
    unfold Got.fin RdS.rs RdS.K
    simp
  have e1 : rnL X.d X.q X.e X.run (X.x.size - bomHeld (bl X.x)) (bomMk.take (bomHeld (bl X.x))) = rnL X.d X.q X.e X.r0 (whOff (bl X.x)) (bomStrip (bl X.x)) := by
    rw [← hc, rnL_app]
    show rnL X.d X.q X.e X.run _ _ = rnL X.d X.q X.e X.run _ _
    rw [show whOff (bl X.x) + (bomTold (bl X.x)).length = X.x.size - bomHeld (bl X.x) by omega]
  rw [e0, e1]
  have h := rnL_is (d := X.d) (q := X.q) (e := X.e) (bomStrip (bl X.x)) [] X.r0 (whOff (bl X.x)) rfl
  rw [List.append_nil] at h
  rw [h]
  have hl := whOff_len (bl X.x)
  rw [bl_length] at hl
  by_cases hk : (rnL X.d X.q X.e X.r0 (whOff (bl X.x)) (bomStrip (bl X.x))).k ≠ 0
  · rw [if_pos hk]; unfold rnE; rw [if_pos hk]
  · rw [if_neg hk, rnE_is _ _ (by simpa using hk), hl]
theorem stuck_now {X : RdS} (hk : X.run.k ≠ 0) : (X.rs, X.K) = X.run.fin := by
  rw [run_shut, rnL_stop _ hk]; unfold rnE; rw [if_pos hk]
theorem stuck_all (X : RdS) (hcl : X.cl = false) (hk : kfx X ≠ (0, 0)) (b : ByteArray) : kfx (X.feed b) = kfx X ∧ cfx (X.feed b) = cfx X ∧ ofx (X.feed b) = ofx X ∧ kfx X.shut = kfx X ∧ cfx X.shut = cfx X ∧ ofx X.shut = ofx X := by
  have hn : X.now = X.run.fin := by unfold RdS.now; rw [hcl, if_neg (by simp)]
  have h0 : X.run.k ≠ 0 := fun h0 => hk (by unfold kfx; rw [hn]; unfold Rn.fin Rn.K; simp [h0])
  obtain ⟨out, ho⟩ := told_app (bl X.x) (bl b)
  have hf : (X.feed b).now = X.now := by
    rw [hn]
    unfold RdS.now
    rw [show (X.feed b).cl = false from hcl, if_neg (by simp), run_feed X b out ho, rnL_stop _ h0]
  have hs : X.shut.now = X.now := by
    rw [hn]
    show (if (true : Bool) = true then (X.rs, X.K) else _) = _
    rw [if_pos rfl, stuck_now h0]
  have hkk : (kfx X).1 ≠ 0 := by unfold kfx; rw [hn]; exact h0
  have e1 : kfx (X.feed b) = kfx X := by unfold kfx; rw [hf]
  have e2 : kfx X.shut = kfx X := by unfold kfx; rw [hs]
  refine ⟨e1, by unfold cfx; rw [hf], ?_, e2, by unfold cfx; rw [hs], ?_⟩
  · unfold ofx; rw [e1, if_pos hkk, if_pos hkk]
  · unfold ofx; rw [e2, if_pos hkk, if_pos hkk]
theorem told_all (X : RdS) (h : X.cl = true) : kfx X = X.K := by unfold kfx RdS.now; rw [h, if_pos rfl]
end Go.Proofs.YtoeanbfemgmgnaaGreatDoor

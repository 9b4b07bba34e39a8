/- Layer 6: through, as an iterator: it hands on the records and the first fault, in order, and stops when it is told to. -/
import Derived.Test.YtbglecaahopgdaaWkc
import Derived.Test.YtbglecaahopgdaaPwb
import Derived.Test.YtbglecaahopgdaaCbb
import Derived.Test.YtbglecaahopgdaaKit9
import Derived.RangeFuncBound
import Derived.Shelf.Abstract
import Derived.Scope
import Derived.Shelf.RegionOpen
import Derived.WalkKit
import Derived.OwnWalkIn
import Derived.TacticsInMore
import Derived.LoopNIn
import Derived.LoopIn
namespace Go.Proofs.Ytbglecaahopgdaa
open Go.ChangeShapes Go.WideShapes Go.ChangeAt Go.RowKit
set_option linter.unusedVariables false
set_option linter.unusedSimpArgs false
attribute [local go_sem] Oper.semAt_some

/-- What is handed on: a record where k is 0, or the fault. -/
structure Hx where
  A : Option Addr
  c : Nat
  l : List ByteArray
  k : Int
  a : Int
def Hx.args (x : Hx) : Array Value := #[.slice x.A x.l.length x.c, .agg #[.int .i64 x.k, .int .i64 x.a]]
def Hx.gh (x : Hx) : List ByteArray × Int × Int := (x.l, x.k, x.a)
def Hx.hand (x : Hx) (W : World) : Prop := SlOwn W 0 9 x.A x.l.length x.c (strs x.l)
def Hx.blk (x : Hx) (j : Nat) : Prop := blkOf x.A = some j
def evs (G : Got) : List (List ByteArray × Int × Int) := G.rs.map (fun r => (r.1, 0, 0)) ++ if G.k ≠ 0 then [([], G.k, (G.at_ : Int))] else []
theorem evs_more (G : Got) (r : List ByteArray) (i : Nat) : evs (G.more r i) = (r, 0, 0) :: evs G := rfl
theorem evs_bad {k : Int} {i : Nat} (h : k ≠ 0) : evs ⟨[], k, i⟩ = [([], k, (i : Int))] := by unfold evs; rw [if_pos h]; rfl
theorem evs_none : evs ⟨[], 0, 0⟩ = [] := rfl
theorem evs_one (l : List ByteArray) (i : Nat) : evs ⟨[(l, i)], 0, 0⟩ = [(l, 0, 0)] := rfl

theorem strip_drop (s : List Int) : s.drop (whOff s) = bomStrip s := by
  unfold whOff
  cases h : bomHad s
  · simp [bomStrip, h]
  · have := bom_split h
    rw [if_pos rfl]
    rw (occs := .pos [1]) [this]
    simp [bomMk]
theorem bl_step {s : ByteArray} {k : Nat} (h : k < s.size) : (bl s).drop k = ((s[k].toNat : Nat) : Int) :: (bl s).drop (k + 1) := bl_drop s k h

/-- What the rounds promise to an iterator whose blocks lie from B on. -/
def Rounds (n : Nat) (l B : Nat) (J Jx : List (List ByteArray × Int × Int) → World → (Nat → Prop) → Prop) (E : List (List ByteArray × Int × Int)) : Prop :=
  ∀ pre x W1 T, J pre W1 T → Lies W1 T → pre ++ [Hx.gh x] <+: E → x.hand W1 → (∀ k, x.blk k → ¬ T k ∧ B ≤ k ∧ k < W1.heap.size) → B ≤ W1.heap.size →
    YieldAt Fence.wide n Try.prog l x.args W1 fun e W2 => (e = .returned (.bool true) ∧ Left W1 T x.blk J (pre ++ [x.gh]) W2) ∨ (e = .returned (.bool false) ∧ Left W1 T x.blk Jx (pre ++ [x.gh]) W2)

/-- What holds in the loop of through: the walker's blocks Z and the rounds' blocks T are apart, and apart from the fault's box. -/
structure WMid (B p : Nat) (d q e : Int) (J : List (List ByteArray × Int × Int) → World → (Nat → Prop) → Prop) (bx : Nat) (k0 a0 u t : Int) (m : Mk) (Z T : Nat → Prop) (pre : List (List ByteArray × Int × Int)) (W : World) : Prop where
  wk : WkB W p d q e u t m Z
  j : J pre W T
  lies : Lies W T
  apart : ∀ j, Z j → ¬ T j ∧ B ≤ j
  box : StB W bx 30 #[.int .i64 k0, .int .i64 a0]
  nbox : ¬ Z bx ∧ ¬ T bx ∧ B ≤ bx
  base : B ≤ W.heap.size
/-- Where the loop is: ahead of byte k, or behind the end. -/
structure WAt (B p : Nat) (d q e : Int) (s : ByteArray) (J : List (List ByteArray × Int × Int) → World → (Nat → Prop) → Prop) (E : List (List ByteArray × Int × Int)) (bx k N : Nat) (u t : Int) (m : Mk) (Z T : Nat → Prop) (pre : List (List ByteArray × Int × Int)) (W : World) : Prop where
  mid : WMid B p d q e J bx 0 0 u t m Z T pre W
  t0 : 0 ≤ t
  t6 : t ≤ 6
  ok : m.Ok N
  N : N ≤ k
  todo : (k ≤ s.size ∧ E = pre ++ evs (mchU d q e u t m k ((bl s).drop k))) ∨ (k = s.size + 1 ∧ E = pre)

section
variable {B p bx : Nat} {d q e k0 a0 u t : Int} {J : List (List ByteArray × Int × Int) → World → (Nat → Prop) → Prop} {m : Mk} {Z T : Nat → Prop} {pre : List (List ByteArray × Int × Int)} {W : World}
theorem WMid.pass (h : WMid B p d q e J bx k0 a0 u t m Z T pre W) (hJ : AbT B J) {w1 : World} {u' t' : Int} {m' : Mk} {A : Option Addr} {c : Nat} {l : List ByteArray}
    (hz : ∃ Z', WkB w1 p d q e u' t' m' Z' ∧ Touch W w1 Z ∧ Sub W Z' Z ∧ SlOwn w1 0 9 A l.length c (strs l) ∧ ∀ j, blkOf A = some j → ¬ Z' j ∧ (Z j ∨ W.heap.size ≤ j)) :
    ∃ Z', WMid B p d q e J bx k0 a0 u' t' m' Z' T pre w1 ∧ SlOwn w1 0 9 A l.length c (strs l) ∧ ∀ j, blkOf A = some j → ¬ Z' j ∧ (¬ T j ∧ B ≤ j ∧ j < w1.heap.size) ∧ j ≠ bx := by
  obtain ⟨Z', z1, z2, z3, z4, z5⟩ := hz
  have hbase := h.base
  have hbl := h.box.lt
  refine ⟨Z', ⟨z1, hJ _ _ _ _ _ h.j h.lies z2 h.apart, h.lies.later z2.size, ?_, h.box.touch z2 h.nbox.1, ⟨?_, h.nbox.2⟩, Nat.le_trans h.base z2.size⟩, z4, fun j hj => ⟨(z5 j hj).1, ⟨?_, ?_, (z4.blk j hj).2⟩, ?_⟩⟩
  · intro j hj
    rcases z3 j hj with h1 | h1
    · exact h.apart j h1
    · exact ⟨fun hT => by have := h.lies j hT; omega, by omega⟩
  · intro hb
    rcases z3 bx hb with h1 | h1
    · exact h.nbox.1 h1
    · omega
  · intro hT
    rcases (z5 j hj).2 with h1 | h1
    · exact (h.apart j h1).1 hT
    · have := h.lies j hT; omega
  · rcases (z5 j hj).2 with h1 | h1
    · exact (h.apart j h1).2
    · omega
  · rintro rfl
    rcases (z5 _ hj).2 with h1 | h1
    · exact h.nbox.1 h1
    · omega
theorem WMid.round (h : WMid B p d q e J bx k0 a0 u t m Z T pre W) {bk : Nat → Prop} {pre' : List (List ByteArray × Int × Int)} {J' : List (List ByteArray × Int × Int) → World → (Nat → Prop) → Prop} {w2 : World} (hl : Left W T bk J' pre' w2) (hb : ∀ j, bk j → ¬ Z j ∧ (¬ T j ∧ B ≤ j ∧ j < W.heap.size) ∧ j ≠ bx) :
    ∃ T2, WMid B p d q e J' bx k0 a0 u t m Z T2 pre' w2 := by
  obtain ⟨T2, l1, l2, l3, l4⟩ := hl
  have hbl := h.box.lt
  refine ⟨T2, h.wk.touch l3 (fun j hj => (h.apart j hj).1), l4, l1, fun j hj => ⟨fun hT => ?_, (h.apart j hj).2⟩, h.box.touch l3 h.nbox.2.1, ⟨h.nbox.1, fun hT => ?_, h.nbox.2.2⟩, Nat.le_trans h.base l3.size⟩
  · rcases l2 j hT with (h1 | h1) | h1
    · exact (h.apart j hj).1 h1
    · exact (hb j h1).1 hj
    · have := h.wk.lt j hj; omega
  · rcases l2 bx hT with (h1 | h1) | h1
    · exact h.nbox.2.1 h1
    · exact (hb bx h1).2.2 rfl
    · omega
theorem WMid.store (h : WMid B p d q e J bx k0 a0 u t m Z T pre W) (hJ : AbT B J) (k a : Int) : WMid B p d q e J bx k a u t m Z T pre ((W.setCell ⟨bx, 0, none⟩ (.int .i64 k)).setCell ⟨bx, 1, none⟩ (.int .i64 a)) := by
  have T1 := (Touch.refl W (fun j => j = bx)).then_set (p := ⟨bx, 0, none⟩) (.inl rfl) (.int .i64 k)
  have T2 := T1.then_set (p := ⟨bx, 1, none⟩) (.inl rfl) (.int .i64 a)
  exact ⟨h.wk.touch T2 (fun j hj e => h.nbox.1 (by have e' : j = bx := e; rw [← e']; exact hj)), hJ _ _ _ _ _ h.j h.lies T2 (fun j hj => by have e' : j = bx := hj; rw [e']; exact h.nbox.2), h.lies.later T2.size, h.apart, (h.box.set_ 0 (.int .i64 k)).set_ 1 (.int .i64 a), h.nbox, Nat.le_trans h.base T2.size⟩
theorem Rounds.at_ {n l : Nat} {Jx : List (List ByteArray × Int × Int) → World → (Nat → Prop) → Prop} {E : List (List ByteArray × Int × Int)} (hY : Rounds n l B J Jx E) (h : WMid B p d q e J bx k0 a0 u t m Z T pre W) (A : Option Addr) (c len : Nat) (r : List ByteArray) (k a : Int) (hlen : r.length = len)
    (hp : pre ++ [(r, k, a)] <+: E) (ho : SlOwn W 0 9 A r.length c (strs r)) (hb : ∀ j, blkOf A = some j → ¬ Z j ∧ (¬ T j ∧ B ≤ j ∧ j < W.heap.size) ∧ j ≠ bx) :
    YieldAt Fence.wide n Try.prog l #[.slice A len c, .agg #[.int .i64 k, .int .i64 a]] W fun x W2 => (x = .returned (.bool true) ∧ ∃ T2, WMid B p d q e J bx k0 a0 u t m Z T2 (pre ++ [(r, k, a)]) W2) ∨ (x = .returned (.bool false) ∧ ∃ T2, WMid B p d q e Jx bx k0 a0 u t m Z T2 (pre ++ [(r, k, a)]) W2) := by
  subst hlen
  obtain ⟨fn, tmps, assign, body, hy, hR⟩ := hY pre ⟨A, c, r, k, a⟩ W T h.j h.lies hp ho (fun j hj => (hb j hj).2.1) h.base
  refine ⟨fn, tmps, assign, body, hy, hR.mono ?_⟩
  rintro e W2 (⟨rfl, hl⟩ | ⟨rfl, hl⟩)
  · exact .inl ⟨rfl, h.round hl hb⟩
  · exact .inr ⟨rfl, h.round hl hb⟩
end

section
variable {n l B p bx : Nat} {d q e : Int} {s : ByteArray} {J Jx : List (List ByteArray × Int × Int) → World → (Nat → Prop) → Prop} {E : List (List ByteArray × Int × Int)}
set_option maxRecDepth 100000 in
set_option maxHeartbeats 3200000 in
theorem through_in (hn : 1 ≤ n) (hs : s.size ≤ 900) (hJ : AbT B J) (hJx : AbT B Jx) (hY : Hid (Rounds (n - 1) l B J Jx E)) (m : Mk) (ok : m.Ok 0) (hE : E = evs (whP d q e m (bl s))) (w : World) (Z T : Nat → Prop) (hw : WkB w p d q e 0 0 m Z)
    (hj : J [] w T) (hT : Lies w T) (hZ : ∀ j, Z j → ¬ T j ∧ B ≤ j) (hB : B ≤ w.heap.size) :
    CallsIn Fence.wide n Try.prog 28 #[.pointer (some ⟨p, 0, none⟩), .string s, .func (.yield l) #[] #[]] w fun x w' => (∃ v, x = .returned v) ∧ ∃ T2, Lies w' T2 ∧ (J E w' T2 ∨ ∃ pre, pre <+: E ∧ Jx pre w' T2) := by
  have hs1 : s.size ≤ 9223372036854775807 := by omega
  obtain ⟨o, ho⟩ : ∃ o, bomO s = o := ⟨_, rfl⟩
  obtain ⟨b, hb⟩ : ∃ b, bomHad (bl s) = b := ⟨_, rfl⟩
  obtain ⟨off, hoff⟩ : ∃ off, whOff (bl s) = off := ⟨_, rfl⟩
  have HO := Lib.hid ho
  have HB := Lib.hid hb
  have hol : off + o.size = s.size := by
    have := whOff_len (bl s)
    rw [hoff, ← bl_bomO, ho, bl_length, bl_length] at this; exact this
  have hsub : (s.size : Int) - o.size = (off : Int) := by omega
  have ho1 : o.size ≤ 9223372036854775807 := by omega
  refine callsIn_of_wp Try.func28 rfl trivial ?_ rfl
  simp only [Try.ntmps28, List.size_toArray, List.length_cons, List.length_nil, Nat.reduceAdd, Nat.reduceSub, Array.replicate_succ, Array.replicate_zero, List.push_toArray, List.append_toArray, List.nil_append, List.cons_append]
  gi_wp2
  refine wpIn_wide.2 (wp_scope_straight ((wpIn_wide (n := n)).1 ?_))
  gi_wp2_with (refine ⟨trivial, ?_⟩; gi_at_call 38; refine (callsIn_wide.2 (bomStrip_is s o (by unfold maxLen; omega) b HO HB _)).mono ?_; rintro x w' ⟨rfl, rfl⟩)
  obtain ⟨bx, hbx⟩ : ∃ bx, w.heap.size = bx := ⟨_, rfl⟩
  obtain ⟨W0, hW0⟩ : ∃ W0, w.alloc (.cells #[.int .i64 0, .int .i64 0] 30) = W0 := ⟨_, rfl⟩
  have HAT := Lib.hid (show WAt B p d q e s J E bx off 0 0 0 m Z T [] W0 from ⟨⟨by rw [← hW0]; exact hw.touch (Touch.of_below (up_alloc (Below.refl _ w) _) (fun _ => False)) (fun _ _ h => h),
    by rw [← hW0]; exact hJ _ _ _ _ (fun _ => False) hj hT (Touch.of_below (up_alloc (Below.refl _ w) _) _) (fun _ h => h.elim), by rw [← hW0]; exact hT.later (by simp), hZ, by rw [← hW0]; exact StB.made w hbx.symm _ _,
    ⟨fun h => by have := hw.lt _ h; omega, fun h => by have := hT _ h; omega, by omega⟩, by rw [← hW0]; simp; omega⟩, by omega, by omega, ok, by omega, .inl ⟨by omega, by rw [hE, ← hoff, strip_drop]; rfl⟩⟩)
  rw [hW0, hbx]
  clear hE hJx hw hj hT hZ hB hW0 hbx ho hb hoff
  refine wpIn_label ?_
  gi_wp2
  gi_loopw [8] (fun i wr => ∃ (k N : Nat) (u t : Int) (m : Mk) (Z T : Nat → Prop) (pre : List (List ByteArray × Int × Int)), i = .int .i64 k ∧ Hid (WAt B p d q e s J E bx k N u t m Z T pre wr)) (fun i _ => s.size + 1 - (intOf i).toNat)
  case atStart => exact ⟨off, 0, 0, 0, m, Z, T, [], rfl, HAT⟩
  case round =>
    obtain ⟨k, N, u, t, m, Z, T, pre, rfl, HA⟩ := hrel
    have hfacts := HA.out.mid.box
    have z0 : wr.cell? ⟨bx, 0, none⟩ = some (.int .i64 0) := hfacts.cell 0
    have hbl := hfacts.lt
    rcases HA.out.todo with ⟨hk, hE⟩ | ⟨hk, hE⟩
    · by_cases hlt : k < s.size
      · have hle : decide ((k : Int) ≤ s.size) = true := decide_eq_true (by omega)
        have hE' := Lib.hid hE
        have hlt' : (k : Int) < s.size := by omega
        obtain ⟨⟨u', t', m', r, told, kk⟩, hv⟩ : ∃ v, pasB d q e u t m ((s[k].toNat : Nat) : Int) = v := ⟨_, rfl⟩
        have hstep := mchU_cons (i := k) (r := (bl s).drop (k + 1)) hv
        rw [← bl_step hlt] at hstep
        obtain ⟨ok', t0', t6'⟩ := pasB_facts HA.out.ok HA.out.t0 HA.out.t6 hv
        have HST := Lib.hid hstep
        have HV := Lib.hid hv
        obtain ⟨len, hlen⟩ : ∃ len, r.length = len := ⟨_, rfl⟩
        have HL := Lib.hid hlen
        have hN := HA.out.N
        clear hE hstep hv hlen hfacts z0
        gi_wp2
        refine ⟨trivial, callsIn_wide.2 ((pass_b s (by omega) k hlt N (by omega) (Lib.hid HA.out.ok) HA.out.t0 HA.out.t6 u' t' m' r len told kk HV HL wr (Lib.hid HA.out.mid.wk)).mono ?_)⟩
        rintro x w1 ⟨A, c, rfl, HH⟩
        obtain ⟨Z', md, ho, hbk⟩ := HA.out.mid.pass hJ HH.out
        have hbox := md.box
        have hbl1 := hbox.lt
        have z0 : w1.cell? ⟨bx, 0, none⟩ = some (.int .i64 0) := hbox.cell 0
        have z1 : w1.cell? ⟨bx, 1, none⟩ = some (.int .i64 0) := hbox.cell 1
        have f0 := hbox.free 0
        have f1 := hbox.free 1
        by_cases hk0 : kk = 0
        · subst hk0
          have hE2 : E = pre ++ evs (if told = true then (mchU d q e u' t' m' (k + 1) ((bl s).drop (k + 1))).more r k else mchU d q e u' t' m' (k + 1) ((bl s).drop (k + 1))) := by rw [hE'.out, HST.out, if_neg (by simp)]
          cases told
          · rw [if_neg (by simp)] at hE2
            have HA2 := Lib.hid (show WAt B p d q e s J E bx (k + 1) (N + 1) u' t' m' Z' T pre w1 from ⟨md, t0', t6', ok', by omega, .inl ⟨by omega, hE2⟩⟩)
            clear hE2 hbox ok' md ho hbk
            gi_wp2
            refine ⟨fun _ h => (by cases h), ?_⟩
            gi_wp2
            go_roundw
            case rel => exact ⟨k + 1, N + 1, u', t', m', Z', T, _, by go_num, HA2⟩
            case measure => simp [intOf]; omega
          · rw [if_pos rfl, evs_more] at hE2
            obtain ⟨fn, tmps, assign, body, hy, hR⟩ := hY.out.at_ md A c len r 0 0 HL.out ⟨evs (mchU d q e u' t' m' (k + 1) ((bl s).drop (k + 1))), by rw [hE2]; simp⟩ ho hbk
            clear hbox md ho hbk
            gi_wp2
            refine hR.mono ?_
            rintro x W6 (⟨rfl, T2, M6⟩ | ⟨rfl, T2, M6⟩)
            · have HA2 := Lib.hid (show WAt B p d q e s J E bx (k + 1) (N + 1) u' t' m' Z' T2 (pre ++ [(r, 0, 0)]) W6 from ⟨M6, t0', t6', ok', by omega, .inl ⟨by omega, by rw [hE2]; simp⟩⟩)
              clear hE2 ok' M6
              gi_wp2
              go_roundw
              case rel => exact ⟨k + 1, N + 1, u', t', m', Z', T2, _, by go_num, HA2⟩
              case measure => simp [intOf]; omega
            · gi_wp2
              simp only [Exit.noGoto]
              refine bodyPost_ret (results_none rfl _ _ _) rfl ?_
              exact ⟨⟨_, rfl⟩, T2, M6.lies, .inr ⟨_, ⟨evs (mchU d q e u' t' m' (k + 1) ((bl s).drop (k + 1))), by rw [hE2]; simp⟩, M6.j⟩⟩
        · have hk1 : (kk != 0) = true := by simpa using hk0
          have MD := Lib.hid (md.store hJ kk k)
          have hpre : E = pre ++ [([], kk, (k : Int))] := by rw [hE'.out, HST.out, if_pos hk0, evs_bad hk0]
          obtain ⟨W5, hW5⟩ : ∃ W5, (w1.setCell ⟨bx, 0, none⟩ (.int .i64 kk)).setCell ⟨bx, 1, none⟩ (.int .i64 k) = W5 := ⟨_, rfl⟩
          rw [hW5] at MD
          have y0 : W5.cell? ⟨bx, 0, none⟩ = some (.int .i64 kk) := MD.out.box.cell 0
          have y1 : W5.cell? ⟨bx, 1, none⟩ = some (.int .i64 k) := MD.out.box.cell 1
          have y2 := MD.out.box.lt
          obtain ⟨fn, tmps, assign, body, hy, hR⟩ := hY.out.at_ MD.out none 0 0 [] kk k rfl (by rw [hpre]; exact List.prefix_rfl) (SlOwn.nothing _ _ _) (fun j hj => by cases hj)
          clear hbox
          gi_wp2
          refine hR.mono ?_
          rintro x W6 (⟨rfl, T2, M6⟩ | ⟨rfl, T2, M6⟩)
          · gi_wp2
            simp only [Exit.noGoto]
            go_end0
            exact ⟨⟨_, rfl⟩, T2, M6.lies, .inl (by rw [hpre]; exact M6.j)⟩
          · gi_wp2
            simp only [Exit.noGoto]
            go_end0
            exact ⟨⟨_, rfl⟩, T2, M6.lies, .inr ⟨_, by rw [hpre]; exact List.prefix_rfl, M6.j⟩⟩
      · obtain rfl : k = s.size := by omega
        have hle : decide ((s.size : Int) ≤ s.size) = true := decide_eq_true (by omega)
        have hE' := Lib.hid hE
        have hd : (bl s).drop s.size = [] := List.drop_eq_nil_of_le (by rw [bl_length]; omega)
        obtain ⟨⟨u', t', m', r, told, kk⟩, hv⟩ : ∃ v, pasE u t m = v := ⟨_, rfl⟩
        have hstep := mchU_nil (d := d) (q := q) (e := e) (i := s.size) hv
        rw [← hd] at hstep
        obtain ⟨ok', t0', t6'⟩ := pasE_facts HA.out.ok HA.out.t0 HA.out.t6 hv
        have HST := Lib.hid hstep
        have HV := Lib.hid hv
        obtain ⟨len, hlen⟩ : ∃ len, r.length = len := ⟨_, rfl⟩
        have HL := Lib.hid hlen
        have hN := HA.out.N
        clear hE hstep hv hlen hfacts z0
        gi_wp2
        refine ⟨trivial, callsIn_wide.2 ((pass_e s (by omega) N (by omega) (Lib.hid HA.out.ok) HA.out.t0 HA.out.t6 u' t' m' r len told kk HV HL wr (Lib.hid HA.out.mid.wk)).mono ?_)⟩
        rintro x w1 ⟨A, c, rfl, HH⟩
        obtain ⟨Z', md, ho, hbk⟩ := HA.out.mid.pass hJ HH.out
        have hbox := md.box
        have hbl1 := hbox.lt
        have z0 : w1.cell? ⟨bx, 0, none⟩ = some (.int .i64 0) := hbox.cell 0
        have z1 : w1.cell? ⟨bx, 1, none⟩ = some (.int .i64 0) := hbox.cell 1
        have f0 := hbox.free 0
        have f1 := hbox.free 1
        by_cases hk0 : kk = 0
        · subst hk0
          have hE2 : E = pre ++ evs (if told = true then ⟨[(r, s.size)], 0, 0⟩ else ⟨[], 0, 0⟩) := by rw [hE'.out, HST.out, if_neg (by simp)]
          cases told
          · rw [if_neg (by simp)] at hE2
            have HA2 := Lib.hid (show WAt B p d q e s J E bx (s.size + 1) (N + 1) u' t' m' Z' T pre w1 from ⟨md, t0', t6', ok', by omega, .inr ⟨rfl, by rw [hE2, evs_none]; simp⟩⟩)
            clear hE2 hbox ok' md ho hbk
            gi_wp2
            refine ⟨fun _ h => (by cases h), ?_⟩
            gi_wp2
            go_roundw
            case rel => exact ⟨s.size + 1, N + 1, u', t', m', Z', T, _, by go_num, HA2⟩
            case measure => simp [intOf]
          · rw [if_pos rfl, evs_one] at hE2
            obtain ⟨fn, tmps, assign, body, hy, hR⟩ := hY.out.at_ md A c len r 0 0 HL.out ⟨[], by rw [hE2]; simp⟩ ho hbk
            clear hbox md ho hbk
            gi_wp2
            refine hR.mono ?_
            rintro x W6 (⟨rfl, T2, M6⟩ | ⟨rfl, T2, M6⟩)
            · have HA2 := Lib.hid (show WAt B p d q e s J E bx (s.size + 1) (N + 1) u' t' m' Z' T2 (pre ++ [(r, 0, 0)]) W6 from ⟨M6, t0', t6', ok', by omega, .inr ⟨rfl, hE2⟩⟩)
              clear hE2 ok' M6
              gi_wp2
              go_roundw
              case rel => exact ⟨s.size + 1, N + 1, u', t', m', Z', T2, _, by go_num, HA2⟩
              case measure => simp [intOf]
            · gi_wp2
              simp only [Exit.noGoto]
              refine bodyPost_ret (results_none rfl _ _ _) rfl ?_
              exact ⟨⟨_, rfl⟩, T2, M6.lies, .inr ⟨_, ⟨[], by rw [hE2]; simp⟩, M6.j⟩⟩
        · have hk1 : (kk != 0) = true := by simpa using hk0
          have MD := Lib.hid (md.store hJ kk s.size)
          have hpre : E = pre ++ [([], kk, (s.size : Int))] := by rw [hE'.out, HST.out, if_pos hk0, evs_bad hk0]
          obtain ⟨W5, hW5⟩ : ∃ W5, (w1.setCell ⟨bx, 0, none⟩ (.int .i64 kk)).setCell ⟨bx, 1, none⟩ (.int .i64 s.size) = W5 := ⟨_, rfl⟩
          rw [hW5] at MD
          have y0 : W5.cell? ⟨bx, 0, none⟩ = some (.int .i64 kk) := MD.out.box.cell 0
          have y1 : W5.cell? ⟨bx, 1, none⟩ = some (.int .i64 s.size) := MD.out.box.cell 1
          have y2 := MD.out.box.lt
          obtain ⟨fn, tmps, assign, body, hy, hR⟩ := hY.out.at_ MD.out none 0 0 [] kk s.size rfl (by rw [hpre]; exact List.prefix_rfl) (SlOwn.nothing _ _ _) (fun j hj => by cases hj)
          clear hbox
          gi_wp2
          refine hR.mono ?_
          rintro x W6 (⟨rfl, T2, M6⟩ | ⟨rfl, T2, M6⟩)
          · gi_wp2
            simp only [Exit.noGoto]
            go_end0
            exact ⟨⟨_, rfl⟩, T2, M6.lies, .inl (by rw [hpre]; exact M6.j)⟩
          · gi_wp2
            simp only [Exit.noGoto]
            go_end0
            exact ⟨⟨_, rfl⟩, T2, M6.lies, .inr ⟨_, by rw [hpre]; exact List.prefix_rfl, M6.j⟩⟩
    · have hgt : ¬ (k : Int) ≤ s.size := by omega
      clear hfacts
      gi_wp2
      go_end0
      exact ⟨⟨_, rfl⟩, T, HA.out.mid.lies, .inl (by rw [hE]; exact HA.out.mid.j)⟩
end
end Go.Proofs.Ytbglecaahopgdaa

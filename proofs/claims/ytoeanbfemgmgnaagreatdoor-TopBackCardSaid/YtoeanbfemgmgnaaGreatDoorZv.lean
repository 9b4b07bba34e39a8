/- Layer 6: through, as an iterator: it hands on the records and the first fault, in order, and stops when it is told to. Layer 6: newWalker and walk; what walk answers is an iterator (walk_seq). Layer 6: what walk answers is an iterator over the records, and the fault, of the text (walk_seq). Layer 6: what Parse tells (Par), and how an iterator's values come to it; rows whose blocks are known (RowsT); append within a round; what holds in the loop of Parse. Layer 6: the contract of Parse. -/
import Derived.Test.YtoeanbfemgmgnaaGreatDoorZw
import Derived.Test.YtoeanbfemgmgnaaGreatDoorZp
import Derived.Test.YtoeanbfemgmgnaaGreatDoorCbb
import Derived.Test.YtoeanbfemgmgnaaGreatDoorZk
import Derived.RangeFuncBound
import Derived.Shelf.Abstract
import Derived.Scope
import Derived.Shelf.RegionOpen
import Derived.WalkKit
import Derived.OwnWalkIn
import Derived.TacticsInMore
import Derived.LoopNIn
import Derived.LoopIn
import Derived.RangeFuncBox
import Derived.RangeFuncFrom
namespace Go.Proofs.YtoeanbfemgmgnaaGreatDoor
open Go.ChangeShapes Go.WideShapes Go.ChangeAt Go.RowKit
set_option linter.unusedVariables false
set_option linter.unusedSimpArgs false
attribute [local go_sem] Oper.semAt_some

/-- What is handed on: a record where k is 0, or the fault. -/
structure Hx where
  A : Option Addr
  c : Nat
  l : List ByteArray
  k : Int
  a : Int
def Hx.args (x : Hx) : Array Value := #[.slice x.A x.l.length x.c, .agg #[.int .i64 x.k, .int .i64 x.a]]
def Hx.gh (x : Hx) : List ByteArray × Int × Int := (x.l, x.k, x.a)
def Hx.hand (x : Hx) (W : World) : Prop := SlOwn W 0 9 x.A x.l.length x.c (strs x.l)
def Hx.blk (x : Hx) (j : Nat) : Prop := blkOf x.A = some j
def evs (G : Got) : List (List ByteArray × Int × Int) := G.rs.map (fun r => (r.1, 0, 0)) ++ if G.k ≠ 0 then [([], G.k, (G.at_ : Int))] else []
theorem evs_more (G : Got) (r : List ByteArray) (i : Nat) : evs (G.more r i) = (r, 0, 0) :: evs G := rfl
theorem evs_bad {k : Int} {i : Nat} (h : k ≠ 0) : evs ⟨[], k, i⟩ = [([], k, (i : Int))] := by unfold evs; rw [if_pos h]; rfl
theorem evs_none : evs ⟨[], 0, 0⟩ = [] := rfl
theorem evs_one (l : List ByteArray) (i : Nat) : evs ⟨[(l, i)], 0, 0⟩ = [(l, 0, 0)] := rfl

theorem strip_drop (s : List Int) : s.drop (whOff s) = bomStrip s := by
  unfold whOff
  cases h : bomHad s
  · simp [bomStrip, h]
  · have := bom_split h
    rw [if_pos rfl]
    rw (occs := .pos [1]) [this]
    simp [bomMk]
theorem bl_step {s : ByteArray} {k : Nat} (h : k < s.size) : (bl s).drop k = ((s[k].toNat : Nat) : Int) :: (bl s).drop (k + 1) := bl_drop s k h

/-- What the rounds promise to an iterator whose blocks lie from B on. -/
def Rounds (n : Nat) (l B : Nat) (J Jx : List (List ByteArray × Int × Int) → World → (Nat → Prop) → Prop) (E : List (List ByteArray × Int × Int)) : Prop :=
  ∀ pre x W1 T, J pre W1 T → Lies W1 T → pre ++ [Hx.gh x] <+: E → x.hand W1 → (∀ k, x.blk k → ¬ T k ∧ B ≤ k ∧ k < W1.heap.size) → B ≤ W1.heap.size →
    YieldAt Fence.wide n Tryz.prog l x.args W1 fun e W2 => (e = .returned (.bool true) ∧ Left W1 T x.blk J (pre ++ [x.gh]) W2) ∨ (e = .returned (.bool false) ∧ Left W1 T x.blk Jx (pre ++ [x.gh]) W2)

/-- What holds in the loop of through: the walker's blocks Z and the rounds' blocks T are apart, and apart from the fault's box. -/
structure WMid (B p : Nat) (d q e : Int) (J : List (List ByteArray × Int × Int) → World → (Nat → Prop) → Prop) (bx : Nat) (k0 a0 u t : Int) (m : Mk) (Z T : Nat → Prop) (pre : List (List ByteArray × Int × Int)) (W : World) : Prop where
  wk : WkB W p d q e u t m Z
  j : J pre W T
  lies : Lies W T
  apart : ∀ j, Z j → ¬ T j ∧ B ≤ j
  box : StB W bx 45 #[.int .i64 k0, .int .i64 a0]
  nbox : ¬ Z bx ∧ ¬ T bx ∧ B ≤ bx
  base : B ≤ W.heap.size
/-- Where the loop is: ahead of byte k, or behind the end. -/
structure WAt (B p : Nat) (d q e : Int) (s : ByteArray) (J : List (List ByteArray × Int × Int) → World → (Nat → Prop) → Prop) (E : List (List ByteArray × Int × Int)) (bx k N : Nat) (u t : Int) (m : Mk) (Z T : Nat → Prop) (pre : List (List ByteArray × Int × Int)) (W : World) : Prop where
  mid : WMid B p d q e J bx 0 0 u t m Z T pre W
  t0 : 0 ≤ t
  t6 : t ≤ 6
  ok : m.Ok N
  N : N ≤ k
  todo : (k ≤ s.size ∧ E = pre ++ evs (mchU d q e u t m k ((bl s).drop k))) ∨ (k = s.size + 1 ∧ E = pre)

section
variable {B p bx : Nat} {d q e k0 a0 u t : Int} {J : List (List ByteArray × Int × Int) → World → (Nat → Prop) → Prop} {m : Mk} {Z T : Nat → Prop} {pre : List (List ByteArray × Int × Int)} {W : World}
theorem WMid.pass (h : WMid B p d q e J bx k0 a0 u t m Z T pre W) (hJ : AbT B J) {w1 : World} {u' t' : Int} {m' : Mk} {A : Option Addr} {c : Nat} {l : List ByteArray}
    (hz : ∃ Z', WkB w1 p d q e u' t' m' Z' ∧ Touch W w1 Z ∧ Sub W Z' Z ∧ SlOwn w1 0 9 A l.length c (strs l) ∧ ∀ j, blkOf A = some j → ¬ Z' j ∧ (Z j ∨ W.heap.size ≤ j)) :
    ∃ Z', WMid B p d q e J bx k0 a0 u' t' m' Z' T pre w1 ∧ SlOwn w1 0 9 A l.length c (strs l) ∧ ∀ j, blkOf A = some j → ¬ Z' j ∧ (¬ T j ∧ B ≤ j ∧ j < w1.heap.size) ∧ j ≠ bx := by
  obtain ⟨Z', z1, z2, z3, z4, z5⟩ := hz
  have hbase := h.base
  have hbl := h.box.lt
  refine ⟨Z', ⟨z1, hJ _ _ _ _ _ h.j h.lies z2 h.apart, h.lies.later z2.size, ?_, h.box.touch z2 h.nbox.1, ⟨?_, h.nbox.2⟩, Nat.le_trans h.base z2.size⟩, z4, fun j hj => ⟨(z5 j hj).1, ⟨?_, ?_, (z4.blk j hj).2⟩, ?_⟩⟩
  · intro j hj
    rcases z3 j hj with h1 | h1
    · exact h.apart j h1
    · exact ⟨fun hT => by have := h.lies j hT; omega, by omega⟩
  · intro hb
    rcases z3 bx hb with h1 | h1
    · exact h.nbox.1 h1
    · omega
  · intro hT
    rcases (z5 j hj).2 with h1 | h1
    · exact (h.apart j h1).1 hT
    · have := h.lies j hT; omega
  · rcases (z5 j hj).2 with h1 | h1
    · exact (h.apart j h1).2
    · omega
  · rintro rfl
    rcases (z5 _ hj).2 with h1 | h1
    · exact h.nbox.1 h1
    · omega
theorem WMid.round (h : WMid B p d q e J bx k0 a0 u t m Z T pre W) {bk : Nat → Prop} {pre' : List (List ByteArray × Int × Int)} {J' : List (List ByteArray × Int × Int) → World → (Nat → Prop) → Prop} {w2 : World} (hl : Left W T bk J' pre' w2) (hb : ∀ j, bk j → ¬ Z j ∧ (¬ T j ∧ B ≤ j ∧ j < W.heap.size) ∧ j ≠ bx) :
    ∃ T2, WMid B p d q e J' bx k0 a0 u t m Z T2 pre' w2 := by
  obtain ⟨T2, l1, l2, l3, l4⟩ := hl
  have hbl := h.box.lt
  refine ⟨T2, h.wk.touch l3 (fun j hj => (h.apart j hj).1), l4, l1, fun j hj => ⟨fun hT => ?_, (h.apart j hj).2⟩, h.box.touch l3 h.nbox.2.1, ⟨h.nbox.1, fun hT => ?_, h.nbox.2.2⟩, Nat.le_trans h.base l3.size⟩
  · rcases l2 j hT with (h1 | h1) | h1
    · exact (h.apart j hj).1 h1
    · exact (hb j h1).1 hj
    · have := h.wk.lt j hj; omega
  · rcases l2 bx hT with (h1 | h1) | h1
    · exact h.nbox.2.1 h1
    · exact (hb bx h1).2.2 rfl
    · omega
theorem WMid.store (h : WMid B p d q e J bx k0 a0 u t m Z T pre W) (hJ : AbT B J) (k a : Int) : WMid B p d q e J bx k a u t m Z T pre ((W.setCell ⟨bx, 0, none⟩ (.int .i64 k)).setCell ⟨bx, 1, none⟩ (.int .i64 a)) := by
  have T1 := (Touch.refl W (fun j => j = bx)).then_set (p := ⟨bx, 0, none⟩) (.inl rfl) (.int .i64 k)
  have T2 := T1.then_set (p := ⟨bx, 1, none⟩) (.inl rfl) (.int .i64 a)
  exact ⟨h.wk.touch T2 (fun j hj e => h.nbox.1 (by have e' : j = bx := e; rw [← e']; exact hj)), hJ _ _ _ _ _ h.j h.lies T2 (fun j hj => by have e' : j = bx := hj; rw [e']; exact h.nbox.2), h.lies.later T2.size, h.apart, (h.box.set_ 0 (.int .i64 k)).set_ 1 (.int .i64 a), h.nbox, Nat.le_trans h.base T2.size⟩
theorem Rounds.at_ {n l : Nat} {Jx : List (List ByteArray × Int × Int) → World → (Nat → Prop) → Prop} {E : List (List ByteArray × Int × Int)} (hY : Rounds n l B J Jx E) (h : WMid B p d q e J bx k0 a0 u t m Z T pre W) (A : Option Addr) (c len : Nat) (r : List ByteArray) (k a : Int) (hlen : r.length = len)
    (hp : pre ++ [(r, k, a)] <+: E) (ho : SlOwn W 0 9 A r.length c (strs r)) (hb : ∀ j, blkOf A = some j → ¬ Z j ∧ (¬ T j ∧ B ≤ j ∧ j < W.heap.size) ∧ j ≠ bx) :
    YieldAt Fence.wide n Tryz.prog l #[.slice A len c, .agg #[.int .i64 k, .int .i64 a]] W fun x W2 => (x = .returned (.bool true) ∧ ∃ T2, WMid B p d q e J bx k0 a0 u t m Z T2 (pre ++ [(r, k, a)]) W2) ∨ (x = .returned (.bool false) ∧ ∃ T2, WMid B p d q e Jx bx k0 a0 u t m Z T2 (pre ++ [(r, k, a)]) W2) := by
  subst hlen
  obtain ⟨fn, tmps, assign, body, hy, hR⟩ := hY pre ⟨A, c, r, k, a⟩ W T h.j h.lies hp ho (fun j hj => (hb j hj).2.1) h.base
  refine ⟨fn, tmps, assign, body, hy, hR.mono ?_⟩
  rintro e W2 (⟨rfl, hl⟩ | ⟨rfl, hl⟩)
  · exact .inl ⟨rfl, h.round hl hb⟩
  · exact .inr ⟨rfl, h.round hl hb⟩
end

section
variable {n l B p bx : Nat} {d q e : Int} {s : ByteArray} {J Jx : List (List ByteArray × Int × Int) → World → (Nat → Prop) → Prop} {E : List (List ByteArray × Int × Int)}
set_option maxRecDepth 100000 in
set_option maxHeartbeats 3200000 in
theorem through_in (hn : 1 ≤ n) (hs : s.size ≤ 900) (hJ : AbT B J) (hJx : AbT B Jx) (hY : Hid (Rounds (n - 1) l B J Jx E)) (m : Mk) (ok : m.Ok 0) (hE : E = evs (whP d q e m (bl s))) (w : World) (Z T : Nat → Prop) (hw : WkB w p d q e 0 0 m Z)
    (hj : J [] w T) (hT : Lies w T) (hZ : ∀ j, Z j → ¬ T j ∧ B ≤ j) (hB : B ≤ w.heap.size) :
    CallsIn Fence.wide n Tryz.prog 50 #[.pointer (some ⟨p, 0, none⟩), .string s, .func (.yield l) #[] #[]] w fun x w' => (∃ v, x = .returned v) ∧ ∃ T2, Lies w' T2 ∧ (J E w' T2 ∨ ∃ pre, pre <+: E ∧ Jx pre w' T2) := by
  have hs1 : s.size ≤ 9223372036854775807 := by omega
  obtain ⟨o, ho⟩ : ∃ o, bomO s = o := ⟨_, rfl⟩
  obtain ⟨b, hb⟩ : ∃ b, bomHad (bl s) = b := ⟨_, rfl⟩
  obtain ⟨off, hoff⟩ : ∃ off, whOff (bl s) = off := ⟨_, rfl⟩
  have HO := Lib.hid ho
  have HB := Lib.hid hb
  have hol : off + o.size = s.size := by
    have := whOff_len (bl s)
    rw [hoff, ← bl_bomO, ho, bl_length, bl_length] at this; exact this
  have hsub : (s.size : Int) - o.size = (off : Int) := by omega
  have ho1 : o.size ≤ 9223372036854775807 := by omega
  refine callsIn_of_wp Tryz.func50 rfl trivial ?_ rfl
  simp only [Tryz.ntmps50, List.size_toArray, List.length_cons, List.length_nil, Nat.reduceAdd, Nat.reduceSub, Array.replicate_succ, Array.replicate_zero, List.push_toArray, List.append_toArray, List.nil_append, List.cons_append]
  gi_wp2
  refine wpIn_wide.2 (wp_scope_straight ((wpIn_wide (n := n)).1 ?_))
  gi_wp2_with (refine ⟨trivial, ?_⟩; gi_at_call 69; refine (callsIn_wide.2 (bomStrip_is s o (by unfold maxLen; omega) b HO HB _)).mono ?_; rintro x w' ⟨rfl, rfl⟩)
  obtain ⟨bx, hbx⟩ : ∃ bx, w.heap.size = bx := ⟨_, rfl⟩
  obtain ⟨W0, hW0⟩ : ∃ W0, w.alloc (.cells #[.int .i64 0, .int .i64 0] 45) = W0 := ⟨_, rfl⟩
  have HAT := Lib.hid (show WAt B p d q e s J E bx off 0 0 0 m Z T [] W0 from ⟨⟨by rw [← hW0]; exact hw.touch (Touch.of_below (up_alloc (Below.refl _ w) _) (fun _ => False)) (fun _ _ h => h),
    by rw [← hW0]; exact hJ _ _ _ _ (fun _ => False) hj hT (Touch.of_below (up_alloc (Below.refl _ w) _) _) (fun _ h => h.elim), by rw [← hW0]; exact hT.later (by simp), hZ, by rw [← hW0]; exact StB.made w hbx.symm _ _,
    ⟨fun h => by have := hw.lt _ h; omega, fun h => by have := hT _ h; omega, by omega⟩, by rw [← hW0]; simp; omega⟩, by omega, by omega, ok, by omega, .inl ⟨by omega, by rw [hE, ← hoff, strip_drop]; rfl⟩⟩)
  rw [hW0, hbx]
  clear hE hJx hw hj hT hZ hB hW0 hbx ho hb hoff
  refine wpIn_label ?_
  gi_wp2
  gi_loopw [8] (fun i wr => ∃ (k N : Nat) (u t : Int) (m : Mk) (Z T : Nat → Prop) (pre : List (List ByteArray × Int × Int)), i = .int .i64 k ∧ Hid (WAt B p d q e s J E bx k N u t m Z T pre wr)) (fun i _ => s.size + 1 - (intOf i).toNat)
  case atStart => exact ⟨off, 0, 0, 0, m, Z, T, [], rfl, HAT⟩
  case round =>
    obtain ⟨k, N, u, t, m, Z, T, pre, rfl, HA⟩ := hrel
    have hfacts := HA.out.mid.box
    have z0 : wr.cell? ⟨bx, 0, none⟩ = some (.int .i64 0) := hfacts.cell 0
    have hbl := hfacts.lt
    rcases HA.out.todo with ⟨hk, hE⟩ | ⟨hk, hE⟩
    · by_cases hlt : k < s.size
      · have hle : decide ((k : Int) ≤ s.size) = true := decide_eq_true (by omega)
        have hE' := Lib.hid hE
        have hlt' : (k : Int) < s.size := by omega
        obtain ⟨⟨u', t', m', r, told, kk⟩, hv⟩ : ∃ v, pasB d q e u t m ((s[k].toNat : Nat) : Int) = v := ⟨_, rfl⟩
        have hstep := mchU_cons (i := k) (r := (bl s).drop (k + 1)) hv
        rw [← bl_step hlt] at hstep
        obtain ⟨ok', t0', t6'⟩ := pasB_facts HA.out.ok HA.out.t0 HA.out.t6 hv
        have HST := Lib.hid hstep
        have HV := Lib.hid hv
        obtain ⟨len, hlen⟩ : ∃ len, r.length = len := ⟨_, rfl⟩
        have HL := Lib.hid hlen
        have hN := HA.out.N
        clear hE hstep hv hlen hfacts z0
        gi_wp2
        refine ⟨trivial, callsIn_wide.2 ((pass_b s (by omega) k hlt N (by omega) (Lib.hid HA.out.ok) HA.out.t0 HA.out.t6 u' t' m' r len told kk HV HL wr (Lib.hid HA.out.mid.wk)).mono ?_)⟩
        rintro x w1 ⟨A, c, rfl, HH⟩
        obtain ⟨Z', md, ho, hbk⟩ := HA.out.mid.pass hJ HH.out
        have hbox := md.box
        have hbl1 := hbox.lt
        have z0 : w1.cell? ⟨bx, 0, none⟩ = some (.int .i64 0) := hbox.cell 0
        have z1 : w1.cell? ⟨bx, 1, none⟩ = some (.int .i64 0) := hbox.cell 1
        have f0 := hbox.free 0
        have f1 := hbox.free 1
        by_cases hk0 : kk = 0
        · subst hk0
          have hE2 : E = pre ++ evs (if told = true then (mchU d q e u' t' m' (k + 1) ((bl s).drop (k + 1))).more r k else mchU d q e u' t' m' (k + 1) ((bl s).drop (k + 1))) := by rw [hE'.out, HST.out, if_neg (by simp)]
          cases told
          · rw [if_neg (by simp)] at hE2
            have HA2 := Lib.hid (show WAt B p d q e s J E bx (k + 1) (N + 1) u' t' m' Z' T pre w1 from ⟨md, t0', t6', ok', by omega, .inl ⟨by omega, hE2⟩⟩)
            clear hE2 hbox ok' md ho hbk
            gi_wp2
            refine ⟨fun _ h => (by cases h), ?_⟩
            gi_wp2
            go_roundw
            case rel => exact ⟨k + 1, N + 1, u', t', m', Z', T, _, by go_num, HA2⟩
            case measure => simp [intOf]; omega
          · rw [if_pos rfl, evs_more] at hE2
            obtain ⟨fn, tmps, assign, body, hy, hR⟩ := hY.out.at_ md A c len r 0 0 HL.out ⟨evs (mchU d q e u' t' m' (k + 1) ((bl s).drop (k + 1))), by rw [hE2]; simp⟩ ho hbk
            clear hbox md ho hbk
            gi_wp2
            refine hR.mono ?_
            rintro x W6 (⟨rfl, T2, M6⟩ | ⟨rfl, T2, M6⟩)
            · have HA2 := Lib.hid (show WAt B p d q e s J E bx (k + 1) (N + 1) u' t' m' Z' T2 (pre ++ [(r, 0, 0)]) W6 from ⟨M6, t0', t6', ok', by omega, .inl ⟨by omega, by rw [hE2]; simp⟩⟩)
              clear hE2 ok' M6
              gi_wp2
              go_roundw
              case rel => exact ⟨k + 1, N + 1, u', t', m', Z', T2, _, by go_num, HA2⟩
              case measure => simp [intOf]; omega
            · gi_wp2
              simp only [Exit.noGoto]
              refine bodyPost_ret (results_none rfl _ _ _) rfl ?_
              exact ⟨⟨_, rfl⟩, T2, M6.lies, .inr ⟨_, ⟨evs (mchU d q e u' t' m' (k + 1) ((bl s).drop (k + 1))), by rw [hE2]; simp⟩, M6.j⟩⟩
        · have hk1 : (kk != 0) = true := by simpa using hk0
          have MD := Lib.hid (md.store hJ kk k)
          have hpre : E = pre ++ [([], kk, (k : Int))] := by rw [hE'.out, HST.out, if_pos hk0, evs_bad hk0]
          obtain ⟨W5, hW5⟩ : ∃ W5, (w1.setCell ⟨bx, 0, none⟩ (.int .i64 kk)).setCell ⟨bx, 1, none⟩ (.int .i64 k) = W5 := ⟨_, rfl⟩
          rw [hW5] at MD
          have y0 : W5.cell? ⟨bx, 0, none⟩ = some (.int .i64 kk) := MD.out.box.cell 0
          have y1 : W5.cell? ⟨bx, 1, none⟩ = some (.int .i64 k) := MD.out.box.cell 1
          have y2 := MD.out.box.lt
          obtain ⟨fn, tmps, assign, body, hy, hR⟩ := hY.out.at_ MD.out none 0 0 [] kk k rfl (by rw [hpre]; exact List.prefix_rfl) (SlOwn.nothing _ _ _) (fun j hj => by cases hj)
          clear hbox
          gi_wp2
          refine hR.mono ?_
          rintro x W6 (⟨rfl, T2, M6⟩ | ⟨rfl, T2, M6⟩)
          · gi_wp2
            simp only [Exit.noGoto]
            go_end0
            exact ⟨⟨_, rfl⟩, T2, M6.lies, .inl (by rw [hpre]; exact M6.j)⟩
          · gi_wp2
            simp only [Exit.noGoto]
            go_end0
            exact ⟨⟨_, rfl⟩, T2, M6.lies, .inr ⟨_, by rw [hpre]; exact List.prefix_rfl, M6.j⟩⟩
      · obtain rfl : k = s.size := by omega
        have hle : decide ((s.size : Int) ≤ s.size) = true := decide_eq_true (by omega)
        have hE' := Lib.hid hE
        have hd : (bl s).drop s.size = [] := List.drop_eq_nil_of_le (by rw [bl_length]; omega)
        obtain ⟨⟨u', t', m', r, told, kk⟩, hv⟩ : ∃ v, pasE u t m = v := ⟨_, rfl⟩
        have hstep := mchU_nil (d := d) (q := q) (e := e) (i := s.size) hv
        rw [← hd] at hstep
        obtain ⟨ok', t0', t6'⟩ := pasE_facts HA.out.ok HA.out.t0 HA.out.t6 hv
        have HST := Lib.hid hstep
        have HV := Lib.hid hv
        obtain ⟨len, hlen⟩ : ∃ len, r.length = len := ⟨_, rfl⟩
        have HL := Lib.hid hlen
        have hN := HA.out.N
        clear hE hstep hv hlen hfacts z0
        gi_wp2
        refine ⟨trivial, callsIn_wide.2 ((pass_e s (by omega) N (by omega) (Lib.hid HA.out.ok) HA.out.t0 HA.out.t6 u' t' m' r len told kk HV HL wr (Lib.hid HA.out.mid.wk)).mono ?_)⟩
        rintro x w1 ⟨A, c, rfl, HH⟩
        obtain ⟨Z', md, ho, hbk⟩ := HA.out.mid.pass hJ HH.out
        have hbox := md.box
        have hbl1 := hbox.lt
        have z0 : w1.cell? ⟨bx, 0, none⟩ = some (.int .i64 0) := hbox.cell 0
        have z1 : w1.cell? ⟨bx, 1, none⟩ = some (.int .i64 0) := hbox.cell 1
        have f0 := hbox.free 0
        have f1 := hbox.free 1
        by_cases hk0 : kk = 0
        · subst hk0
          have hE2 : E = pre ++ evs (if told = true then ⟨[(r, s.size)], 0, 0⟩ else ⟨[], 0, 0⟩) := by rw [hE'.out, HST.out, if_neg (by simp)]
          cases told
          · rw [if_neg (by simp)] at hE2
            have HA2 := Lib.hid (show WAt B p d q e s J E bx (s.size + 1) (N + 1) u' t' m' Z' T pre w1 from ⟨md, t0', t6', ok', by omega, .inr ⟨rfl, by rw [hE2, evs_none]; simp⟩⟩)
            clear hE2 hbox ok' md ho hbk
            gi_wp2
            refine ⟨fun _ h => (by cases h), ?_⟩
            gi_wp2
            go_roundw
            case rel => exact ⟨s.size + 1, N + 1, u', t', m', Z', T, _, by go_num, HA2⟩
            case measure => simp [intOf]
          · rw [if_pos rfl, evs_one] at hE2
            obtain ⟨fn, tmps, assign, body, hy, hR⟩ := hY.out.at_ md A c len r 0 0 HL.out ⟨[], by rw [hE2]; simp⟩ ho hbk
            clear hbox md ho hbk
            gi_wp2
            refine hR.mono ?_
            rintro x W6 (⟨rfl, T2, M6⟩ | ⟨rfl, T2, M6⟩)
            · have HA2 := Lib.hid (show WAt B p d q e s J E bx (s.size + 1) (N + 1) u' t' m' Z' T2 (pre ++ [(r, 0, 0)]) W6 from ⟨M6, t0', t6', ok', by omega, .inr ⟨rfl, hE2⟩⟩)
              clear hE2 ok' M6
              gi_wp2
              go_roundw
              case rel => exact ⟨s.size + 1, N + 1, u', t', m', Z', T2, _, by go_num, HA2⟩
              case measure => simp [intOf]
            · gi_wp2
              simp only [Exit.noGoto]
              refine bodyPost_ret (results_none rfl _ _ _) rfl ?_
              exact ⟨⟨_, rfl⟩, T2, M6.lies, .inr ⟨_, ⟨[], by rw [hE2]; simp⟩, M6.j⟩⟩
        · have hk1 : (kk != 0) = true := by simpa using hk0
          have MD := Lib.hid (md.store hJ kk s.size)
          have hpre : E = pre ++ [([], kk, (s.size : Int))] := by rw [hE'.out, HST.out, if_pos hk0, evs_bad hk0]
          obtain ⟨W5, hW5⟩ : ∃ W5, (w1.setCell ⟨bx, 0, none⟩ (.int .i64 kk)).setCell ⟨bx, 1, none⟩ (.int .i64 s.size) = W5 := ⟨_, rfl⟩
          rw [hW5] at MD
          have y0 : W5.cell? ⟨bx, 0, none⟩ = some (.int .i64 kk) := MD.out.box.cell 0
          have y1 : W5.cell? ⟨bx, 1, none⟩ = some (.int .i64 s.size) := MD.out.box.cell 1
          have y2 := MD.out.box.lt
          obtain ⟨fn, tmps, assign, body, hy, hR⟩ := hY.out.at_ MD.out none 0 0 [] kk s.size rfl (by rw [hpre]; exact List.prefix_rfl) (SlOwn.nothing _ _ _) (fun j hj => by cases hj)
          clear hbox
          gi_wp2
          refine hR.mono ?_
          rintro x W6 (⟨rfl, T2, M6⟩ | ⟨rfl, T2, M6⟩)
          · gi_wp2
            simp only [Exit.noGoto]
            go_end0
            exact ⟨⟨_, rfl⟩, T2, M6.lies, .inl (by rw [hpre]; exact M6.j)⟩
          · gi_wp2
            simp only [Exit.noGoto]
            go_end0
            exact ⟨⟨_, rfl⟩, T2, M6.lies, .inr ⟨_, by rw [hpre]; exact List.prefix_rfl, M6.j⟩⟩
    · have hgt : ¬ (k : Int) ≤ s.size := by omega
      clear hfacts
      gi_wp2
      go_end0
      exact ⟨⟨_, rfl⟩, T, HA.out.mid.lies, .inl (by rw [hE]; exact HA.out.mid.j)⟩
end
end Go.Proofs.YtoeanbfemgmgnaaGreatDoor

namespace Go.Proofs.YtoeanbfemgmgnaaGreatDoor
open Go.ChangeShapes Go.WideShapes Go.ChangeAt Go.RowKit
set_option linter.unusedVariables false
set_option linter.unusedSimpArgs false
attribute [local go_sem] Oper.semAt_some

section
variable (d q e a b c : Int) (u : Bool)
set_option maxHeartbeats 800000 in
theorem nw_dial (d0 : 0 ≤ d) (d1 : d ≤ 255) (q0 : 0 ≤ q) (q1 : q ≤ 255) (h : rightB d q e = false) (w : World) : Calls Tryz.prog 49 #[.agg #[.int .u8 d, .int .u8 q, .int .i64 e], .agg #[.int .i64 a, .int .i64 b, .int .i64 c, .bool u]] w fun x w' =>
    x = .returned (.tuple #[.pointer none, .int .i64 1]) ∧ Below w.heap.size w w' := by
  go_enter Tryz.func49, Tryz.ntmps49
  go_wp2_with (go_at_call 19; ((with_reducible refine (above (check_no d q e d0 d1 q0 q1 h _)).mono ?_); rintro x _ ⟨rfl, yy, rfl⟩))
  go_ret2
  exact ⟨rfl, up_onto (up_alloc (up_alloc (Below.refl _ _) _) _) yy⟩
set_option maxHeartbeats 800000 in
theorem nw_lim (d0 : 0 ≤ d) (d1 : d ≤ 255) (q0 : 0 ≤ q) (q1 : q ≤ 255) (h : rightB d q e = true) (hl : Hid ((withinB a && (withinB b && withinB c)) = false)) (w : World) : Calls Tryz.prog 49 #[.agg #[.int .u8 d, .int .u8 q, .int .i64 e], .agg #[.int .i64 a, .int .i64 b, .int .i64 c, .bool u]] w fun x w' =>
    x = .returned (.tuple #[.pointer none, .int .i64 2]) ∧ Below w.heap.size w w' := by
  go_enter Tryz.func49, Tryz.ntmps49
  go_wp2_with (first | (go_at_call 19; ((with_reducible refine (above (check_yes d q e d0 d1 q0 q1 h _)).mono ?_); rintro x _ ⟨rfl, yy, rfl⟩)) | (go_at_call 59; ((with_reducible refine (above (new_no a b c u hl _)).mono ?_); rintro x _ ⟨rfl, yz, rfl⟩)))
  go_ret2
  exact ⟨rfl, up_onto (up_onto (up_alloc (up_alloc (Below.refl _ _) _) _) _) _⟩

def WalkerOut (w : World) (x : Ending) (w' : World) : Prop :=
  ∃ p, x = .returned (.tuple #[.pointer (some ⟨p, 0, none⟩), .int .i64 0]) ∧ Hid (∃ Z, WkB w' p d q e 0 0 (mk0 a b c u) Z ∧ (∀ k, Z k → w.heap.size ≤ k) ∧ Below w.heap.size w w')
set_option maxHeartbeats 1600000 in
theorem nw_yes (d0 : 0 ≤ d) (d1 : d ≤ 255) (q0 : 0 ≤ q) (q1 : q ≤ 255) (h : rightB d q e = true) (hl : Hid ((withinB a && (withinB b && withinB c)) = true)) (w : World) : Calls Tryz.prog 49 #[.agg #[.int .u8 d, .int .u8 q, .int .i64 e], .agg #[.int .i64 a, .int .i64 b, .int .i64 c, .bool u]] w
    (WalkerOut d q e a b c u w) := by
  go_enter Tryz.func49, Tryz.ntmps49
  go_wp2_with (first | (go_at_call 19; ((with_reducible refine (above (check_yes d q e d0 d1 q0 q1 h _)).mono ?_); rintro x _ ⟨rfl, yy, rfl⟩)))
  obtain ⟨V, hV⟩ : ∃ V, onto ((w.alloc (.cells #[.int .u8 d, .int .u8 q, .int .i64 e] 23)).alloc (.cells #[.int .i64 a, .int .i64 b, .int .i64 c, .bool u] 49)) yy = V := ⟨_, rfl⟩
  have HB := Lib.hid (show Below w.heap.size w V from by rw [← hV]; exact up_onto (up_alloc (up_alloc (Below.refl _ _) _) _) yy)
  have hd := (StB.alloc (StB.made w (g := w.heap.size) rfl 23 #[.int .u8 d, .int .u8 q, .int .i64 e]) (.cells #[.int .i64 a, .int .i64 b, .int .i64 c, .bool u] 49)).onto yy
  rw [hV] at hd ⊢
  clear hV
  refine (new_yes a b c u hl V).mono ?_
  rintro x w1 ⟨g, S, rfl, hm, hS, hb⟩
  have hd1 := hd.below hb.out
  have c0 : w1.cell? ⟨w.heap.size, 0, none⟩ = some (.int .u8 d) := hd1.cell 0
  have c1 : w1.cell? ⟨w.heap.size, 1, none⟩ = some (.int .u8 q) := hd1.cell 1
  have c2 : w1.cell? ⟨w.heap.size, 2, none⟩ = some (.int .i64 e) := hd1.cell 2
  have cl := hd1.lt
  clear hd hd1
  go_wp2_with fail
  go_ret2
  refine ⟨_, rfl, Lib.hid ⟨fun k => k = w1.heap.size ∨ S k, ⟨g, S, StB.new _ _ _, hm.out.below (up_alloc (Below.refl _ w1) _), fun h => by have := hm.out.lt _ h; omega, fun k => Iff.rfl⟩, ?_, ?_⟩⟩
  · rintro k (rfl | hk)
    · omega
    · have := hS.out k hk; have := HB.out.size; omega
  · exact up_alloc (HB.out.trans (hb.out.mono HB.out.size)) _
theorem walk_any (s : ByteArray) (w : World) : Calls Tryz.prog 33 #[.agg #[.int .u8 d, .int .u8 q, .int .i64 e], .agg #[.int .i64 a, .int .i64 b, .int .i64 c, .bool u], .string s] w fun x w' =>
    x = .returned (.func (.func 48) #[] #[.pointer (some ⟨w.heap.size, 0, none⟩), .pointer (some ⟨w.heap.size + 1, 0, none⟩), .pointer (some ⟨w.heap.size + 2, 0, none⟩)]) ∧
    w' = ((w.alloc (.cells #[.int .u8 d, .int .u8 q, .int .i64 e] 23)).alloc (.cells #[.int .i64 a, .int .i64 b, .int .i64 c, .bool u] 49)).alloc (.cells #[.string s] 9) := by
  go_enter Tryz.func33, Tryz.ntmps33
  go_wp2_with fail
  go_ret
  exact ⟨rfl, rfl⟩
end
end Go.Proofs.YtoeanbfemgmgnaaGreatDoor

namespace Go.Proofs.YtoeanbfemgmgnaaGreatDoor
open Go.ChangeShapes Go.WideShapes Go.ChangeAt Go.RowKit
set_option linter.unusedVariables false
set_option linter.unusedSimpArgs false
attribute [local go_sem] Oper.semAt_some

/-- All that is handed on of a text, whatever the dialect and the limits. -/
def evsW (d q e a b c : Int) (u : Bool) (s : ByteArray) : List (List ByteArray × Int × Int) :=
  if rightB d q e = false then [([], 1, 0)] else if (withinB a && (withinB b && withinB c)) = false then [([], 2, 0)] else evs (whP d q e (mk0 a b c u) (bl s))

section
variable {d q e a b c : Int} {u : Bool} {s : ByteArray} {n l B b0 b1 b2 : Nat} {J Jx : List (List ByteArray × Int × Int) → World → (Nat → Prop) → Prop} {E : List (List ByteArray × Int × Int)} {W : World} {T : Nat → Prop}
theorem Rounds.bad (hY : Rounds n l B J Jx E) (hj : J [] W T) (hT : Lies W T) (k : Int) (hE : E = [([], k, 0)]) (hB : B ≤ W.heap.size) :
    YieldAt Fence.wide n Tryz.prog l #[.slice none 0 0, .agg #[.int .i64 k, .int .i64 0]] W fun x W2 => (x = .returned (.bool true) ∧ ∃ T2, Lies W2 T2 ∧ J E W2 T2) ∨ (x = .returned (.bool false) ∧ ∃ T2, Lies W2 T2 ∧ Jx E W2 T2) := by
  subst hE
  obtain ⟨fn, tmps, assign, body, hy, hR⟩ := hY [] ⟨none, 0, [], k, 0⟩ W T hj hT List.prefix_rfl (SlOwn.nothing _ _ _) (fun j hj => by cases hj) hB
  refine ⟨fn, tmps, assign, body, hy, hR.mono ?_⟩
  rintro x W2 (⟨rfl, T2, l1, _, _, l4⟩ | ⟨rfl, T2, l1, _, _, l4⟩)
  · exact .inl ⟨rfl, T2, l1, l4⟩
  · exact .inr ⟨rfl, T2, l1, l4⟩

set_option maxHeartbeats 1600000 in
theorem walk1_in (hn : 1 ≤ n) (hs : s.size ≤ 900) (d0 : 0 ≤ d) (d1 : d ≤ 255) (q0 : 0 ≤ q) (q1 : q ≤ 255) (hJ : AbT W.heap.size J) (hJx : AbT W.heap.size Jx) (hY : Hid (Rounds (n - 1) l W.heap.size J Jx E)) (hE : Hid (E = evsW d q e a b c u s))
    (h0 : Hid (StB W b0 23 #[.int .u8 d, .int .u8 q, .int .i64 e])) (h1 : Hid (StB W b1 49 #[.int .i64 a, .int .i64 b, .int .i64 c, .bool u])) (h2 : Hid (StB W b2 9 #[.string s])) (hj : Hid (J [] W T)) (hT : Hid (Lies W T)) :
    CallsIn Fence.wide n Tryz.prog 48 #[.func (.yield l) #[] #[], .pointer (some ⟨b0, 0, none⟩), .pointer (some ⟨b1, 0, none⟩), .pointer (some ⟨b2, 0, none⟩)] W fun x w' => (∃ v, x = .returned v) ∧ ∃ T2, Lies w' T2 ∧ (J E w' T2 ∨ ∃ pre, pre <+: E ∧ Jx pre w' T2) := by
  have m0 : W.cell? ⟨b0, 0, none⟩ = some (.int .u8 d) := h0.out.cell 0
  have m1 : W.cell? ⟨b0, 1, none⟩ = some (.int .u8 q) := h0.out.cell 1
  have m2 : W.cell? ⟨b0, 2, none⟩ = some (.int .i64 e) := h0.out.cell 2
  have m3 : W.cell? ⟨b1, 0, none⟩ = some (.int .i64 a) := h1.out.cell 0
  have m4 : W.cell? ⟨b1, 1, none⟩ = some (.int .i64 b) := h1.out.cell 1
  have m5 : W.cell? ⟨b1, 2, none⟩ = some (.int .i64 c) := h1.out.cell 2
  have m6 : W.cell? ⟨b1, 3, none⟩ = some (.bool u) := h1.out.cell 3
  have hu : ∀ (W' : World), Below W.heap.size W W' → J [] W' T ∧ Lies W' T := fun W' hb => ⟨hJ _ _ _ _ (fun _ => False) hj.out hT.out (Touch.of_below hb _) (fun _ h => h.elim), hT.out.later hb.size⟩
  have HU := Lib.hid hu
  clear hu
  by_cases hr : rightB d q e = false
  · have hE1 := Lib.hid (show E = [([], 1, 0)] by rw [hE.out, evsW, if_pos hr])
    refine callsIn_of_wp Tryz.func48 rfl trivial ?_ rfl
    simp only [Tryz.ntmps48, List.size_toArray, List.length_cons, List.length_nil, Nat.reduceAdd, Nat.reduceSub, Array.replicate_succ, Array.replicate_zero, List.push_toArray, List.append_toArray, List.nil_append, List.cons_append]
    gi_wp2
    refine ⟨trivial, callsIn_wide.2 ((nw_dial d q e a b c u d0 d1 q0 q1 hr W).mono ?_)⟩
    rintro x W1 ⟨rfl, hb⟩
    obtain ⟨hj1, hT1⟩ := HU.out W1 hb
    obtain ⟨fn, tmps, assign, body, hy, hR⟩ := hY.out.bad hj1 hT1 1 hE1.out hb.size
    gi_wp2
    refine hR.mono ?_
    rintro x W6 (⟨rfl, T2, l1, l2⟩ | ⟨rfl, T2, l1, l2⟩)
    · gi_wp2
      refine bodyPost_ret (results_none rfl _ _ _) rfl ?_
      exact ⟨⟨_, rfl⟩, T2, l1, .inl l2⟩
    · gi_wp2
      refine bodyPost_ret (results_none rfl _ _ _) rfl ?_
      exact ⟨⟨_, rfl⟩, T2, l1, .inr ⟨E, List.prefix_rfl, l2⟩⟩
  · have hr' : rightB d q e = true := by simpa using hr
    by_cases hw : (withinB a && (withinB b && withinB c)) = false
    · have hE1 := Lib.hid (show E = [([], 2, 0)] by rw [hE.out, evsW, if_neg hr, if_pos hw])
      have HW := Lib.hid hw
      clear hw
      refine callsIn_of_wp Tryz.func48 rfl trivial ?_ rfl
      simp only [Tryz.ntmps48, List.size_toArray, List.length_cons, List.length_nil, Nat.reduceAdd, Nat.reduceSub, Array.replicate_succ, Array.replicate_zero, List.push_toArray, List.append_toArray, List.nil_append, List.cons_append]
      gi_wp2
      refine ⟨trivial, callsIn_wide.2 ((nw_lim d q e a b c u d0 d1 q0 q1 hr' HW W).mono ?_)⟩
      rintro x W1 ⟨rfl, hb⟩
      obtain ⟨hj1, hT1⟩ := HU.out W1 hb
      obtain ⟨fn, tmps, assign, body, hy, hR⟩ := hY.out.bad hj1 hT1 2 hE1.out hb.size
      gi_wp2
      refine hR.mono ?_
      rintro x W6 (⟨rfl, T2, l1, l2⟩ | ⟨rfl, T2, l1, l2⟩)
      · gi_wp2
        refine bodyPost_ret (results_none rfl _ _ _) rfl ?_
        exact ⟨⟨_, rfl⟩, T2, l1, .inl l2⟩
      · gi_wp2
        refine bodyPost_ret (results_none rfl _ _ _) rfl ?_
        exact ⟨⟨_, rfl⟩, T2, l1, .inr ⟨E, List.prefix_rfl, l2⟩⟩
    · have hw' : (withinB a && (withinB b && withinB c)) = true := by simpa using hw
      have hE1 := Lib.hid (show E = evs (whP d q e (mk0 a b c u) (bl s)) by rw [hE.out, evsW, if_neg hr, if_neg hw])
      have HW := Lib.hid hw'
      clear hw hw'
      refine callsIn_of_wp Tryz.func48 rfl trivial ?_ rfl
      simp only [Tryz.ntmps48, List.size_toArray, List.length_cons, List.length_nil, Nat.reduceAdd, Nat.reduceSub, Array.replicate_succ, Array.replicate_zero, List.push_toArray, List.append_toArray, List.nil_append, List.cons_append]
      gi_wp2
      refine ⟨trivial, callsIn_wide.2 ((nw_yes d q e a b c u d0 d1 q0 q1 hr' HW W).mono ?_)⟩
      rintro x W1 ⟨p, rfl, HP⟩
      obtain ⟨Z, z1, z2, z3⟩ := HP.out
      obtain ⟨hj1, hT1⟩ := HU.out W1 z3
      have k0 : W1.cell? ⟨b2, 0, none⟩ = some (.string s) := (h2.out.below z3).cell 0
      have kl := (h2.out.below z3).lt
      have HR := Lib.hid (show Rounds (n - 1 - 1) l W.heap.size J Jx E from fun pre x W1 T g1 g2 g3 g4 g5 g6 => yieldAt_depth (hY.out pre x W1 T g1 g2 g3 g4 g5 g6))
      have HT := callsIn_wide.1 (through_in (n := n) hn hs hJ hJx hY (mk0 a b c u) (mk0_ok a b c u HW.out) hE1.out W1 Z T z1 hj1 hT1 (fun j hj => ⟨fun hT' => by have := hT.out j hT'; have := z2 j hj; omega, z2 j hj⟩) z3.size)
      gi_wp2
      refine ⟨trivial, callsIn_wide.2 (HT.mono ?_)⟩
      rintro x W2 ⟨⟨v, rfl⟩, h⟩
      gi_wp2
      go_end0
      exact ⟨⟨_, rfl⟩, h⟩
theorem walk_seq (hn : 1 ≤ n) (hs : s.size ≤ 900) (d0 : 0 ≤ d) (d1 : d ≤ 255) (q0 : 0 ≤ q) (q1 : q ≤ 255) (h0 : StB W b0 23 #[.int .u8 d, .int .u8 q, .int .i64 e]) (h1 : StB W b1 49 #[.int .i64 a, .int .i64 b, .int .i64 c, .bool u]) (h2 : StB W b2 9 #[.string s]) :
    SeqT Fence.wide n Tryz.prog 48 #[.pointer (some ⟨b0, 0, none⟩), .pointer (some ⟨b1, 0, none⟩), .pointer (some ⟨b2, 0, none⟩)] Hx.args Hx.gh Hx.hand Hx.blk (evsW d q e a b c u s) W :=
  fun l J Jx hJ hJx hY T hj hT => walk1_in hn hs d0 d1 q0 q1 hJ hJx (Lib.hid hY) (Lib.hid rfl) (Lib.hid h0) (Lib.hid h1) (Lib.hid h2) (Lib.hid hj) (Lib.hid hT)
end
end Go.Proofs.YtoeanbfemgmgnaaGreatDoor

namespace Go.Proofs.YtoeanbfemgmgnaaGreatDoor
open Go.ChangeShapes Go.WideShapes Go.ChangeAt Go.RowKit
set_option linter.unusedVariables false
set_option linter.unusedSimpArgs false

/-! ### What Parse tells -/
structure Par where
  rs : List (List ByteArray)
  k : Int
  a : Int
def evsL (p : Par) : List (List ByteArray × Int × Int) := p.rs.map (fun r => (r, 0, 0)) ++ if p.k ≠ 0 then [([], p.k, p.a)] else []
def parW (d q e a b c : Int) (u : Bool) (s : ByteArray) : Par :=
  if rightB d q e = false then ⟨[], 1, 0⟩ else if (withinB a && (withinB b && withinB c)) = false then ⟨[], 2, 0⟩
  else ⟨(whP d q e (mk0 a b c u) (bl s)).rs.map (·.1), (whP d q e (mk0 a b c u) (bl s)).k, if (whP d q e (mk0 a b c u) (bl s)).k = 0 then 0 else ((whP d q e (mk0 a b c u) (bl s)).at_ : Int)⟩
theorem evsW_is (d q e a b c : Int) (u : Bool) (s : ByteArray) : evsW d q e a b c u s = evsL (parW d q e a b c u s) := by
  unfold evsW parW
  split
  · rfl
  · split
    · rfl
    · unfold evs evsL
      by_cases h : (whP d q e (mk0 a b c u) (bl s)).k = 0
      · simp [h]
      · simp [h]
theorem parW_zero (d q e a b c : Int) (u : Bool) (s : ByteArray) (h : (parW d q e a b c u s).k = 0) : (parW d q e a b c u s).a = 0 := by
  unfold parW at h ⊢
  split
  · rfl
  · split
    · rfl
    · rename_i h1 h2
      rw [if_neg h1, if_neg h2] at h
      exact if_pos h
theorem evsL_done {p : Par} (h : ∀ x ∈ evsL p, x.2.1 = 0) : p.k = 0 ∧ (evsL p).map (·.1) = p.rs := by
  unfold evsL at *
  by_cases hk : p.k = 0
  · refine ⟨hk, ?_⟩
    rw [if_neg (by simpa using hk), List.append_nil, List.map_map]
    simp [Function.comp_def]
  · rw [if_pos hk] at h
    exact absurd (h ([], p.k, p.a) (by simp)) hk
theorem evsL_part {p : Par} {pre : List (List ByteArray × Int × Int)} {x : List ByteArray × Int × Int} (h : pre ++ [x] <+: evsL p) (h0 : x.2.1 = 0) : x = (x.1, 0, 0) ∧ pre.length < p.rs.length := by
  obtain ⟨t, ht⟩ := h
  have hx : x ∈ evsL p := by rw [← ht]; simp
  unfold evsL at ht hx
  rcases List.mem_append.1 hx with h1 | h1
  · obtain ⟨r, _, rfl⟩ := List.mem_map.1 h1
    refine ⟨rfl, ?_⟩
    by_cases hk : p.k = 0
    · rw [if_neg (by simpa using hk)] at ht
      have := congrArg List.length ht; simp at this; omega
    · rw [if_pos hk] at ht
      rcases Nat.lt_or_ge pre.length p.rs.length with hl | hl
      · exact hl
      · have := congrArg List.length ht
        simp at this
        have hpl : pre.length = p.rs.length := by omega
        have ht0 : t = [] := List.eq_nil_of_length_eq_zero (by omega)
        subst ht0
        rw [List.append_nil] at ht
        have := (List.append_inj ht (by simp [hpl])).2
        simp at this
        exact absurd this.2.1.symm hk
  · exfalso
    by_cases hk : p.k = 0
    · rw [if_neg (by simpa using hk)] at h1; simp at h1
    · rw [if_pos hk] at h1
      simp at h1
      subst h1
      exact hk h0
theorem evsL_stop {p : Par} {pre : List (List ByteArray × Int × Int)} {r : List ByteArray} {k a : Int} (h : pre ++ [(r, k, a)] <+: evsL p) (h0 : k ≠ 0) : pre.map (·.1) = p.rs ∧ k = p.k ∧ a = p.a ∧ evsL p = pre ++ [(r, k, a)] := by
  obtain ⟨t, ht⟩ := h
  unfold evsL at ht ⊢
  have hx : (r, k, a) ∈ p.rs.map (fun r => (r, (0 : Int), (0 : Int))) ++ if p.k ≠ 0 then [([], p.k, p.a)] else [] := by rw [← ht]; simp
  rcases List.mem_append.1 hx with h1 | h1
  · obtain ⟨r', _, h2⟩ := List.mem_map.1 h1
    simp at h2
    exact absurd h2.2.1.symm h0
  · by_cases hk : p.k = 0
    · rw [if_neg (by simpa using hk)] at h1; simp at h1
    · rw [if_pos hk] at ht h1 ⊢
      simp at h1
      obtain ⟨rfl, rfl, rfl⟩ := h1
      have hlen := congrArg List.length ht
      simp at hlen
      rcases Nat.lt_or_ge pre.length p.rs.length with hl | hl
      · exfalso
        have h3 : (pre ++ [([], p.k, p.a)] ++ t)[pre.length]? = some ([], p.k, p.a) := by simp
        rw [ht, List.getElem?_append_left (by simpa using hl)] at h3
        obtain ⟨r', _, h4⟩ := List.mem_map.1 (List.mem_of_getElem? h3)
        simp at h4
        exact hk h4.2.1.symm
      · have hpl : pre.length = p.rs.length := by omega
        have ht0 : t = [] := List.eq_nil_of_length_eq_zero (by omega)
        subst ht0
        rw [List.append_nil] at ht
        have h5 := (List.append_inj ht (by simp [hpl])).1
        refine ⟨?_, rfl, rfl, ht.symm⟩
        rw [h5, List.map_map]
        simp [Function.comp_def]

/-! ### Rows -/
/-- Slices V that read as the records rs, in blocks of T. -/
def RowsT (W : World) (T : Nat → Prop) (V : List Value) (rs : List (List ByteArray)) : Prop :=
  V.length = rs.length ∧ ∀ (j : Nat) (x : List ByteArray), rs[j]? = some x → ∃ A a, V[j]? = some (.slice A x.length a) ∧ SlOwn W 0 9 A x.length a (strs x) ∧ ∀ k, blkOf A = some k → T k
theorem RowsT.nothing (W : World) (T : Nat → Prop) : RowsT W T [] [] := ⟨rfl, fun j x h => by simp at h⟩
theorem RowsT.toIn {W : World} {T : Nat → Prop} {V : List Value} {rs : List (List ByteArray)} (h : RowsT W T V rs) : RowsIn W V rs := ⟨h.1, fun j x hx => by
  obtain ⟨A, a, h1, h2, _⟩ := h.2 j x hx
  exact ⟨A, a, h1, h2.toIn⟩⟩
theorem RowsT.touch {W W' : World} {T S : Nat → Prop} {V : List Value} {rs : List (List ByteArray)} (h : RowsT W T V rs) (ht : Touch W W' S) (hd : ∀ (j : Nat) (x : List ByteArray) (A : Option Addr) (a : Nat), rs[j]? = some x → V[j]? = some (Value.slice A x.length a) → SlOwn W 0 9 A x.length a (strs x) → ∀ k, blkOf A = some k → T k → ¬ S k) : RowsT W' T V rs := ⟨h.1, fun j x hx => by
  obtain ⟨A, a, h1, h2, h3⟩ := h.2 j x hx
  exact ⟨A, a, h1, h2.touch ht (fun k hk => hd j x A a hx h1 h2 k hk (h3 k hk)), h3⟩⟩
theorem RowsT.mono {W : World} {T T' : Nat → Prop} {V : List Value} {rs : List (List ByteArray)} (h : RowsT W T V rs) (ht : ∀ k, T k → T' k) : RowsT W T' V rs := ⟨h.1, fun j x hx => by
  obtain ⟨A, a, h1, h2, h3⟩ := h.2 j x hx
  exact ⟨A, a, h1, h2, fun k hk => ht k (h3 k hk)⟩⟩
theorem RowsT.snoc {W : World} {T : Nat → Prop} {V : List Value} {rs : List (List ByteArray)} (h : RowsT W T V rs) {A : Option Addr} {a : Nat} {x : List ByteArray} (ho : SlOwn W 0 9 A x.length a (strs x)) (hA : ∀ k, blkOf A = some k → T k) : RowsT W T (V ++ [.slice A x.length a]) (rs ++ [x]) := by
  refine ⟨by simp [h.1], fun j y hy => ?_⟩
  by_cases hj : j < rs.length
  · rw [List.getElem?_append_left hj] at hy
    obtain ⟨B, b, hv, h2⟩ := h.2 j y hy
    exact ⟨B, b, by rw [List.getElem?_append_left (by rw [h.1]; exact hj)]; exact hv, h2⟩
  · rw [List.getElem?_append_right (by omega)] at hy
    have : j = rs.length := by
      have := (List.getElem?_eq_some_iff.1 hy).1
      simp at this; omega
    subst this
    simp at hy; subst hy
    exact ⟨A, a, by rw [← h.1]; simp, ho, hA⟩

/-! ### The loop of Parse -/
/-- The records so far, behind box b8; the boxes of the answers. -/
structure ParB (w0 : World) (b6 b7 b8 : Nat) (rs : List (List ByteArray)) (v6 v7a v7b : Value) (C : Option Addr) (c : Nat) (V : List Value) (W : World) (T : Nat → Prop) : Prop where
  low : Below w0.heap.size w0 W
  new : ∀ k, T k → w0.heap.size ≤ k
  t6 : T b6
  t7 : T b7
  t8 : T b8
  ne : b6 ≠ b7 ∧ b6 ≠ b8 ∧ b7 ≠ b8
  c6 : StB W b6 24 #[v6]
  c7 : StB W b7 45 #[v7a, v7b]
  c8 : StB W b8 24 #[.slice C rs.length c]
  own : SlOwn W 0 38 C rs.length c V
  one : ∀ u ∈ V, u.oneCell' = true
  tC : ∀ k, blkOf C = some k → T k
  rows : RowsT W T V rs
theorem ParB.later {w0 : World} {b6 b7 b8 : Nat} {rs : List (List ByteArray)} {v6 v7a v7b : Value} {C : Option Addr} {c : Nat} {V : List Value} {W W' : World} {T S : Nat → Prop} (h : ParB w0 b6 b7 b8 rs v6 v7a v7b C c V W T) (ht : Touch W W' S) {B : Nat} (hB : w0.heap.size ≤ B) (hS : ∀ k, S k → ¬ T k ∧ B ≤ k) :
    ParB w0 b6 b7 b8 rs v6 v7a v7b C c V W' T :=
  ⟨h.low.trans (ht.below h.low.size (fun k hk => Nat.le_trans hB (hS k hk).2)), h.new, h.t6, h.t7, h.t8, h.ne, h.c6.touch ht (fun hs => (hS _ hs).1 h.t6), h.c7.touch ht (fun hs => (hS _ hs).1 h.t7), h.c8.touch ht (fun hs => (hS _ hs).1 h.t8),
    h.own.touch ht (fun j hj hs => (hS _ hs).1 (h.tC j hj)), h.one, h.tC, h.rows.touch ht (fun j x A a _ _ _ k _ hT hs => (hS _ hs).1 hT)⟩
def ParI (w0 : World) (b6 b7 b8 : Nat) (pre : List (List ByteArray × Int × Int)) (W : World) (T : Nat → Prop) : Prop :=
  (∀ p ∈ pre, p.2.1 = 0) ∧ ∃ C c V, ParB w0 b6 b7 b8 (pre.map (·.1)) (.slice none 0 0) (.int .i64 0) (.int .i64 0) C c V W T
def ParX (w0 : World) (b6 b7 b8 : Nat) (code : Code) (pre : List (List ByteArray × Int × Int)) (W : World) (T : Nat → Prop) : Prop :=
  code = .ret ∧ ∃ (front : List (List ByteArray × Int × Int)) (r : List ByteArray) (k a : Int) (C : Option Addr) (c : Nat) (V : List Value), k ≠ 0 ∧ pre = front ++ [(r, k, a)] ∧ ParB w0 b6 b7 b8 (front.map (·.1)) (.slice C front.length c) (.int .i64 k) (.int .i64 a) C c V W T
theorem parI_ab (w0 : World) (b6 b7 b8 B : Nat) (hB : w0.heap.size ≤ B) : AbT B (ParI w0 b6 b7 b8) := fun s W1 W2 T S h hl ht hS => by
  obtain ⟨h0, C, c, V, hb⟩ := h
  exact ⟨h0, C, c, V, hb.later ht hB hS⟩
theorem parX_ab (w0 : World) (b6 b7 b8 B : Nat) (hB : w0.heap.size ≤ B) (code : Code) : AbT B (ParX w0 b6 b7 b8 code) := fun s W1 W2 T S h hl ht hS => by
  obtain ⟨h0, front, r, k, a, C, c, V, hk, hp, hb⟩ := h
  exact ⟨h0, front, r, k, a, C, c, V, hk, hp, hb.later ht hB hS⟩
/-- The loop's start: its boxes. -/
theorem parse_start (d q e a b c : Int) (u : Bool) (s : ByteArray) (w : World) {W8 : World} (hW : W8 = (((((((w.alloc (.cells #[.int .u8 d, .int .u8 q, .int .i64 e] 23)).alloc (.cells #[.int .i64 a, .int .i64 b, .int .i64 c, .bool u] 49)).alloc (.cells #[.slice none 0 0] 24)).alloc
      (.cells #[.int .i64 0, .int .i64 0] 45)).alloc (.cells #[.slice none 0 0] 24)).alloc (.cells #[.int .u8 d, .int .u8 q, .int .i64 e] 23)).alloc (.cells #[.int .i64 a, .int .i64 b, .int .i64 c, .bool u] 49)).alloc (.cells #[.string s] 9))
    {h b6 b7 b8 b9 b10 b11 : Nat} (e0 : w.heap.size = h) (e6 : b6 = h + 2) (e7 : b7 = h + 3) (e8 : b8 = h + 4) (e9 : b9 = h + 5) (e10 : b10 = h + 6) (e11 : b11 = h + 7) :
    ParI w b6 b7 b8 [] W8 (fun k => k = b6 ∨ k = b7 ∨ k = b8) ∧ Lies W8 (fun k => k = b6 ∨ k = b7 ∨ k = b8) ∧ StB W8 b9 23 #[.int .u8 d, .int .u8 q, .int .i64 e] ∧ StB W8 b10 49 #[.int .i64 a, .int .i64 b, .int .i64 c, .bool u] ∧ StB W8 b11 9 #[.string s] ∧ W8.heap.size = h + 8 := by
  have hz : W8.heap.size = h + 8 := by rw [hW]; simp; omega
  subst hW
  refine ⟨⟨(fun p hp => by cases hp), none, 0, [], ⟨up_alloc (up_alloc (up_alloc (up_alloc (up_alloc (up_alloc (up_alloc (up_alloc (Below.refl _ _) _) _) _) _) _) _) _) _, ?_, .inl rfl, .inr (.inl rfl), .inr (.inr rfl), ⟨by omega, by omega, by omega⟩, ?_, ?_, ?_, SlOwn.nothing _ _ _, (fun u hu => by cases hu), (fun k hk => by cases hk), RowsT.nothing _ _⟩⟩, ?_, ?_, ?_, ?_, hz⟩
  · rintro k (rfl | rfl | rfl) <;> omega
  · exact (((((StB.made _ (by simp; omega) _ _).alloc _).alloc _).alloc _).alloc _).alloc _
  · exact ((((StB.made _ (by simp; omega) _ _).alloc _).alloc _).alloc _).alloc _
  · exact (((StB.made _ (by simp; omega) _ _).alloc _).alloc _).alloc _
  · rintro k (rfl | rfl | rfl) <;> omega
  · exact ((StB.made _ (by simp; omega) _ _).alloc _).alloc _
  · exact (StB.made _ (by simp; omega) _ _).alloc _
  · exact StB.made _ (by simp; omega) _ _

/-- A round that goes on: one record more. -/
theorem parI_step {w0 W w' : World} {b6 b7 b8 : Nat} {pre : List (List ByteArray × Int × Int)} {x : Hx} {C A' : Option Addr} {c c' n : Nat} {V : List Value} {T : Nat → Prop} {o : Obj} (h0 : ∀ p ∈ pre, p.2.1 = 0) (hk : x.k = 0) (hb : ParB w0 b6 b7 b8 (pre.map (·.1)) (.slice none 0 0) (.int .i64 0) (.int .i64 0) C c V W T) (hlT : Lies W T)
    (hn : n = (pre.map (·.1)).length) (hhand : x.hand W) (hblk : ∀ k, x.blk k → ¬ T k ∧ w0.heap.size ≤ k ∧ k < W.heap.size) (hown : SlOwn w' 0 38 A' (n + 1) c' (V ++ [.slice x.A x.l.length x.c])) (hg : (W.alloc o).grownBy w' (blkOf C)) (hA : A' = C ∨ A' = some ⟨W.heap.size + 1, 0, none⟩) :
    Left W T x.blk (ParI w0 b6 b7 b8) (pre ++ [x.gh]) (w'.setCell ⟨b8, 0, none⟩ (.slice A' (n + 1) c')) := by
  obtain ⟨n1, n2, n3⟩ := hb.ne
  have hlow := hb.low.size
  have hCs := hb.own.unlike_st hb.c8
  have t1 : Touch W w' (fun k => blkOf C = some k) := by
    have h1 : Touch W (W.alloc o) (fun k => blkOf C = some k) := Touch.of_below (up_alloc (Below.refl _ W) _) _
    exact h1.then_grown hg (fun j hj => .inl hj)
  have t2 : Touch W (w'.setCell ⟨b8, 0, none⟩ (.slice A' (n + 1) c')) (fun k => k = b8 ∨ blkOf C = some k) := (t1.mono (S' := fun k => k = b8 ∨ blkOf C = some k) (fun k hk => .inr hk)).then_set (p := ⟨b8, 0, none⟩) (.inl (.inl rfl)) _
  have hz := t2.size
  have hsz : W.heap.size + 1 ≤ w'.heap.size := by have := hg.size; simpa using this
  have hsz2 : (w'.setCell ⟨b8, 0, none⟩ (.slice A' (n + 1) c')).heap.size = w'.heap.size := by simp [World.setCell]
  have hnew : ∀ k, blkOf A' = some k → k ≠ b8 ∧ (blkOf C = some k ∨ (W.heap.size ≤ k ∧ k < w'.heap.size)) := by
    intro k hk'
    have hlt := (hown.blk k hk').2
    rcases hA with rfl | rfl
    · have h8 := hb.own.unlike_st hb.c8
      exact ⟨by
        have : 38 ≠ 24 := by decide
        exact h8 this k hk', .inl hk'⟩
    · simp [blkOf] at hk'
      subst hk'
      have := hlT b8 hb.t8
      exact ⟨by omega, .inr ⟨by omega, hlt⟩⟩
  refine ⟨fun k => T k ∨ x.blk k ∨ (W.heap.size ≤ k ∧ k < w'.heap.size), ?_, ?_, t2.mono ?_, ?_⟩
  · rintro k (h1 | h1 | h1)
    · have := hlT k h1; omega
    · have := (hblk k h1).2.2; omega
    · omega
  · rintro k (h1 | h1 | h1)
    · exact .inl (.inl h1)
    · exact .inl (.inr h1)
    · exact .inr h1.1
  · rintro k (rfl | h1)
    · exact hb.t8
    · exact hb.tC k h1
  · refine ⟨?_, A', c', V ++ [.slice x.A x.l.length x.c], ?_⟩
    · intro p hp
      rcases List.mem_append.1 hp with h1 | h1
      · exact h0 p h1
      · simp at h1; subst h1; exact hk
    · have hrows : RowsT (w'.setCell ⟨b8, 0, none⟩ (.slice A' (n + 1) c')) (fun k => T k ∨ x.blk k ∨ (W.heap.size ≤ k ∧ k < w'.heap.size)) V (pre.map (·.1)) := by
        refine (hb.rows.touch t2 ?_).mono (fun k hk => .inl hk)
        rintro j y A a hj hv ho k hkA hT (rfl | hC)
        · exact ho.unlike_st hb.c8 (by decide) _ hkA rfl
        · exact ho.unlike hb.own (by decide) k hkA hC
      have hhand2 : SlOwn (w'.setCell ⟨b8, 0, none⟩ (.slice A' (n + 1) c')) 0 9 x.A x.l.length x.c (strs x.l) := by
        refine SlOwn.touch (w := W) hhand t2 ?_
        rintro k hk (rfl | hC)
        · exact (hblk _ hk).1 hb.t8
        · exact (hblk _ hk).1 (hb.tC k hC)
      have hl8 : b8 < W.heap.size := hb.c8.lt
      have hl8' : StB w' b8 24 #[.slice C (pre.map (·.1)).length c] := hb.c8.touch t1 (fun h => hb.own.unlike_st hb.c8 (by decide) b8 h rfl)
      refine ⟨hb.low.trans (t2.below hlow ?_), ?_, .inl hb.t6, .inl hb.t7, .inl hb.t8, hb.ne, hb.c6.touch t2 ?_, hb.c7.touch t2 ?_, ?_, ?_, ?_, ?_, ?_⟩
      · rintro k (rfl | h1)
        · exact hb.new _ hb.t8
        · exact hb.new _ (hb.tC k h1)
      · rintro k (h1 | h1 | h1)
        · exact hb.new k h1
        · exact (hblk k h1).2.1
        · omega
      · rintro (h1 | h1)
        · exact n2 h1
        · exact hb.own.unlike_st hb.c6 (by decide) _ h1 rfl
      · rintro (h1 | h1)
        · exact n3 h1
        · exact hb.own.unlike_st hb.c7 (by decide) _ h1 rfl
      · have := hl8'.set_ 0 (.slice A' (n + 1) c')
        have hlen : ((pre ++ [x.gh]).map (·.1)).length = n + 1 := by simp [hn]
        rw [hlen]; exact this
      · have hlen : ((pre ++ [x.gh]).map (·.1)).length = n + 1 := by simp [hn]
        rw [hlen]
        exact hown.keep fun k hk => Below.heap_setCell w' ⟨b8, 0, none⟩ _ k (hnew k hk).1
      · intro v hv
        rcases List.mem_append.1 hv with h1 | h1
        · exact hb.one v h1
        · simp at h1; subst h1; rfl
      · intro k hk'
        rcases (hnew k hk').2 with h1 | h1
        · exact .inl (hb.tC k h1)
        · exact .inr (.inr h1)
      · rw [List.map_append]
        exact hrows.snoc hhand2 (fun k hk' => .inr (.inl hk'))
/-- The answers' boxes are written. -/
theorem ParB.set3 {w0 W : World} {b6 b7 b8 : Nat} {rs : List (List ByteArray)} {v6 v7a v7b : Value} {C : Option Addr} {c : Nat} {V : List Value} {T : Nat → Prop} (hb : ParB w0 b6 b7 b8 rs v6 v7a v7b C c V W T) (u6 u7a u7b : Value) :
    ParB w0 b6 b7 b8 rs u6 u7a u7b C c V (((W.setCell ⟨b6, 0, none⟩ u6).setCell ⟨b7, 0, none⟩ u7a).setCell ⟨b7, 1, none⟩ u7b) T ∧ Touch W (((W.setCell ⟨b6, 0, none⟩ u6).setCell ⟨b7, 0, none⟩ u7a).setCell ⟨b7, 1, none⟩ u7b) T := by
  obtain ⟨n1, n2, n3⟩ := hb.ne
  have hlow := hb.low.size
  have T1 := (Touch.refl W (fun k => k = b6 ∨ k = b7)).then_set (p := ⟨b6, 0, none⟩) (.inl (.inl rfl)) u6
  have T2 := T1.then_set (p := ⟨b7, 0, none⟩) (.inl (.inr rfl)) u7a
  have T3 := T2.then_set (p := ⟨b7, 1, none⟩) (.inl (.inr rfl)) u7b
  have hTT : ∀ k, (k = b6 ∨ k = b7) → T k := by
    rintro k (rfl | rfl)
    · exact hb.t6
    · exact hb.t7
  refine ⟨⟨hb.low.trans (T3.below hlow (fun k hk => hb.new k (hTT k hk))), hb.new, hb.t6, hb.t7, hb.t8, hb.ne, ?_, ?_, hb.c8.touch T3 ?_, hb.own.touch T3 ?_, hb.one, hb.tC, hb.rows.touch T3 ?_⟩, T3.mono hTT⟩
  · exact ((hb.c6.set_ 0 u6).far (p := ⟨b7, 0, none⟩) n1 u7a).far (p := ⟨b7, 1, none⟩) n1 u7b
  · exact ((hb.c7.far (p := ⟨b6, 0, none⟩) n1.symm u6).set_ 0 u7a).set_ 1 u7b
  · rintro (h1 | h1)
    · exact n2 h1.symm
    · exact n3 h1.symm
  · rintro k hk' (rfl | rfl)
    · exact hb.own.unlike_st hb.c6 (by decide) _ hk' rfl
    · exact hb.own.unlike_st hb.c7 (by decide) _ hk' rfl
  · rintro j y A a hj hv ho k hkA hT (rfl | rfl)
    · exact ho.unlike_st hb.c6 (by decide) _ hkA rfl
    · exact ho.unlike_st hb.c7 (by decide) _ hkA rfl
/-- A round that tells the fault. -/
theorem parX_step {w0 W W' : World} {b6 b7 b8 : Nat} {pre : List (List ByteArray × Int × Int)} {x : Hx} {C : Option Addr} {c n : Nat} {V : List Value} {T : Nat → Prop} (h0 : ∀ p ∈ pre, p.2.1 = 0) (hk : x.k ≠ 0) (hb : ParB w0 b6 b7 b8 (pre.map (·.1)) (.slice none 0 0) (.int .i64 0) (.int .i64 0) C c V W T) (hlT : Lies W T) (hn : n = (pre.map (·.1)).length)
    (hW' : Touch (((W.setCell ⟨b6, 0, none⟩ (.slice C n c)).setCell ⟨b7, 0, none⟩ (.int .i64 x.k)).setCell ⟨b7, 1, none⟩ (.int .i64 x.a)) W' (fun _ => False)) :
    Left W T x.blk (ParX w0 b6 b7 b8 .ret) (pre ++ [x.gh]) W' := by
  obtain ⟨h1, h2⟩ := hb.set3 (.slice C n c) (.int .i64 x.k) (.int .i64 x.a)
  have h3 := h1.later hW' (Nat.le_refl _) (fun k hk => hk.elim)
  have t3 := h2.trans (Sub.refl _ _) (hW'.mono (fun k hk => hk.elim))
  rw [hn, List.length_map] at h3
  exact ⟨T, hlT.later t3.size, fun k hk => .inl (.inl hk), t3, rfl, pre, x.l, x.k, x.a, C, c, V, hk, rfl, h3⟩

theorem mchU_few {d q e : Int} : ∀ (l : List Int) (u t : Int) (m : Mk) (i : Nat), (mchU d q e u t m i l).rs.length ≤ l.length + 1
  | [], u, t, m, i => by
    rw [mchU]; split
    · simp
    · split
      · simp
      · split
        · simp
        · split <;> simp
  | b :: r, u, t, m, i => by
    have ih := mchU_few (d := d) (q := q) (e := e) r (utNx u b) (stepR d q e t b).n (mTake (stepR d q e t b).ev m) (i + 1)
    rw [mchU]; split
    · simp
    · split
      · simp
      · split
        · simp
        · split
          · simp [Got.more]; omega
          · simp; omega
theorem parW_few (d q e a b c : Int) (u : Bool) (s : ByteArray) : (parW d q e a b c u s).rs.length ≤ s.size + 1 := by
  unfold parW
  split
  · simp
  · split
    · simp
    · have h := mchU_few (d := d) (q := q) (e := e) (bomStrip (bl s)) 0 0 (mk0 a b c u) (whOff (bl s))
      have h2 := whOff_len (bl s)
      rw [bl_length] at h2
      simp only [List.length_map]
      unfold whP
      omega
end Go.Proofs.YtoeanbfemgmgnaaGreatDoor

namespace Go.Proofs.YtoeanbfemgmgnaaGreatDoor
open Go.ChangeShapes Go.WideShapes Go.ChangeAt Go.RowKit
set_option linter.unusedVariables false
set_option linter.unusedSimpArgs false
attribute [local go_sem] Oper.semAt_some

theorem hand_keep : ∀ (x : Hx) (W W' : World) (S : Nat → Prop), x.hand W → Touch W W' S → (∀ k, S k → ¬ x.blk k) → (∀ k, x.blk k → k < W.heap.size) → x.hand W' := fun x W W' S h ht hS _ => SlOwn.touch h ht (fun k hk hs => hS k hs hk)
theorem infoRows : (Tryz.prog.info? 38).map (fun i => (i.zero, i.size, i.bytes)) = some (some (.slice none 0 0), 1, 24) := by kernel_rfl

/-- What Parse answers. -/
def ParOut (p : Par) (w : World) (x : Ending) (w' : World) : Prop :=
  ∃ C c V, x = .returned (.tuple #[.slice C p.rs.length c, .agg #[.int .i64 p.k, .int .i64 p.a]]) ∧ Hid (SlIn w' C p.rs.length V ∧ RowsIn w' V p.rs) ∧ Hid (Below w.heap.size w w')

section
variable {d q e a b c : Int} {u : Bool} {s : ByteArray}
set_option maxRecDepth 100000 in
set_option maxHeartbeats 3200000 in
theorem parse_any (hs : s.size ≤ 900) (d0 : 0 ≤ d) (d1 : d ≤ 255) (q0 : 0 ≤ q) (q1 : q ≤ 255) (p : Par) (hp : Hid (parW d q e a b c u s = p)) (w : World) :
    Calls Tryz.prog 18 #[.agg #[.int .u8 d, .int .u8 q, .int .i64 e], .agg #[.int .i64 a, .int .i64 b, .int .i64 c, .bool u], .string s] w (ParOut p w) := by
  obtain ⟨i0, hi, hz0, hz1, hz2⟩ := info_parts infoRows
  have Hi := Lib.hid hi
  have Hz0 := Lib.hid hz0
  have Hz1 := Lib.hid hz1
  have Hz2 := Lib.hid hz2
  clear hi hz0 hz1 hz2
  have hev := Lib.hid (show evsW d q e a b c u s = evsL p from by rw [evsW_is, hp.out])
  have hfew := Lib.hid (show p.rs.length ≤ s.size + 1 from by rw [← hp.out]; exact parW_few _ _ _ _ _ _ _ _)
  refine (callsIn_wide (n := 5)).1 ?_
  refine callsIn_of_wp_marks Tryz.func18 rfl trivial ?_ rfl
  simp only [Tryz.ntmps18, List.size_toArray, List.length_cons, List.length_nil, Nat.reduceAdd, Nat.reduceSub, Array.replicate_succ, Array.replicate_zero, List.push_toArray, List.append_toArray, List.nil_append, List.cons_append]
  gi_wp2
  refine ⟨trivial, callsIn_wide.2 ((walk_any d q e a b c u s _).mono ?_)⟩
  rintro x w1 ⟨rfl, rfl⟩
  gi_wp2
  obtain ⟨W8, hW8⟩ : ∃ W8, (((((((w.alloc (.cells #[.int .u8 d, .int .u8 q, .int .i64 e] 23)).alloc (.cells #[.int .i64 a, .int .i64 b, .int .i64 c, .bool u] 49)).alloc (.cells #[.slice none 0 0] 24)).alloc
      (.cells #[.int .i64 0, .int .i64 0] 45)).alloc (.cells #[.slice none 0 0] 24)).alloc (.cells #[.int .u8 d, .int .u8 q, .int .i64 e] 23)).alloc (.cells #[.int .i64 a, .int .i64 b, .int .i64 c, .bool u] 49)).alloc (.cells #[.string s] 9) = W8 := ⟨_, rfl⟩
  obtain ⟨h, hh⟩ : ∃ h, w.heap.size = h := ⟨_, rfl⟩
  rw [hW8, hh]
  obtain ⟨b6, h6⟩ : ∃ b6, h + 1 + 1 = b6 := ⟨_, rfl⟩
  obtain ⟨b7, h7⟩ : ∃ b7, b6 + 1 = b7 := ⟨_, rfl⟩
  obtain ⟨b8, h8⟩ : ∃ b8, b7 + 1 = b8 := ⟨_, rfl⟩
  obtain ⟨b9, h9⟩ : ∃ b9, b8 + 1 = b9 := ⟨_, rfl⟩
  obtain ⟨b10, h10⟩ : ∃ b10, b9 + 1 = b10 := ⟨_, rfl⟩
  obtain ⟨b11, h11⟩ : ∃ b11, b9 + 2 = b11 := ⟨_, rfl⟩
  rw [h6, h7, h8, h9, h10, h11]
  obtain ⟨start, lies, s9, s10, s11, hz⟩ := parse_start d q e a b c u s w hW8.symm hh (b6 := b6) (b7 := b7) (b8 := b8) (b9 := b9) (b10 := b10) (b11 := b11) (by omega) (by omega) (by omega) (by omega) (by omega) (by omega)
  have hwle : w.heap.size ≤ W8.heap.size := by omega
  clear hW8 h6 h7 h8 h9 h10 h11 hz
  refine wpIn_range_T rfl (by simp [Fence.wide]) (gf := 48) (lb := #[.pointer (some ⟨b9, 0, none⟩), .pointer (some ⟨b10, 0, none⟩), .pointer (some ⟨b11, 0, none⟩)]) rfl trivial (enters_of Tryz.func48 (by kernel_rfl) rfl)
    (encs := Hx.args) (gh := Hx.gh) (hand := Hx.hand) (blk := Hx.blk) (evs := evsL p) (fun W1 hb => by rw [← hev.out]; exact walk_seq (by omega) hs d0 d1 q0 q1 (s9.below hb) (s10.below hb) (s11.below hb)) hand_keep (fun _ => rfl)
    (ParI w b6 b7 b8) (ParX w b6 b7 b8) (parI_ab _ _ _ _ _ hwle) (parX_ab _ _ _ _ _ hwle) _ start lies
    (fun x V => { tmps := #[.agg #[.int .u8 d, .int .u8 q, .int .i64 e], .agg #[.int .i64 a, .int .i64 b, .int .i64 c, .bool u], .string s, .pointer (some ⟨h, 0, none⟩), .pointer (some ⟨h + 1, 0, none⟩), undef, .pointer (some ⟨b6, 0, none⟩), .pointer (some ⟨b7, 0, none⟩), .pointer (some ⟨b8, 0, none⟩),
      .slice x.A x.l.length x.c, .pointer (some ⟨V.heap.size, 0, none⟩), .agg #[.int .u8 d, .int .u8 q, .int .i64 e], .agg #[.int .i64 a, .int .i64 b, .int .i64 c, .bool u], .string s, .func (.func 48) #[] #[.pointer (some ⟨b9, 0, none⟩), .pointer (some ⟨b10, 0, none⟩), .pointer (some ⟨b11, 0, none⟩)],
      .slice x.A x.l.length x.c, .agg #[.int .i64 x.k, .int .i64 x.a], undef, undef, undef, undef, undef, undef, undef, undef, undef, undef, undef], defers := [] })
    (fun x V => V.alloc (.cells #[.int .i64 x.k, .int .i64 x.a] 45)) (fun x V => up_alloc (Below.refl _ V) _) ?assign ?body ?done ?stop
  case assign =>
    rintro l ⟨xA, xc, xl, xk, xa⟩ W K hK
    dsimp only [Hx.args] at hK ⊢
    gi_wp2
    exact hK
  case body =>
    rintro l pre x V W T ⟨hz0, C, cc, VV, hb⟩ hlT hpre hhand hblk hge htouch hl
    have hbox := (StB.new V 45 #[.int .i64 x.k, .int .i64 x.a]).touch htouch (by intro e; omega)
    obtain ⟨F, hF⟩ : ∃ F, V.heap.size = F := ⟨_, rfl⟩
    rw [hF] at hbox hl
    rw [hF]
    have k0 : W.cell? ⟨F, 0, none⟩ = some (.int .i64 x.k) := hbox.cell 0
    have k1 : W.cell? ⟨F, 1, none⟩ = some (.int .i64 x.a) := hbox.cell 1
    have kl := hbox.lt
    have m0 : W.cell? ⟨b8, 0, none⟩ = some (.slice C (pre.map (·.1)).length cc) := hb.c8.cell 0
    have m1 := hb.c8.free 0
    have m2 := hb.c8.lt
    obtain ⟨n, hn⟩ : ∃ n, (pre.map (·.1)).length = n := ⟨_, rfl⟩
    have hlW : Lies W T := hlT.later (Nat.le_trans (up_alloc (Below.refl _ V) _).size htouch.size)
    have HB := Lib.hid hb
    have hHz := Lib.hid hz0
    have HH := Lib.hid hhand
    rw [hn] at m0
    obtain ⟨ne1, ne2, ne3⟩ := hb.ne
    clear hb hz0 hhand
    by_cases hk : x.k = 0
    · have hpart := evsL_part hpre hk
      have hnl : n < p.rs.length := by rw [← hn, List.length_map]; exact hpart.2
      have hn900 : n ≤ 901 := by have := hfew.out; omega
      have HO := Lib.hid (show SlOwn (W.alloc (.cells #[.slice x.A x.l.length x.c] 38)) 0 38 C n cc VV by have := HB.out.own.below (up_alloc (Below.refl _ W) (.cells #[.slice x.A x.l.length x.c] 38)); rw [hn] at this; exact this)
      have HI := Lib.hid (slIn_new1 W 38 (.slice x.A x.l.length x.c))
      rw [hk] at k0
      have hne8 : some b8 ≠ blkOf C := fun e => HB.out.own.unlike_st HB.out.c8 (by decide) b8 e.symm rfl
      have H8 := Lib.hid HB.out.c8
      rw [hn] at H8
      clear hpart
      gi_wp2_with (gi_at_builtin; refine wpListIn_append_sl _ rfl (.tmp 22) (.tmp 24) 24 rfl 38 i0 _ 24 Tryz.underlying24 Hi.out Hz0.out Hz1.out Hz2.out rfl 0 C n cc VV rfl HO.out (some ⟨W.heap.size, 0, none⟩) 1 1 [.slice x.A x.l.length x.c] rfl HI.out (by intro v hv; simp at hv; subst hv; rfl) (by unfold maxLen; omega) (by omega) (Nat.zero_le _) ?_; intro A' c' w' hown hgrow hat; have G8 := (H8.out.alloc _).grown hgrow hne8; have g0 := G8.cell 0; have g1 := G8.free 0; have g2 := G8.lt; have HOW := Lib.hid hown; have HGR := Lib.hid hgrow; have HAT := Lib.hid hat; clear G8 hown hgrow hat)
      exact parI_step hHz.out hk HB.out hlW hn.symm HH.out (fun k hk' => ⟨(hblk k hk').1, by have := (hblk k hk').2.1; omega, by have := (hblk k hk').2.2; have := htouch.size; have := (up_alloc (Below.refl _ V) (.cells #[.int .i64 x.k, .int .i64 x.a] 45)).size; omega⟩) HOW.out HGR.out (by simpa using HAT.out)
    · have hkb : (x.k != 0) = true := by simpa using hk
      have r0 := HB.out.c6.cell 0
      have r1 := HB.out.c6.free 0
      have r2 := HB.out.c6.lt
      have r3 := HB.out.c7.cell 0
      have r4 := HB.out.c7.cell 1
      have r5 := HB.out.c7.free 0
      have r6 := HB.out.c7.free 1
      have r7 := HB.out.c7.lt
      have hFl : ∀ k, T k → ¬ k = F ∧ ¬ F = k := fun k hk' => by have := hlT k hk'; omega
      obtain ⟨g1, g2⟩ := hFl b6 HB.out.t6
      obtain ⟨g3, g4⟩ := hFl b7 HB.out.t7
      obtain ⟨g5, g6⟩ := hFl b8 HB.out.t8
      have ne4 : ¬ b8 = b6 := fun e => ne2 e.symm
      have ne5 : ¬ b8 = b7 := fun e => ne3 e.symm
      have ne6 : ¬ b7 = b6 := fun e => ne1 e.symm
      have hmx : Tryz.prog.follows .mixedOrders = true := by kernel_rfl
      gi_wp2
      gi_region_with_o (fail)
      all_goals gi_wp2
      all_goals exact parX_step hHz.out hk HB.out hlW hn.symm (Touch.then_drew (Touch.refl _ _))
  case done =>
    rintro D W T hD ⟨hz0, C, cc, VV, hb⟩ hlT hTD hK
    have m0 := hb.c8.cell 0
    have m2 := hb.c8.lt
    have r0 := hb.c6.cell 0
    have r1 := hb.c6.free 0
    have r2 := hb.c6.lt
    have r3 := hb.c7.cell 0
    have r4 := hb.c7.cell 1
    have r5 := hb.c7.free 0
    have r6 := hb.c7.free 1
    have r7 := hb.c7.lt
    obtain ⟨ne1, ne2, ne3⟩ := hb.ne
    have HB := Lib.hid hb
    clear hb
    obtain ⟨e0, e1⟩ := evsL_done hz0
    rw [e1] at HB m0
    obtain ⟨h1, h2⟩ := HB.out.set3 (.slice C p.rs.length cc) (.int .i64 0) (.int .i64 0)
    have h3 := h1.later (Touch.putObj _ D (.deferred none)) (Nat.le_trans hwle hD) (fun k hk => by subst hk; exact ⟨hTD, Nat.le_refl _⟩)
    have hK' := (h2.block D (Array.getElem?_eq_some_iff.1 hK).1 hTD).trans hK
    clear hK h2 h1 HB
    gi_wp2
    refine ⟨by simp, .inl ⟨_, _, rfl, run_takeDeferred hK', ?_⟩⟩
    have y0 := h3.c6.cell 0
    have y1 := h3.c7.cell 0
    have y2 := h3.c7.cell 1
    have ea : p.a = 0 := by rw [← hp.out]; exact parW_zero _ _ _ _ _ _ _ _ (by rw [hp.out]; exact e0)
    refine ⟨.tuple #[.slice C p.rs.length cc, .agg #[.int .i64 0, .int .i64 0]], ?_, C, cc, VV, by rw [e0, ea], Lib.hid ⟨h3.own.toIn, h3.rows.toIn⟩, Lib.hid h3.low⟩
    clear h3
    simp [results, Tryz.results18, go_sem, y0, y1, y2]
  case stop =>
    rintro D code pre W T hD hpre ⟨rfl, front, r, k, aa, C, cc, VV, hk, rfl, hb⟩ hlT hTD hK
    obtain ⟨e1, rfl, rfl, _⟩ := evsL_stop hpre hk
    have e2 : front.length = p.rs.length := by rw [← e1, List.length_map]
    rw [e1, e2] at hb
    have h3 := hb.later (Touch.putObj _ D (.deferred none)) (Nat.le_trans hwle hD) (fun k hk => by subst hk; exact ⟨hTD, Nat.le_refl _⟩)
    clear hb
    gi_wp2
    refine ⟨by simp, .inl ⟨_, _, rfl, run_takeDeferred hK, ?_⟩⟩
    have y0 := h3.c6.cell 0
    have y1 := h3.c7.cell 0
    have y2 := h3.c7.cell 1
    refine ⟨.tuple #[.slice C p.rs.length cc, .agg #[.int .i64 p.k, .int .i64 p.a]], ?_, C, cc, VV, rfl, Lib.hid ⟨h3.own.toIn, h3.rows.toIn⟩, Lib.hid h3.low⟩
    clear h3
    simp [results, Tryz.results18, go_sem, y0, y1, y2]
end
end Go.Proofs.YtoeanbfemgmgnaaGreatDoor

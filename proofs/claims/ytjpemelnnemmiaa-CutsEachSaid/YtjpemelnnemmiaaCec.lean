/- Layer 7: what Each answers is an iterator over the pieces of a text, cut in all ways (each_seq). -/
import Derived.Test.YtjpemelnnemmiaaCwb
import Derived.Test.YtjpemelnnemmiaaCat
import Derived.Test.YtjpemelnnemmiaaKit14
namespace Go.Proofs.Ytjpemelnnemmiaa
open Go.ChangeShapes Go.WideShapes Go.ChangeAt Go.RowKit
set_option linter.unusedVariables false
set_option linter.unusedSimpArgs false
attribute [local go_sem] Oper.semAt_some

/-- Pieces that are handed on. -/
structure Ex where
  A : Option Addr
  c : Nat
  l : List ByteArray
def Ex.args (x : Ex) : Array Value := #[.slice x.A x.l.length x.c]
def Ex.gh (x : Ex) : List ByteArray := x.l
def Ex.hand (x : Ex) (W : World) : Prop := SlOwn W 0 9 x.A x.l.length x.c (strs x.l)
def Ex.blk (x : Ex) (j : Nat) : Prop := blkOf x.A = some j
theorem ehand_keep : ∀ (x : Ex) (W W' : World) (S : Nat → Prop), x.hand W → Touch W W' S → (∀ k, S k → ¬ x.blk k) → (∀ k, x.blk k → k < W.heap.size) → x.hand W' := fun x W W' S h ht hS _ => SlOwn.touch h ht (fun k hk hs => hS k hs hk)
/-- What the rounds promise. -/
def ERounds (n : Nat) (l B : Nat) (J Jx : List (List ByteArray) → World → (Nat → Prop) → Prop) (E : List (List ByteArray)) : Prop :=
  ∀ pre x W1 T, J pre W1 T → Lies W1 T → pre ++ [Ex.gh x] <+: E → x.hand W1 → (∀ k, x.blk k → ¬ T k ∧ B ≤ k ∧ k < W1.heap.size) → B ≤ W1.heap.size →
    YieldAt Fence.wide n Try.prog l x.args W1 fun e W2 => (e = .returned (.bool true) ∧ LeftW W1 T x.blk J (pre ++ [x.gh]) W2) ∨ (e = .returned (.bool false) ∧ LeftW W1 T x.blk Jx (pre ++ [x.gh]) W2)
def intOfs (v : List Nat) : List Int := v.map fun (x : Nat) => (x : Int)
theorem intOfs_ints (v : List Nat) : (intOfs v).map (Value.int .i64) = ints v := by unfold intOfs ints; rw [List.map_map]; rfl
theorem roundIn_any {n m : Nat} {P : Program} {l : Nat} {f : FuncId} {tmps : Array Value} {assign body : Code} {w : World} {R : Ending → World → Prop} (h : RoundIn Fence.wide n P l f tmps assign body w R) : RoundIn Fence.wide m P l f tmps assign body w R :=
  ⟨h.1, fun c cs _ => h.2 c cs (fun _ h => by simp [Fence.wide] at h)⟩
/-- A text's pieces, cut that way. -/
def pieceOf (s : ByteArray) (v : List Nat) : List ByteArray := cutAt s (intOfs v)
theorem pieceOf_length (s : ByteArray) (v : List Nat) : (pieceOf s v).length = v.length + 1 := by unfold pieceOf; rw [cutAt_length]; simp [intOfs]
def eachL (s : ByteArray) : List (List ByteArray) := (waysL (s.size : Int)).map (pieceOf s)
theorem roundIn_in {n m : Nat} {P : Program} {l : Nat} {f : FuncId} {tmps : Array Value} {assign body : Code} {w : World} {R : Ending → World → Prop} (l' : Nat) (h : RoundIn Fence.wide n P l f tmps assign body w R) : RoundIn (Fence.wide.inRound l') m P l f tmps assign body w R :=
  ⟨h.1, fun c cs _ => h.2 c cs (fun _ h => by simp [Fence.wide] at h)⟩

def EI (yb b0 l : Nat) (s : ByteArray) (J : List (List ByteArray) → World → (Nat → Prop) → Prop) (pre : List (List Nat)) (W : World) (T : Nat → Prop) : Prop :=
  J (pre.map (pieceOf s)) W T ∧ (¬ T yb ∧ StB W yb 30 #[.func (.yield l) #[] #[]]) ∧ (¬ T b0 ∧ StB W b0 9 #[.string s])
def EX (s : ByteArray) (Jx : List (List ByteArray) → World → (Nat → Prop) → Prop) (code : Code) (pre : List (List Nat)) (W : World) (T : Nat → Prop) : Prop := code = .ret ∧ Jx (pre.map (pieceOf s)) W T

section
variable {n l b0 : Nat} {s : ByteArray} {J Jx : List (List ByteArray) → World → (Nat → Prop) → Prop} {W : World} {T : Nat → Prop}
set_option maxRecDepth 100000 in
set_option maxHeartbeats 3200000 in
theorem each1_in (hn : 9 ≤ n) (hs : s.size ≤ maxLen) (hJ : AbT W.heap.size J) (hJx : AbT W.heap.size Jx) (hY : Hid (ERounds (n - 1) l W.heap.size J Jx (eachL s)))
    (h0 : Hid (StB W b0 9 #[.string s])) (hj : Hid (J [] W T)) (hT : Hid (Lies W T)) (hb : ¬ T b0) :
    CallsIn Fence.wide n Try.prog 29 #[.func (.yield l) #[] #[], .pointer (some ⟨b0, 0, none⟩)] W fun x w' => (∃ v, x = .returned v) ∧ ∃ T2, Lies w' T2 ∧ (J (eachL s) w' T2 ∨ ∃ pre, pre <+: eachL s ∧ Jx pre w' T2) := by
  have hn1 : 1 ≤ n := by omega
  have m0 : W.cell? ⟨b0, 0, none⟩ = some (.string s) := h0.out.cell 0
  have ml := h0.out.lt
  refine callsIn_of_wp_marks Try.func29 rfl trivial ?_ rfl
  simp only [Try.ntmps29, List.size_toArray, List.length_cons, List.length_nil, Nat.reduceAdd, Nat.reduceSub, Array.replicate_succ, Array.replicate_zero, List.push_toArray, List.append_toArray, List.nil_append, List.cons_append]
  gi_wp2
  refine ⟨trivial, callsIn_wide.2 ((ways_any (s.size : Int) _).mono ?_)⟩
  rintro x w1 ⟨rfl, rfl⟩
  gi_wp2
  obtain ⟨W8, hW8⟩ : ∃ W8, (W.alloc (.cells #[.func (.yield l) #[] #[]] 30)).alloc (.cells #[.int .i64 (s.size : Int)] 3) = W8 := ⟨_, rfl⟩
  obtain ⟨yb, hyb⟩ : ∃ h, W.heap.size = h := ⟨_, rfl⟩
  rw [hW8, hyb]
  obtain ⟨r0, hr0⟩ : ∃ r, yb + 1 = r := ⟨_, rfl⟩
  rw [hr0]
  have hz : W8.heap.size = yb + 2 := by rw [← hW8]; simp; omega
  have hwle : W.heap.size ≤ W8.heap.size := by omega
  have hbl : Below W.heap.size W W8 := by rw [← hW8]; exact up_alloc (up_alloc (Below.refl _ _) _) _
  have s4 : StB W8 yb 30 #[.func (.yield l) #[] #[]] := by rw [← hW8]; exact (StB.made _ hyb.symm _ _).alloc _
  have s5 : StB W8 r0 3 #[.int .i64 (s.size : Int)] := by rw [← hW8]; exact StB.made _ (by simp; omega) _ _
  have s6 : StB W8 b0 9 #[.string s] := h0.out.below hbl
  have hnT : ¬ T yb := fun h => by have := hT.out _ h; omega
  have hnR : ¬ T r0 := fun h => by have := hT.out _ h; omega
  have start : EI yb b0 l s J [] W8 T := ⟨hJ _ _ _ _ (fun _ => False) hj.out hT.out (Touch.of_below hbl _) (fun _ h => h.elim), ⟨hnT, s4⟩, hb, s6⟩
  have lies : Lies W8 T := hT.out.later hwle
  have hwf : (Lit.int .i64 (s.size : Int)).wf = true := by
    have : s.size ≤ 9223372036854775807 := hs
    simp [Lit.wf, IntKind.min, IntKind.max, IntKind.signed, IntKind.bits]; omega
  have abI : AbT W8.heap.size (EI yb b0 l s J) := fun p W1 W2 T S h hl ht hS => by
    obtain ⟨g1, ⟨g2, g3⟩, g4, g5⟩ := h
    exact ⟨hJ _ _ _ _ S g1 hl ht (fun k hk => ⟨(hS k hk).1, by have := (hS k hk).2; omega⟩), ⟨g2, g3.touch ht (fun hs => by have := (hS _ hs).2; omega)⟩, g4, g5.touch ht (fun hs => by have := (hS _ hs).2; omega)⟩
  have abX : ∀ cd, AbT W8.heap.size (EX s Jx cd) := fun cd p W1 W2 T S h hl ht hS =>
    ⟨h.1, hJx _ _ _ _ S h.2 hl ht (fun k hk => ⟨(hS k hk).1, by have := (hS k hk).2; omega⟩)⟩
  clear hW8 m0 hbl s4 s6 hj
  refine wpIn_range_W rfl (by simp [Fence.wide]) (gf := 27) (lb := #[.pointer (some ⟨r0, 0, none⟩)]) rfl trivial (enters_of Try.func27 (by kernel_rfl) rfl)
    (encs := Vx.args) (gh := Vx.gh) (hand := Vx.hand) (blk := Vx.blk) (evs := waysL (s.size : Int)) (Kp := fun k => k = r0) (fun W1 hb => ways_seq (by omega) hwf (s5.below hb)) vhand_keep (fun _ => rfl)
    (EI yb b0 l s J) (EX s Jx) abI abX T start lies (fun k hk => by have e : k = r0 := hk; subst e; exact ⟨hnR, by omega⟩)
    (fun x V => { tmps := #[.func (.yield l) #[] #[], .pointer (some ⟨b0, 0, none⟩), .pointer (some ⟨yb, 0, none⟩), .slice x.A x.l.length x.c, .string s, .int .i64 (s.size : Int), .func (.func 27) #[] #[.pointer (some ⟨r0, 0, none⟩)], .slice x.A x.l.length x.c, undef, undef, undef, undef, undef, undef], defers := [] })
    (fun x V => V) (fun x V => Below.refl _ V) ?assign ?body ?done ?stop
  case assign =>
    rintro l ⟨xA, xc, xl⟩ W K hK
    dsimp only [Vx.args] at hK ⊢
    gi_wp2
    exact hK
  case body =>
    rintro l1 pre ⟨xA, xc, xl⟩ V W1 T1 ⟨hj1, ⟨hnY, sY⟩, hnB, sB⟩ hlT hpre hhand hblk hge htouch hl
    obtain ⟨hlen, hxl0⟩ := waysL_at hpre
    have hxl : xl = wayN (s.size : Int).toNat pre.length := hxl0
    clear hxl0
    have hs16 : s.size ≤ 16 := by rcases waysE_cases (s.size : Int) with h | h; rw [h.2] at hlen; omega; omega
    rw [Int.toNat_natCast] at hxl
    have hx16 : xl.length ≤ 16 := by rw [hxl]; exact Nat.le_trans (wayGo_length _ _ _) (by omega)
    have hVW : V.heap.size ≤ W1.heap.size := htouch.size
    have HXL := Lib.hid (show SlIn W1 xA xl.length ((intOfs xl).map (Value.int .i64)) by rw [intOfs_ints]; exact hhand.toIn)
    have hpx : pre.map (pieceOf s) ++ [pieceOf s xl] <+: eachL s := by
      have := hpre.map (pieceOf s)
      rw [List.map_append] at this
      exact this
    have hl1 : Lies W1 T1 := hlT.later hVW
    have HP := Lib.hid hpx
    have HL1 := Lib.hid hl1
    have HJ1 := Lib.hid hj1
    have HBV := Lib.hid hblk
    have hWV : W.heap.size ≤ V.heap.size := Nat.le_trans hwle hge
    clear hxl hlen hpre hhand hpx hl1 hblk
    have k0 : W1.cell? ⟨yb, 0, none⟩ = some (.func (.yield l) #[] #[]) := sY.cell 0
    have k1 : W1.cell? ⟨b0, 0, none⟩ = some (.string s) := sB.cell 0
    have hC1 : W1.drew.cell? ⟨yb, 0, none⟩ = some (.func (.yield l) #[] #[]) ∧ W1.drew.cell? ⟨b0, 0, none⟩ = some (.string s) := ⟨k0, k1⟩
    obtain ⟨m, hm⟩ : ∃ m, xl.length = m := ⟨_, rfl⟩
    have HM := Lib.hid hm
    rw [hm] at HXL hx16
    rw [hm]
    clear hm
    gi_wp2
    refine region_C (fun w' => w'.cell? ⟨yb, 0, none⟩ = some (.func (.yield l) #[] #[]) ∧ w'.cell? ⟨b0, 0, none⟩ = some (.string s)) (by kernel_rfl) (by kernel_rfl) ?_
    refine takeC (i := 0) (v := .func (.yield l) #[] #[]) rfl (by kernel_rfl) (by kernel_rfl) (by kernel_rfl) (by kernel_rfl) (fun _ _ _ h => h) hC1 (.inl ⟨by rfl, fun w hw => by have h1 := hw.1; go_simp⟩) ?_
    refine takeC (i := 1) (v := .string s) rfl (by kernel_rfl) (by kernel_rfl) (by kernel_rfl) (by kernel_rfl) (fun _ _ _ h => h) hC1 (.inl ⟨by rfl, fun w hw => by have h1 := hw.2; go_simp⟩) ?_
    refine takeC (i := 2) (v := .slice xA m xc) rfl (by kernel_rfl) (by kernel_rfl) (by kernel_rfl) (by kernel_rfl) (fun _ _ _ h => h) hC1 (.inl ⟨by rfl, fun w hw => by go_simp⟩) ?_
    refine oneC (i := 3) (by kernel_rfl) rfl (by kernel_rfl) (fun K hK => ?_)
    go_simp
    refine ⟨by simp [Fence.wide], callsIn_wide.2 ((at_own s (intOfs xl) xA m xc W1.drew (by omega) (by omega) HXL).mono ?_)⟩
    rintro x W2 ⟨O, co, rfl, hco, HO, HB⟩
    have hb2 : Below W1.heap.size W1 W2 := ((Below.refl _ W1).drew).trans HB.out
    have sY2 := sY.below hb2
    have sB2 := sB.below hb2
    have hC2 : W2.cell? ⟨yb, 0, none⟩ = some (.func (.yield l) #[] #[]) ∧ W2.cell? ⟨b0, 0, none⟩ = some (.string s) := ⟨sY2.cell 0, sB2.cell 0⟩
    refine hK _ _ hC2 ?_
    clear hK K
    have hOb : ∀ k, blkOf O = some k → ¬ T1 k ∧ W.heap.size ≤ k ∧ k < W2.heap.size := fun k hk => by
      have h1 := HO.out.blk k hk
      have h3 : W1.heap.size ≤ k := h1.1
      exact ⟨fun h => by have := HL1.out k h; omega, by omega, h1.2⟩
    have hplen : (pieceOf s xl).length = m + 1 := by rw [pieceOf_length, HM.out]
    obtain ⟨fn, tmps, assign, body, hy, hR⟩ := hY.out (pre.map (pieceOf s)) ⟨O, co, pieceOf s xl⟩ W2 T1 (hJ _ _ _ _ (fun _ => False) HJ1.out HL1.out (Touch.of_below hb2 _) (fun _ h => h.elim)) (HL1.out.later hb2.size) HP.out
      (by show SlOwn W2 0 _ O (pieceOf s xl).length co (strs (pieceOf s xl)); rw [hplen]; exact HO.out.mono (Nat.zero_le _)) hOb (by have := hb2.size; omega)
    dsimp only [Ex.args] at hy
    rw [hplen] at hy
    have fin : ∀ {J' : List (List ByteArray) → World → (Nat → Prop) → Prop} {W3 : World}, LeftW W2 T1 (Ex.blk ⟨O, co, pieceOf s xl⟩) J' (pre.map (pieceOf s) ++ [pieceOf s xl]) W3 → ∃ T2, Lies W3 T2 ∧ Sub W1 T2 (fun k => T1 k ∨ Vx.blk ⟨xA, xc, xl⟩ k) ∧ Touch W1 W3 (fun k => T1 k ∨ Vx.blk ⟨xA, xc, xl⟩ k) ∧ J' (pre.map (pieceOf s) ++ [pieceOf s xl]) W3 T2 ∧ (¬ T2 yb ∧ StB W3 yb 30 #[.func (.yield l) #[] #[]]) ∧ (¬ T2 b0 ∧ StB W3 b0 9 #[.string s]) := fun {J' W3} hleft => by
      obtain ⟨T2, q1, q2, q3, q4⟩ := hleft
      have hnew : ∀ k, Ex.blk ⟨O, co, pieceOf s xl⟩ k → W1.heap.size ≤ k := fun k hk => (HO.out.blk k hk).1
      have hyl := sY.lt
      have hbl := sB.lt
      have g1 : ¬ (T1 yb ∨ Ex.blk ⟨O, co, pieceOf s xl⟩ yb) := fun h => by
        rcases h with h | h
        · exact hnY h
        · have := hnew _ h; omega
      have g2 : ¬ (T1 b0 ∨ Ex.blk ⟨O, co, pieceOf s xl⟩ b0) := fun h => by
        rcases h with h | h
        · exact hnB h
        · have := hnew _ h; omega
      have hz2 := hb2.size
      refine ⟨T2, q1, fun k hk => ?_, ?_, q4, ⟨fun h => ?_, sY2.touch q3 g1⟩, fun h => ?_, sB2.touch q3 g2⟩
      · rcases q2 k hk with (h | h) | h
        · exact .inl (.inl h)
        · exact .inr (hnew k h)
        · exact .inr (by omega)
      · refine (Touch.of_below hb2 _).trans (fun k hk => ?_) q3
        rcases hk with h | h
        · exact .inl (.inl h)
        · exact .inr (hnew k h)
      · rcases q2 yb h with h1 | h1
        · exact g1 h1
        · omega
      · rcases q2 b0 h with h1 | h1
        · exact g2 h1
        · omega
    clear hC1 k0 k1
    refine oneC (i := 4) (by kernel_rfl) rfl (by kernel_rfl) (fun K hK => ?_)
    go_simp
    refine ⟨by simp [Fence.wide], (roundIn_any hR).mono ?_⟩
    rintro x W6 (⟨rfl, hleft⟩ | ⟨rfl, hleft⟩)
    · obtain ⟨T2, q1, q2, q3, q4, q5, q6⟩ := fin hleft
      have hC6 : W6.cell? ⟨yb, 0, none⟩ = some (.func (.yield l) #[] #[]) ∧ W6.cell? ⟨b0, 0, none⟩ = some (.string s) := ⟨q5.2.cell 0, q6.2.cell 0⟩
      refine hK _ _ hC6 ?_
      clear hK K
      refine takeC (i := 5) (v := .bool false) rfl (by kernel_rfl) (by kernel_rfl) (by kernel_rfl) (by kernel_rfl) (fun _ _ _ h => h) hC6 (.inl ⟨by rfl, fun w hw => by go_simp⟩) ?_
      refine doneC (by kernel_rfl) ?_
      gi_wp2
      exact ⟨T2, q1, q2, q3, by rw [List.map_append]; exact q4, q5, q6⟩
    · obtain ⟨T2, q1, q2, q3, q4, q5, q6⟩ := fin hleft
      have hC6 : W6.cell? ⟨yb, 0, none⟩ = some (.func (.yield l) #[] #[]) ∧ W6.cell? ⟨b0, 0, none⟩ = some (.string s) := ⟨q5.2.cell 0, q6.2.cell 0⟩
      refine hK _ _ hC6 ?_
      clear hK K
      refine takeC (i := 5) (v := .bool true) rfl (by kernel_rfl) (by kernel_rfl) (by kernel_rfl) (by kernel_rfl) (fun _ _ _ h => h) hC6 (.inl ⟨by rfl, fun w hw => by go_simp⟩) ?_
      refine doneC (by kernel_rfl) ?_
      gi_wp2
      exact ⟨T2, q1, q2, q3, rfl, by rw [List.map_append]; exact q4⟩
  case done =>
    rintro D W1 T1 hD ⟨hj1, _, _, _⟩ hlT hTD hK
    have h3 := hJ _ _ _ _ _ hj1 hlT (Touch.putObj W1 D (.deferred none)) (fun k hk => by have e : k = D := hk; subst e; exact ⟨hTD, by omega⟩)
    have h4 : Lies (W1.putObj D (.deferred none)) T1 := hlT.later (Touch.putObj W1 D (.deferred none)).size
    gi_wp2
    refine ⟨by simp, .inl ⟨_, _, rfl, run_takeDeferred hK, ?_⟩⟩
    exact ⟨_, results_none rfl _ _ _, ⟨_, rfl⟩, T1, h4, .inl h3⟩
  case stop =>
    rintro D code pre W1 T1 hD hpre ⟨rfl, hjx⟩ hlT hTD hK
    have h4 : Lies (W1.putObj D (.deferred none)) T1 := hlT.later (Touch.putObj W1 D (.deferred none)).size
    have h5 := hJx _ _ _ _ _ hjx hlT (Touch.putObj W1 D (.deferred none)) (fun k hk => by have e : k = D := hk; subst e; exact ⟨hTD, by omega⟩)
    have h6 : pre.map (pieceOf s) <+: eachL s := hpre.map _
    gi_wp2
    refine ⟨by simp, .inl ⟨_, _, rfl, run_takeDeferred hK, ?_⟩⟩
    exact ⟨_, results_none rfl _ _ _, ⟨_, rfl⟩, T1, h4, .inr ⟨_, h6, h5⟩⟩
theorem each_seq (hn : 9 ≤ n) (hs : s.size ≤ maxLen) (h0 : StB W b0 9 #[.string s]) :
    SeqW Fence.wide n Try.prog 29 #[.pointer (some ⟨b0, 0, none⟩)] Ex.args Ex.gh Ex.hand Ex.blk (eachL s) (fun k => k = b0) W :=
  fun l J Jx hJ hJx hY T hj hT hK => each1_in hn hs hJ hJx (Lib.hid hY) (Lib.hid h0) (Lib.hid hj) (Lib.hid hT) (hK b0 rfl)
end
theorem each_any (s : ByteArray) (w : World) : Calls Try.prog 20 #[.string s] w fun x w' => x = .returned (.func (.func 29) #[] #[.pointer (some ⟨w.heap.size, 0, none⟩)]) ∧ w' = w.alloc (.cells #[.string s] 9) := by
  go_enter Try.func20, Try.ntmps20
  go_wp2_with fail
  go_ret
  exact ⟨rfl, rfl⟩
end Go.Proofs.Ytjpemelnnemmiaa

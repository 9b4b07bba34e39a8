/- Words over any program: a range over a function where the iterator and the body each write blocks of their own alone (SeqT: what such an iterator promises; wpIn_range_T: the statement). No condition. -/
import Derived.Test.YtpbeodhopibbaaaKit8
import Derived.RangeFuncNested
import Derived.RangeFuncCalls
import Derived.RangeFuncLeaves
namespace Go.Proofs.Ytpbeodhopibbaaa
open Go.RowKit
set_option linter.unusedVariables false

/-- The blocks T are there. -/
def Lies (W : World) (T : Nat → Prop) : Prop := ∀ k, T k → k < W.heap.size
theorem Lies.later {W W' : World} {T : Nat → Prop} (h : Lies W T) (hz : W.heap.size ≤ W'.heap.size) : Lies W' T := fun k hk => Nat.lt_of_lt_of_le (h k hk) hz
/-- What is said by one whose blocks T are stays true where others alone turn, from B on. -/
def AbT {β : Type} (B : Nat) (J : β → World → (Nat → Prop) → Prop) : Prop :=
  ∀ s W1 W2 T S, J s W1 T → Lies W1 T → Touch W1 W2 S → (∀ k, S k → ¬ T k ∧ B ≤ k) → J s W2 T
theorem AbT.mono {β : Type} {B B' : Nat} {J : β → World → (Nat → Prop) → Prop} (h : AbT B J) (hb : B ≤ B') : AbT B' J :=
  fun s W1 W2 T S hs hl ht hS => h s W1 W2 T S hs hl ht (fun k hk => ⟨(hS k hk).1, Nat.le_trans hb (hS k hk).2⟩)

/-- What a round leaves: blocks of its own T2 (what it had, what it was handed, new ones); it has written into what it had alone. -/
def Left {β : Type} (W1 : World) (T B : Nat → Prop) (J : β → World → (Nat → Prop) → Prop) (s : β) (W2 : World) : Prop :=
  ∃ T2, Lies W2 T2 ∧ Sub W1 T2 (fun k => T k ∨ B k) ∧ Touch W1 W2 T ∧ J s W2 T2

/-- An iterator that writes new blocks of its own alone, hands on values of evs, in order, and stops when it is told to. -/
def SeqT {α γ : Type} (F : Fence) (n : Nat) (P : Program) (gf : Nat) (lb : Array Value) (encs : α → Array Value) (gh : α → γ) (hand : α → World → Prop) (blk : α → Nat → Prop) (evs : List γ) (W : World) : Prop :=
  ∀ (l : Nat) (J Jx : List γ → World → (Nat → Prop) → Prop), AbT W.heap.size J → AbT W.heap.size Jx →
    (∀ pre x W1 T, J pre W1 T → Lies W1 T → pre ++ [gh x] <+: evs → hand x W1 → (∀ k, blk x k → ¬ T k ∧ W.heap.size ≤ k ∧ k < W1.heap.size) → W.heap.size ≤ W1.heap.size →
      YieldAt F (n - 1) P l (encs x) W1 fun e W2 => (e = .returned (.bool true) ∧ Left W1 T (blk x) J (pre ++ [gh x]) W2) ∨ (e = .returned (.bool false) ∧ Left W1 T (blk x) Jx (pre ++ [gh x]) W2)) →
    ∀ T, J [] W T → Lies W T → CallsIn F n P gf (#[.func (.yield l) #[] #[]] ++ lb) W fun e W2 => (∃ v, e = .returned v) ∧ ∃ T2, Lies W2 T2 ∧ (J evs W2 T2 ∨ ∃ pre, pre <+: evs ∧ Jx pre W2 T2)

/-- How a round's body may be left. -/
def postT {β : Type} (I : β → World → (Nat → Prop) → Prop) (Ix : Code → β → World → (Nat → Prop) → Prop) (s : β) (W : World) (T B : Nat → Prop) : Exit → Act → World → Prop
  | .normal, _, W' => Left W T B I s W'
  | .ret, _, W' => Left W T B (Ix .ret) s W'
  | .exit id, _, W' => Left W T B (Ix (.exit id)) s W'
  | .goto t, _, W' => Left W T B (Ix (.goto t)) s W'
  | .panic _, _, _ => False
  | .outgrown, _, _ => False

theorem Touch.putObj (W : World) (l : Nat) (o : Obj) : Touch W (W.putObj l o) (fun k => k = l) :=
  ⟨rfl, rfl, rfl, by simp, fun k hk hn => World.putObj_heap_other hn⟩

/-- A range over such a function. -/
theorem wpIn_range_T {F : Fence} {n : Nat} {P : Program} {α γ : Type} {g : Operand} {ps : Array Tmp} {assign body : Code} {Q : Exit → Act → World → Prop} {a : Act} {w : World}
    (hro : F.round = none) (h1 : F.depth.isSome = true → 1 ≤ n) {gf : Nat} {lb : Array Value} (hg : a.eval g = .func (.func gf) #[] lb) (hFg : F.fn gf) (eg : ∀ args w, (callFunc gf args).run P w = .ok (.enter gf args) w)
    {encs : α → Array Value} {gh : α → γ} {hand : α → World → Prop} {blk : α → Nat → Prop} {evs : List γ} (hseq : ∀ W1, Below w.heap.size w W1 → SeqT F (n - 1) P gf lb encs gh hand blk evs W1)
    (hh : ∀ x W W' S, hand x W → Touch W W' S → (∀ k, S k → ¬ blk x k) → (∀ k, blk x k → k < W.heap.size) → hand x W') (hps : ∀ x, (encs x).size = ps.size)
    (I : List γ → World → (Nat → Prop) → Prop) (Ix : Code → List γ → World → (Nat → Prop) → Prop) (hI : AbT w.heap.size I) (hIx : ∀ c, AbT w.heap.size (Ix c)) (T0 : Nat → Prop) (h0 : I [] w T0) (hT0 : Lies w T0) (a₁ : α → World → Act) (w₁ : α → World → World) (hw₁ : ∀ x W, Below W.heap.size W (w₁ x W))
    (hassign : ∀ (l : Nat) (x : α) (W : World) (K : Act → World → Prop), K (a₁ x W) (w₁ x W) →
      assign.wpIn (F.inRound l) (n - 1 - 1) P (Exit.then K (fun _ _ _ => False)) { tmps := (ps.zip (encs x)).foldl (fun t (p, v) => t.setIfInBounds p v) a.tmps, defers := [] } W)
    (hbody : ∀ (l : Nat) (pre : List γ) (x : α) (V W : World) (T : Nat → Prop), I pre W T → Lies V T → pre ++ [gh x] <+: evs → hand x W → (∀ k, blk x k → ¬ T k ∧ w.heap.size ≤ k ∧ k < V.heap.size) → w.heap.size ≤ V.heap.size →
      Touch (w₁ x V) W (fun k => k = l) → l < V.heap.size →
      body.wpIn (F.inRound l) (n - 1 - 1) P (postT I Ix (pre ++ [gh x]) W T (blk x)) (a₁ x V) W)
    (hdone : ∀ (D : Nat) (W : World) (T : Nat → Prop), w.heap.size ≤ D → I evs W T → Lies W T → ¬ T D → W.heap[D]? = some (.deferred (some [])) → Q .normal { a with defers := { target := .collected D, args := #[] } :: a.defers } W)
    (hstop : ∀ (D : Nat) (c : Code) (pre : List γ) (W : World) (T : Nat → Prop), w.heap.size ≤ D → pre <+: evs → Ix c pre W T → Lies W T → ¬ T D → W.heap[D]? = some (.deferred (some [])) → c.wpIn F n P Q { a with defers := { target := .collected D, args := #[] } :: a.defers } W) :
    (Code.rangeFunc g ps assign body).wpIn F n P Q a w := by
  refine wpIn_rangeFunc ?_
  intro fn hfn
  rw [hro]
  obtain ⟨rec, hrec⟩ : ∃ rec : LoopState → Option Code → Loop, rec = fun st pe => { state := st, pending := pe, fn, tmps := a.tmps, params := ps, assign, body, defers := w.heap.size } := ⟨_, rfl⟩
  obtain ⟨W1, hW1⟩ : ∃ W1, (w.alloc (.deferred (some []))).alloc (.loop (rec .ready none)) = W1 := ⟨_, rfl⟩
  have hsz : W1.heap.size = w.heap.size + 2 := by rw [← hW1]; simp
  have hL1 : W1.heap[w.heap.size + 1]? = some (.loop (rec .ready none)) := by
    rw [← hW1]; have := World.alloc_heap_new (w.alloc (.deferred (some []))) (.loop (rec .ready none)); rwa [World.size_alloc] at this
  have hK1 : W1.heap[w.heap.size]? = some (.deferred (some [])) := by
    rw [← hW1]; exact (Below.heap_alloc _ _ _ (by simp)).trans (World.alloc_heap_new w _)
  have hb1 : Below w.heap.size w W1 := by
    rw [← hW1]; exact (((Below.refl _ w).alloc (Nat.le_refl _) _).alloc (by simp) _)
  have hI1 : I [] W1 T0 := hI _ _ _ _ (fun _ => False) h0 hT0 (Touch.of_below hb1 _) (fun k hk => hk.elim)
  refine ⟨w.heap.size + 1, [{ target := .collected w.heap.size, args := #[] }], W1, { target := .fn (.func gf) lb, args := #[.func (.yield (w.heap.size + 1)) #[] #[]] }, W1, gf,
    #[.func (.yield (w.heap.size + 1)) #[] #[]] ++ lb, W1, ?_, ?_, ?_, ?_, h1, ?_⟩
  · rw [← hW1, hrec]; exact run_enterLoop_outer _ _ _ _ _
  · simp only [resolve, hg]
    simp [go_sem]
  · intro f' hf'; simp [Target.leads] at hf'; subst hf'; exact hFg
  · simp [invoke, go_sem, eg]
  · obtain ⟨book, hbook⟩ : ∃ book : LoopState → Option Code → World → (Nat → Prop) → (Nat → Prop) → Prop, book = fun st pe W T T' => (∀ k, T' k ↔ (T k ∨ k = w.heap.size + 1 ∨ k = w.heap.size)) ∧ ¬ T (w.heap.size + 1) ∧ ¬ T w.heap.size ∧
      W.heap[w.heap.size + 1]? = some (.loop (rec st pe)) ∧ W.heap[w.heap.size]? = some (.deferred (some [])) := ⟨_, rfl⟩
    have habs : ∀ {β : Type} {J : β → World → (Nat → Prop) → Prop} (st : LoopState) (pe : Option Code), AbT w.heap.size J → AbT W1.heap.size (fun s W T' => ∃ T, book st pe W T T' ∧ Lies W T ∧ J s W T) := by
      intro β J st pe hJ s X Y T' S hs hl ht hS
      obtain ⟨T, hb, hlT, hj⟩ := hs
      rw [hbook] at hb
      obtain ⟨b1, b2, b3, b4, b5⟩ := hb
      have m1 : T' (w.heap.size + 1) := (b1 _).2 (.inr (.inl rfl))
      have m2 : T' w.heap.size := (b1 _).2 (.inr (.inr rfl))
      refine ⟨T, ?_, hlT.later ht.size, hJ _ _ _ _ _ hj hlT ht (fun k hk => ⟨fun h => (hS k hk).1 ((b1 k).2 (.inl h)), by have := (hS k hk).2; omega⟩)⟩
      rw [hbook]
      exact ⟨b1, b2, b3, (ht.block _ (hl _ m1) (fun h => (hS _ h).1 m1)).trans b4, (ht.block _ (hl _ m2) (fun h => (hS _ h).1 m2)).trans b5⟩
    refine (hseq W1 hb1 (w.heap.size + 1) (fun s W T' => ∃ T, book .ready none W T T' ∧ Lies W T ∧ I s W T) (fun s W T' => ∃ c, ∃ T, book .done (some c) W T T' ∧ Lies W T ∧ Ix c s W T)
      (habs _ _ hI) (fun s X Y T' S ⟨c, h⟩ hl ht hS => ⟨c, habs _ _ (hIx c) s X Y T' S h hl ht hS⟩) ?_ (fun k => T0 k ∨ k = w.heap.size + 1 ∨ k = w.heap.size)
      ⟨T0, by rw [hbook]; exact ⟨fun _ => Iff.rfl, fun h => by have := hT0 _ h; omega, fun h => by have := hT0 _ h; omega, hL1, hK1⟩, hT0.later hb1.size, hI1⟩
      (fun k hk => by
        rcases hk with hk | hk | hk
        · have := hT0 k hk; omega
        · omega
        · omega)).mono ?_
    · rintro pre x W T' ⟨T, hb, hlT, hi⟩ hl hpre hhand hblk hge
      rw [hbook] at hb
      obtain ⟨b1, b2, b3, b4, b5⟩ := hb
      have hlt : w.heap.size + 1 < W.heap.size := (Array.getElem?_eq_some_iff.1 b4).1
      have hbl := hw₁ x W
      have b4' : (w₁ x W).heap[w.heap.size + 1]? = some (.loop (rec .ready none)) := (hbl.block _ hlt).trans b4
      have b5' : (w₁ x W).heap[w.heap.size]? = some (.deferred (some [])) := (hbl.block _ (by omega)).trans b5
      have hzl := hbl.size
      have hy := run_yield (P := P) (args := encs x) b4 (by rw [hrec]; exact hps x)
      rw [hrec] at hy
      refine ⟨fn, _, assign, body, hy, roundIn_of_wpIn hfn (hassign _ x W _ ⟨_, run_beginRound b4' (by rw [hrec]), ?_⟩)⟩
      obtain ⟨W2, hW2⟩ : ∃ W2, (w₁ x W).putObj (w.heap.size + 1) (.loop { rec .ready none with state := .busy }) = W2 := ⟨_, rfl⟩
      rw [hW2]
      have t2' : Touch (w₁ x W) W2 (fun k => k = w.heap.size + 1) := by rw [← hW2]; exact Touch.putObj _ _ _
      have t2 : Touch W W2 (fun k => k = w.heap.size + 1) := (Touch.of_below hbl _).trans (Sub.refl _ _) t2'
      have c2 : W2.heap[w.heap.size + 1]? = some (.loop { rec .ready none with state := .busy }) := by rw [← hW2]; exact World.putObj_heap_same (by omega)
      have d2 : W2.heap[w.heap.size]? = some (.deferred (some [])) := (t2.block _ (by omega) (by omega)).trans b5
      have hi2 : I pre W2 T := hI _ _ _ _ _ hi hlT t2 (fun k hk => by subst hk; exact ⟨b2, by omega⟩)
      have hnb : ∀ k, blk x k → k ≠ w.heap.size + 1 ∧ k ≠ w.heap.size := fun k hk => ⟨fun e => (hblk k hk).1 ((b1 k).2 (.inr (.inl e))), fun e => (hblk k hk).1 ((b1 k).2 (.inr (.inr e)))⟩
      have hhand2 : hand x W2 := hh _ _ _ _ hhand t2 (fun k hk hkb => (hnb k hkb).1 hk) (fun k hk => (hblk k hk).2.2)
      have sz2 : W.heap.size ≤ W2.heap.size := t2.size
      refine wpIn_mono (hbody _ pre x W W2 T hi2 hlT hpre hhand2 (fun k hk => ⟨fun h => (hblk k hk).1 ((b1 k).2 (.inl h)), by have := (hblk k hk).2.1; omega, (hblk k hk).2.2⟩) (by omega) t2' hlt) ?_
      have fin : ∀ (jump : Option Code) (W3 : World), Touch W2 W3 T →
          (Instr.endRound (w.heap.size + 1) jump).run P W3 = .ok (.bool jump.isNone) (W3.putObj (w.heap.size + 1) (.loop (rec (if jump.isNone then .ready else .done) jump))) ∧
          w.heap.size + 1 < W3.heap.size ∧ W3.heap[w.heap.size]? = some (.deferred (some [])) := fun jump W3 t3 => by
        have c3 : W3.heap[w.heap.size + 1]? = some (.loop { rec .ready none with state := .busy }) := (t3.block _ (by omega) b2).trans c2
        have := run_endRound (P := P) jump c3
        rw [hrec] at this ⊢
        exact ⟨this, (Array.getElem?_eq_some_iff.1 c3).1, (t3.block _ (by omega) b3).trans d2⟩
      have join : ∀ {J : List γ → World → (Nat → Prop) → Prop} (hJ : AbT w.heap.size J) (st : LoopState) (jump pe : Option Code) (W3 : World) (_ : Left W2 T (blk x) J (pre ++ [gh x]) W3) (hst : st = if jump.isNone then LoopState.ready else .done) (hpe : pe = jump),
          Left W T' (blk x) (fun s W T' => ∃ T, book st pe W T T' ∧ Lies W T ∧ J s W T) (pre ++ [gh x]) (W3.putObj (w.heap.size + 1) (.loop (rec (if jump.isNone then .ready else .done) jump))) := by
        intro J hJ st jump pe W3 hleft hst hpe
        subst hst hpe
        obtain ⟨T2, e1, e2, e3, e4⟩ := hleft
        obtain ⟨_, f2, f3⟩ := fin pe W3 e3
        have t4 := Touch.putObj W3 (w.heap.size + 1) (.loop (rec (if pe.isNone then .ready else .done) pe))
        have n1 : ¬ T2 (w.heap.size + 1) := fun h => by
          rcases e2 _ h with (h | h) | h
          · exact b2 h
          · exact (hnb _ h).1 rfl
          · omega
        have n2 : ¬ T2 w.heap.size := fun h => by
          rcases e2 _ h with (h | h) | h
          · exact b3 h
          · exact (hnb _ h).2 rfl
          · omega
        refine ⟨fun k => T2 k ∨ k = w.heap.size + 1 ∨ k = w.heap.size, ?_, ?_, ?_, T2, ?_, e1.later t4.size, hJ _ _ _ _ _ e4 e1 t4 (fun k hk => by subst hk; exact ⟨n1, by omega⟩)⟩
        · rintro k (hk | rfl | rfl)
          · have := e1 k hk; have := t4.size; omega
          · have := t4.size; omega
          · have := t4.size; omega
        · rintro k (hk | rfl | rfl)
          · rcases e2 k hk with (h | h) | h
            · exact .inl (.inl ((b1 k).2 (.inl h)))
            · exact .inl (.inr h)
            · exact .inr (by omega)
          · exact .inl (.inl ((b1 _).2 (.inr (.inl rfl))))
          · exact .inl (.inl ((b1 _).2 (.inr (.inr rfl))))
        · refine ((t2.mono (S' := T') ?_).trans (Sub.refl _ _) (e3.mono ?_)).trans (Sub.refl _ _) (t4.mono ?_)
          · rintro k rfl; exact (b1 _).2 (.inr (.inl rfl))
          · intro k hk; exact (b1 _).2 (.inl hk)
          · rintro k rfl; exact (b1 _).2 (.inr (.inl rfl))
        · rw [hbook]
          exact ⟨fun _ => Iff.rfl, n1, n2, World.putObj_heap_same f2, (World.putObj_heap_other (by omega)).trans f3⟩
      rintro e a3 W3 hp
      cases e with
      | normal => exact ⟨_, _, (fin none W3 hp.choose_spec.2.2.1).1, .inl ⟨rfl, join hI .ready none none W3 hp rfl rfl⟩⟩
      | ret =>
        refine ⟨_, _, (fin (some .ret) W3 hp.choose_spec.2.2.1).1, .inr ⟨rfl, ?_⟩⟩
        obtain ⟨T2, e1, e2, e3, e4⟩ := join (hIx .ret) .done (some .ret) (some .ret) W3 hp rfl rfl
        exact ⟨T2, e1, e2, e3, .ret, e4⟩
      | exit id =>
        refine ⟨_, _, (fin (some (.exit id)) W3 hp.choose_spec.2.2.1).1, .inr ⟨rfl, ?_⟩⟩
        obtain ⟨T2, e1, e2, e3, e4⟩ := join (hIx (.exit id)) .done (some (.exit id)) (some (.exit id)) W3 hp rfl rfl
        exact ⟨T2, e1, e2, e3, .exit id, e4⟩
      | goto t =>
        refine ⟨_, _, (fin (some (.goto t)) W3 hp.choose_spec.2.2.1).1, .inr ⟨rfl, ?_⟩⟩
        obtain ⟨T2, e1, e2, e3, e4⟩ := join (hIx (.goto t)) .done (some (.goto t)) (some (.goto t)) W3 hp rfl rfl
        exact ⟨T2, e1, e2, e3, .goto t, e4⟩
      | panic ch => exact hp.elim
      | outgrown => exact hp.elim
    · subst hrec
      rintro e W2 ⟨⟨v, rfl⟩, T', hl', (⟨T, hb, hlT, hi⟩ | ⟨pre, hpre, c, T, hb, hlT, hi⟩)⟩
      · rw [hbook] at hb
        obtain ⟨b1, b2, b3, b4, b5⟩ := hb
        have t4 := fun o => Touch.putObj W2 (w.heap.size + 1) o
        exact ⟨none, _, run_endLoop (P := P) b4 (by simp), hdone w.heap.size _ T (Nat.le_refl _) (hI _ _ _ _ _ hi hlT (t4 _) (fun k hk => by subst hk; exact ⟨b2, by omega⟩)) (hlT.later (t4 _).size) b3 ((World.putObj_heap_other (by omega)).trans b5)⟩
      · rw [hbook] at hb
        obtain ⟨b1, b2, b3, b4, b5⟩ := hb
        have t4 := fun o => Touch.putObj W2 (w.heap.size + 1) o
        exact ⟨some c, _, run_endLoop (P := P) b4 (by simp), hstop w.heap.size c pre _ T (Nat.le_refl _) hpre (hIx c _ _ _ _ _ hi hlT (t4 _) (fun k hk => by subst hk; exact ⟨b2, by omega⟩)) (hlT.later (t4 _).size) b3 ((World.putObj_heap_other (by omega)).trans b5)⟩
end Go.Proofs.Ytpbeodhopibbaaa

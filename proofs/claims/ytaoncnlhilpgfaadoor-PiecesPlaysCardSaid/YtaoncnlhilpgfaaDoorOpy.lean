/- Layer 11: the statement's small. -/
import Derived.Test.YtaoncnlhilpgfaaDoorOpz
import Derived.Test.YtaoncnlhilpgfaaDoorQra
import Derived.LoopTactic
namespace Go.Proofs.YtaoncnlhilpgfaaDoor
open Go.ChangeShapes Go.WideShapes Go.ChangeAt Go.RowKit
set_option linter.unusedVariables false
set_option linter.unusedSimpArgs false

theorem infoRow11 : (Tryd.prog.info? 38).map (fun i => (i.zero, i.size, i.bytes)) = some (some (.slice none 0 0), 1, 24) := by kernel_rfl
def Opz.v (o : Opz) : Value := .slice o.A o.r.length o.c
/-- The calls of a list at A. -/
def OpsIn (w : World) (A : Option Addr) (l : List Opz) : Prop := ∀ (i : Nat) (o : Opz), l[i]? = some o → o.Ok w ∧ ∃ a, A = some a ∧ OpzAt w a i o
theorem OpsIn.below {w w' : World} {A : Option Addr} {l : List Opz} (h : OpsIn w A l) (hb : Below w.heap.size w w') : OpsIn w' A l := fun i o ho => by
  obtain ⟨h1, a, ha, c0, c1, c2⟩ := h i o ho
  exact ⟨⟨h1.k0, h1.k1, h1.n0, h1.n1, h1.len, h1.texts, h1.reads.below hb⟩, a, ha, mem_cell hb c0, mem_cell hb c1, mem_cell hb c2⟩
theorem rows_of {w : World} {A : Option Addr} {l : List Opz} {B : Option Addr} {n : Nat} (h : OpsIn w A l) (hs : SlIn w B n (l.map Opz.v)) : TabIn w B n (l.map Opz.v) (l.map (·.r)) := by
  refine ⟨hs, by simp, fun j x hx => ?_⟩
  rw [List.getElem?_map] at hx ⊢
  cases hj : l[j]? with
  | none => rw [hj] at hx; cases hx
  | some o =>
    rw [hj] at hx
    simp only [Option.map_some, Option.some.injEq] at hx
    subst hx
    exact ⟨o.A, o.c, rfl, (h j o hj).1.reads⟩
theorem sizes_of {w : World} {A : Option Addr} {l : List Opz} (h : OpsIn w A l) : Sizes (l.map (·.r)) := fun x hx => by
  obtain ⟨o, ho, rfl⟩ := List.mem_map.1 hx
  obtain ⟨i, hi⟩ := List.getElem?_of_mem ho
  exact ⟨(h i o hi).1.len, (h i o hi).1.texts⟩
theorem up_onz {w v : World} (h : Below w.heap.size w v) (x : Above v) : Below w.heap.size w (onto v x) := up_onto h x
theorem slin_one {w : World} {g : Nat} {t : TypeId} {v : Value} (h : StB w g t #[v]) : SlIn w (some ⟨g, 0, none⟩) 1 [v] := by
  refine ⟨rfl, fun j u hu => ⟨_, rfl, ?_⟩⟩
  have : (Addr.add ⟨g, 0, none⟩ j : Addr) = ⟨g, j, none⟩ := by simp [Addr.add]; intro h; exact h.symm
  rw [this, h.cell j]
  simpa using hu
set_option maxRecDepth 100000 in
set_option maxHeartbeats 3200000 in
theorem small_any (A : Option Addr) (n c : Nat) (l : List Opz) (hn : n ≤ maxLen) (w : World) (hl : Hid (OpsIn w A l)) (hlen : Hid (l.length = n)) :
    Calls Tryd.prog 7 #[.slice A n c] w fun x w' => x = .returned (.bool (!greatB 60 100 800 (l.map (·.r)))) ∧ Below w.heap.size w w' := by
  have hn9 : n ≤ 9223372036854775807 := by unfold maxLen at hn; omega
  obtain ⟨i0, hi, hz0, hz1, hz2⟩ := info_parts infoRow11
  have Hi := Lib.hid hi
  have Hz0 := Lib.hid hz0
  have Hz1 := Lib.hid hz1
  have Hz2 := Lib.hid hz2
  clear hi hz0 hz1 hz2
  go_enter Tryd.func7, Tryd.ntmps7
  go_wp2_with fail
  go_loopw [3, 5, 8] (fun s3 s5 i wr => ∃ (k : Nat) (A' : Option Addr) (c' : Nat), k ≤ n ∧ k ≤ 61 ∧ i = .int .i64 k ∧ s3 = .slice A' k c' ∧ Hid (SlOwn wr w.heap.size 38 A' k c' ((l.take k).map Opz.v)) ∧ Hid (Below w.heap.size w wr)) (fun _ _ i _ => n - (intOf i).toNat)
  case atStart => exact ⟨0, none, 0, Nat.zero_le _, by omega, rfl, rfl, Lib.hid (SlOwn.nothing w _ _), Lib.hid (Below.refl _ _)⟩
  case round =>
    obtain ⟨k, A', c', hk, hk61, rfl, rfl, HO, HB⟩ := hrel
    obtain ⟨W, hW⟩ : ∃ W, W = wr := ⟨_, rfl⟩
    subst hW
    by_cases hlt : k < n
    · obtain ⟨o, ho⟩ : ∃ o, l[k]? = some o := ⟨_, List.getElem?_eq_getElem (by rw [hlen.out]; exact hlt)⟩
      obtain ⟨hok, a, rfl, e0, e1, e2⟩ := (hl.out.below HB.out) k o ho
      have HOO := Lib.hid ho
      have HOK := Lib.hid hok
      obtain ⟨p, hp⟩ : ∃ p, a.add (k * 3) = p := ⟨_, rfl⟩
      rw [hp] at e0 e1 e2
      have f0 : W.cell? p = some (.int .u8 o.k) := by have := e0; simpa [Addr.add] using this
      have f1 : W.cell? ⟨p.block, p.off + 1, none⟩ = some (.int .i64 o.n) := by have := e1; simpa [Addr.add] using this
      have f2 : W.cell? ⟨p.block, p.off + 2, none⟩ = some (.slice o.A o.r.length o.c) := by have := e2; simpa [Addr.add] using this
      clear ho hok e0 e1 e2
      by_cases hk60 : k ≤ 60
      · have hb2 : Below W.heap.size W ((W.alloc (.cells #[.int .u8 o.k, .int .i64 o.n, .slice o.A o.r.length o.c] 40)).alloc (.cells #[.slice o.A o.r.length o.c] 38)) := up_alloc (up_alloc (Below.refl _ W) _) _
        have HB2 := Lib.hid hb2
        have HOV := Lib.hid (HO.out.below hb2)
        have HIV := Lib.hid (slin_one (StB.made (g := W.heap.size + 1) (W.alloc (.cells #[.int .u8 o.k, .int .i64 o.n, .slice o.A o.r.length o.c] 40)) (by simp) 38 #[.slice o.A o.r.length o.c]))
        have HWZ := Lib.hid (show w.heap.size ≤ ((W.alloc (.cells #[.int .u8 o.k, .int .i64 o.n, .slice o.A o.r.length o.c] 40)).alloc (.cells #[.slice o.A o.r.length o.c] 38)).heap.size from Nat.le_trans HB.out.size hb2.size)
        clear hb2
        go_wp2_with (at_builtin; refine wpList_append_sl _ rfl (.tmp 15) (.tmp 18) 48 rfl 38 i0 (.slice none 0 0) 24 Tryd.underlying48 Hi.out Hz0.out Hz1.out Hz2.out rfl w.heap.size A' k c' ((l.take k).map Opz.v) rfl HOV.out (some ⟨W.heap.size + 1, 0, none⟩) 1 1 [.slice o.A o.r.length o.c] rfl HIV.out (by intro u hu; simp at hu; subst hu; rfl) (by unfold maxLen; omega) (by omega) HWZ.out ?_; intro A2 c2 w1 hown hgrow hat)
        refine ⟨⟨k + 1, A2, c2, by omega, by omega, by go_num, rfl, Lib.hid ?_, Lib.hid ((HB.out.trans (HB2.out.mono HB.out.size)).grown hgrow HWZ.out (fun j hj => (HOV.out.blk j hj).1))⟩, by simp [intOf]; omega⟩
        rw [List.take_add_one, HOO.out, List.map_append]
        exact hown
      · have HV := Lib.hid (show greatB 60 100 800 (l.map (·.r)) = true by
          have h1 := hlen.out
          have : 60 < (l.map (·.r)).length := by rw [List.length_map]; omega
          unfold greatB
          rw [decide_eq_true this, Bool.true_or])
        have hk' : (60 : Int) < (k : Int) := by omega
        clear hk60
        go_wp2_with fail
        go_ret
        exact ⟨by rw [HV.out]; rfl, HB.out.alloc HB.out.size _⟩
    · obtain rfl : k = n := by omega
      have hO2 := HO.out
      rw [List.take_of_length_le (by rw [hlen.out]; exact Nat.le_refl _)] at hO2
      have HT := Lib.hid (rows_of (hl.out.below HB.out) hO2.toIn)
      have HSZ := Lib.hid (sizes_of hl.out)
      obtain ⟨g, hg⟩ : ∃ g, greatB 60 100 800 (l.map (·.r)) = g := ⟨_, rfl⟩
      have hgr := great_is A' k c' _ (l.map (·.r)) 60 100 800 (by omega) (by omega) (by omega) g (Lib.hid hg) W HT HSZ (by omega)
      have hgr' : Calls Tryd.prog 21 #[.slice A' k c', .int .i64 60, .int .i64 100, .int .i64 800] W fun x w' => x = .returned (.bool g) ∧ Below W.heap.size W w' := hgr
      have HGG := Lib.hid hg
      clear hO2 hlt hgr hg
      go_wp2_with (go_at_call 21; with_reducible refine (above hgr').mono ?_; rintro x _ ⟨rfl, y1, rfl⟩)
      go_ret
      exact ⟨by rw [HGG.out]; rfl, up_onz HB.out _⟩
end Go.Proofs.YtaoncnlhilpgfaaDoor

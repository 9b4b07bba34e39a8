/- Layer 12: the program's walker: its step and its end. -/
import Derived.Test.YtoeanbfemgmgnaaRta
namespace Go.Proofs.Ytoeanbfemgmgnaa
open Go.ChangeShapes Go.WideShapes Go.ChangeAt Go.RowKit
set_option linter.unusedVariables false
set_option linter.unusedSimpArgs false

/-- What a step answers: the record (l; told: there is one), the error; without one the walker goes on. -/
def PassR (p : Nat) (d q e : Int) (xs : Array Value) (sb : Nat) (u t : Int) (g : Nat) (m : Mk) (l : List ByteArray) (n : Nat) (told : Bool) (k : Int) (Z : Nat → Prop) (w : World) (x : Ending) (w' : World) : Prop :=
  ∃ A c, x = .returned (.tuple #[.slice A n c, .bool told, .int .i64 k]) ∧
    Hid (Touch w w' Z ∧ (k = 0 → ∃ S' Z', WkR w' p d q e xs sb u t g m S' Z' ∧ Sub w Z' Z ∧ SlOwn w' 0 9 A l.length c (strs l) ∧ ∀ j, blkOf A = some j → ¬ Z' j ∧ (Z j ∨ w.heap.size ≤ j)))
theorem rtake_at (g : Nat) (bg ad fi li re : Bool) (pb : Int) (s : Mk) (S : Nat → Prop) (N : Nat) (hN : N ≤ 100000) (ok : Hid (s.Ok N)) (b0 : 0 ≤ pb) (b1 : pb ≤ 255) (s' : Mk) (l : List ByteArray) (n : Nat) (t : Bool) (r : Int)
    (hs : Hid (mTake ⟨bg, ad, fi, li, re, pb⟩ s = s')) (hl : Hid (mRec ⟨bg, ad, fi, li, re, pb⟩ s = l)) (hn : Hid (l.length = n)) (ht : Hid (mTold ⟨bg, ad, fi, li, re, pb⟩ s = t)) (hr : Hid (s'.er = r)) (w : World) (h : Hid (MkB w g s S)) :
    Calls Try.prog 76 #[.pointer (some ⟨g, 0, none⟩), .agg #[.bool bg, .bool ad, .bool fi, .bool li, .bool re, .int .u8 pb]] w fun x w' => ∃ A c, x = .returned (.tuple #[.slice A n c, .bool t, .int .i64 r]) ∧ Hid (Handed A c l g s' S w w') :=
  take_is g ⟨bg, ad, fi, li, re, pb⟩ s S N hN ok b0 b1 s' l n t r hs hl hn ht hr w h

section
variable {p : Nat} {d q e u t u' t' : Int} {xs : Array Value} {sb g : Nat} {w : World} {m m' : Mk} {S Z : Nat → Prop}
theorem rpass_end {w V w3 : World} {A : Option Addr} {c : Nat} {l : List ByteArray} (h : WkR w p d q e xs sb u t g m S Z) (hp : StB V p 84 (wrArr d q e sb u' t' g)) (ht : Touch w V (fun k => k = p)) (hh : Handed A c l g m' S V.drew w3) :
    Touch w w3 Z ∧ ∃ S' Z', WkR w3 p d q e xs sb u' t' g m' S' Z' ∧ Sub w Z' Z ∧ SlOwn w3 0 9 A l.length c (strs l) ∧ ∀ j, blkOf A = some j → ¬ Z' j ∧ (Z j ∨ w.heap.size ≤ j) := by
  obtain ⟨o, S', m3, t3, b3, d3⟩ := hh
  have hZp : Z p := (h.all p).2 (.inl rfl)
  have hZs : Z sb := (h.all sb).2 (.inr (.inl rfl))
  have ht' : Touch w V.drew Z := (ht.mono fun k hk => by have hk' : k = p := hk; rw [hk']; exact hZp).then_drew
  have hSZ : ∀ k, S k → Z k := fun k hk => (h.all k).2 (.inr (.inr hk))
  have hz := ht.size
  have hpl : p < V.drew.heap.size := hp.lt
  have hsb : StB V.drew sb 110 xs := (h.strip.touch ht (fun e => h.apart e)).drew
  have hsl : sb < V.drew.heap.size := hsb.lt
  have n1 : ∀ x, x < V.drew.heap.size → ¬ S x → ¬ S' x := fun x hx hs hs' => by
    rcases b3 x hs' with h1 | h1
    · exact hs h1
    · omega
  have np : ∀ x, x < V.drew.heap.size → ¬ S x → ∀ j, blkOf A = some j → j ≠ x := fun x hx hs j hj e => by
    subst e
    rcases (d3 j hj).2 with h1 | h1
    · exact hs h1
    · omega
  refine ⟨ht'.trans (fun k hk => .inl (hSZ k hk)) t3, S', fun k => k = p ∨ k = sb ∨ S' k, ⟨StB.touch (w := V.drew) hp t3 h.nbox, hsb.touch t3 h.nstrip, m3, n1 p hpl h.nbox, n1 sb hsl h.nstrip, fun k => Iff.rfl⟩, ?_, o, fun j hj => ⟨?_, ?_⟩⟩
  · rintro k (hk | hk | hk)
    · rw [hk]; exact .inl hZp
    · rw [hk]; exact .inl hZs
    · rcases b3 k hk with h1 | h1
      · exact .inl (hSZ k h1)
      · exact .inr (Nat.le_trans hz h1)
  · rintro (h1 | h1 | h1)
    · exact np p hpl h.nbox j hj h1
    · exact np sb hsl h.nstrip j hj h1
    · exact (d3 j hj).1 h1
  · rcases (d3 j hj).2 with h1 | h1
    · exact .inl (hSZ j h1)
    · exact .inr (Nat.le_trans hz h1)

set_option maxHeartbeats 800000 in
theorem rstep_utf (h : Hid (StB w p 84 (wrArr d q e sb u t g))) (b : Int) (b0 : 0 ≤ b) (b1 : b ≤ 255) (ho : Hid (utOk u b = false)) :
    Calls Try.prog 52 #[.pointer (some ⟨p, 0, none⟩), .int .u8 b] w fun x w' => x = .returned (.tuple #[.slice none 0 0, .bool false, .int .i64 3]) ∧ Below w.heap.size w w' := by
  have hp := h.out.lt
  have c4 : w.cell? ⟨p, 4, none⟩ = some (.int .i64 u) := h.out.cell 4
  obtain ⟨n, hn⟩ : ∃ n, utNx u b = n := ⟨_, rfl⟩
  have HN := Lib.hid hn
  clear hn
  go_enter Try.func52, Try.ntmps52
  go_wp2_with (go_at_call 74; ((with_reducible refine (utStep_is u b n false b0 b1 HN ho _).mono ?_); rintro x w' ⟨rfl, rfl⟩))
  exact bodyPost_ret (v := .tuple #[.slice none 0 0, .bool false, .int .i64 3]) (by simp [results, Try.results52, go_sem]) rfl ⟨rfl, Below.refl _ _⟩

/-- An event's box, made and written. -/
theorem rev_join {W V : World} {g : Nat} {n k : Int} {a0 a1 a2 a3 a4 a5 u0 u1 u2 u3 u4 u5 : Value} (hb : Below W.heap.size W V) (h : StB V g 133 #[a0, a1, a2, a3, a4, a5]) (hg : W.heap.size ≤ g) :
    ∃ gg : Nat, Value.pointer (some ⟨g, 0, none⟩) = .pointer (some ⟨gg, 0, none⟩) ∧ Value.int .i64 n = .int .i64 n ∧ Value.int .i64 k = .int .i64 k ∧
      Hid (Below W.heap.size W ((((((V.setCell ⟨g, 0, none⟩ u0).setCell ⟨g, 1, none⟩ u1).setCell ⟨g, 2, none⟩ u2).setCell ⟨g, 3, none⟩ u3).setCell ⟨g, 4, none⟩ u4).setCell ⟨g, 5, none⟩ u5)) ∧
      Hid (StB ((((((V.setCell ⟨g, 0, none⟩ u0).setCell ⟨g, 1, none⟩ u1).setCell ⟨g, 2, none⟩ u2).setCell ⟨g, 3, none⟩ u3).setCell ⟨g, 4, none⟩ u4).setCell ⟨g, 5, none⟩ u5) gg 133 #[u0, u1, u2, u3, u4, u5] ∧ W.heap.size ≤ gg) := by
  have S6 := (((((h.set_ 0 u0).set_ 1 u1).set_ 2 u2).set_ 3 u3).set_ 4 u4).set_ 5 u5
  have b1 := hb.setCell (p := ⟨g, 0, none⟩) hg u0
  have b2 := b1.setCell (p := ⟨g, 1, none⟩) hg u1
  have b3 := b2.setCell (p := ⟨g, 2, none⟩) hg u2
  have b4 := b3.setCell (p := ⟨g, 3, none⟩) hg u3
  have b5 := b4.setCell (p := ⟨g, 4, none⟩) hg u4
  have b6 := b5.setCell (p := ⟨g, 5, none⟩) hg u5
  exact ⟨g, rfl, rfl, rfl, Lib.hid b6, Lib.hid ⟨S6, hg⟩⟩
theorem rsize_drew (W : World) (yy : Above W.drew) : W.heap.size ≤ (onto W.drew yy).heap.size := (onto_below W.drew yy).size
theorem rbelow_drew (W : World) (yy : Above W.drew) : Below W.heap.size W (onto W.drew yy) := up_onto (show Below W.heap.size W W.drew from (Below.refl _ W).drew) yy
theorem rbelow_alloc (W : World) (o : Obj) (yy : Above (W.alloc o).drew) : Below W.heap.size W (onto (W.alloc o).drew yy) := up_onto (show Below W.heap.size W (W.alloc o).drew from (up_alloc (Below.refl _ W) _).drew) yy
theorem rstb_alloc (W : World) (t : TypeId) (cs : Array Value) (yy : Above (W.alloc (.cells cs t)).drew) : StB (onto (W.alloc (.cells cs t)).drew yy) W.heap.size t cs := StB.below (show StB (W.alloc _).drew _ _ _ from StB.new W _ _) (onto_below _ yy)

set_option maxRecDepth 100000 in
set_option maxHeartbeats 3200000 in
theorem rstep_go (W : World) (H : Hid (WkR W p d q e xs sb u t g m S Z)) (b : Int) (b0 : 0 ≤ b) (b1 : b ≤ 255) (t0 : 0 ≤ t) (t6 : t ≤ 6) (n : Int) (hn : Hid (utNx u b = n)) (ho : Hid (utOk u b = true))
    (bg ad fi li re : Bool) (pb tn k : Int) (hv : Hid (stepR d q e t b = ⟨⟨bg, ad, fi, li, re, pb⟩, tn, k⟩)) (pb0 : 0 ≤ pb) (pb1 : pb ≤ 255) (N : Nat) (hN : N ≤ 100000) (ok : Hid (m.Ok N)) (m' : Mk) (l : List ByteArray) (n' : Nat) (told : Bool) (r' : Int)
    (hs' : Hid (mTake ⟨bg, ad, fi, li, re, pb⟩ m = m')) (hl : Hid (mRec ⟨bg, ad, fi, li, re, pb⟩ m = l)) (hln : Hid (l.length = n')) (htd : Hid (mTold ⟨bg, ad, fi, li, re, pb⟩ m = told)) (hr' : Hid (m'.er = r')) :
    Calls Try.prog 52 #[.pointer (some ⟨p, 0, none⟩), .int .u8 b] W fun x w' => (k ≠ 0 ∧ x = .returned (.tuple #[.slice none 0 0, .bool false, .int .i64 k]) ∧ Below W.heap.size W w') ∨ (k = 0 ∧ PassR p d q e xs sb n tn g m' l n' told r' Z W x w') := by
  have HS := Lib.hid H.out.box
  have hpW : p < W.heap.size := HS.out.lt
  have c0 : W.cell? ⟨p, 0, none⟩ = some (.int .u8 d) := HS.out.cell 0
  have c1 : W.cell? ⟨p, 1, none⟩ = some (.int .u8 q) := HS.out.cell 1
  have c2 : W.cell? ⟨p, 2, none⟩ = some (.int .i64 e) := HS.out.cell 2
  have c4 : W.cell? ⟨p, 4, none⟩ = some (.int .i64 u) := HS.out.cell 4
  have c5 : W.cell? ⟨p, 5, none⟩ = some (.int .i64 t) := HS.out.cell 5
  go_enter Try.func52, Try.ntmps52
  go_upto_region 4 with (go_at_call 74; ((with_reducible refine (utStep_is u b n true b0 b1 hn ho _).mono ?_); rintro x w' ⟨rfl, rfl⟩))
  go_cut [9, 10, 11] (fun s8 s9 s10 wx => ∃ gg : Nat, s8 = .pointer (some ⟨gg, 0, none⟩) ∧ s9 = .int .i64 tn ∧ s10 = .int .i64 k ∧ Hid (Below W.heap.size W wx) ∧ Hid (StB wx gg 133 #[.bool bg, .bool ad, .bool fi, .bool li, .bool re, .int .u8 pb] ∧ W.heap.size ≤ gg))
  case first =>
    go_region_with (first | (go_at_call 75; ((with_reducible refine (above (step_is d q e t b t0 t6 _ _ _ _ _ _ _ _ hv _)).mono ?_); rintro x _ ⟨rfl, yy, rfl⟩)))
    all_goals (go_wp2_with fail; go_meet)
    all_goals first
      | with_reducible exact ⟨_, rfl, rfl, rfl, Lib.hid (up_alloc (rbelow_drew W yy) _), Lib.hid ⟨StB.new _ _ _, rsize_drew W yy⟩⟩
      | with_reducible exact rev_join (rbelow_alloc W _ yy) (rstb_alloc W _ _ yy) (Nat.le_refl _)
  case rest =>
    obtain ⟨gg, rfl, rfl, rfl, HBW, HG⟩ := hcut
    obtain ⟨V, hV⟩ : ∃ V, V = wc := ⟨_, rfl⟩
    subst hV
    have HP := Lib.hid (HS.out.below HBW.out)
    have HGG := Lib.hid HG.out.1
    have n3 : ¬ gg = p := by have := HG.out.2; omega
    have n4 : ¬ p = gg := by omega
    have pl : p < V.heap.size := HP.out.lt
    have gl : gg < V.heap.size := HGG.out.lt
    have p4 : V.cell? ⟨p, 4, none⟩ = some (.int .i64 u) := HP.out.cell 4
    have p5 : V.cell? ⟨p, 5, none⟩ = some (.int .i64 t) := HP.out.cell 5
    have q4 := HP.out.free 4
    have q5 := HP.out.free 5
    clear c0 c1 c2 c4 c5
    by_cases hk : k = 0
    · subst hk
      go_wp2_with fail
      have SP := (HP.out.set_ 4 (.int .i64 n)).set_ 5 (.int .i64 tn)
      have SG := (HGG.out.far (p := ⟨p, 4, none⟩) n3 (.int .i64 n)).far (p := ⟨p, 5, none⟩) n3 (.int .i64 tn)
      have TW := ((Touch.of_below HBW.out (fun k => k = p)).then_set (p := ⟨p, 4, none⟩) (.inl rfl) (.int .i64 n)).then_set (p := ⟨p, 5, none⟩) (.inl rfl) (.int .i64 tn)
      generalize (V.setCell ⟨p, 4, none⟩ (.int .i64 n)).setCell ⟨p, 5, none⟩ (.int .i64 tn) = V5 at SP SG TW ⊢
      have m0 : V5.cell? ⟨gg, 0, none⟩ = some (.bool bg) := SG.cell 0
      have m1 : V5.cell? ⟨gg, 1, none⟩ = some (.bool ad) := SG.cell 1
      have m2 : V5.cell? ⟨gg, 2, none⟩ = some (.bool fi) := SG.cell 2
      have m3 : V5.cell? ⟨gg, 3, none⟩ = some (.bool li) := SG.cell 3
      have m4 : V5.cell? ⟨gg, 4, none⟩ = some (.bool re) := SG.cell 4
      have m5 : V5.cell? ⟨gg, 5, none⟩ = some (.int .u8 pb) := SG.cell 5
      have p6 : V5.cell? ⟨p, 6, none⟩ = some (.pointer (some ⟨g, 0, none⟩)) := SP.cell 6
      have pl5 : p < V5.heap.size := SP.lt
      have gl5 : gg < V5.heap.size := SG.lt
      have HSP := Lib.hid SP
      have HTW := Lib.hid TW
      have MV : MkB V5 g m S := H.out.make.touch TW (fun j hj e => by have e' : j = p := e; exact H.out.nbox (e' ▸ hj))
      have HMV := Lib.hid (show MkB V5.drew g m S from MV)
      clear SP SG TW MV p4 p5 q4 q5 pl gl
      go_region_with (first | (go_at_call 76; ((with_reducible refine (rtake_at g bg ad fi li re pb m S N hN ok pb0 pb1 m' l n' told r' hs' hl hln htd hr' _ HMV).mono ?_); rintro x w3 ⟨A, c, rfl, HH⟩)))
      all_goals
        go_wp2_with fail
        have hh := rpass_end H.out HSP.out HTW.out HH.out
        refine bodyPost_ret (v := .tuple #[.slice A n' c, .bool told, .int .i64 r']) (by simp [results, Try.results52, go_sem]) (by rfl) ?_
        first
          | exact ⟨A, c, rfl, Lib.hid ⟨hh.1, fun _ => hh.2⟩⟩
          | exact .inr ⟨by trivial, A, c, rfl, Lib.hid ⟨hh.1, fun _ => hh.2⟩⟩
    · have hk1 : (k != 0) = true := by simpa using hk
      go_wp2_with fail
      exact bodyPost_ret (v := .tuple #[.slice none 0 0, .bool false, .int .i64 k]) (by simp [results, Try.results52, go_sem]) rfl (.inl ⟨hk, rfl, HBW.out⟩)

set_option maxHeartbeats 800000 in
theorem rend_cut (h : Hid (StB w p 84 (wrArr d q e sb u t g))) (hu : (u != 0) = true) :
    Calls Try.prog 57 #[.pointer (some ⟨p, 0, none⟩)] w fun x w' => x = .returned (.tuple #[.slice none 0 0, .bool false, .int .i64 12]) ∧ Below w.heap.size w w' := by
  have hp := h.out.lt
  have c4 : w.cell? ⟨p, 4, none⟩ = some (.int .i64 u) := h.out.cell 4
  go_enter Try.func57, Try.ntmps57
  go_wp2_with fail
  exact bodyPost_ret (v := .tuple #[.slice none 0 0, .bool false, .int .i64 12]) (by simp [results, Try.results57, go_sem]) rfl ⟨rfl, Below.refl _ _⟩
set_option maxRecDepth 100000 in
set_option maxHeartbeats 3200000 in
theorem rend_go (W : World) (H : Hid (WkR W p d q e xs sb 0 t g m S Z)) (t0 : 0 ≤ t) (t6 : t ≤ 6)
    (bg ad fi li re : Bool) (pb k : Int) (hv : Hid (closeE t = ⟨bg, ad, fi, li, re, pb⟩)) (hk0 : Hid (closeK t = k)) (pb0 : 0 ≤ pb) (pb1 : pb ≤ 255) (N : Nat) (hN : N ≤ 100000) (ok : Hid (m.Ok N)) (m' : Mk) (l : List ByteArray) (n' : Nat) (told : Bool) (r' : Int)
    (hs' : Hid (mTake ⟨bg, ad, fi, li, re, pb⟩ m = m')) (hl : Hid (mRec ⟨bg, ad, fi, li, re, pb⟩ m = l)) (hln : Hid (l.length = n')) (htd : Hid (mTold ⟨bg, ad, fi, li, re, pb⟩ m = told)) (hr' : Hid (m'.er = r')) :
    Calls Try.prog 57 #[.pointer (some ⟨p, 0, none⟩)] W fun x w' => (k ≠ 0 ∧ x = .returned (.tuple #[.slice none 0 0, .bool false, .int .i64 k]) ∧ Below W.heap.size W w') ∨ (k = 0 ∧ PassR p d q e xs sb 0 t g m' l n' told r' Z W x w') := by
  have HS := Lib.hid H.out.box
  have hpW : p < W.heap.size := HS.out.lt
  have c4 : W.cell? ⟨p, 4, none⟩ = some (.int .i64 0) := HS.out.cell 4
  have c5 : W.cell? ⟨p, 5, none⟩ = some (.int .i64 t) := HS.out.cell 5
  by_cases hk : k = 0
  · subst hk
    go_enter Try.func57, Try.ntmps57
    go_upto_region 6 with (go_at_call 78; ((with_reducible refine (above (close_is t t0 t6 bg ad fi li re pb 0 hv hk0 _)).mono ?_); rintro x _ ⟨rfl, yy, rfl⟩))
    obtain ⟨V5, hV5⟩ : ∃ V5, (onto W yy).alloc (.cells #[.bool bg, .bool ad, .bool fi, .bool li, .bool re, .int .u8 pb] 133) = V5 := ⟨_, rfl⟩
    obtain ⟨gg, hgg⟩ : ∃ gg, (onto W yy).heap.size = gg := ⟨_, rfl⟩
    have SG : StB V5 gg 133 #[.bool bg, .bool ad, .bool fi, .bool li, .bool re, .int .u8 pb] := by rw [← hV5]; exact StB.made _ hgg.symm _ _
    have TW : Touch W V5 (fun k => k = p) := by rw [← hV5]; exact Touch.of_below (up_alloc (onto_below W yy) _) _
    have SP := HS.out.below (show Below W.heap.size W V5 by rw [← hV5]; exact up_alloc (onto_below W yy) _)
    rw [hV5, hgg]
    clear hV5 hgg c4 c5 hpW
    have m0 : V5.cell? ⟨gg, 0, none⟩ = some (.bool bg) := SG.cell 0
    have m1 : V5.cell? ⟨gg, 1, none⟩ = some (.bool ad) := SG.cell 1
    have m2 : V5.cell? ⟨gg, 2, none⟩ = some (.bool fi) := SG.cell 2
    have m3 : V5.cell? ⟨gg, 3, none⟩ = some (.bool li) := SG.cell 3
    have m4 : V5.cell? ⟨gg, 4, none⟩ = some (.bool re) := SG.cell 4
    have m5 : V5.cell? ⟨gg, 5, none⟩ = some (.int .u8 pb) := SG.cell 5
    have p6 : V5.cell? ⟨p, 6, none⟩ = some (.pointer (some ⟨g, 0, none⟩)) := SP.cell 6
    have pl5 : p < V5.heap.size := SP.lt
    have gl5 : gg < V5.heap.size := SG.lt
    have HSP := Lib.hid SP
    have HTW := Lib.hid TW
    have MV : MkB V5 g m S := H.out.make.touch TW (fun j hj e => by have e' : j = p := e; exact H.out.nbox (e' ▸ hj))
    have HMV := Lib.hid (show MkB V5.drew g m S from MV)
    clear SP SG TW MV
    go_region_with (first | (go_at_call 76; ((with_reducible refine (rtake_at g bg ad fi li re pb m S N hN ok pb0 pb1 m' l n' told r' hs' hl hln htd hr' _ HMV).mono ?_); rintro x w3 ⟨A, c, rfl, HH⟩)))
    all_goals
      go_wp2_with fail
      have hh := rpass_end H.out HSP.out HTW.out HH.out
      refine bodyPost_ret (v := .tuple #[.slice A n' c, .bool told, .int .i64 r']) (by simp [results, Try.results57, go_sem]) (by rfl) ?_
      first
        | exact ⟨A, c, rfl, Lib.hid ⟨hh.1, fun _ => hh.2⟩⟩
        | exact .inr ⟨by trivial, A, c, rfl, Lib.hid ⟨hh.1, fun _ => hh.2⟩⟩
  · have hk1 : (k != 0) = true := by simpa using hk
    go_enter Try.func57, Try.ntmps57
    go_wp2_with (go_at_call 78; ((with_reducible refine (above (close_is t t0 t6 bg ad fi li re pb k hv hk0 _)).mono ?_); rintro x _ ⟨rfl, yy, rfl⟩))
    refine bodyPost_ret (v := .tuple #[.slice none 0 0, .bool false, .int .i64 k]) (by simp [results, Try.results57, go_sem]) rfl (.inl ⟨hk, rfl, ?_⟩)
    (repeat (first | (with_reducible exact Below.refl _ _) | with_reducible refine up_alloc ?_ _ | with_reducible refine up_onto ?_ _ | with_reducible refine up_drew ?_ | with_reducible refine up_set ?_ (by first | (simp; done) | (simp; omega)) _))

/-- A step, by what it comes to. -/
theorem rstep_any (w : World) (H : Hid (WkR w p d q e xs sb u t g m S Z)) (b : Int) (b0 : 0 ≤ b) (b1 : b ≤ 255) (t0 : 0 ≤ t) (t6 : t ≤ 6) (N : Nat) (hN : N ≤ 100000) (ok : Hid (m.Ok N)) (l : List ByteArray) (n' : Nat) (told : Bool) (k : Int)
    (hv : Hid (pasB d q e u t m b = ⟨u', t', m', l, told, k⟩)) (hln : Hid (l.length = n')) :
    Calls Try.prog 52 #[.pointer (some ⟨p, 0, none⟩), .int .u8 b] w (PassR p d q e xs sb u' t' g m' l n' told k Z w) := by
  have hv' := hv.out
  have hn' := hln.out
  rw [pasB] at hv'
  by_cases c1 : utOk u b = false
  · rw [if_pos c1] at hv'
    cases hv'
    subst hn'
    refine (rstep_utf (Lib.hid H.out.box) b b0 b1 (Lib.hid c1)).mono ?_
    rintro x w' ⟨rfl, hb⟩
    exact ⟨none, 0, rfl, Lib.hid ⟨Touch.of_below hb _, fun h => (by cases h)⟩⟩
  · rw [if_neg c1] at hv'
    have c1' : utOk u b = true := by simpa using c1
    obtain ⟨⟨⟨bg, ad, fi, li, re, pb⟩, tn, kk⟩, hr⟩ : ∃ v, stepR d q e t b = v := ⟨_, rfl⟩
    have hpb := stepR_b (d := d) (q := q) (e := e) (s := t) b0 b1
    rw [hr] at hv' hpb
    refine (rstep_go w H b b0 b1 t0 t6 _ (Lib.hid rfl) (Lib.hid c1') bg ad fi li re pb tn kk (Lib.hid hr) hpb.1 hpb.2 N hN ok _ _ _ _ _ (Lib.hid rfl) (Lib.hid rfl) (Lib.hid rfl) (Lib.hid rfl) (Lib.hid rfl)).mono ?_
    rintro x w' (⟨hk, rfl, hb⟩ | ⟨hk, hp⟩)
    · rw [if_pos hk] at hv'
      cases hv'
      subst hn'
      exact ⟨none, 0, rfl, Lib.hid ⟨Touch.of_below hb _, fun h => absurd h hk⟩⟩
    · rw [if_neg (by simpa using hk)] at hv'
      cases hv'
      subst hn'
      exact hp
theorem rend_any (w : World) (H : Hid (WkR w p d q e xs sb u t g m S Z)) (t0 : 0 ≤ t) (t6 : t ≤ 6) (N : Nat) (hN : N ≤ 100000) (ok : Hid (m.Ok N)) (l : List ByteArray) (n' : Nat) (told : Bool) (k : Int)
    (hv : Hid (pasE u t m = ⟨u', t', m', l, told, k⟩)) (hln : Hid (l.length = n')) :
    Calls Try.prog 57 #[.pointer (some ⟨p, 0, none⟩)] w (PassR p d q e xs sb u' t' g m' l n' told k Z w) := by
  have hv' := hv.out
  have hn' := hln.out
  rw [pasE] at hv'
  by_cases c1 : u ≠ 0
  · rw [if_pos c1] at hv'
    cases hv'
    subst hn'
    refine (rend_cut (Lib.hid H.out.box) (by simpa using c1)).mono ?_
    rintro x w' ⟨rfl, hb⟩
    exact ⟨none, 0, rfl, Lib.hid ⟨Touch.of_below hb _, fun h => (by cases h)⟩⟩
  · rw [if_neg c1] at hv'
    have c1' : u = 0 := by omega
    subst c1'
    obtain ⟨⟨bg, ad, fi, li, re, pb⟩, hr⟩ : ∃ v, closeE t = v := ⟨_, rfl⟩
    obtain ⟨kk, hkk⟩ : ∃ kk, closeK t = kk := ⟨_, rfl⟩
    have hpb := closeE_b t
    rw [hr] at hv' hpb
    have hpb' : pb = 0 := hpb
    rw [hkk] at hv'
    refine (rend_go w H t0 t6 bg ad fi li re pb kk (Lib.hid hr) (Lib.hid hkk) (by omega) (by omega) N hN ok _ _ _ _ _ (Lib.hid rfl) (Lib.hid rfl) (Lib.hid rfl) (Lib.hid rfl) (Lib.hid rfl)).mono ?_
    rintro x w' (⟨hk, rfl, hb⟩ | ⟨hk, hp⟩)
    · rw [if_pos hk] at hv'
      cases hv'
      subst hn'
      exact ⟨none, 0, rfl, Lib.hid ⟨Touch.of_below hb _, fun h => absurd h hk⟩⟩
    · rw [if_neg (by simpa using hk)] at hv'
      cases hv'
      subst hn'
      exact hp
end
end Go.Proofs.Ytoeanbfemgmgnaa

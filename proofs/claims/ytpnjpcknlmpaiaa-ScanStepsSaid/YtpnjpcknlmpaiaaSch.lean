/- Layer 4: the contract of the program's Run. -/
import Derived.Test.YtpnjpcknlmpaiaaScc
import Derived.Test.YtpnjpcknlmpaiaaScg
import Derived.LoopTactic
import Derived.Deep.DeepCutAuto
import Derived.Deep.RegionWith
namespace Go.Proofs.Ytpnjpcknlmpaiaa
open Go.ChangeShapes Go.WideShapes Go.ChangeAt Go.RowKit
set_option linter.unusedVariables false
set_option linter.unusedSimpArgs false

theorem info6 : (Try.prog.info? 30).map (fun i => (i.zero, i.size, i.bytes)) = some (some (.agg #[.bool false, .bool false, .bool false, .bool false, .bool false, .int .u8 0]), 6, 6) := by kernel_rfl
def RunOut (w : World) (d q e : Int) (l : List Int) (x : Ending) (w' : World) : Prop :=
  ∃ A c, x = .returned (.tuple #[.slice A (runE d q e 0 l).length c, .agg #[.int .i64 (runK d q e 0 l), .int .i64 (runA d q e 0 l)]]) ∧
    SlMany w' w.heap.size 30 6 A (runE d q e 0 l).length c (flat (runE d q e 0 l)) ∧ Below w.heap.size w w'

theorem slIn6 {w : World} {g : Nat} {u0 u1 u2 u3 u4 u5 : Value} (h0 : w.cell? ⟨g, 0, none⟩ = some u0) (h1 : w.cell? ⟨g, 1, none⟩ = some u1) (h2 : w.cell? ⟨g, 2, none⟩ = some u2) (h3 : w.cell? ⟨g, 3, none⟩ = some u3) (h4 : w.cell? ⟨g, 4, none⟩ = some u4) (h5 : w.cell? ⟨g, 5, none⟩ = some u5) :
    SlIn w (some ⟨g, 0, none⟩) 6 [u0, u1, u2, u3, u4, u5] := by
  refine ⟨rfl, fun j u hu => ⟨_, rfl, ?_⟩⟩
  match j, hu with
  | 0, hu => simp at hu; subst hu; simpa [Addr.add] using h0
  | 1, hu => simp at hu; subst hu; simpa [Addr.add] using h1
  | 2, hu => simp at hu; subst hu; simpa [Addr.add] using h2
  | 3, hu => simp at hu; subst hu; simpa [Addr.add] using h3
  | 4, hu => simp at hu; subst hu; simpa [Addr.add] using h4
  | 5, hu => simp at hu; subst hu; simpa [Addr.add] using h5
  | j + 6, hu => simp at hu
theorem slIn6_cells {w : World} {g : Nat} {u0 u1 u2 u3 u4 u5 : Value} (h : SlIn w (some ⟨g, 0, none⟩) 6 [u0, u1, u2, u3, u4, u5]) :
    w.cell? ⟨g, 0, none⟩ = some u0 ∧ w.cell? ⟨g, 1, none⟩ = some u1 ∧ w.cell? ⟨g, 2, none⟩ = some u2 ∧ w.cell? ⟨g, 3, none⟩ = some u3 ∧ w.cell? ⟨g, 4, none⟩ = some u4 ∧ w.cell? ⟨g, 5, none⟩ = some u5 := by
  have : ∀ j u, [u0, u1, u2, u3, u4, u5][j]? = some u → w.cell? ((⟨g, 0, none⟩ : Addr).add j) = some u := fun j u hu => by
    obtain ⟨a, ha, hc⟩ := h.2 j u hu
    injection ha with ha; subst ha; exact hc
  exact ⟨by simpa [Addr.add] using this 0 _ rfl, by simpa [Addr.add] using this 1 _ rfl, by simpa [Addr.add] using this 2 _ rfl, by simpa [Addr.add] using this 3 _ rfl, by simpa [Addr.add] using this 4 _ rfl, by simpa [Addr.add] using this 5 _ rfl⟩

theorem slIn_made6 (w : World) (t : TypeId) (u0 u1 u2 u3 u4 u5 : Value) : SlIn (w.alloc (.cells #[u0, u1, u2, u3, u4, u5] t)) (some ⟨w.heap.size, 0, none⟩) 6 [u0, u1, u2, u3, u4, u5] :=
  (SlOwn.made w 0 (Nat.zero_le _) t [u0, u1, u2, u3, u4, u5] (by show 6 ≤ maxLen; unfold maxLen; omega)).toIn
theorem slIn_made6' (w : World) (g : Nat) (hg : g = w.heap.size) (t : TypeId) (u0 u1 u2 u3 u4 u5 : Value) : SlIn (w.alloc (.cells #[u0, u1, u2, u3, u4, u5] t)) (some ⟨g, 0, none⟩) 6 [u0, u1, u2, u3, u4, u5] := by
  subst hg; exact slIn_made6 w t u0 u1 u2 u3 u4 u5
theorem SlMany.far {w : World} {base : Nat} {e : TypeId} {sz : Nat} {A : Option Addr} {n c : Nat} {xs : List Value} (h : SlMany w base e sz A n c xs) (p : Addr) (hp : p.block < base) (u : Value) : SlMany (w.setCell p u) base e sz A n c xs :=
  h.keep fun k hk => Below.heap_setCell w p u k (fun he => by have := (h.blk k hk).1; omega)
theorem SlMany.mono {w : World} {base base' : Nat} {e : TypeId} {sz : Nat} {A : Option Addr} {n c : Nat} {xs : List Value} (h : SlMany w base e sz A n c xs) (hb : base' ≤ base) : SlMany w base' e sz A n c xs := by
  obtain ⟨h1, h2, h3, h4⟩ := h
  refine ⟨h1, h2, h3, ?_⟩
  rcases h4 with h4 | ⟨g, cur, fz, rfl, hb', hr⟩
  · exact .inl h4
  · exact .inr ⟨g, cur, fz, rfl, Nat.le_trans hb hb', hr⟩
section
variable {W : World} {y : Above W} {T : TypeId} {A : Option Addr} {k c : Nat} {xs : List Value} {u0 u1 u2 u3 u4 u5 : Value}
theorem run_join1 (yy : Above (onto W y.drew)) (hs : SlMany (onto W y) W.heap.size T 6 A k c xs) :
    Hid (Below W.heap.size W ((onto W (y.drew.up yy)).alloc (.cells #[u0, u1, u2, u3, u4, u5] T))) ∧ Hid (SlIn ((onto W (y.drew.up yy)).alloc (.cells #[u0, u1, u2, u3, u4, u5] T)) (some ⟨(onto W (y.drew.up yy)).heap.size, 0, none⟩) 6 [u0, u1, u2, u3, u4, u5]) ∧
    Hid (SlMany ((onto W (y.drew.up yy)).alloc (.cells #[u0, u1, u2, u3, u4, u5] T)) W.heap.size T 6 A k c xs) := by
  have hb : Below (onto W y).heap.size (onto W y) ((onto W (y.drew.up yy)).alloc (.cells #[u0, u1, u2, u3, u4, u5] T)) :=
    up_alloc (show Below (onto W y).heap.size (onto W y) (onto (onto W y.drew) yy) from ((Below.refl _ (onto W y)).drew).trans (onto_below _ yy)) _
  exact ⟨Lib.hid ((onto_below W y).trans (hb.mono (onto_size W y))), Lib.hid (slIn_made6 _ _ _ _ _ _ _ _), Lib.hid (hs.below hb)⟩
theorem run_join2 {z : Array Value} (hz : z.size = 6) (yy : Above ((onto W y.drew).alloc (.cells z T))) (hs : SlMany (onto W y) W.heap.size T 6 A k c xs) :
    Hid (Below W.heap.size W (((((((onto ((onto W y.drew).alloc (.cells z T)) yy).setCell ⟨(onto W y.drew).heap.size, 0, none⟩ u0).setCell ⟨(onto W y.drew).heap.size, 1, none⟩ u1).setCell ⟨(onto W y.drew).heap.size, 2, none⟩ u2).setCell ⟨(onto W y.drew).heap.size, 3, none⟩ u3).setCell ⟨(onto W y.drew).heap.size, 4, none⟩ u4).setCell ⟨(onto W y.drew).heap.size, 5, none⟩ u5)) ∧
    Hid (SlIn (((((((onto ((onto W y.drew).alloc (.cells z T)) yy).setCell ⟨(onto W y.drew).heap.size, 0, none⟩ u0).setCell ⟨(onto W y.drew).heap.size, 1, none⟩ u1).setCell ⟨(onto W y.drew).heap.size, 2, none⟩ u2).setCell ⟨(onto W y.drew).heap.size, 3, none⟩ u3).setCell ⟨(onto W y.drew).heap.size, 4, none⟩ u4).setCell ⟨(onto W y.drew).heap.size, 5, none⟩ u5) (some ⟨(onto W y.drew).heap.size, 0, none⟩) 6 [u0, u1, u2, u3, u4, u5]) ∧
    Hid (SlMany (((((((onto ((onto W y.drew).alloc (.cells z T)) yy).setCell ⟨(onto W y.drew).heap.size, 0, none⟩ u0).setCell ⟨(onto W y.drew).heap.size, 1, none⟩ u1).setCell ⟨(onto W y.drew).heap.size, 2, none⟩ u2).setCell ⟨(onto W y.drew).heap.size, 3, none⟩ u3).setCell ⟨(onto W y.drew).heap.size, 4, none⟩ u4).setCell ⟨(onto W y.drew).heap.size, 5, none⟩ u5) W.heap.size T 6 A k c xs) := by
  obtain ⟨V, hV⟩ : ∃ V, V = onto ((onto W y.drew).alloc (.cells z T)) yy := ⟨_, rfl⟩
  obtain ⟨g, hg⟩ : ∃ g, g = (onto W y.drew).heap.size := ⟨_, rfl⟩
  have hgy : (onto W y).heap.size = g := by rw [hg]; rfl
  have hbV : Below (onto W y).heap.size (onto W y) V := by
    rw [hV]
    have h1 : Below (onto W y).heap.size (onto W y) ((onto W y.drew).alloc (.cells z T)) := up_alloc (show Below (onto W y).heap.size (onto W y) (onto W y.drew) from (Below.refl _ (onto W y)).drew) _
    exact up_onto h1 yy
  have hst : StB V g T z := by
    rw [hV, hg]
    exact (StB.new (onto W y.drew) T z).below (onto_below _ yy)
  rw [← hV, ← hg]
  have S6 := (((((hst.set_ 0 u0).set_ 1 u1).set_ 2 u2).set_ 3 u3).set_ 4 u4).set_ 5 u5
  have hb : Below (onto W y).heap.size (onto W y) ((((((V.setCell ⟨g, 0, none⟩ u0).setCell ⟨g, 1, none⟩ u1).setCell ⟨g, 2, none⟩ u2).setCell ⟨g, 3, none⟩ u3).setCell ⟨g, 4, none⟩ u4).setCell ⟨g, 5, none⟩ u5) :=
    (((((hbV.setCell (by rw [hgy]; exact Nat.le_refl _) u0).setCell (by rw [hgy]; exact Nat.le_refl _) u1).setCell (by rw [hgy]; exact Nat.le_refl _) u2).setCell (by rw [hgy]; exact Nat.le_refl _) u3).setCell (by rw [hgy]; exact Nat.le_refl _) u4).setCell (by rw [hgy]; exact Nat.le_refl _) u5
  refine ⟨Lib.hid ((onto_below W y).trans (hb.mono (onto_size W y))), Lib.hid (slIn6 ?_ ?_ ?_ ?_ ?_ ?_), Lib.hid (hs.below hb)⟩ <;> rw [S6.cell] <;> simp [hz]
end

set_option maxHeartbeats 1600000 in
theorem run_any (d q e : Int) (s : ByteArray) (hs : s.size ≤ 1000000) (w : World) : Calls Try.prog 15 #[.agg #[.int .u8 d, .int .u8 q, .int .i64 e], .string s] w fun x w' => RunOut w d q e (bl s) x w' := by
  have hs1 : s.size ≤ 9223372036854775807 := by omega
  obtain ⟨i0, hi, hz0, hz1, hz2⟩ := info_parts info6
  have Hi := Lib.hid hi
  have Hz0 := Lib.hid hz0
  have Hz1 := Lib.hid hz1
  have Hz2 := Lib.hid hz2
  have hl := bl_length s
  have HL := Lib.hid hl
  clear hi hz0 hz1 hz2 hl
  go_enter Try.func15, Try.ntmps15
  go_wp2_with fail
  obtain ⟨W, hW⟩ : ∃ W, W = (w.alloc (.cells #[.int .u8 d, .int .u8 q, .int .i64 e] 23)).alloc (.cells #[.int .i64 0, .int .i64 0] 47) := ⟨_, rfl⟩
  have hWs : W.heap.size = w.heap.size + 2 := by rw [hW]; simp
  have HB := Lib.hid (show Below w.heap.size w W by rw [hW]; exact up_alloc (up_alloc (Below.refl _ _) _) _)
  have c0 : W.cell? ⟨w.heap.size, 0, none⟩ = some (.int .u8 d) := by rw [hW]; simp [go_sem]
  have c1 : W.cell? ⟨w.heap.size, 1, none⟩ = some (.int .u8 q) := by rw [hW]; simp [go_sem]
  have c2 : W.cell? ⟨w.heap.size, 2, none⟩ = some (.int .i64 e) := by rw [hW]; simp [go_sem]
  have f0 : W.cell? ⟨w.heap.size + 1, 0, none⟩ = some (.int .i64 0) := by rw [hW]; simp [go_sem]
  have f1 : W.cell? ⟨w.heap.size + 1, 1, none⟩ = some (.int .i64 0) := by rw [hW]; simp [go_sem]
  have z0 : W.frozen? ⟨w.heap.size + 1, 0, none⟩ = false := by rw [hW]; simp [go_sem]
  have z1 : W.frozen? ⟨w.heap.size + 1, 1, none⟩ = false := by rw [hW]; simp [go_sem]
  have b0 : w.heap.size < W.heap.size := by omega
  have b1 : w.heap.size + 1 < W.heap.size := by omega
  rw [← hW]
  clear hW
  go_loopw [6, 7, 8, 9, 10, 11, 16] (fun ev st _ _ _ _ i wr => ∃ (k c : Nat) (A : Option Addr) (t : Int) (pre : List Ev), k ≤ s.size ∧ i = .int .i64 k ∧ ev = .slice A k c ∧ st = .int .i64 t ∧ 0 ≤ t ∧ t ≤ 6 ∧
      Hid (∃ y, wr = onto W y) ∧ Hid (SlMany wr W.heap.size 30 6 A k c (flat pre)) ∧ Hid (pre.length = k ∧ runE d q e 0 (bl s) = pre ++ runE d q e t ((bl s).drop k) ∧ runK d q e 0 (bl s) = runK d q e t ((bl s).drop k))) (fun _ _ _ _ _ _ i _ => s.size - (intOf i).toNat)
  case atStart => exact ⟨0, 0, none, 0, [], by omega, rfl, rfl, rfl, by omega, by omega, Lib.hid (onto_self W), Lib.hid (SlMany.nothing _ _ _ _), Lib.hid ⟨rfl, rfl, rfl⟩⟩
  case round =>
    obtain ⟨k, c, A, t, pre, hk, rfl, rfl, rfl, t0, t6, HY, HS, HE⟩ := hrel
    obtain ⟨y, rfl⟩ := HY.out
    clear HY
    by_cases hlt : k < s.size
    · have hd := bl_drop s k hlt
      have HD := Lib.hid hd
      obtain ⟨⟨⟨bg, ad, fi, li, re, pb⟩, n, kk⟩, hv⟩ : ∃ v, stepR d q e t ((s[k].toNat : Nat) : Int) = v := ⟨_, rfl⟩
      have V := Lib.hid hv
      have hn := stepR_n (d := d) (q := q) (e := e) (s := t) (b := ((s[k].toNat : Nat) : Int))
      rw [hv] at hn
      clear hd hv
      go_upto_region 6 with fail
      go_cut [9, 10, 11] (fun s9 s10 s11 wx => ∃ g : Nat, s9 = .pointer (some ⟨g, 0, none⟩) ∧ s10 = .int .i64 n ∧ s11 = .int .i64 kk ∧ Hid (Below W.heap.size W wx) ∧ Hid (SlIn wx (some ⟨g, 0, none⟩) 6 [.bool bg, .bool ad, .bool fi, .bool li, .bool re, .int .u8 pb]) ∧ Hid (SlMany wx W.heap.size 30 6 A k c (flat pre)))
      case first =>
        go_region_with (first | (go_at_call 10; ((with_reducible refine (above (step_is d q e t _ t0 t6 _ _ _ _ _ _ _ _ V _)).mono ?_); rintro x _ ⟨rfl, yy, rfl⟩)))
        all_goals (go_wp2_with fail; go_meet)
        all_goals refine ⟨_, rfl, rfl, rfl, ?_⟩
        all_goals first
          | with_reducible exact run_join1 yy HS.out
          | with_reducible exact run_join2 rfl yy HS.out
      case rest =>
        obtain ⟨g, rfl, rfl, rfl, HBW, HC, HS2⟩ := hcut
        obtain ⟨z, rfl⟩ := onto_of HBW.out
        obtain ⟨m0, m1, m2, m3, m4, m5⟩ := slIn6_cells HC.out
        clear HBW HC HS
        by_cases hk0 : kk = 0
        · subst hk0
          have HE2 := Lib.hid (show (pre ++ [⟨bg, ad, fi, li, re, pb⟩] : List Ev).length = k + 1 ∧ runE d q e 0 (bl s) = (pre ++ [⟨bg, ad, fi, li, re, pb⟩]) ++ runE d q e n ((bl s).drop (k + 1)) ∧ runK d q e 0 (bl s) = runK d q e n ((bl s).drop (k + 1)) from by
            obtain ⟨e1, e2, e3⟩ := HE.out
            refine ⟨by simp [e1], ?_, ?_⟩
            · rw [e2, HD.out, runE, V.out]; simp
            · rw [e3, HD.out, runK, V.out]; simp)
          clear HE
          have HS3 := Lib.hid (HS2.out.alloc (.cells #[.bool bg, .bool ad, .bool fi, .bool li, .bool re, .int .u8 pb] 30))
          have HI := Lib.hid (slIn_made6 (onto W z) 30 (.bool bg) (.bool ad) (.bool fi) (.bool li) (.bool re) (.int .u8 pb))
          have HZ := onto_size W z
          go_wp2_with (at_builtin; refine wpList_append_many _ rfl (.tmp 35) (.tmp 37) 45 rfl 30 i0 _ 6 6 Try.underlying45 Hi.out Hz0.out Hz1.out Hz2.out rfl (by decide) W.heap.size A k c (flat pre) rfl HS3.out (some ⟨(onto W z).heap.size, 0, none⟩) 1 1 [.bool bg, .bool ad, .bool fi, .bool li, .bool re, .int .u8 pb] rfl HI.out (by decide) (evCells_one ⟨bg, ad, fi, li, re, pb⟩) (by unfold maxLen; omega) (by omega) (by simp; omega) ?_; intro A' c' w3 hown hgrow hat)
          have HO3 := Lib.hid hown
          have HB3 := Lib.hid ((up_alloc (onto_below W z) _).grown hgrow (by simp; omega) (fun j hj => (HS3.out.blk j hj).1))
          clear hown hgrow hat
          go_wp2_with fail
          go_roundw
          case rel => exact ⟨k + 1, c', A', n, pre ++ [⟨bg, ad, fi, li, re, pb⟩], by omega, by go_num, rfl, rfl, hn.1, hn.2, Lib.hid (onto_of HB3.out), Lib.hid (by rw [flat_append, flat_one]; exact HO3.out), HE2⟩
          case measure => simp [intOf]; omega
        · have hE : runE d q e 0 (bl s) = pre ∧ runK d q e 0 (bl s) = kk ∧ runA d q e 0 (bl s) = k := by
            obtain ⟨e1, e2, e3⟩ := HE.out
            have h1 : runE d q e 0 (bl s) = pre := by rw [e2, HD.out, runE, V.out, if_neg hk0]; simp
            have h2 : runK d q e 0 (bl s) = kk := by rw [e3, HD.out, runK, V.out, if_neg hk0]
            refine ⟨h1, h2, ?_⟩
            rw [runA, h2, if_neg hk0, h1, e1]
          have HE1 := Lib.hid hE
          have HPL := Lib.hid HE.out.1
          have hk1 : (kk != 0) = true := by simpa using hk0
          have HZ := onto_size W z
          clear hE HE hk0
          go_wp2_with fail
          have HS5 := Lib.hid ((HS2.out.far ⟨w.heap.size + 1, 0, none⟩ b1 (.int .i64 kk)).far ⟨w.heap.size + 1, 1, none⟩ b1 (.int .i64 (k : Int)))
          refine bodyPost_ret (v := .tuple #[.slice A k c, .agg #[.int .i64 kk, .int .i64 k]]) (by simp [results, Try.results15, go_sem, b1, f0, f1, z0, z1]) rfl ⟨A, c, ?_, ?_, ?_⟩
          · rw [HE1.out.1, HE1.out.2.1, HE1.out.2.2, HPL.out]
          · rw [HE1.out.1, HPL.out]
            exact HS5.out.mono (by omega)
          · have := HB.out.trans ((onto_below W z).mono (by omega))
            exact (this.setCell (by simp) _).setCell (by simp) _
    · obtain rfl : k = s.size := by omega
      have hnil : (bl s).drop s.size = [] := List.drop_eq_nil_of_le (by rw [HL.out]; exact Nat.le_refl _)
      have HNIL := Lib.hid hnil
      clear hnil hlt
      obtain ⟨⟨bg, ad, fi, li, re, pb⟩, hv⟩ : ∃ v, closeE t = v := ⟨_, rfl⟩
      obtain ⟨kk, hkv⟩ : ∃ v, closeK t = v := ⟨_, rfl⟩
      have V := Lib.hid hv
      have KV := Lib.hid hkv
      clear hv hkv
      by_cases hk0 : kk = 0
      · subst hk0
        have hE : runE d q e 0 (bl s) = pre ++ [⟨bg, ad, fi, li, re, pb⟩] ∧ runK d q e 0 (bl s) = 0 ∧ runA d q e 0 (bl s) = 0 := by
          obtain ⟨e1, e2, e3⟩ := HE.out
          have h1 : runE d q e 0 (bl s) = pre ++ [⟨bg, ad, fi, li, re, pb⟩] := by rw [e2, HNIL.out, runE, KV.out, if_pos rfl, V.out]
          have h2 : runK d q e 0 (bl s) = 0 := by rw [e3, HNIL.out, runK, KV.out]
          exact ⟨h1, h2, by rw [runA, h2, if_pos rfl]⟩
        have HE1 := Lib.hid hE
        have HPL := Lib.hid (show (pre ++ [⟨bg, ad, fi, li, re, pb⟩] : List Ev).length = s.size + 1 by simp [HE.out.1])
        clear hE HE
        go_upto_region 14 with (go_at_call 13; ((with_reducible refine (above (close_is t t0 t6 _ _ _ _ _ _ _ V KV _)).mono ?_); rintro x _ ⟨rfl, yy, rfl⟩))
        have HS3 := Lib.hid (((HS.out.onto yy).alloc (.cells #[.bool bg, .bool ad, .bool fi, .bool li, .bool re, .int .u8 pb] 30)).alloc (.cells #[.bool bg, .bool ad, .bool fi, .bool li, .bool re, .int .u8 pb] 30))
        have HI := Lib.hid (slIn_made6' ((onto W (y.up yy)).alloc (.cells #[.bool bg, .bool ad, .bool fi, .bool li, .bool re, .int .u8 pb] 30)) ((onto W (y.up yy)).heap.size + 1) (by simp) 30 (.bool bg) (.bool ad) (.bool fi) (.bool li) (.bool re) (.int .u8 pb))
        have HZ := onto_size W (y.up yy)
        have HBZ := Lib.hid (up_alloc (up_alloc (onto_below W (y.up yy)) (.cells #[.bool bg, .bool ad, .bool fi, .bool li, .bool re, .int .u8 pb] 30)) (.cells #[.bool bg, .bool ad, .bool fi, .bool li, .bool re, .int .u8 pb] 30))
        clear HS
        go_wp2_with (at_builtin; refine wpList_append_many _ rfl (.tmp 53) (.tmp 55) 45 rfl 30 i0 _ 6 6 Try.underlying45 Hi.out Hz0.out Hz1.out Hz2.out rfl (by decide) W.heap.size A s.size c (flat pre) rfl HS3.out (some ⟨(onto W (y.up yy)).heap.size + 1, 0, none⟩) 1 1 [.bool bg, .bool ad, .bool fi, .bool li, .bool re, .int .u8 pb] rfl HI.out (by decide) (evCells_one ⟨bg, ad, fi, li, re, pb⟩) (by unfold maxLen; omega) (by omega) (by simp; omega) ?_; intro A' c' w3 hown hgrow hat; have HO3 := Lib.hid hown; have HB3 := Lib.hid (HBZ.out.grown hgrow (by simp; omega) (fun j hj => (HS3.out.blk j hj).1)); obtain ⟨z3, hz3⟩ := onto_of HB3.out; clear hown hgrow hat; subst hz3)
        have HS5 := Lib.hid ((HO3.out.far ⟨w.heap.size + 1, 0, none⟩ b1 (.int .i64 0)).far ⟨w.heap.size + 1, 1, none⟩ b1 (.int .i64 0))
        refine bodyPost_ret (v := .tuple #[.slice A' (s.size + 1) c', .agg #[.int .i64 0, .int .i64 0]]) (by simp [results, Try.results15, go_sem, b1, f0, f1, z0, z1]) rfl ⟨A', c', ?_, ?_, ?_⟩
        · rw [HE1.out.1, HE1.out.2.1, HE1.out.2.2, HPL.out]
        · rw [HE1.out.1, HPL.out, flat_append, flat_one]
          exact HS5.out.mono (by omega)
        · have := HB.out.trans ((onto_below W z3).mono (by omega))
          exact (this.setCell (by simp) _).setCell (by simp) _
      · have hE : runE d q e 0 (bl s) = pre ∧ runK d q e 0 (bl s) = kk ∧ runA d q e 0 (bl s) = (s.size : Int) := by
          obtain ⟨e1, e2, e3⟩ := HE.out
          have h1 : runE d q e 0 (bl s) = pre := by rw [e2, HNIL.out, runE, KV.out, if_neg hk0]; simp
          have h2 : runK d q e 0 (bl s) = kk := by rw [e3, HNIL.out, runK, KV.out]
          exact ⟨h1, h2, by rw [runA, h2, if_neg hk0, h1, e1]⟩
        have HE1 := Lib.hid hE
        have HPL := Lib.hid HE.out.1
        have hk1 : (kk != 0) = true := by simpa using hk0
        clear hE HE hk0
        go_wp2_with (go_at_call 13; ((with_reducible refine (above (close_is t t0 t6 _ _ _ _ _ _ _ V KV _)).mono ?_); rintro x _ ⟨rfl, yy, rfl⟩))
        have HS5 := Lib.hid ((((HS.out.onto yy).far ⟨w.heap.size + 1, 0, none⟩ b1 (.int .i64 kk)).far ⟨w.heap.size + 1, 1, none⟩ b1 (.int .i64 (s.size : Int))).alloc (.cells #[.bool bg, .bool ad, .bool fi, .bool li, .bool re, .int .u8 pb] 30))
        refine bodyPost_ret (v := .tuple #[.slice A s.size c, .agg #[.int .i64 kk, .int .i64 s.size]]) (by simp [results, Try.results15, go_sem, b1, f0, f1, z0, z1]) rfl ⟨A, c, ?_, ?_, ?_⟩
        · rw [HE1.out.1, HE1.out.2.1, HE1.out.2.2, HPL.out]
        · rw [HE1.out.1, HPL.out]
          exact HS5.out.mono (by omega)
        · have := HB.out.trans ((onto_below W (y.up yy)).mono (by omega))
          exact up_alloc ((this.setCell (by simp) _).setCell (by simp) _) _
end Go.Proofs.Ytpnjpcknlmpaiaa

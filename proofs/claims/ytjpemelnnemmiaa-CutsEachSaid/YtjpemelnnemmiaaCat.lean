/- Layer 7: the contracts of the program's Join and At. -/
import Derived.Test.YtjpemelnnemmiaaCso
import Derived.Test.YtjpemelnnemmiaaWla
namespace Go.Proofs.Ytjpemelnnemmiaa
open Go.ChangeShapes Go.WideShapes Go.ChangeAt Go.RowKit
set_option linter.unusedVariables false
set_option linter.unusedSimpArgs false

theorem jn_flat : ∀ l : List ByteArray, (jn l).data.toList = (l.map fun b : ByteArray => b.data.toList).flatten
  | [] => rfl
  | x :: r => by rw [jn, ByteArray.data_append, Array.toList_append, jn_flat r]; simp
theorem join_lib (l : List ByteArray) : (⟨(Lib.join (l.map fun b : ByteArray => b.data.toList) []).toArray⟩ : ByteArray) = jn l := by
  apply ByteArray.ext
  apply Array.toList_inj.1
  rw [jn_flat]
  cases l with
  | nil => rfl
  | cons x r => rw [List.map_cons, Lib.join_cons]; simp [Lib.joinTail]; rfl
theorem spot_none {w : World} {a : Addr} {v : Value} (h : w.cell? a = some v) : a.spot = none := by
  unfold World.cell? at h
  cases hs : a.spot with
  | none => rfl
  | some z => rw [hs] at h; split at h <;> simp at h

theorem join_any : JoinSays := by
  intro A n c l w hin hc hn hf
  have HL := Lib.hid hin.out.lenS
  have HJ : Hid (Calls Try.prog 23 #[.slice A n c, .string ⟨#[]⟩] w fun x w' => x = .returned (.string (jn l)) ∧ Below w.heap.size w w') := by
    refine Lib.hid ?_
    by_cases h0 : n = 0
    · subst h0
      obtain rfl : l = [] := List.eq_nil_of_length_eq_zero HL.out
      refine (Try.strings_Join_none A c _ w).mono ?_
      rintro e w' ⟨rfl, rfl⟩
      exact ⟨rfl, Below.refl _ _⟩
    · obtain ⟨s0, hs0⟩ : ∃ s, l[0]? = some s := ⟨_, List.getElem?_eq_getElem (by rw [HL.out]; omega)⟩
      obtain ⟨a, rfl, hca⟩ := hin.out.at_ (strs_get hs0)
      have hsp := spot_none hca
      have hlt := lt_of_cell hca
      have h00 : a.add 0 = a := by unfold Addr.add; simp
      rw [h00] at hsp hlt
      obtain ⟨bk, o, spot⟩ := a
      subst hsp
      have hx := Try.strings_Join bk o c l ⟨#[]⟩ w (fun j x hj => by
        obtain ⟨a', ha, hc'⟩ := hin.out.at_ (strs_get hj)
        injection ha with ha
        subst ha
        have : (⟨bk, o, none⟩ : Addr).add j = ⟨bk, o + j, none⟩ := by unfold Addr.add; split <;> simp_all
        rw [← this]; exact hc') hlt (by rw [HL.out]; omega) (by rw [HL.out]; exact hc) (by
          have h1 := congrArg ByteArray.size (join_lib l)
          have h2 : (Lib.join (l.map fun b : ByteArray => b.data.toList) []).length = (jn l).size := by rw [← h1]; rfl
          exact h2 ▸ hf.out)
      rw [HL.out] at hx
      refine hx.mono ?_
      rintro e w' ⟨rfl, hb⟩
      exact ⟨congrArg (fun b => Ending.returned (.string b)) (join_lib l), hb⟩
  clear hin
  go_enter Try.func13, Try.ntmps13
  go_wp2_with fail
  refine HJ.out.mono ?_
  rintro x w1 ⟨rfl, hb⟩
  go_wp2_with fail
  go_ret
  exact ⟨rfl, hb⟩

theorem srt_hold (m : Nat) (ps : List Int) : ∀ x ∈ srt (ps.map (holdN m)), x ≤ m := by
  intro x hx
  obtain ⟨p, _, rfl⟩ := List.mem_map.1 (srt_mem.1 hx)
  exact holdN_le _ _

set_option maxRecDepth 100000 in
set_option maxHeartbeats 1600000 in
theorem at_own (s : ByteArray) (ps : List Int) (P : Option Addr) (n c : Nat) (w : World) (hs : s.size ≤ 1000) (hn : n ≤ 1000) (hp : Hid (SlIn w P n (ps.map (Value.int .i64)))) :
    Calls Try.prog 9 #[.string s, .slice P n c] w fun x w' => ∃ O co, x = .returned (.slice O (n + 1) co) ∧ n + 1 ≤ co ∧ Hid (SlOwn w' w.heap.size 9 O (n + 1) co (strs (cutAt s ps))) ∧ Hid (Below w.heap.size w w') := by
  obtain ⟨i0, hi, hz0, hz1, hz2⟩ := info_parts infoStr7
  have Hi := Lib.hid hi
  have Hz0 := Lib.hid hz0
  have Hz1 := Lib.hid hz1
  have Hz2 := Lib.hid hz2
  clear hi hz0 hz1 hz2
  have HLN := Lib.hid (show (srt (ps.map (holdN s.size))).length = n by rw [srt_length, List.length_map]; have := hp.out.1; simpa using this)
  have HLM := Lib.hid (srt_hold s.size ps)
  have HLS := Lib.hid (srt_sorted (ps.map (holdN s.size)))
  have HCA := Lib.hid (show cutAt s ps = pcs s 0 (srt (ps.map (holdN s.size))) from rfl)
  go_enter Try.func9, Try.ntmps9
  go_wp2_with (at_make; refine wpList_make_sl _ rfl _ (.tmp 11) 24 rfl w.heap.size 9 i0 (.string ⟨#[]⟩) 16 Try.underlying24 Hi.out Hz0.out Hz1.out Hz2.out rfl .i64 .i64 0 ((n : Int) + 1) 0 (n + 1) rfl rfl rfl (by omega) (by omega) (by omega) (by unfold maxLen; omega) (Nat.le_refl _) ?_; intro w1 hown hb1; have HO1 := Lib.hid hown; have HB1 := Lib.hid hb1; clear hown hb1)
  refine (rising_any ps s.size P n c (by omega) w1 (Lib.hid (hp.out.below HB1.out))).mono ?_
  rintro _ w2 ⟨R, cR, rfl, HR, HB2⟩
  have HO2 := Lib.hid (HO1.out.below HB2.out)
  have HB02 := Lib.hid (HB1.out.trans (HB2.out.mono HB1.out.size))
  have HR2 := Lib.hid (HR.out.mono HB1.out.size)
  obtain ⟨L, hL⟩ : ∃ L, L = srt (ps.map (holdN s.size)) := ⟨_, rfl⟩
  rw [← hL] at HLN HLM HLS HCA HR2
  clear hL HO1 HB1 HB2 HR hp
  go_wp2_with fail
  go_loopw [5, 6, 18] (fun out f i wr => ∃ (k fN : Nat) (O : Option Addr) (cO : Nat) (X : List ByteArray), k ≤ n ∧ i = .int .i64 k ∧ out = .slice O k cO ∧ f = .int .i64 fN ∧ fN ≤ s.size ∧ Hid (X.length = k ∧ (∀ x, x ∈ L.drop k → fN ≤ x) ∧ X ++ pcs s fN (L.drop k) = cutAt s ps) ∧ Hid (SlOwn wr w.heap.size 3 R n cR (ints L)) ∧ Hid (SlOwn wr w.heap.size 9 O k cO (strs X)) ∧ Hid (Below w.heap.size w wr)) (fun _ _ i _ => n - (intOf i).toNat)
  case atStart => exact ⟨0, 0, _, _, [], Nat.zero_le _, rfl, rfl, rfl, Nat.zero_le _, Lib.hid ⟨rfl, fun x _ => Nat.zero_le _, by rw [HCA.out]; rfl⟩, HR2, HO2, HB02⟩
  case round =>
    clear HR2 HO2 HB02
    obtain ⟨k, fN, O, cO, X, hk, rfl, rfl, rfl, hf, HX, HR, HO, HB⟩ := hrel
    obtain ⟨W, hW⟩ : ∃ W, W = wr := ⟨_, rfl⟩
    subst hW
    by_cases hlt : k < n
    · obtain ⟨y, hy⟩ : ∃ y, L[k]? = some y := ⟨_, List.getElem?_eq_getElem (by rw [HLN.out]; exact hlt)⟩
      have hdr : L.drop k = y :: L.drop (k + 1) := by
        obtain ⟨h1, h2⟩ := List.getElem?_eq_some_iff.1 hy
        rw [List.drop_eq_getElem_cons h1, h2]
      have hfy : fN ≤ y := HX.out.2.1 y (by rw [hdr]; exact List.mem_cons_self ..)
      have hys : y ≤ s.size := HLM.out y (List.mem_of_getElem? hy)
      have HLE := Lib.hid (show ∀ x, x ∈ L.drop (k + 1) → y ≤ x by
        have h1 := HLS.out.sublist (List.drop_sublist k L)
        rw [hdr] at h1
        exact (List.pairwise_cons.1 h1).1)
      have HDR := Lib.hid hdr
      obtain ⟨a, rfl, hca⟩ := HR.out.toIn.at_ (ints_get hy)
      clear hy hdr
      have hsl := fun (V : World) => run_sub (P := Try.prog) V 9 s fN y (fN : Int) (y : Int) rfl rfl hfy hys Try.underlying9
      have B0 := Lib.hid (up_alloc (Below.refl _ W) (.cells #[.string (s.extract fN y)] 9))
      have HBW := Lib.hid (Nat.le_trans HB.out.size B0.out.size)
      go_wp2_with (at_builtin; refine wpList_append_sl _ rfl (.tmp 22) (.tmp 27) 24 rfl 9 i0 (.string ⟨#[]⟩) 16 Try.underlying24 Hi.out Hz0.out Hz1.out Hz2.out rfl w.heap.size O k cO (strs X) rfl (HO.out.below B0.out) (some ⟨W.heap.size, 0, none⟩) 1 1 [.string (s.extract fN y)] rfl (slIn_new1 W 9 _) (by intro u hu; simp at hu; subst hu; rfl) (by unfold maxLen; omega) (by omega) HBW.out ?_; intro O' cO' w5 hown hgrow _; have HR5 := Lib.hid ((HR.out.below B0.out).grow_other (HO.out.below B0.out) (by decide) hgrow); have HO5 := Lib.hid hown; have HG5 := Lib.hid hgrow; clear hown hgrow)
      go_roundw
      case rel =>
        refine ⟨k + 1, y, O', cO', X ++ [s.extract fN y], by omega, by go_num, rfl, rfl, hys, Lib.hid ⟨by simp [HX.out.1], HLE.out, ?_⟩, HR5, Lib.hid ?_, Lib.hid ?_⟩
        · rw [← HX.out.2.2, HDR.out, pcs]; simp
        · rw [strs_append]; exact HO5.out
        · exact (HB.out.trans (B0.out.mono HB.out.size)).grown HG5.out HBW.out (fun j hj => (HO.out.blk j hj).1)
      case measure => simp [intOf]; omega
    · obtain rfl : k = n := by omega
      have HXL := Lib.hid (show X ++ [s.extract fN s.size] = cutAt s ps by have h := HX.out.2.2; rw [List.drop_of_length_le (by rw [HLN.out]; exact Nat.le_refl _)] at h; exact h)
      have B0 := Lib.hid (up_alloc (Below.refl _ W) (.cells #[.string (s.extract fN s.size)] 9))
      have HBW := Lib.hid (Nat.le_trans HB.out.size B0.out.size)
      clear hlt
      go_wp2_with (at_builtin; refine wpList_append_sl _ rfl (.tmp 31) (.tmp 35) 24 rfl 9 i0 (.string ⟨#[]⟩) 16 Try.underlying24 Hi.out Hz0.out Hz1.out Hz2.out rfl w.heap.size O k cO (strs X) rfl (HO.out.below B0.out) (some ⟨W.heap.size, 0, none⟩) 1 1 [.string (s.extract fN s.size)] rfl (slIn_new1 W 9 _) (by intro u hu; simp at hu; subst hu; rfl) (by unfold maxLen; omega) (by omega) HBW.out ?_; intro O' cO' w5 hown hgrow _; have HO5 := Lib.hid hown; have HG5 := Lib.hid hgrow; clear hown hgrow)
      go_ret
      refine ⟨O', cO', rfl, HO5.out.2.1, Lib.hid ?_, Lib.hid ?_⟩
      · rw [← HXL.out, strs_append]; exact HO5.out
      · exact (HB.out.trans (B0.out.mono HB.out.size)).grown HG5.out HBW.out (fun j hj => (HO.out.blk j hj).1)
theorem at_any : AtSays := fun s ps P n c w hs hn hp _ => (at_own s ps P n c w hs hn hp).mono fun x w' ⟨O, co, he, hc, hS, hB⟩ => ⟨O, co, he, hc, Lib.hid hS.out.toIn, hB⟩
end Go.Proofs.Ytjpemelnnemmiaa

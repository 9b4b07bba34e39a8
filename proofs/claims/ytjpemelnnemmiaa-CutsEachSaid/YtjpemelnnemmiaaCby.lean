/- Layer 7: the contract of the program's By. -/
import Derived.Test.YtjpemelnnemmiaaCso
import Derived.Test.YtjpemelnnemmiaaWlb
namespace Go.Proofs.Ytjpemelnnemmiaa
open Go.ChangeShapes Go.WideShapes Go.ChangeAt Go.RowKit
set_option linter.unusedVariables false
set_option linter.unusedSimpArgs false

theorem positive_any (n : Int) (w : World) : Calls Try.prog 25 #[.int .i64 n] w fun x w' => x = .returned (.bool (decide (0 < n))) ∧ w = w' := by
  go_enter Try.func25, Try.ntmps25
  go_wp2_with fail
  go_ret
  exact ⟨rfl, rfl⟩

def anyPos (ps : List Int) : Bool := ps.any (fun n => decide (0 < n))
theorem anyPos_hit {ps : List Int} {k : Nat} {x : Int} (h : ps[k]? = some x) (hx : 0 < x) : anyPos ps = true :=
  List.any_eq_true.2 ⟨x, List.mem_of_getElem? h, by simpa using hx⟩
theorem anyPos_miss {ps : List Int} (h : ∀ (j : Nat) (x : Int), ps[j]? = some x → ¬ 0 < x) : anyPos ps = false := by
  unfold anyPos
  rw [List.any_eq_false]
  intro x hx
  obtain ⟨j, hj, he⟩ := List.mem_iff_getElem.1 hx
  simpa using h j x (by rw [← he]; exact List.getElem?_eq_getElem hj)

theorem index_any (ps : List Int) (P : Option Addr) (n c : Nat) (hn : n ≤ 1000000) (w : World) (hp : Hid (SlIn w P n (ps.map (Value.int .i64)))) :
    Calls Try.prog 34 #[.slice P n c, .func (.func 25) #[] #[]] w fun x w' => ∃ v : Int, x = .returned (.int .i64 v) ∧ decide (0 ≤ v) = anyPos ps ∧ Below w.heap.size w w' := by
  have HLN := Lib.hid (show ps.length = n by have := hp.out.1; simpa using this)
  go_enter Try.func34, Try.ntmps34
  go_wp2_with fail
  go_loopw [8] (fun i wr => ∃ k : Nat, k ≤ n ∧ i = .int .i64 k ∧ Hid (∀ (j : Nat) (x : Int), j < k → ps[j]? = some x → ¬ 0 < x) ∧ Hid (∃ y, wr = onto w y)) (fun i _ => n - (intOf i).toNat)
  case atStart => exact ⟨0, Nat.zero_le _, rfl, Lib.hid (fun j x hj => by omega), Lib.hid (onto_self w)⟩
  case round =>
    obtain ⟨k, hk, rfl, HM, HY⟩ := hrel
    obtain ⟨y, rfl⟩ := HY.out
    clear HY
    by_cases hlt : k < n
    · obtain ⟨x, hx⟩ : ∃ x, ps[k]? = some x := ⟨_, List.getElem?_eq_getElem (by rw [HLN.out]; exact hlt)⟩
      obtain ⟨a, rfl, hca⟩ := hp.out.at_ (show (ps.map (Value.int .i64))[k]? = some (.int .i64 x) by simp [hx])
      have za : ∀ z, (onto w z).cell? (a.add k) = some (.int .i64 x) := fun z => mem_cell (onto_below w z) hca
      have HX := Lib.hid hx
      clear hx hca
      go_wp2_with fail
      refine (positive_any x _).mono ?_
      rintro _ _ ⟨rfl, rfl⟩
      by_cases hpos : 0 < x
      · have hd : decide (0 < x) = true := by simpa using hpos
        go_wp2_with fail
        go_ret
        exact ⟨(k : Int), rfl, by rw [anyPos_hit HX.out hpos]; simp, onto_below w y⟩
      · have hd : decide (0 < x) = false := by simpa using hpos
        go_wp2_with fail
        go_roundw
        case rel =>
          refine ⟨k + 1, by omega, by go_num, Lib.hid (fun j z hj hz => ?_), Lib.hid ⟨_, rfl⟩⟩
          by_cases hjk : j = k
          · subst hjk
            have := HX.out.symm.trans hz
            injection this with this
            rw [← this]; omega
          · have := HM.out j z (by omega) hz; omega
        case measure => simp [intOf]; omega
    · obtain rfl : k = n := by omega
      have HV := Lib.hid (show anyPos ps = false from anyPos_miss fun j x hx => HM.out j x (by rw [← HLN.out]; exact (List.getElem?_eq_some_iff.1 hx).1) hx)
      clear hlt
      go_wp2_with fail
      go_ret
      exact ⟨-1, rfl, by rw [HV.out]; rfl, onto_below w y⟩

theorem contains_any (ps : List Int) (P : Option Addr) (n c : Nat) (hn : n ≤ 1000000) (w : World) (hp : Hid (SlIn w P n (ps.map (Value.int .i64)))) :
    Calls Try.prog 24 #[.slice P n c, .func (.func 25) #[] #[]] w fun x w' => x = .returned (.bool (anyPos ps)) ∧ Below w.heap.size w w' := by
  go_enter Try.func24, Try.ntmps24
  go_wp2_with fail
  refine (index_any ps P n c hn w hp).mono ?_
  rintro _ w1 ⟨v, rfl, hv, hb⟩
  go_wp2_with fail
  go_ret
  exact ⟨by rw [← hv]; rfl, hb⟩

/-- How far it is to jp's turn. -/
def dst (jp n j : Nat) : Nat := if j ≤ jp then jp - j else jp + n - j
theorem dst_lt {jp n j : Nat} (h : jp < n) (hj : j < n) : dst jp n j < n := by unfold dst; split <;> omega
theorem dst_step {jp n j : Nat} (h : jp < n) (hj : j < n) (hne : j ≠ jp) : dst jp n (if j + 1 = n then 0 else j + 1) < dst jp n j := by
  unfold dst
  by_cases h1 : j + 1 = n
  · rw [if_pos h1]; split <;> split <;> omega
  · rw [if_neg h1]; split <;> split <;> omega
theorem ext_ext (s : ByteArray) (p a b : Nat) (hb : p + b ≤ s.size) : (s.extract p s.size).extract a b = s.extract (p + a) (p + b) := by
  apply ByteArray.ext
  have : s.size = s.data.size := rfl
  simp only [ByteArray.data_extract, Array.extract_extract]
  congr 1; omega
theorem ext_size (s : ByteArray) (p : Nat) : (s.extract p s.size).size = s.size - p := by simp
def textLen : Value → Nat
  | .string s => s.size
  | _ => 0

set_option maxRecDepth 100000 in
set_option maxHeartbeats 1600000 in
theorem by_any : BySays := by
  intro s ps P n c w hs hn hp hok
  obtain ⟨i0, hi, hz0, hz1, hz2⟩ := info_parts infoStr7
  have Hi := Lib.hid hi
  have Hz0 := Lib.hid hz0
  have Hz1 := Lib.hid hz1
  have Hz2 := Lib.hid hz2
  clear hi hz0 hz1 hz2 hok
  have HLN := Lib.hid (show ps.length = n by have := hp.out.1; simpa using this)
  by_cases h0 : s.size = 0
  · have hse := (str_empty s).2 h0
    have hse2 : s.toList.isEmpty = true := by rw [hse]; rfl
    go_enter Try.func14, Try.ntmps14
    go_wp2_with fail
    go_ret
    exact ⟨[s], _, 1, rfl, Lib.hid (by unfold ByOut; rw [if_pos (.inl h0)]), Lib.hid (by simp), Lib.hid (slIn_new1 w 9 (.string s)), Lib.hid (up_alloc (Below.refl _ w) _)⟩
  · have hse : ¬ s.toList = [] := fun h => h0 ((str_empty s).1 h)
    have hse2 : s.toList.isEmpty = false := by simpa using hse
    go_enter Try.func14, Try.ntmps14
    obtain ⟨v, hv⟩ : ∃ v, anyPos ps = v := ⟨_, rfl⟩
    have HV := Lib.hid hv
    clear hv
    cases v
    case false =>
      go_wp2_with (refine (contains_any ps P n c (by omega) w hp).mono ?_; rintro _ w1 ⟨rfl, hb1⟩; rw [HV.out]; have HB1 := Lib.hid hb1; clear hb1)
      go_ret
      exact ⟨[s], _, 1, rfl, Lib.hid (by unfold ByOut; rw [if_pos (.inr HV.out)]), Lib.hid (by simp), Lib.hid (slIn_new1 w1 9 (.string s)), Lib.hid (HB1.out.trans ((up_alloc (Below.refl _ w1) _).mono HB1.out.size))⟩
    case true =>
      obtain ⟨jp, np, hjp, hnp, hpos⟩ := some_pos HV.out
      have hjn : jp < n := by rw [HLN.out] at hjp; exact hjp
      have HJP := Lib.hid (And.intro hnp hpos)
      have HOUT := Lib.hid (show ∀ X, ByR s ps 0 ps X → ByOut s ps X from fun X h => by unfold ByOut; rw [if_neg (by rintro (h1 | h1); exact h0 h1; rw [show ps.any (fun n => decide (0 < n)) = true from HV.out] at h1; cases h1)]; exact h)
      clear hjp hnp hpos
      go_wp2_with (refine (contains_any ps P n c (by omega) w hp).mono ?_; rintro _ w1 ⟨rfl, hb1⟩; rw [HV.out]; have HB1 := Lib.hid hb1; clear hb1)
      go_loopw [0, 5, 6] (fun t out turn wr => ∃ (p k j : Nat) (T : ByteArray) (O : Option Addr) (cO : Nat) (X : List ByteArray), p ≤ s.size ∧ j < n ∧ k ≤ 200000 ∧ T.size = s.size - p ∧ t = .string T ∧ turn = .int .i64 k ∧ out = .slice O k cO ∧ Hid (T = s.extract p s.size ∧ X.length = k ∧ k % n = j ∧ (∃ q, k = q * n + j ∧ q ≤ p ∧ (jp < j → q + 1 ≤ p)) ∧ ∀ Y, ByR s ps p (ps.drop j) Y → ByR s ps 0 ps (X ++ Y)) ∧ Hid (SlOwn wr w.heap.size 9 O k cO (strs X)) ∧ Hid (Below w.heap.size w wr)) (fun t _ turn _ => textLen t * (n + 1) + dst jp n ((intOf turn).toNat % n))
      case atStart => exact ⟨0, 0, 0, s, none, 0, [], Nat.zero_le _, by omega, by omega, rfl, rfl, rfl, rfl, Lib.hid ⟨by simp, rfl, by simp, ⟨0, by simp, Nat.zero_le _, fun h => by omega⟩, fun Y h => h⟩, Lib.hid (SlOwn.nothing _ _ _), HB1⟩
      case round =>
        clear HB1
        obtain ⟨p, k, j, T, O, cO, X, hps, hj, hk, hT, rfl, rfl, rfl, HX, HO, HB⟩ := hrel
        obtain ⟨W, hW⟩ : ∃ W, W = wr := ⟨_, rfl⟩
        subst hW
        by_cases hlt : p < s.size
        · have hte : ¬ T.toList = [] := fun h => by have := (str_empty T).1 h; omega
          have hte2 : T.toList.isEmpty = false := by simpa using hte
          obtain ⟨x, hx⟩ : ∃ x, ps[j]? = some x := ⟨_, List.getElem?_eq_getElem (by rw [HLN.out]; exact hj)⟩
          obtain ⟨a, rfl, hca⟩ := hp.out.at_ (show (ps.map (Value.int .i64))[j]? = some (.int .i64 x) by simp [hx])
          have hca2 : W.cell? (a.add j) = some (.int .i64 x) := mem_cell HB.out hca
          have hdr : ps.drop j = x :: ps.drop (j + 1) := by
            obtain ⟨h1, h2⟩ := List.getElem?_eq_some_iff.1 hx
            rw [List.drop_eq_getElem_cons h1, h2]
          have HDR := Lib.hid hdr
          have HXJ := Lib.hid hx
          have hrem : (k : Int) % (n : Int) = (j : Int) := by have := HX.out.2.2.1; omega
          have hrem2 : Int.tmod (k : Int) (n : Int) = (j : Int) := by rw [Int.tmod_eq_emod_of_nonneg (by omega)]; exact hrem
          have HTS := Lib.hid hT
          have hT0 : 0 < T.size := by omega
          have hT9 : T.size ≤ 1000 := by omega
          clear hx hca hdr hT
          go_wp2_with fail
          refine (within_any x T.size _).mono ?_
          rintro _ _ ⟨rfl, rfl⟩
          obtain ⟨g, hg⟩ : ∃ g, holdN T.size x = g := ⟨_, rfl⟩
          have hgle : g ≤ T.size := by rw [← hg]; exact holdN_le _ _
          have hgpos : 0 < x → 0 < g := fun h => by rw [← hg]; unfold holdN; split; omega; split <;> omega
          rw [hg]
          have HG := Lib.hid hg
          have HGP := Lib.hid hgpos
          have HGL := Lib.hid hgle
          clear hg hgpos hca2 hrem hrem2
          have B0 := Lib.hid (up_alloc (Below.refl _ W) (.cells #[.string (T.extract 0 g)] 9))
          have HBW := Lib.hid (Nat.le_trans HB.out.size B0.out.size)
          go_wp2_with (at_builtin; refine wpList_append_sl _ rfl (.tmp 31) (.tmp 35) 24 rfl 9 i0 (.string ⟨#[]⟩) 16 Try.underlying24 Hi.out Hz0.out Hz1.out Hz2.out rfl w.heap.size O k cO (strs X) rfl (HO.out.below B0.out) (some ⟨W.heap.size, 0, none⟩) 1 1 [.string (T.extract 0 g)] rfl (slIn_new1 W 9 _) (by intro u hu; simp at hu; subst hu; rfl) (by unfold maxLen; omega) (by omega) HBW.out ?_; intro O' cO' w6 hown hgrow _; have HO6 := Lib.hid hown; have HG6 := Lib.hid hgrow; clear hown hgrow)
          have hT := HTS.out
          have hT1 : T.extract 0 g = s.extract p (p + g) := by rw [HX.out.1, ext_ext s p 0 g (by omega), Nat.add_zero]
          have hT2 : T.extract g T.size = s.extract (p + g) s.size := by
            rw [hT, HX.out.1, ext_ext s p g (s.size - p) (by omega)]
            congr 1; omega
          have hq : ∃ q, k + 1 = q * n + (if j + 1 = n then 0 else j + 1) ∧ q ≤ p + g ∧ (jp < (if j + 1 = n then 0 else j + 1) → q + 1 ≤ p + g) := by
            obtain ⟨q, h1, h2, h3⟩ := HX.out.2.2.2.1
            have hmove : j = jp → 1 ≤ g := fun e => by
              have h4 := HJP.out.1
              rw [← e, HXJ.out] at h4
              have h5 : x = np := by injection h4
              exact HGP.out (by rw [h5]; exact HJP.out.2)
            by_cases hjn1 : j + 1 = n
            · rw [if_pos hjn1]
              refine ⟨q + 1, by rw [Nat.add_mul]; omega, ?_, fun h => by omega⟩
              by_cases hje : j = jp
              · have := hmove hje; omega
              · have := h3 (by omega); omega
            · rw [if_neg hjn1]
              refine ⟨q, by omega, by omega, fun h => ?_⟩
              by_cases hje : j = jp
              · have := hmove hje; omega
              · have := h3 (by omega); omega
          have hk1 : k + 1 ≤ 200000 := by
            obtain ⟨q, h1, h2, _⟩ := hq
            have h4 : q * n ≤ 1000 * 100 := Nat.mul_le_mul (by omega) hn
            have h5 : (if j + 1 = n then 0 else j + 1) ≤ n := by split <;> omega
            omega
          have hmod : (k + 1) % n = (if j + 1 = n then 0 else j + 1) := by
            obtain ⟨q, h1, _⟩ := hq
            rw [h1, Nat.mul_comm, Nat.mul_add_mod]
            exact Nat.mod_eq_of_lt (by split <;> omega)
          go_roundw
          case rel =>
            refine ⟨p + g, k + 1, (if j + 1 = n then 0 else j + 1), T.extract g T.size, O', cO', X ++ [T.extract 0 g], by omega, by split <;> omega, hk1, by rw [hT2, ext_size], rfl, by go_num, rfl, Lib.hid ⟨hT2, by simp [HX.out.2.1], hmod, hq, fun Y hY => ?_⟩, Lib.hid ?_, Lib.hid ?_⟩
            · rw [List.append_assoc, hT1]
              refine HX.out.2.2.2.2 _ ?_
              rw [HDR.out, List.singleton_append, ← HG.out, hT]
              refine .step hlt ?_
              rw [← hT, HG.out]
              by_cases hjn1 : j + 1 = n
              · rw [if_pos hjn1, List.drop_zero] at hY
                rw [List.drop_of_length_le (by rw [HLN.out]; omega)]
                by_cases hpe : p + g < s.size
                · exact .wrap hpe hY
                · obtain rfl := hY.at_end (by omega)
                  exact .done (by omega)
              · rw [if_neg hjn1] at hY; exact hY
            · rw [strs_append]; exact HO6.out
            · exact (HB.out.trans (B0.out.mono HB.out.size)).grown HG6.out HBW.out (fun j hj => (HO.out.blk j hj).1)
          case measure =>
            have e1 : (intOf (.int .i64 (k : Int))).toNat = k := by simp [intOf]
            have e2 : (intOf (.int .i64 ((k : Int) + 1))).toNat = k + 1 := by simp only [intOf]; omega
            rw [e1, e2, hmod, HX.out.2.2.1]
            show (T.extract g T.size).size * (n + 1) + _ < T.size * (n + 1) + _
            have e3 : (T.extract g T.size).size = T.size - g := by simp
            rw [e3]
            by_cases hg0 : g = 0
            · rw [hg0, Nat.sub_zero]
              have hne : j ≠ jp := fun e => by
                have h4 := HJP.out.1
                rw [← e, HXJ.out] at h4
                have h5 : x = np := by injection h4
                have := HGP.out (by rw [h5]; exact HJP.out.2)
                omega
              have := dst_step hjn hj hne
              omega
            · have h6 : (T.size - g + 1) * (n + 1) ≤ T.size * (n + 1) := Nat.mul_le_mul_right _ (by omega)
              rw [Nat.add_mul, Nat.one_mul] at h6
              have h7 := dst_lt hjn (show (if j + 1 = n then 0 else j + 1) < n by split <;> omega)
              omega
        · have hte : T.toList = [] := (str_empty T).2 (by omega)
          have hte2 : T.toList.isEmpty = true := by rw [hte]; rfl
          go_wp2_with fail
          go_ret
          have h3 := HX.out.2.2.2.2 [] (.done (by omega))
          rw [List.append_nil] at h3
          refine ⟨X, O, cO, ?_, Lib.hid (HOUT.out X h3), Lib.hid (by rw [HX.out.2.1]; omega), Lib.hid (by rw [HX.out.2.1]; exact HO.out.toIn), HB⟩
          rw [HX.out.2.1]; rfl
end Go.Proofs.Ytjpemelnnemmiaa

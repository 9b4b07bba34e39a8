/- Layer 7, plain: the pieces of a text at places (pcs of the places sorted), and that joined they are the text; the ways to cut. No program. -/
namespace Go.Proofs.Ytjpemelnnemmiaa
set_option linter.unusedVariables false

def holdN (m : Nat) (n : Int) : Nat := if n < 0 then 0 else if (m : Int) < n then m else n.toNat
theorem holdN_le (m : Nat) (n : Int) : holdN m n ≤ m := by unfold holdN; split; omega; split <;> omega
def ins (x : Nat) : List Nat → List Nat
  | [] => [x]
  | y :: r => if x ≤ y then x :: y :: r else y :: ins x r
def srt : List Nat → List Nat
  | [] => []
  | x :: r => ins x (srt r)
theorem ins_perm (x : Nat) : ∀ l, (ins x l).Perm (x :: l)
  | [] => List.Perm.refl _
  | y :: r => by
    unfold ins; split
    · exact List.Perm.refl _
    · exact ((ins_perm x r).cons y).trans (List.Perm.swap x y r)
theorem srt_perm : ∀ l, (srt l).Perm l
  | [] => List.Perm.refl _
  | x :: r => (ins_perm x _).trans ((srt_perm r).cons x)
theorem ins_sorted (x : Nat) : ∀ l : List Nat, l.Pairwise (· ≤ ·) → (ins x l).Pairwise (· ≤ ·)
  | [], _ => by simp [ins]
  | y :: r, h => by
    obtain ⟨h1, h2⟩ := List.pairwise_cons.1 h
    unfold ins; split
    · rename_i hxy
      refine List.pairwise_cons.2 ⟨fun z hz => ?_, h⟩
      rcases List.mem_cons.1 hz with rfl | hz
      · exact hxy
      · have := h1 z hz; omega
    · rename_i hxy
      refine List.pairwise_cons.2 ⟨fun z hz => ?_, ins_sorted x r h2⟩
      rcases List.mem_cons.1 ((ins_perm x r).mem_iff.1 hz) with rfl | hz
      · omega
      · exact h1 z hz
theorem srt_sorted : ∀ l : List Nat, (srt l).Pairwise (· ≤ ·)
  | [] => List.Pairwise.nil
  | x :: r => ins_sorted x _ (srt_sorted r)
/-- A sorted list of the same numbers is the only one. -/
theorem srt_unique {l l' : List Nat} (hp : l'.Perm l) (hs : l'.Pairwise (· ≤ ·)) : l' = srt l :=
  List.Perm.eq_of_pairwise (le := (· ≤ ·)) (fun a b _ _ h1 h2 => Nat.le_antisymm h1 h2) hs (srt_sorted l) (hp.trans (srt_perm l).symm)
theorem srt_mem {l : List Nat} {x : Nat} : x ∈ srt l ↔ x ∈ l := (srt_perm l).mem_iff
theorem srt_length (l : List Nat) : (srt l).length = l.length := (srt_perm l).length_eq
theorem nth_perm : ∀ (l : List Nat) (k : Nat) (h : k < l.length), (l[k] :: l.eraseIdx k).Perm l
  | [], k, h => by simp at h
  | x :: r, 0, h => List.Perm.refl _
  | x :: r, k + 1, h => by
    have ih := nth_perm r k (by simpa using h)
    simp only [List.getElem_cons_succ, List.eraseIdx_cons_succ]
    exact (List.Perm.swap _ _ _).trans (ih.cons x)
/-- The least one goes first. -/
theorem srt_least {l : List Nat} {k x : Nat} (hk : l[k]? = some x) (hx : ∀ y ∈ l, x ≤ y) : srt l = x :: srt (l.eraseIdx k) := by
  refine (srt_unique ?_ ?_).symm
  · obtain ⟨hlt, he⟩ := List.getElem?_eq_some_iff.1 hk
    have h1 : (x :: l.eraseIdx k).Perm l := by rw [← he]; exact nth_perm l k hlt
    exact ((srt_perm _).cons x).trans h1
  · exact List.pairwise_cons.2 ⟨fun y hy => hx y (List.mem_of_mem_eraseIdx (srt_mem.1 hy)), srt_sorted _⟩

/-- The pieces, from a place on, at rising places. -/
def pcs (s : ByteArray) : Nat → List Nat → List ByteArray
  | f, [] => [s.extract f s.size]
  | f, p :: r => s.extract f p :: pcs s p r
def cutAt (s : ByteArray) (ps : List Int) : List ByteArray := pcs s 0 (srt (ps.map (holdN s.size)))
theorem pcs_length (s : ByteArray) : ∀ (f : Nat) (l : List Nat), (pcs s f l).length = l.length + 1
  | _, [] => rfl
  | _, p :: r => by unfold pcs; simp [pcs_length s p r]
theorem cutAt_length (s : ByteArray) (ps : List Int) : (cutAt s ps).length = ps.length + 1 := by unfold cutAt; rw [pcs_length, srt_length, List.length_map]
/-- All of a list, one behind the other. -/
def jn : List ByteArray → ByteArray
  | [] => ByteArray.empty
  | x :: r => x ++ jn r
theorem jn_append : ∀ a b, jn (a ++ b) = jn a ++ jn b
  | [], b => by simp [jn]
  | x :: r, b => by simp [jn, jn_append r b, ByteArray.append_assoc]
theorem jn_snoc (a : List ByteArray) (x : ByteArray) : jn (a ++ [x]) = jn a ++ x := by rw [jn_append]; simp [jn]
theorem jn_take_le (l : List ByteArray) (k : Nat) : (jn (l.take k)).size ≤ (jn l).size := by
  have h := jn_append (l.take k) (l.drop k)
  rw [List.take_append_drop] at h
  rw [h, ByteArray.size_append]; omega
theorem jn_size : ∀ (l : List ByteArray) (m : Nat), (∀ x ∈ l, x.size ≤ m) → (jn l).size ≤ l.length * m
  | [], m, _ => by simp [jn]
  | x :: r, m, h => by
    have h1 := h x (List.mem_cons_self ..)
    have h2 := jn_size r m (fun y hy => h y (List.mem_cons_of_mem _ hy))
    rw [jn, ByteArray.size_append, List.length_cons, Nat.add_mul]
    omega
theorem ext_join (s : ByteArray) {a b c : Nat} (h1 : a ≤ b) (h2 : b ≤ c) : s.extract a b ++ s.extract b c = s.extract a c := by
  apply ByteArray.ext
  simp only [ByteArray.data_append, ByteArray.data_extract, Array.extract_append_extract]
  congr 1 <;> omega
theorem jn_pcs (s : ByteArray) : ∀ (l : List Nat) (f : Nat), l.Pairwise (· ≤ ·) → (∀ p ∈ l, f ≤ p ∧ p ≤ s.size) → f ≤ s.size → jn (pcs s f l) = s.extract f s.size
  | [], f, _, _, _ => by simp [pcs, jn]
  | p :: r, f, hs, hb, hf => by
    obtain ⟨h1, h2⟩ := List.pairwise_cons.1 hs
    have hp := hb p (List.mem_cons_self ..)
    rw [pcs, jn, jn_pcs s r p h2 (fun x hx => ⟨h1 x hx, (hb x (List.mem_cons_of_mem _ hx)).2⟩) hp.2, ext_join s hp.1 hp.2]
theorem jn_cutAt (s : ByteArray) (ps : List Int) : jn (cutAt s ps) = s := by
  unfold cutAt
  rw [jn_pcs s _ 0 (srt_sorted _) ?_ (Nat.zero_le _)]
  · simp
  · intro p hp
    obtain ⟨x, _, rfl⟩ := List.mem_map.1 (srt_mem.1 hp)
    exact ⟨Nat.zero_le _, holdN_le _ _⟩

/-- A list without its k-th, as far as it has been gone through. -/
def gone (l : List Nat) (k i : Nat) : List Nat := if i ≤ k then l.take i else (l.take i).eraseIdx k
theorem gone_zero (l : List Nat) (k : Nat) : gone l k 0 = [] := by simp [gone]
theorem gone_all (l : List Nat) (k : Nat) (hk : k < l.length) : gone l k l.length = l.eraseIdx k := by
  unfold gone; rw [if_neg (by omega), List.take_length]
theorem gone_at (l : List Nat) (k : Nat) : gone l k (k + 1) = gone l k k := by
  unfold gone
  rw [if_neg (by omega), if_pos (by omega)]
  by_cases hk : k < l.length
  · rw [List.eraseIdx_eq_take_drop_succ]; simp [List.take_take]
  · rw [List.eraseIdx_of_length_le (by simp; omega), List.take_of_length_le (by omega), List.take_of_length_le (by omega)]
theorem gone_on (l : List Nat) (k i x : Nat) (hx : l[i]? = some x) (hk : i ≠ k) : gone l k (i + 1) = gone l k i ++ [x] := by
  obtain ⟨hlt, he⟩ := List.getElem?_eq_some_iff.1 hx
  have ht : l.take (i + 1) = l.take i ++ [x] := by rw [List.take_add_one, hx]; rfl
  unfold gone
  by_cases h : i < k
  · rw [if_pos (by omega), if_pos (by omega), ht]
  · rw [if_neg (by omega), if_neg (by omega), ht, List.eraseIdx_append_of_lt_length (by simp; omega)]

/-- How many ways there are. -/
def waysN (n : Nat) : Nat := if n = 0 then 1 else 2 ^ (n - 1)
/-- The places k, k + 1 .. (m of them) for which i has its lowest bit, the next one .. -/
def wayGo : Nat → Nat → Nat → List Nat
  | _, 0, _ => []
  | k, m + 1, i => (if i % 2 = 1 then [k] else []) ++ wayGo (k + 1) m (i / 2)
def wayN (n i : Nat) : List Nat := wayGo 1 (n - 1) i
theorem wayGo_length : ∀ (m k i : Nat), (wayGo k m i).length ≤ m
  | 0, _, _ => by simp [wayGo]
  | m + 1, k, i => by have := wayGo_length m (k + 1) (i / 2); rw [wayGo, List.length_append]; split <;> simp <;> omega
end Go.Proofs.Ytjpemelnnemmiaa

/- The document's Same at any two lists; its Parse within wide limits. -/
import Derived.Test.YtigoonokiihdgaaDoorSmb
import Derived.Test.YtigoonokiihdgaaDoorNdp
import Derived.Test.YtigoonokiihdgaaDoorNda
import Derived.Test.YtigoonokiihdgaaDoorZp
import Derived.Test.YtigoonokiihdgaaDoorZk
namespace Go.Proofs.YtigoonokiihdgaaDoor
open Go.ChangeShapes Go.WideShapes Go.ChangeAt Go.RowKit
set_option linter.unusedVariables false
set_option linter.unusedSimpArgs false

theorem GotOk.mono {G : Got} {n m : Nat} (h : GotOk G n) (hm : n ≤ m) : GotOk G m := ⟨h.k, fun p hp => Nat.le_trans (h.e p hp) hm, by have := h.len; omega, Nat.le_trans h.a hm, h.z⟩
theorem right_dia {d q e : Int} (h : rightB d q e = true) : Dia d q e := by
  simp [rightB, okB] at h
  exact ⟨by simpa using h.2.2.1, by omega, by omega, by omega, by omega⟩
/-- What the document's reader finds in a text, within wide limits. -/
def wideG (d q e : Int) (s : ByteArray) : Got := rdGo d q e 981 (mk0 2147483648 2147483648 2147483648 false) 0 (bomStrip (bl s))
theorem wideParse_is (d q e : Int) (h1 : rightB d q e = true) (s : ByteArray) (hs : s.size ≤ 980) (rs : List (List ByteArray)) (K : Int) (m : Nat) (hR : Hid (whRs (wideG d q e s) (bl s) = rs)) (hK : Hid ((whKA (wideG d q e s) (bl s)).1 = K)) (HM : Hid (rs.length = m)) (w : World) :
    Calls Tryd.prog 19 #[.agg #[.int .i64 d, .int .i64 q, .int .i64 e], .agg #[.int .i64 2147483648, .int .i64 2147483648, .int .i64 2147483648, .int .i64 0], .string s] w fun x w' =>
      ∃ C c A V, x = .returned (.tuple #[.slice C m c, .int .i64 K, .int .i64 A]) ∧ Hid (SlIn w' C m V ∧ RowsIn w' V rs) ∧ ∃ y, w' = onto w y := by
  have hlen : (bomStrip (bl s)).length ≤ s.size := by have := whOff_len (bl s); rw [bl_length] at this; omega
  have ok : GotOk (wideG d q e s) 980 := (got_ok (right_dia h1) (mk0 2147483648 2147483648 2147483648 false) _ rfl rfl rfl (by show (0 : Int) ≤ 2147483648; omega) (by show (0 : Int) < 2147483648; omega) (by show (0 : Int) ≤ 2147483648; omega) 981 (by omega)).mono (by omega)
  rw [← HM.out]
  refine (refParse_any d q e 2147483648 2147483648 2147483648 0 s hs (.inl rfl) 981 (wideG d q e s) (Lib.hid rfl) (by omega) (Lib.hid ok) rs K _ hR hK (Lib.hid rfl) w).mono ?_
  rintro x w' ⟨C, cc, V, rfl, h1, h2⟩
  exact ⟨C, cc, _, V, rfl, h1, onto_of h2.out⟩
end Go.Proofs.YtigoonokiihdgaaDoor

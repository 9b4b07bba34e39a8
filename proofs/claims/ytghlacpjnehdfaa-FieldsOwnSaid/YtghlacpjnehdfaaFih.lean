/- Layer 5: contracts of the program's Count, Begun, Stopped, Open, New, and what they call; the document's example. -/
import Derived.Test.YtghlacpjnehdfaaFig
import Derived.WalkSpells
import Derived.Deep.RegionWith
namespace Go.Proofs.Ytghlacpjnehdfaa
open Go.ChangeShapes Go.WideShapes Go.ChangeAt Go.RowKit
set_option linter.unusedVariables false
set_option linter.unusedSimpArgs false

theorem stopped_is (g : Nat) (s : Mk) (S : Nat → Prop) (v : Int) (hv : Hid (s.er = v)) (w : World) (h : Hid (MkB w g s S)) : Calls Try.prog 9 #[.pointer (some ⟨g, 0, none⟩)] w fun e w' => e = .returned (.int .i64 v) ∧ w = w' := by
  obtain ⟨hg, k0, k1, k2, k6, k7, k8, k9, _, _⟩ := h.out.cells
  rw [hv.out] at k9
  clear h hv k0 k1 k2 k6 k7 k8
  go_enter Try.func9, Try.ntmps9
  go_wp2_with fail
  go_ret
  exact ⟨rfl, rfl⟩
theorem count_is (g : Nat) (s : Mk) (S : Nat → Prop) (v : Int) (hv : Hid (s.ct = v)) (w : World) (h : Hid (MkB w g s S)) : Calls Try.prog 11 #[.pointer (some ⟨g, 0, none⟩)] w fun e w' => e = .returned (.int .i64 v) ∧ w = w' := by
  obtain ⟨hg, k0, k1, k2, k6, k7, k8, k9, _, _⟩ := h.out.cells
  rw [hv.out] at k7
  clear h hv k0 k1 k2 k6 k9 k8
  go_enter Try.func11, Try.ntmps11
  go_wp2_with fail
  go_ret
  exact ⟨rfl, rfl⟩
theorem begun_is (g : Nat) (s : Mk) (S : Nat → Prop) (v : Int) (hv : Hid (s.bg = v)) (w : World) (h : Hid (MkB w g s S)) : Calls Try.prog 12 #[.pointer (some ⟨g, 0, none⟩)] w fun e w' => e = .returned (.int .i64 v) ∧ w = w' := by
  obtain ⟨hg, k0, k1, k2, k6, k7, k8, k9, _, _⟩ := h.out.cells
  rw [hv.out] at k6
  clear h hv k0 k1 k2 k7 k9 k8
  go_enter Try.func12, Try.ntmps12
  go_wp2_with fail
  go_ret
  exact ⟨rfl, rfl⟩

/-- A slice of one's own that holds the texts l. -/
def StrsOut (l : List ByteArray) (w : World) (e : Ending) (w' : World) : Prop := ∃ A c, e = .returned (.slice A l.length c) ∧ SlOwn w' w.heap.size 9 A l.length c (strs l) ∧ Below w.heap.size w w'
set_option maxHeartbeats 800000 in
theorem clone_any (A : Option Addr) (n c : Nat) (l : List ByteArray) (w : World) (hin : SlIn w A n (strs l)) (hn : n ≤ 1000000) :
    Calls Try.prog 20 #[.slice A n c] w (StrsOut l w) := by
  have hl := hin.lenS
  subst hl
  cases A with
  | none =>
    have q22 : ∀ (w : World) (a : Option Addr) (n c n' c' : Nat), (binOp .eql 32 (.slice a n c) (.slice none n' c')).run Try.prog w = .ok (.bool a.isNone) w := fun w a n c n' c' => Lib.run_eql_slice_nil w _ _ a n c n' c' Try.underlying32
    have h0 : l = [] := by
      cases l with
      | nil => rfl
      | cons x r => obtain ⟨a, ha, _⟩ := hin.at_ (k := 0) (u := .string x) rfl; cases ha
    subst h0
    clear hin
    go_enter Try.func20, Try.ntmps20
    go_wp2_with fail
    go_ret
    exact ⟨none, 0, rfl, SlOwn.nothing _ _ _, Below.refl _ _⟩
  | some a =>
    have q22 : ∀ (w : World) (a : Option Addr) (n c n' c' : Nat), (binOp .eql 32 (.slice a n c) (.slice none n' c')).run Try.prog w = .ok (.bool a.isNone) w := fun w a n c n' c' => Lib.run_eql_slice_nil w _ _ a n c n' c' Try.underlying32
    obtain ⟨i0, hi, hz0, hz1, hz2⟩ := info_parts infoS
    have HIN := Lib.hid hin
    clear hin
    have Hi := Lib.hid hi
    have Hz0 := Lib.hid hz0
    have Hz1 := Lib.hid hz1
    have Hz2 := Lib.hid hz2
    clear hi hz0 hz1 hz2
    go_enter Try.func20, Try.ntmps20
    go_wp2_with (at_builtin; refine wpList_append_sl _ rfl (.tmp 5) (.tmp 6) 32 rfl 9 i0 (.string ⟨#[]⟩) 16 Try.underlying32 Hi.out Hz0.out Hz1.out Hz2.out rfl w.heap.size (some ⟨w.heap.size, 0, none⟩) 0 0 [] rfl (SlOwn.made w w.heap.size (Nat.le_refl _) 9 [] (Nat.zero_le _)) (some a) l.length c (strs l) rfl (HIN.out.alloc _) strs_one (by unfold maxLen; omega) (by omega) (by simp) ?_; intro A' c' w1 hown hgrow hat)
    go_wp2_with fail
    go_ret
    simp only [Nat.zero_add, List.nil_append] at hown
    exact ⟨A', c', by simp, hown, ((Below.refl _ w).alloc (Nat.le_refl _) _).grown hgrow (by simp) (by intro k hk; simp [blkOf] at hk; omega)⟩

def OpenOut (s : Mk) (w : World) (x : Ending) (w' : World) : Prop := ∃ A c, x = .returned (.tuple #[.slice A s.rc.length c, .string (toBA s.fd)]) ∧ SlOwn w' w.heap.size 9 A s.rc.length c (strs s.rc) ∧ Below w.heap.size w w'
set_option maxHeartbeats 3200000 in
theorem open_any (g : Nat) (s : Mk) (S : Nat → Prop) (w : World) (h : MkB w g s S) (hr : s.rc.length ≤ 1000000) :
    Calls Try.prog 10 #[.pointer (some ⟨g, 0, none⟩)] w (OpenOut s w) := by
  obtain ⟨A, c, B, d, h1, h2, h3, h4⟩ := h
  have hg := h1.lt
  have k4 : w.cell? ⟨g, 4, none⟩ = some (.slice A s.fd.length c) := h1.cell 4
  have k5 : w.cell? ⟨g, 5, none⟩ = some (.slice B s.rc.length d) := h1.cell 5
  have kx : (convert 54 9 (.slice A s.fd.length c)).run Try.prog w.drew = .ok (.string (toBA s.fd)) w.drew := conv_text c Try.underlying54 Try.underlying5 Try.underlying9 (SlIn.drew h2.toIn)
  have H1 := Lib.hid h1
  have H2 := Lib.hid h2
  have H3 := Lib.hid h3
  clear h1 h2 h3 h4
  go_enter Try.func10, Try.ntmps10
  go_wp2_with fail
  go_region_with (first | (go_at_call 20; ((with_reducible refine (clone_any B s.rc.length d s.rc w.drew (SlIn.drew H3.out.toIn) hr).mono ?_); rintro x w' ⟨A', c', rfl, hown, hb0⟩); have hb : Below w.heap.size w w' := ((Below.refl _ w).drew).trans hb0; have e4 : w'.cell? ⟨g, 4, none⟩ = some (.slice A s.fd.length c) := (H1.out.below hb).cell 4; have e5 : w'.cell? ⟨g, 5, none⟩ = some (.slice B s.rc.length d) := (H1.out.below hb).cell 5; have kx2 : (convert 54 9 (.slice A s.fd.length c)).run Try.prog w' = .ok (.string (toBA s.fd)) w' := conv_text c Try.underlying54 Try.underlying5 Try.underlying9 (H2.out.below hb).toIn; have HO := Lib.hid hown; have HB := Lib.hid hb; have hgs := (H1.out.below hb).lt; clear hown hb hb0))
  all_goals
    go_wp2_with fail
    go_ret2
    exact ⟨A', c', rfl, HO.out, HB.out⟩
end Go.Proofs.Ytghlacpjnehdfaa

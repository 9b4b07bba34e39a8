/- Layer 12, plain: a reader's state, what its text comes to. -/
import Derived.Test.YtoeanbfemgmgnaaGreatDoorZo
import Derived.Test.YtoeanbfemgmgnaaGreatDoorZp
namespace Go.Proofs.YtoeanbfemgmgnaaGreatDoor
open Go.RowKit
set_option linter.unusedVariables false
set_option linter.unusedSimpArgs false

/-- A reader: dialect, limits, all that it was fed, is it closed, how many records were handed out. -/
structure RdS where
  d : Int
  q : Int
  e : Int
  lf : Int
  ls : Int
  lr : Int
  un : Bool
  x : ByteArray
  cl : Bool
  h : Nat
def RdS.new (d q e lf ls lr : Int) (un : Bool) : RdS := ⟨d, q, e, lf, ls, lr, un, ⟨#[]⟩, false, 0⟩
def RdS.feed (X : RdS) (b : ByteArray) : RdS := { X with x := X.x ++ b }
def RdS.shut (X : RdS) : RdS := { X with cl := true }
def RdS.next (X : RdS) : RdS := { X with h := X.h + 1 }
/-- What all of its text comes to. -/
def RdS.g (X : RdS) : Got := whP X.d X.q X.e (mk0 X.lf X.ls X.lr X.un) (bl X.x)
def RdS.rs (X : RdS) : List (List ByteArray) := X.g.rs.map (·.1)
/-- The fault of all of its text: kind, place (0, 0: none). -/
def RdS.K (X : RdS) : Int × Int := (X.g.k, if X.g.k = 0 then 0 else (X.g.at_ : Int))
structure RdS.Ok (X : RdS) : Prop where
  d0 : 0 ≤ X.d
  d1 : X.d ≤ 255
  q0 : 0 ≤ X.q
  q1 : X.q ≤ 255
  right : rightB X.d X.q X.e = true
  fits : (withinB X.lf && (withinB X.ls && withinB X.lr)) = true
theorem RdS.Ok.feed {X : RdS} (h : X.Ok) (b : ByteArray) : (X.feed b).Ok := ⟨h.d0, h.d1, h.q0, h.q1, h.right, h.fits⟩
theorem RdS.Ok.shut {X : RdS} (h : X.Ok) : X.shut.Ok := ⟨h.d0, h.d1, h.q0, h.q1, h.right, h.fits⟩
theorem RdS.Ok.next {X : RdS} (h : X.Ok) : X.next.Ok := ⟨h.d0, h.d1, h.q0, h.q1, h.right, h.fits⟩
/-- What it comes to, as the document's grammar tells it (n: more than its text has bytes). -/
theorem RdS.Ok.told {X : RdS} (h : X.Ok) (n : Nat) (hn : X.x.size < n) :
    X.rs = whRs (rdGo X.d X.q X.e n (mk0 X.lf X.ls X.lr X.un) 0 (bomStrip (bl X.x))) (bl X.x) ∧ X.K.1 = (whKA (rdGo X.d X.q X.e n (mk0 X.lf X.ls X.lr X.un) 0 (bomStrip (bl X.x))) (bl X.x)).1 ∧
      X.K.2 = if X.K.1 = 0 then 0 else ((whKA (rdGo X.d X.q X.e n (mk0 X.lf X.ls X.lr X.un) 0 (bomStrip (bl X.x))) (bl X.x)).2 : Int) := by
  have hf := h.fits
  simp only [withinB, Bool.and_eq_true, decide_eq_true_eq] at hf
  have hlen : (bomStrip (bl X.x)).length < n := by have := whOff_len (bl X.x); rw [bl_length] at this; omega
  obtain ⟨h1, h2, h3⟩ := wh_is (right_dia h.right) (mk0 X.lf X.ls X.lr X.un) (bl X.x) rfl rfl rfl (by show 0 ≤ X.lf; omega) (by show 0 < X.ls; omega) (by show (0 : Int) ≤ X.lr; omega) n hlen
  refine ⟨h1, h2, ?_⟩
  show (if (whP X.d X.q X.e (mk0 X.lf X.ls X.lr X.un) (bl X.x)).k = 0 then (0 : Int) else ((whP X.d X.q X.e (mk0 X.lf X.ls X.lr X.un) (bl X.x)).at_ : Int)) = if (whP X.d X.q X.e (mk0 X.lf X.ls X.lr X.un) (bl X.x)).k = 0 then 0 else _
  by_cases hk : (whP X.d X.q X.e (mk0 X.lf X.ls X.lr X.un) (bl X.x)).k = 0
  · rw [if_pos hk, if_pos hk]
  · rw [if_neg hk, if_neg hk, h3 hk]
theorem RdS.Ok.got {X : RdS} (h : X.Ok) (n : Nat) (hn : X.x.size < n) : GotOk (rdGo X.d X.q X.e n (mk0 X.lf X.ls X.lr X.un) 0 (bomStrip (bl X.x))) X.x.size := by
  have hf := h.fits
  simp only [withinB, Bool.and_eq_true, decide_eq_true_eq] at hf
  have hlen : (bomStrip (bl X.x)).length ≤ X.x.size := by have := whOff_len (bl X.x); rw [bl_length] at this; omega
  exact (got_ok (right_dia h.right) (mk0 X.lf X.ls X.lr X.un) _ rfl rfl rfl (by show 0 ≤ X.lf; omega) (by show 0 < X.ls; omega) (by show (0 : Int) ≤ X.lr; omega) n (by omega)).mono hlen
theorem RdS.Ok.few {X : RdS} (h : X.Ok) : X.rs.length ≤ X.x.size + 1 := by
  rw [(h.told (X.x.size + 1) (Nat.lt_succ_self _)).1]
  have h1 := (h.got (X.x.size + 1) (Nat.lt_succ_self _)).len
  unfold whRs
  rw [List.length_map]
  exact Nat.le_trans (List.length_filter_le ..) h1
theorem RdS.Ok.wide {X : RdS} (h : X.Ok) : ∀ r ∈ X.rs, r.length ≤ 2 * X.x.size + 2 := fun r hr => by
  have hlen : (bomStrip (bl X.x)).length ≤ X.x.size := by have := whOff_len (bl X.x); rw [bl_length] at this; omega
  obtain ⟨p, hp, rfl⟩ := List.mem_map.1 hr
  have := mchU_wide (bomStrip (bl X.x)) 0 0 (mk0 X.lf X.ls X.lr X.un) (whOff (bl X.x)) 0 (mk0_ok _ _ _ _ h.fits) p hp
  omega
end Go.Proofs.YtoeanbfemgmgnaaGreatDoor

/- Layer 12: the program's reader: Next; all that the laws ask of it (pr_says). -/
import Derived.Test.YtoeanbfemgmgnaaRtg
namespace Go.Proofs.Ytoeanbfemgmgnaa
open Go.ChangeShapes Go.WideShapes Go.ChangeAt Go.RowKit
set_option linter.unusedVariables false
set_option linter.unusedSimpArgs false

set_option maxRecDepth 100000 in
set_option maxHeartbeats 3200000 in
theorem next_yes_rd (X : RdS) (p : Addr) (S : Nat → Prop) (r : List ByteArray) (w : World) (ok : X.Ok) (hcl : X.cl = true) (hsz : X.x.size ≤ 2500) (hr : X.rs[X.h]? = some r) (H : Hid (RBx w p X S)) : Calls Try.prog 25 #[.pointer (some p)] w fun y w' =>
    ∃ A c S', y = .returned (.tuple #[.slice A r.length c, .bool true]) ∧ Hid (SlIn w' A r.length (strs r)) ∧ Hid (Apart w' A S') ∧ Hid (∀ k, blkOf A = some k → S k ∨ w.heap.size ≤ k) ∧ Hid (RBx w' p X.next S') ∧ Hid (Touch w w' S) ∧ Hid (Sub w S' S) := by
  obtain ⟨P, rfl, ⟨h0, _⟩ | ⟨_, hh, fed, gone, A, n, c, V, SR, hgone, hfed, hc⟩⟩ := H.out
  case inl => rw [hcl] at h0; cases h0
  have hlt := (List.getElem?_eq_some_iff.1 hr).1
  have hdrop : X.rs.drop X.h = r :: X.rs.drop (X.h + 1) := by
    rw [List.drop_eq_getElem_cons hlt]
    rw [(List.getElem?_eq_some_iff.1 hr).2]
  have hfew := ok.few
  rw [hdrop] at hc
  obtain ⟨k, hk⟩ : ∃ k, X.K.1 = k := ⟨_, rfl⟩
  obtain ⟨a, ha⟩ : ∃ a, X.K.2 = a := ⟨_, rfl⟩
  obtain ⟨hd, hhd⟩ : ∃ hd, X.h = hd := ⟨_, rfl⟩
  obtain ⟨rest, hrest⟩ : ∃ rest, X.rs.drop (X.h + 1) = rest := ⟨_, rfl⟩
  have hrl : rest.length ≤ 3000 := by rw [← hrest, List.length_drop]; omega
  rw [hk, ha, hrest, hhd] at hc
  obtain ⟨v, V1, rfl⟩ : ∃ v V1, V = v :: V1 := by
    have := hc.rows.len
    cases V with
    | nil => simp at this
    | cons v V1 => exact ⟨v, V1, rfl⟩
  obtain ⟨A3, c3, S1, rfl, ho, hS, hn1, hrows⟩ := hc.rows
  obtain ⟨ga, off, rfl, hcell, hfz, hgl, hn, hnc, hcm⟩ := hc.own.first
  have hVl := hrows.len
  obtain ⟨m, hm⟩ : ∃ m, rest.length = m := ⟨_, rfl⟩
  obtain rfl : n = m + 1 := by omega
  have hgP : ¬ ga = P := fun e => slAt_far hc.own hc.box (by decide) ga rfl e
  have p5 : w.cell? ⟨P, 5, none⟩ = some (.slice (some ⟨ga, off, none⟩) (m + 1) c) := hc.box.cell 5
  have p7 : w.cell? ⟨P, 7, none⟩ = some (.int .i64 hd) := hc.box.cell 7
  have f7 := hc.box.free 7
  have pl := hc.box.lt
  obtain ⟨rl, hrlen⟩ : ∃ rl, r.length = rl := ⟨_, rfl⟩
  rw [hrlen] at hcell
  obtain ⟨W1, hW1⟩ : ∃ W1, W1 = w.setCell ⟨P, 7, none⟩ (.int .i64 ((hd : Int) + 1)) := ⟨_, rfl⟩
  have T1 : Touch w W1 (fun j => j = P) := by rw [hW1]; exact (Touch.refl w (fun j => j = P)).then_set (p := ⟨P, 7, none⟩) (.inl rfl) _
  have hb1 : StB W1 P 79 (rdArr (.pointer none) fed k a true (some ⟨ga, off, none⟩) (m + 1) c gone ((hd : Int) + 1)) := by rw [hW1]; exact hc.box.set_ 7 _
  have hSP : S P := (hc.all P).2 (.inl rfl)
  have hSA : S ga := (hc.all ga).2 (.inr (.inl rfl))
  have hSR : ∀ j, SR j → S j := fun j hj => (hc.all j).2 (.inr (.inr hj))
  have h1P : ¬ S1 P := fun hs => hc.far ((hS P).2 (.inr hs))
  have hA3P : ∀ j, blkOf A3 = some j → j ≠ P := fun j hj e => hc.far (e ▸ (hS j).2 (.inl hj))
  have hA3A : ∀ j, blkOf A3 = some j → j ≠ ga := fun j hj e => hc.apart ga rfl (e ▸ (hS j).2 (.inl hj))
  have HDR := Lib.hid (drop_rd P fed k a ((hd : Int) + 1) gone (by omega) rest (by omega) (some ⟨ga, off, none⟩) (m + 1) c (.slice A3 r.length c3) V1 S1 W1 (Lib.hid hb1)
    (Lib.hid (hc.own.touch T1 (fun j hj e => slAt_far hc.own hc.box (by decide) j hj e))) (Lib.hid (hrows.touch T1 (fun j hj e => by have e' : j = P := e; exact h1P (e' ▸ hj)))) (Lib.hid (fun j hj hs => hc.apart j hj ((hS j).2 (.inr hs)))) (Lib.hid h1P))
  have HO1 := Lib.hid (ho.touch T1 hA3P)
  have HT1 := Lib.hid T1
  have HRL := Lib.hid hrlen
  have HHD := Lib.hid hhd
  have HGO := Lib.hid hgone
  have HLT := Lib.hid hlt
  have HFD := Lib.hid hfed
  have HCL := Lib.hid hcl
  have HK := Lib.hid (show X.K.1 = k from hk)
  have HA := Lib.hid (show X.K.2 = a from ha)
  have HRE := Lib.hid hrest
  have HSS := Lib.hid hS
  have HALL := Lib.hid hc.all
  have HLI := Lib.hid hc.lies
  have HAP := Lib.hid hc.apart
  have hhd9 : hd ≤ 3000 := by omega
  have hm9 : m ≤ 3000 := by omega
  clear hc ho hrows T1 hb1 hrlen hhd hgone hlt hfed hcl hk ha hrest hS hdrop hfew hh hm hn hVl hr
  go_enter Try.func25, Try.ntmps25
  go_upto_region 5 with fail
  rw [← hW1]
  clear hW1 p5 p7 f7 pl hcell hfz
  go_wp2_with fail
  refine HDR.out.mono ?_
  rintro x w2 ⟨rfl, gone', A', n', c', S', hg', HC2, HT2, HBL⟩
  clear HDR
  go_wp2_with fail
  refine bodyPost_ret (v := .tuple #[.slice A3 rl c3, .bool true]) (by simp [results, Try.results25, go_sem]) (by rfl) ?_
  have ho2 := HO1.out.touch HT2.out (fun j hj hs => by
    rcases hs with hs | hs
    · exact hA3P j hj hs
    · injection hs with hs
      have hs' : ga = j := hs
      exact hA3A j hj hs'.symm)
  have hTT : Touch w w2 S := (HT1.out.mono (fun j hj => by have hj' : j = P := hj; rw [hj']; exact hSP)).trans (Sub.refl _ _) (HT2.out.mono (fun j hs => by
    rcases hs with hs | hs
    · have hs' : j = P := hs
      rw [hs']; exact hSP
    · injection hs with hs
      have hs' : ga = j := hs
      rw [← hs']; exact hSA))
  refine ⟨A3, c3, S', by rw [HRL.out], Lib.hid ho2.toIn, Lib.hid (fun j hj => ⟨fun hs => ?_, (ho2.blk j hj).2⟩), Lib.hid (fun j hj => .inl (hSR j ((HSS.out j).2 (.inl hj)))), Lib.hid ⟨P, rfl, .inr ⟨HCL.out, ?_, fed, gone', A', n', c', V1, S1, ?_, HFD.out, ?_⟩⟩, Lib.hid hTT, Lib.hid (fun j hj => ?_)⟩
  · rcases (HC2.out.all j).1 hs with h | h | h
    · exact hA3P j hj h
    · rcases HBL.out j h with h2 | h2
      · injection h2 with h2
        have h2' : ga = j := h2
        exact hA3A j hj h2'.symm
      · have := (HO1.out.blk j hj).2; omega
    · exact hn1 j hj h
  · show X.h + 1 ≤ X.rs.length
    have := HLT.out; omega
  · show gone' ≤ X.h + 1
    have := HGO.out; omega
  · show RdC w2 P fed X.K.1 X.K.2 gone' ((X.h + 1 : Nat) : Int) (X.rs.drop (X.h + 1)) A' n' c' V1 S1 S'
    rw [HK.out, HA.out, HRE.out, HHD.out]
    exact HC2.out
  · rcases (HC2.out.all j).1 hj with h | h | h
    · rw [h]; exact .inl hSP
    · rcases HBL.out j h with h2 | h2
      · injection h2 with h2
        have h2' : ga = j := h2
        rw [← h2']; exact .inl hSA
      · exact .inr (Nat.le_trans HT1.out.size h2)
    · exact .inl (hSR j ((HSS.out j).2 (.inr h)))
set_option maxRecDepth 100000 in
theorem next_no_rd (X : RdS) (p : Addr) (S : Nat → Prop) (w : World) (hcl : X.cl = true) (hr : X.rs.length ≤ X.h) (H : Hid (RBx w p X S)) : Calls Try.prog 25 #[.pointer (some p)] w fun y w' =>
    ∃ S', y = .returned (.tuple #[.slice none 0 0, .bool false]) ∧ Hid (RBx w' p X S') ∧ Hid (Touch w w' S) ∧ Hid (Sub w S' S) := by
  obtain ⟨P, rfl, ⟨h0, _⟩ | ⟨_, hh, fed, gone, A, n, c, V, SR, hgone, hfed, hc⟩⟩ := H.out
  case inl => rw [hcl] at h0; cases h0
  have hn : n = 0 := by
    have := hc.rows.len
    rw [List.drop_eq_nil_of_le hr, hc.own.1] at this
    exact this
  subst hn
  have p5 : w.cell? ⟨P, 5, none⟩ = some (.slice A 0 c) := hc.box.cell 5
  have pl := hc.box.lt
  clear hc hfed hh hgone hcl hr
  go_enter Try.func25, Try.ntmps25
  go_wp2_with fail
  refine bodyPost_ret (v := .tuple #[.slice none 0 0, .bool false]) (by simp [results, Try.results25, go_sem]) (by rfl) ?_
  exact ⟨S, rfl, H, Lib.hid (Touch.refl _ _), Lib.hid (Sub.refl _ _)⟩

theorem cfx_le {X : RdS} (ok : X.Ok) : cfx X ≤ X.x.size + 1 := by
  unfold cfx RdS.now
  split
  · have := ok.few
    show (X.rs.length : Int) ≤ _
    omega
  · have := (run_ok ok).few
    show (X.run.rs.length : Int) ≤ _
    omega
theorem pr_says : PR RBx kfx cfx ofx :=
  { lies := rbx_lies, keep := rbx_keep
    told := fun X _ h => told_all X h
    stuck := fun X _ h hk b => stuck_all X h hk b
    new_yes := fun d q e lf ls lr un w ok => new_rd d q e lf ls lr un w ok
    feed := fun X p S A n c b w ok hcl hsz hnc h hin => feed_of_rd X p S A n c b w ok hcl hsz hnc h hin
    close := fun X p S w ok hcl hsz h => close_of_rd X p S w ok hcl hsz h
    fault := fun X p S w ok h => by
      obtain ⟨P, pv, A, n, c, cl, fed, gone, rfl, hb, _, _⟩ := rbx_box h.out
      exact fault_rd (Lib.hid hb)
    count := fun X p S w ok hsz h => by
      obtain ⟨P, pv, A, n, c, cl, fed, gone, rfl, hb, hn, _⟩ := rbx_box h.out
      have hc := cfx_le ok
      rw [← hn]
      exact count_rd (Lib.hid hb) (by omega) (by omega) (by omega)
    offset := fun X p S w ok h => by
      obtain ⟨P, pv, A, n, c, cl, fed, gone, rfl, hb, _, hf⟩ := rbx_box h.out
      have e : ofx X = if (kfx X).1 ≠ 0 then (kfx X).2 else fed := by
        unfold ofx
        by_cases hk : (kfx X).1 ≠ 0
        · rw [if_pos hk, if_pos hk]
        · rw [if_neg hk, if_neg hk, hf (by simpa using hk)]
      rw [e]
      exact offset_rd (Lib.hid hb)
    next_yes := fun X p S r w ok hcl hsz hr h => next_yes_rd X p S r w ok hcl hsz hr h
    next_no := fun X p S w _ hcl _ hr h => next_no_rd X p S w hcl hr h }
end Go.Proofs.Ytoeanbfemgmgnaa

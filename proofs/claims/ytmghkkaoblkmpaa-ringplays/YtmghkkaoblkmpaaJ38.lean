/- Contracts of the program's functions, part 38: own work, joined in build order. -/
import Derived.Test.YtmghkkaoblkmpaaJ37
namespace Go.Proofs.Ytmghkkaoblkmpaa
open Go.RowKit
set_option maxRecDepth 100000
set_option linter.unusedVariables false
theorem run_valW {P : Program} {n : Nat} {ops : Array Oper} {Q : Exit → Act → World → Prop} {K : Act → World → Prop} {o : Oper} {a : Act} {w w' : World} {X : Prop} {v : Value} (hw : Region.wanted o (yielded ops a.tmps) = true) (hnd : ∀ c, o.op ≠ .defer c) (hr : (execOp a.eval o).run P w = .ok (.value v) w') (h : K (a.put o.dst v) w') : if Region.wanted o (yielded ops a.tmps) then o.wpIn Fence.wide n P a w K Q else X := by
  rw [if_pos hw]
  refine ⟨fun _ _ => trivial, ?_⟩
  show o.uponIn _ n P a K Q ((execOp a.eval o).run P w)
  rw [hr]
  exact h
theorem run_unitW {P : Program} {n : Nat} {ops : Array Oper} {Q : Exit → Act → World → Prop} {K : Act → World → Prop} {o : Oper} {a : Act} {w w' : World} {X : Prop} (hw : Region.wanted o (yielded ops a.tmps) = true) (hnd : ∀ c, o.op ≠ .defer c) (hr : (execOp a.eval o).run P w = .ok .skip w') (h : K (a.put o.dst undef) w') : if Region.wanted o (yielded ops a.tmps) then o.wpIn Fence.wide n P a w K Q else X := by
  rw [if_pos hw]
  refine ⟨fun _ _ => trivial, ?_⟩
  show o.uponIn _ n P a K Q ((execOp a.eval o).run P w)
  rw [hr]
  exact h
theorem run_callW {P : Program} {n : Nat} {ops : Array Oper} {Q : Exit → Act → World → Prop} {K : Act → World → Prop} {o : Oper} {a : Act} {w : World} {X : Prop} {f : FuncId} {args : Array Value} {R : Ending → World → Prop} (hw : Region.wanted o (yielded ops a.tmps) = true) (hnd : ∀ c, o.op ≠ .defer c) (hr : (execOp a.eval o).run P w = .ok (.enter f args) w) (hc : Calls P f args w R) (h : ∀ e w', R e w' → ∃ v, e = .returned v ∧ K (a.put o.dst v) w') : if Region.wanted o (yielded ops a.tmps) then o.wpIn Fence.wide n P a w K Q else X := by
  rw [if_pos hw]
  refine ⟨fun _ _ => trivial, ?_⟩
  show o.uponIn _ n P a K Q ((execOp a.eval o).run P w)
  rw [hr]
  refine ⟨fun h => (by cases h), ?_⟩
  refine CallsIn.mono (callsIn_wide.2 hc) fun e w'' he => ?_
  obtain ⟨v, rfl, hk⟩ := h e w'' he
  exact hk
/-- Behind and ahead of the call in a region of fifteen operations that steps. -/
structure J15 (W : World) (Dd : Value → World → Prop) (cs : List Value) (ad : Addr) (L : Nat → Bool) (vs : Nat → Value) (w' : World) : Prop where
  pre : ∀ j, j < 8 ∨ j = 12 → L j = true → vs j = cs.getD j undef
  no : L 8 = false → w' = W ∧ ∀ j, 8 < j → j ≠ 12 → L j = false
  deps : (L 2 = true → L 1 = true) ∧ (L 3 = true → L 2 = true) ∧ (L 5 = true → L 4 = true) ∧ (L 6 = true → L 5 = true)
  full : L 8 = true → L 3 = true ∧ L 6 = true ∧ L 7 = true
  yes : L 8 = true → ∃ v w1, Dd v w1 ∧ w' = (if L 13 = true then w1.setCell ad v else w1) ∧ vs 8 = .tuple #[v, .bool true] ∧ (L 9 = true → vs 9 = .tuple #[v, .bool true]) ∧ (L 10 = true → vs 10 = v) ∧ (L 11 = true → vs 11 = .bool true) ∧ (L 14 = true → vs 14 = .bool true)
variable {W w' : World} {Dd : Value → World → Prop} {cs : List Value} {ad : Addr} {L : Nat → Bool} {vs : Nat → Value}
theorem J15.start : J15 W Dd cs ad (fun _ => false) (fun _ => undef) W := ⟨fun _ _ h => (by cases h), fun _ => ⟨rfl, fun _ _ _ => rfl⟩, ⟨fun h => (by cases h), fun h => (by cases h), fun h => (by cases h), fun h => (by cases h)⟩, fun h => (by cases h), fun h => (by cases h)⟩
theorem J15.ahead (h : J15 W Dd cs ad L vs w') {j : Nat} (hj : j = 3 ∨ j = 6 ∨ j = 7) (hp : L j = false) : w' = W := by
  cases e : L 8
  · exact (h.no e).1
  · obtain ⟨h1, h2, h3⟩ := h.full e
    rcases hj with rfl | rfl | rfl
    · rw [h1] at hp; cases hp
    · rw [h2] at hp; cases hp
    · rw [h3] at hp; cases hp
theorem updB_true {j i : Nat} (h : L j = true) : updB L i j = true := by
  unfold updB
  split
  · rfl
  · exact h
theorem J15.early (h : J15 W Dd cs ad L vs w') {j : Nat} (hj : j < 8 ∨ j = 12) {v : Value} (hv : v = cs.getD j undef) (hd : (j = 2 → L 1 = true) ∧ (j = 3 → L 2 = true) ∧ (j = 5 → L 4 = true) ∧ (j = 6 → L 5 = true)) : J15 W Dd cs ad (updB L j) (updV vs j v) w' := by
  have dep : ∀ {p q : Nat}, (j = p → L q = true) → (L p = true → L q = true) → updB L j p = true → updB L j q = true := fun {p q} h1 h2 h3 => by
    by_cases e : p = j
    · exact updB_true (h1 e.symm)
    · rw [updB_ne e] at h3
      exact updB_true (h2 h3)
  refine ⟨fun i hi hL => ?_, fun h15 => ?_, ⟨dep hd.1 h.deps.1, dep hd.2.1 h.deps.2.1, dep hd.2.2.1 h.deps.2.2.1, dep hd.2.2.2 h.deps.2.2.2⟩, fun h15 => ?_, fun h15 => ?_⟩
  · by_cases e : i = j
    · subst e
      rw [updV_eq, hv]
    · rw [updV_ne e]
      exact h.pre i hi (by rwa [updB_ne e] at hL)
  · rw [updB_ne (by omega)] at h15
    exact ⟨(h.no h15).1, fun i hi hi2 => by rw [updB_ne (by omega)]; exact (h.no h15).2 i hi hi2⟩
  · rw [updB_ne (by omega)] at h15
    obtain ⟨h1, h2, h3⟩ := h.full h15
    exact ⟨updB_true h1, updB_true h2, updB_true h3⟩
  · rw [updB_ne (by omega)] at h15
    rw [updB_ne (j := 13) (by omega), updB_ne (j := 9) (by omega), updB_ne (j := 10) (by omega), updB_ne (j := 11) (by omega), updB_ne (j := 14) (by omega), updV_ne (j := 8) (by omega), updV_ne (j := 9) (by omega), updV_ne (j := 10) (by omega), updV_ne (j := 11) (by omega), updV_ne (j := 14) (by omega)]
    exact h.yes h15
theorem J15.call (h : J15 W Dd cs ad L vs w') (hL : L 8 = false) (h3 : L 3 = true) (h6 : L 6 = true) (h7 : L 7 = true) {v : Value} {w1 : World} (hD : Dd v w1) : J15 W Dd cs ad (updB L 8) (updV vs 8 (.tuple #[v, .bool true])) w1 := by
  have hn := (h.no hL).2
  refine ⟨fun i hi hL => ?_, fun h15 => ?_, ?_, fun h15 => ⟨updB_true h3, updB_true h6, updB_true h7⟩, fun h15 => ?_⟩
  · rw [updV_ne (by omega)]
    exact h.pre i hi (by rwa [updB_ne (by omega)] at hL)
  · rw [updB_eq] at h15
    cases h15
  · rw [updB_ne (j := 1) (by omega), updB_ne (j := 2) (by omega), updB_ne (j := 3) (by omega), updB_ne (j := 4) (by omega), updB_ne (j := 5) (by omega), updB_ne (j := 6) (by omega)]
    exact h.deps
  · rw [updB_ne (j := 13) (by omega), updB_ne (j := 9) (by omega), updB_ne (j := 10) (by omega), updB_ne (j := 11) (by omega), updB_ne (j := 14) (by omega), hn 9 (by omega) (by omega), hn 10 (by omega) (by omega), hn 11 (by omega) (by omega), hn 13 (by omega) (by omega), hn 14 (by omega) (by omega)]
    exact ⟨v, w1, hD, by simp, updV_eq, fun h => (by cases h), fun h => (by cases h), fun h => (by cases h), fun h => (by cases h)⟩
theorem J15.sure (h : J15 W Dd cs ad L vs w') {j : Nat} (hj : 8 < j) (hj2 : j ≠ 12) (hL : L j = true) : L 8 = true := by
  cases e : L 8
  · rw [(h.no e).2 j hj hj2] at hL
    cases hL
  · rfl
theorem J15.m9 (h : J15 W Dd cs ad L vs w') (hp : L 8 = true) : ∃ v, vs 8 = .tuple #[v, .bool true] ∧ J15 W Dd cs ad (updB L 9) (updV vs 9 (.tuple #[v, .bool true])) w' := by
  have hp' : L 8 = true := hp
  obtain ⟨v, w1, h1, h2, h3, h4, h5, h6, h7⟩ := h.yes hp'
  refine ⟨v, h3, fun i hi hL => ?_, fun h15 => ?_, ?_, fun h15 => ?_, fun h15 => ?_⟩
  · rw [updV_ne (by omega)]
    exact h.pre i hi (by rwa [updB_ne (by omega)] at hL)
  · rw [updB_ne (by omega), hp'] at h15
    cases h15
  · rw [updB_ne (j := 1) (by omega), updB_ne (j := 2) (by omega), updB_ne (j := 3) (by omega), updB_ne (j := 4) (by omega), updB_ne (j := 5) (by omega), updB_ne (j := 6) (by omega)]
    exact h.deps
  · obtain ⟨q1, q2, q3⟩ := h.full hp'
    exact ⟨updB_true q1, updB_true q2, updB_true q3⟩
  · rw [updB_ne (j := 13) (by omega), updB_ne (j := 10) (by omega), updB_ne (j := 11) (by omega), updB_ne (j := 14) (by omega), updV_ne (j := 8) (by omega), updV_ne (j := 10) (by omega), updV_ne (j := 11) (by omega), updV_ne (j := 14) (by omega)]
    exact ⟨v, w1, h1, h2, h3, fun _ => updV_eq, h5, h6, h7⟩
theorem J15.m10 (h : J15 W Dd cs ad L vs w') (hp : L 9 = true) : ∃ v, vs 9 = .tuple #[v, .bool true] ∧ J15 W Dd cs ad (updB L 10) (updV vs 10 v) w' := by
  have hp' : L 8 = true := h.sure (by omega) (by omega) hp
  obtain ⟨v, w1, h1, h2, h3, h4, h5, h6, h7⟩ := h.yes hp'
  refine ⟨v, h4 hp, fun i hi hL => ?_, fun h15 => ?_, ?_, fun h15 => ?_, fun h15 => ?_⟩
  · rw [updV_ne (by omega)]
    exact h.pre i hi (by rwa [updB_ne (by omega)] at hL)
  · rw [updB_ne (by omega), hp'] at h15
    cases h15
  · rw [updB_ne (j := 1) (by omega), updB_ne (j := 2) (by omega), updB_ne (j := 3) (by omega), updB_ne (j := 4) (by omega), updB_ne (j := 5) (by omega), updB_ne (j := 6) (by omega)]
    exact h.deps
  · obtain ⟨q1, q2, q3⟩ := h.full hp'
    exact ⟨updB_true q1, updB_true q2, updB_true q3⟩
  · rw [updB_ne (j := 13) (by omega), updB_ne (j := 9) (by omega), updB_ne (j := 11) (by omega), updB_ne (j := 14) (by omega), updV_ne (j := 8) (by omega), updV_ne (j := 9) (by omega), updV_ne (j := 11) (by omega), updV_ne (j := 14) (by omega)]
    exact ⟨v, w1, h1, h2, h3, h4, fun _ => updV_eq, h6, h7⟩
theorem J15.m11 (h : J15 W Dd cs ad L vs w') (hp : L 9 = true) : ∃ v, vs 9 = .tuple #[v, .bool true] ∧ J15 W Dd cs ad (updB L 11) (updV vs 11 (.bool true)) w' := by
  have hp' : L 8 = true := h.sure (by omega) (by omega) hp
  obtain ⟨v, w1, h1, h2, h3, h4, h5, h6, h7⟩ := h.yes hp'
  refine ⟨v, h4 hp, fun i hi hL => ?_, fun h15 => ?_, ?_, fun h15 => ?_, fun h15 => ?_⟩
  · rw [updV_ne (by omega)]
    exact h.pre i hi (by rwa [updB_ne (by omega)] at hL)
  · rw [updB_ne (by omega), hp'] at h15
    cases h15
  · rw [updB_ne (j := 1) (by omega), updB_ne (j := 2) (by omega), updB_ne (j := 3) (by omega), updB_ne (j := 4) (by omega), updB_ne (j := 5) (by omega), updB_ne (j := 6) (by omega)]
    exact h.deps
  · obtain ⟨q1, q2, q3⟩ := h.full hp'
    exact ⟨updB_true q1, updB_true q2, updB_true q3⟩
  · rw [updB_ne (j := 13) (by omega), updB_ne (j := 9) (by omega), updB_ne (j := 10) (by omega), updB_ne (j := 14) (by omega), updV_ne (j := 8) (by omega), updV_ne (j := 9) (by omega), updV_ne (j := 10) (by omega), updV_ne (j := 14) (by omega)]
    exact ⟨v, w1, h1, h2, h3, h4, h5, fun _ => updV_eq, h7⟩
theorem J15.m14 (h : J15 W Dd cs ad L vs w') (hp : L 11 = true) : vs 11 = .bool true ∧ J15 W Dd cs ad (updB L 14) (updV vs 14 (.bool true)) w' := by
  have hp' : L 8 = true := h.sure (by omega) (by omega) hp
  obtain ⟨v, w1, h1, h2, h3, h4, h5, h6, h7⟩ := h.yes hp'
  refine ⟨h6 hp, fun i hi hL => ?_, fun h15 => ?_, ?_, fun h15 => ?_, fun h15 => ?_⟩
  · rw [updV_ne (by omega)]
    exact h.pre i hi (by rwa [updB_ne (by omega)] at hL)
  · rw [updB_ne (by omega), hp'] at h15
    cases h15
  · rw [updB_ne (j := 1) (by omega), updB_ne (j := 2) (by omega), updB_ne (j := 3) (by omega), updB_ne (j := 4) (by omega), updB_ne (j := 5) (by omega), updB_ne (j := 6) (by omega)]
    exact h.deps
  · obtain ⟨q1, q2, q3⟩ := h.full hp'
    exact ⟨updB_true q1, updB_true q2, updB_true q3⟩
  · rw [updB_ne (j := 13) (by omega), updB_ne (j := 9) (by omega), updB_ne (j := 10) (by omega), updB_ne (j := 11) (by omega), updV_ne (j := 8) (by omega), updV_ne (j := 9) (by omega), updV_ne (j := 10) (by omega), updV_ne (j := 11) (by omega)]
    exact ⟨v, w1, h1, h2, h3, h4, h5, h6, fun _ => updV_eq⟩
theorem J15.m13 (h : J15 W Dd cs ad L vs w') (hp : L 10 = true) (hL : L 13 = false) : ∃ v w1, Dd v w1 ∧ w' = w1 ∧ vs 10 = v ∧ ∀ u, J15 W Dd cs ad (updB L 13) (updV vs 13 u) (w1.setCell ad v) := by
  have hp' := h.sure (by omega) (by omega) hp
  obtain ⟨v, w1, h1, h2, h3, h4, h5, h6, h7⟩ := h.yes hp'
  rw [hL, if_neg (by simp)] at h2
  refine ⟨v, w1, h1, h2, h5 hp, fun u => ⟨fun i hi hL => ?_, fun h15 => ?_, ?_, fun h15 => ?_, fun h15 => ?_⟩⟩
  · rw [updV_ne (by omega)]
    exact h.pre i hi (by rwa [updB_ne (by omega)] at hL)
  · rw [updB_ne (by omega), hp'] at h15
    cases h15
  · rw [updB_ne (j := 1) (by omega), updB_ne (j := 2) (by omega), updB_ne (j := 3) (by omega), updB_ne (j := 4) (by omega), updB_ne (j := 5) (by omega), updB_ne (j := 6) (by omega)]
    exact h.deps
  · obtain ⟨q1, q2, q3⟩ := h.full hp'
    exact ⟨updB_true q1, updB_true q2, updB_true q3⟩
  · rw [updB_eq, updB_ne (j := 9) (by omega), updB_ne (j := 10) (by omega), updB_ne (j := 11) (by omega), updB_ne (j := 14) (by omega), updV_ne (j := 8) (by omega), updV_ne (j := 9) (by omega), updV_ne (j := 10) (by omega), updV_ne (j := 11) (by omega), updV_ne (j := 14) (by omega)]
    exact ⟨v, w1, h1, by rw [if_pos rfl], h3, h4, h5, h6, h7⟩
theorem J15.fin (h : J15 W Dd cs ad L vs w') (hA : ∀ i, i < 15 → L i = true) : ∃ v w1, Dd v w1 ∧ w' = w1.setCell ad v ∧ vs 14 = .bool true := by
  obtain ⟨v, w1, h1, h2, h3, h4, h5, h6, h7⟩ := h.yes (hA 8 (by omega))
  exact ⟨v, w1, h1, by rw [h2, if_pos (hA 13 (by omega))], h7 (hA 14 (by omega))⟩
end Go.Proofs.Ytmghkkaoblkmpaa

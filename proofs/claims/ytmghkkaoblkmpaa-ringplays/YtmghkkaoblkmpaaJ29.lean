/- Contracts of the program's functions, part 29: own work, joined in build order. -/
import Derived.Test.YtmghkkaoblkmpaaJ28
import Derived.RangeFuncCalls
namespace Go.Proofs.Ytmghkkaoblkmpaa
open Go.RowKit
set_option maxRecDepth 100000
set_option linter.unusedVariables false
theorem run_valF {P : Program} {l n : Nat} {ops : Array Oper} {Q : Exit → Act → World → Prop} {K : Act → World → Prop} {o : Oper} {a : Act} {w w' : World} {X : Prop} {v : Value} (hw : Region.wanted o (yielded ops a.tmps) = true) (hnd : ∀ c, o.op ≠ .defer c) (hr : (execOp a.eval o).run P w = .ok (.value v) w') (h : K (a.put o.dst v) w') : if Region.wanted o (yielded ops a.tmps) then o.wpIn (Fence.wide.inRound l) n P a w K Q else X := by
  rw [if_pos hw]
  refine ⟨fun _ _ => trivial, ?_⟩
  show o.uponIn _ n P a K Q ((Oper.semAt (some l) a.eval o).run P w)
  rw [Oper.semAt_some l _ _ hnd, hr]
  exact h
theorem run_unitF {P : Program} {l n : Nat} {ops : Array Oper} {Q : Exit → Act → World → Prop} {K : Act → World → Prop} {o : Oper} {a : Act} {w w' : World} {X : Prop} (hw : Region.wanted o (yielded ops a.tmps) = true) (hnd : ∀ c, o.op ≠ .defer c) (hr : (execOp a.eval o).run P w = .ok .skip w') (h : K (a.put o.dst undef) w') : if Region.wanted o (yielded ops a.tmps) then o.wpIn (Fence.wide.inRound l) n P a w K Q else X := by
  rw [if_pos hw]
  refine ⟨fun _ _ => trivial, ?_⟩
  show o.uponIn _ n P a K Q ((Oper.semAt (some l) a.eval o).run P w)
  rw [Oper.semAt_some l _ _ hnd, hr]
  exact h
theorem run_callF {P : Program} {l n : Nat} {ops : Array Oper} {Q : Exit → Act → World → Prop} {K : Act → World → Prop} {o : Oper} {a : Act} {w : World} {X : Prop} {f : FuncId} {args : Array Value} {R : Ending → World → Prop} (hw : Region.wanted o (yielded ops a.tmps) = true) (hnd : ∀ c, o.op ≠ .defer c) (hr : (execOp a.eval o).run P w = .ok (.enter f args) w) (hc : Calls P f args w R) (h : ∀ e w', R e w' → ∃ v, e = .returned v ∧ K (a.put o.dst v) w') : if Region.wanted o (yielded ops a.tmps) then o.wpIn (Fence.wide.inRound l) n P a w K Q else X := by
  rw [if_pos hw]
  refine ⟨fun _ _ => trivial, ?_⟩
  show o.uponIn _ n P a K Q ((Oper.semAt (some l) a.eval o).run P w)
  rw [Oper.semAt_some l _ _ hnd, hr]
  refine ⟨fun h => (by cases h), ?_⟩
  refine CallsIn.mono (CallsIn.inRound l (callsIn_wide.2 hc)) fun e w'' he => ?_
  obtain ⟨v, rfl, hk⟩ := h e w'' he
  exact hk
theorem Fr.slot {ops : Array Oper} {a0 a : Act} {L : Nat → Bool} {vs : Nat → Value} (h : Fr ops a0 L vs a) (j t : Nat) (hd : (ops[j]?).bind (·.dst) = some t) (hL : L j = true) : (a.tmps[t]?).getD undef = vs j := by
  cases ho : ops[j]? with
  | none => rw [ho] at hd; cases hd
  | some o =>
    rw [ho] at hd
    have := h.inn j o t ho hL hd
    simpa using this
theorem Fr.old {ops : Array Oper} {a0 a : Act} {L : Nat → Bool} {vs : Nat → Value} (h : Fr ops a0 L vs a) (t : Nat) (hd : ops.toList.all (fun o => o.dst != some t) = true) : (a.tmps[t]?).getD undef = a0.eval (.tmp t) := by
  have e : (a.tmps[t]?).getD undef = a.tmps.getD t undef := by simp
  rw [e]
  refine h.out t fun j o ho _ e => ?_
  have := List.all_eq_true.1 hd o (by have := Array.mem_of_getElem? ho; simpa using this)
  rw [e] at this
  simp at this
/-- Which operations ahead of the call come behind which. -/
def dp18 : List (Nat × Nat) := [(14, 7), (14, 11), (14, 13), (7, 6), (6, 3), (6, 5), (5, 4), (3, 2), (11, 10), (10, 9), (9, 8), (13, 12)]
/-- Behind and ahead of the call in ranged's region that steps. -/
structure J18 (W : World) (Dd : Value → World → Prop) (cs : List Value) (b1 : Nat) (L : Nat → Bool) (vs : Nat → Value) (w' : World) : Prop where
  pre : ∀ j, j < 15 → L j = true → vs j = cs.getD j undef
  no : L 15 = false → w' = W ∧ ∀ j, 15 < j → L j = false
  deps : ∀ p ∈ dp18, L p.1 = true → L p.2 = true
  full : L 15 = true → ∀ j, j < 15 → L j = true
  yes : L 15 = true → ∃ v w1, Dd v w1 ∧ w' = (if L 19 = true then w1.setCell ⟨b1, 0, none⟩ v else w1) ∧ vs 15 = .tuple #[v, .bool true] ∧ (L 16 = true → vs 16 = .tuple #[v, .bool true]) ∧ (L 17 = true → vs 17 = v) ∧ (L 18 = true → vs 18 = .bool true) ∧ (L 20 = true → vs 20 = .bool true)
theorem updB_ne {L : Nat → Bool} {i j : Nat} (h : j ≠ i) : updB L i j = L j := by simp [updB, h]
theorem updB_eq {L : Nat → Bool} {i : Nat} : updB L i i = true := by simp [updB]
theorem updV_ne {vs : Nat → Value} {i j : Nat} {v : Value} (h : j ≠ i) : updV vs i v j = vs j := by simp [updV, h]
theorem updV_eq {vs : Nat → Value} {i : Nat} {v : Value} : updV vs i v i = v := by simp [updV]
variable {W w' : World} {Dd : Value → World → Prop} {cs : List Value} {b1 : Nat} {L : Nat → Bool} {vs : Nat → Value}
theorem dp_lt (p : Nat × Nat) (h : p ∈ dp18) : p.1 < 15 ∧ p.2 < 15 := by
  have : ∀ p ∈ dp18, p.1 < 15 ∧ p.2 < 15 := by decide
  exact this p h
theorem J18.start : J18 W Dd cs b1 (fun _ => false) (fun _ => undef) W := ⟨fun _ _ h => (by cases h), fun _ => ⟨rfl, fun _ _ => rfl⟩, fun _ _ h => (by cases h), fun h => (by cases h), fun h => (by cases h)⟩
theorem J18.ahead (h : J18 W Dd cs b1 L vs w') {j : Nat} (hj : j < 15) (hp : L j = false) : w' = W := by
  cases e : L 15
  · exact (h.no e).1
  · rw [h.full e j hj] at hp
    cases hp
theorem J18.all15 (h : J18 W Dd cs b1 L vs w') (h0 : L 0 = true) (h1 : L 1 = true) (h14 : L 14 = true) : ∀ j, j < 15 → L j = true := by
  have d := h.deps
  simp only [dp18, List.forall_mem_cons] at d
  obtain ⟨d1, d2, d3, d4, d5, d6, d7, d8, d9, d10, d11, d12, _⟩ := d
  have e7 := d1 h14
  have e11 := d2 h14
  have e13 := d3 h14
  have e6 := d4 e7
  have e3 := d5 e6
  have e5 := d6 e6
  have e4 := d7 e5
  have e2 := d8 e3
  have e10 := d9 e11
  have e9 := d10 e10
  have e8 := d11 e9
  have e12 := d12 e13
  intro j hj
  rcases j with _ | _ | _ | _ | _ | _ | _ | _ | _ | _ | _ | _ | _ | _ | _ | j <;> first | assumption | omega
theorem J18.early (h : J18 W Dd cs b1 L vs w') {j : Nat} (hj : j < 15) {v : Value} (hv : v = cs.getD j undef) (hdj : (dp18.filter (·.1 == j)).all (fun p => L p.2) = true) : J18 W Dd cs b1 (updB L j) (updV vs j v) w' := by
  refine ⟨fun i hi hL => ?_, fun h15 => ?_, fun p hp h1 => ?_, fun h15 i hi => ?_, fun h15 => ?_⟩
  · by_cases e : i = j
    · subst e
      rw [updV_eq, hv]
    · rw [updV_ne e]
      exact h.pre i hi (by rwa [updB_ne e] at hL)
  · rw [updB_ne (by omega)] at h15
    exact ⟨(h.no h15).1, fun i hi => by rw [updB_ne (by omega)]; exact (h.no h15).2 i hi⟩
  · have h2 : L p.2 = true := by
      by_cases e : p.1 = j
      · exact List.all_eq_true.1 hdj p (List.mem_filter.2 ⟨hp, by simp [e]⟩)
      · rw [updB_ne e] at h1
        exact h.deps p hp h1
    unfold updB
    split
    · rfl
    · exact h2
  · rw [updB_ne (by omega)] at h15
    have := h.full h15 i hi
    unfold updB
    split
    · rfl
    · exact this
  · rw [updB_ne (by omega)] at h15
    rw [updB_ne (by omega), updB_ne (by omega), updB_ne (by omega), updB_ne (by omega), updB_ne (by omega), updV_ne (by omega), updV_ne (by omega), updV_ne (by omega), updV_ne (by omega), updV_ne (by omega)]
    exact h.yes h15
theorem J18.call (h : J18 W Dd cs b1 L vs w') (hL : L 15 = false) (hA : ∀ j, j < 15 → L j = true) {v : Value} {w1 : World} (hD : Dd v w1) : J18 W Dd cs b1 (updB L 15) (updV vs 15 (.tuple #[v, .bool true])) w1 := by
  have hn := (h.no hL).2
  refine ⟨fun i hi hL => ?_, fun h15 => ?_, fun p hp h1 => ?_, fun h15 i hi => ?_, fun h15 => ?_⟩
  · rw [updV_ne (by omega)]
    exact h.pre i hi (by rwa [updB_ne (by omega)] at hL)
  · rw [updB_eq] at h15
    cases h15
  · have := dp_lt p hp
    rw [updB_ne (by omega)] at h1 ⊢
    exact h.deps p hp h1
  · rw [updB_ne (by omega)]
    exact hA i hi
  · rw [updB_ne (by omega), updB_ne (by omega), updB_ne (by omega), updB_ne (by omega), updB_ne (by omega), hn 16 (by omega), hn 17 (by omega), hn 18 (by omega), hn 19 (by omega), hn 20 (by omega)]
    exact ⟨v, w1, hD, by simp, updV_eq, fun h => (by cases h), fun h => (by cases h), fun h => (by cases h), fun h => (by cases h)⟩
theorem J18.sure (h : J18 W Dd cs b1 L vs w') {j : Nat} (hj : 15 < j) (hL : L j = true) : L 15 = true := by
  cases e : L 15
  · rw [(h.no e).2 j hj] at hL
    cases hL
  · rfl
theorem J18.m16 (h : J18 W Dd cs b1 L vs w') (hp : L 15 = true) : ∃ v, vs 15 = .tuple #[v, .bool true] ∧ J18 W Dd cs b1 (updB L 16) (updV vs 16 (.tuple #[v, .bool true])) w' := by
  obtain ⟨v, w1, h1, h2, h3, h4, h5, h6, h7⟩ := h.yes hp
  refine ⟨v, h3, fun i hi hL => ?_, fun h15 => ?_, fun p hq h1 => ?_, fun h15 i hi => ?_, fun h15 => ?_⟩
  · rw [updV_ne (by omega)]
    exact h.pre i hi (by rwa [updB_ne (by omega)] at hL)
  · rw [updB_ne (by omega), hp] at h15
    cases h15
  · have := dp_lt p hq
    rw [updB_ne (by omega)] at h1 ⊢
    exact h.deps p hq h1
  · rw [updB_ne (by omega)]
    exact h.full hp i hi
  · rw [updB_ne (j := 19) (by omega), updB_ne (j := 17) (by omega), updB_ne (j := 18) (by omega), updB_ne (j := 20) (by omega), updV_ne (j := 15) (by omega), updV_ne (j := 17) (by omega), updV_ne (j := 18) (by omega), updV_ne (j := 20) (by omega)]
    exact ⟨v, w1, h1, h2, h3, fun _ => updV_eq, h5, h6, h7⟩
theorem J18.m17 (h : J18 W Dd cs b1 L vs w') (hp : L 16 = true) : ∃ v, vs 16 = .tuple #[v, .bool true] ∧ J18 W Dd cs b1 (updB L 17) (updV vs 17 v) w' := by
  have hp' := h.sure (by omega) hp
  obtain ⟨v, w1, h1, h2, h3, h4, h5, h6, h7⟩ := h.yes hp'
  refine ⟨v, h4 hp, fun i hi hL => ?_, fun h15 => ?_, fun p hq h1 => ?_, fun h15 i hi => ?_, fun h15 => ?_⟩
  · rw [updV_ne (by omega)]
    exact h.pre i hi (by rwa [updB_ne (by omega)] at hL)
  · rw [updB_ne (by omega), hp'] at h15
    cases h15
  · have := dp_lt p hq
    rw [updB_ne (by omega)] at h1 ⊢
    exact h.deps p hq h1
  · rw [updB_ne (by omega)]
    exact h.full hp' i hi
  · rw [updB_ne (j := 19) (by omega), updB_ne (j := 16) (by omega), updB_ne (j := 18) (by omega), updB_ne (j := 20) (by omega), updV_ne (j := 15) (by omega), updV_ne (j := 16) (by omega), updV_ne (j := 18) (by omega), updV_ne (j := 20) (by omega)]
    exact ⟨v, w1, h1, h2, h3, h4, fun _ => updV_eq, h6, h7⟩
theorem J18.m18 (h : J18 W Dd cs b1 L vs w') (hp : L 16 = true) : ∃ v, vs 16 = .tuple #[v, .bool true] ∧ J18 W Dd cs b1 (updB L 18) (updV vs 18 (.bool true)) w' := by
  have hp' := h.sure (by omega) hp
  obtain ⟨v, w1, h1, h2, h3, h4, h5, h6, h7⟩ := h.yes hp'
  refine ⟨v, h4 hp, fun i hi hL => ?_, fun h15 => ?_, fun p hq h1 => ?_, fun h15 i hi => ?_, fun h15 => ?_⟩
  · rw [updV_ne (by omega)]
    exact h.pre i hi (by rwa [updB_ne (by omega)] at hL)
  · rw [updB_ne (by omega), hp'] at h15
    cases h15
  · have := dp_lt p hq
    rw [updB_ne (by omega)] at h1 ⊢
    exact h.deps p hq h1
  · rw [updB_ne (by omega)]
    exact h.full hp' i hi
  · rw [updB_ne (j := 19) (by omega), updB_ne (j := 16) (by omega), updB_ne (j := 17) (by omega), updB_ne (j := 20) (by omega), updV_ne (j := 15) (by omega), updV_ne (j := 16) (by omega), updV_ne (j := 17) (by omega), updV_ne (j := 20) (by omega)]
    exact ⟨v, w1, h1, h2, h3, h4, h5, fun _ => updV_eq, h7⟩
theorem J18.m19 (h : J18 W Dd cs b1 L vs w') (hp : L 17 = true) (hL : L 19 = false) : ∃ v w1, Dd v w1 ∧ w' = w1 ∧ vs 17 = v ∧ ∀ u, J18 W Dd cs b1 (updB L 19) (updV vs 19 u) (w1.setCell ⟨b1, 0, none⟩ v) := by
  have hp' := h.sure (by omega) hp
  obtain ⟨v, w1, h1, h2, h3, h4, h5, h6, h7⟩ := h.yes hp'
  rw [hL, if_neg (by simp)] at h2
  refine ⟨v, w1, h1, h2, h5 hp, fun u => ⟨fun i hi hL => ?_, fun h15 => ?_, fun p hq h1 => ?_, fun h15 i hi => ?_, fun h15 => ?_⟩⟩
  · rw [updV_ne (by omega)]
    exact h.pre i hi (by rwa [updB_ne (by omega)] at hL)
  · rw [updB_ne (by omega), hp'] at h15
    cases h15
  · have := dp_lt p hq
    rw [updB_ne (by omega)] at h1 ⊢
    exact h.deps p hq h1
  · rw [updB_ne (by omega)]
    exact h.full hp' i hi
  · rw [updB_eq, updB_ne (by omega), updB_ne (by omega), updB_ne (by omega), updB_ne (by omega), updV_ne (by omega), updV_ne (by omega), updV_ne (by omega), updV_ne (by omega), updV_ne (by omega)]
    exact ⟨v, w1, h1, by rw [if_pos rfl], h3, h4, h5, h6, h7⟩
theorem J18.m20 (h : J18 W Dd cs b1 L vs w') (hp : L 18 = true) : vs 18 = .bool true ∧ J18 W Dd cs b1 (updB L 20) (updV vs 20 (.bool true)) w' := by
  have hp' := h.sure (by omega) hp
  obtain ⟨v, w1, h1, h2, h3, h4, h5, h6, h7⟩ := h.yes hp'
  refine ⟨h6 hp, fun i hi hL => ?_, fun h15 => ?_, fun p hq h1 => ?_, fun h15 i hi => ?_, fun h15 => ?_⟩
  · rw [updV_ne (by omega)]
    exact h.pre i hi (by rwa [updB_ne (by omega)] at hL)
  · rw [updB_ne (by omega), hp'] at h15
    cases h15
  · have := dp_lt p hq
    rw [updB_ne (by omega)] at h1 ⊢
    exact h.deps p hq h1
  · rw [updB_ne (by omega)]
    exact h.full hp' i hi
  · rw [updB_ne (j := 19) (by omega), updB_ne (j := 16) (by omega), updB_ne (j := 17) (by omega), updB_ne (j := 18) (by omega), updV_ne (j := 15) (by omega), updV_ne (j := 16) (by omega), updV_ne (j := 17) (by omega), updV_ne (j := 18) (by omega)]
    exact ⟨v, w1, h1, h2, h3, h4, h5, h6, fun _ => updV_eq⟩
theorem J18.fin (h : J18 W Dd cs b1 L vs w') (hA : ∀ i, i < 21 → L i = true) : ∃ v w1, Dd v w1 ∧ w' = w1.setCell ⟨b1, 0, none⟩ v ∧ vs 20 = .bool true := by
  obtain ⟨v, w1, h1, h2, h3, h4, h5, h6, h7⟩ := h.yes (hA 15 (by omega))
  exact ⟨v, w1, h1, by rw [h2, if_pos (hA 19 (by omega))], h7 (hA 20 (by omega))⟩
end Go.Proofs.Ytmghkkaoblkmpaa

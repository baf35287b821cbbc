/- Contracts of the program's functions, part 3: own work, joined in build order. -/
import Derived.Test.YtmghkkaoblkmpaaJ2
namespace Go.Proofs.Ytmghkkaoblkmpaa
open Go.RowKit
set_option maxRecDepth 100000
set_option linter.unusedVariables false
abbrev RI (w : World) (r g N f c : Nat) (xs : List Int) : Prop := Rw (Value.int .i64) (0 : Int) 60 3 w r g N f c xs
set_option maxHeartbeats 1000000 in
theorem indexI_any (r g N f c : Nat) (xs : List Int) (i : Int) (k : Nat) (w : World) (h : RI w r g N f c xs) (hN : 0 < N) (hi : -1 ≤ i) (hi2 : i ≤ N) (hk : k < N) (e : ((k : Nat) : Int) = ((f : Int) + i) % (N : Int)) :
    Calls Try.prog 46 #[.pointer (some ⟨r, 0, none⟩), .int .i64 i] w fun e w' => e = .returned (.int .i64 (k : Int)) ∧ ∃ n, w' = w.drewN n := by
  have c0 := h.c0 hN
  have c1 := h.c1
  have hf := h.fl hN
  have hl := h.lim
  obtain ⟨p, hp⟩ := h.pow hN
  have hp40 : p + 2 ≤ 40 := by
    rcases Nat.lt_or_ge 40 (p + 2) with h' | h'
    · have : 2 ^ 41 ≤ 2 ^ (p + 2) := Nat.pow_le_pow_right (by decide) h'
      omega
    · exact h'
  have hm := i64_mask ((f : Int) + i) (p + 2) hp40 ((N : Int) - 1) (by rw [hp])
  rw [← hp, ← e] at hm
  have HH : Hid (RI w r g N f c xs) := h
  clear h hp hp40 e
  go_enter Try.func46, Try.ntmps46
  go_wp2_with fail
  go_quiet (fail)
  go_wp2_with fail
  go_ret
  exact ⟨rfl, nq, rfl⟩
set_option maxHeartbeats 1000000 in
theorem emptyI_any (r g N f c : Nat) (xs : List Int) (i : Nat) (w : World) (h : RI w r g N f c xs) (hi : i < N) :
    Calls Try.prog 60 #[.pointer (some ⟨r, 0, none⟩), .int .i64 (i : Int)] w fun e w' => e = .returned (.tuple #[]) ∧ RI w' r g N f c (xs.set i (0 : Int)) ∧ Chg w w' r g := by
  have hN : 0 < N := by omega
  have c0 := h.c0 hN
  have hf := h.fl hN
  have hl := h.lim
  have hne := h.ne hN
  obtain ⟨k, ek⟩ : ∃ k, k = (f + i) % N := ⟨_, rfl⟩
  have hk : k < N := by rw [ek]; exact Nat.mod_lt _ hN
  have ck := h.at hi
  have fk := h.fg hN k
  rw [← ek] at ck
  have IX := fun w' nd (e : w' = w.drewN nd) => indexI_any r g N f c xs (i : Int) k w' (by rw [e]; exact h.of_blocks rfl rfl) hN (by omega) (by omega) hk (by rw [ek]; simp)
  have FI : ∀ nd, RI ((w.drewN nd).setCell ⟨g, k, none⟩ (.int .i64 0)) r g N f c (xs.set i (0 : Int)) ∧ Chg w ((w.drewN nd).setCell ⟨g, k, none⟩ (.int .i64 0)) r g := fun nd => by
    refine ⟨?_, ((Chg.refl w r g).drewN nd).setG k _⟩
    have := (show RI (w.drewN nd) r g N f c xs from h.of_blocks rfl rfl).set hi (0 : Int) (ys := xs.set i (0 : Int)) (by simpa using h.len) (fun j hj => by
      rcases Nat.lt_or_ge i xs.length with e | e
      · exact getD_set _ _ _ _ e j
      · rw [List.set_eq_of_length_le e]
        split
        · rename_i e2
          subst e2
          simp [e]
        · rfl)
    rw [← ek] at this
    exact this
  have FH : Hid _ := FI
  have IH : Hid _ := IX
  clear h ek FI IX
  go_enter Try.func60, Try.ntmps60
  go_wp2_with fail
  go_region_held3 (fun w' => w'.cell? ⟨r, 0, none⟩ = some (.slice (some ⟨g, 0, none⟩) N N)) (first | (simp [go_sem, *]; done) | (trace_state; fail))
    (first
      | (go_at_call 46; refine Calls.mono (IH.out _ _ rfl) ?_; rintro e w1 ⟨rfl, n, rfl⟩))
  go_wp2_with fail
  refine bodyPost_end (v := .tuple #[]) (by simp [results, Try.results60, go_sem]) rfl ⟨rfl, FH.out _⟩
theorem emptyI_at (r g N f c : Nat) (xs : List Int) (j : Nat) (i : Int) (w : World) (h : RI w r g N f c xs) (hi : i = j) (hj : j < N) :
    Calls Try.prog 60 #[.pointer (some ⟨r, 0, none⟩), .int .i64 i] w fun e w' => e = .returned (.tuple #[]) ∧ RI w' r g N f c (xs.set j (0 : Int)) ∧ Chg w w' r g := by
  subst hi
  exact emptyI_any r g N f c xs j w h hj
end Go.Proofs.Ytmghkkaoblkmpaa

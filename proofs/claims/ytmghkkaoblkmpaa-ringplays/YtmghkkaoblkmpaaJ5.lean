/- Contracts of the program's functions, part 5: own work, joined in build order. -/
import Derived.Test.YtmghkkaoblkmpaaJ4
namespace Go.Proofs.Ytmghkkaoblkmpaa
open Go.RowKit
set_option maxRecDepth 100000
set_option linter.unusedVariables false
set_option maxHeartbeats 1000000 in
theorem moveI_any (r g N f c m : Nat) (xs : List Int) (w : World) (h : RI w r g N f c xs) (hc : xs.length = c) (hm : c ≤ m) (hp : ∃ k, m = 2 ^ (k + 2)) (hm2 : m ≤ 1099511627776) :
    Calls Try.prog 58 #[.pointer (some ⟨r, 0, none⟩), .int .i64 (m : Int)] w fun e w' => e = .returned (.tuple #[]) ∧ RI w' r w.heap.size m 0 c xs ∧ Chg w w' r r := by
  have HH : Hid (RI w r g N f c xs ∧ xs.length = c ∧ c ≤ m ∧ (∃ k, m = 2 ^ (k + 2)) ∧ m ≤ 1099511627776) := ⟨h, hc, hm, hp, hm2⟩
  clear h hc hm hp hm2
  go_enter Try.func58, Try.ntmps58
  go_wp2_with fail
  refine (rowI_any r g N f c m xs _ HH.out.1 HH.out.2.1 HH.out.2.2.1 HH.out.2.2.2.2).mono ?_
  rintro e w1 ⟨rfl, h1, h2⟩
  obtain ⟨h, hc, hm, hp, hm2⟩ := HH.out
  have x := h.mono h2
  have c0 := x.hd.cell (i := 0) (by omega)
  have c1 := x.c1
  have f0 := x.fz 0
  have f1 := x.fz 1
  have FF : Hid _ := h.moved h2 (Nat.le_refl _) h1 (by omega) (by omega) hp hm2
  clear h1 h2 x h hc hm hp hm2
  go_wp2_with fail
  exact bodyPost_end (v := .tuple #[]) (by simp [results, Try.results58, go_sem]) rfl ⟨rfl, FF.out⟩
/-- What a call leaves that turns the ring r (its places lay at g) into one of xs. -/
def RingsI (w : World) (r g : Nat) (xs : List Int) (w' : World) : Prop := ∃ g' N' f', RI w' r g' N' f' xs.length xs ∧ Chg w w' r g ∧ (g' = g ∨ g' = r ∨ w.heap.size ≤ g')
theorem RingsI.intro {w w' : World} {r g : Nat} {xs : List Int} {g' N' f' : Nat} (h : RI w' r g' N' f' xs.length xs) (k : Chg w w' r g) (e : g' = g ∨ g' = r ∨ w.heap.size ≤ g') : RingsI w r g xs w' := ⟨g', N', f', h, k, e⟩
set_option maxHeartbeats 1000000 in
theorem widenI_any (r g N f : Nat) (xs : List Int) (w : World) (h : RI w r g N f xs.length xs) (hx : xs.length ≤ 4294967296) :
    Calls Try.prog 45 #[.pointer (some ⟨r, 0, none⟩)] w fun e w' => e = .returned (.tuple #[]) ∧ ∃ g' N' f', RI w' r g' N' f' xs.length xs ∧ Chg w w' r g ∧ (g' = g ∨ g' = r ∨ w.heap.size ≤ g') ∧ xs.length < N' := by
  obtain ⟨p, ep⟩ : ∃ p, p = pt g N := ⟨_, rfl⟩
  have c0 : w.cell? ⟨r, 0, none⟩ = some (.slice p N N) := by rw [ep]; exact h.hd.cell (i := 0) (by omega)
  have c2 := h.c2
  have hl := h.lim
  have hcN := h.cl
  obtain ⟨n, en⟩ : ∃ n, n = xs.length := ⟨_, rfl⟩
  rw [← en] at c2 hcN hx
  have HH : Hid (RI w r g N f xs.length xs ∧ n = xs.length) := ⟨h, en⟩
  by_cases e : n = N
  · have hd : ((n : Int) == (N : Int)) = true := by simp <;> omega
    obtain ⟨m, em⟩ : ∃ m, m = max 4 (2 * n) := ⟨_, rfl⟩
    have mx : (if (4 : Int) < 2 * (n : Int) then 2 * (n : Int) else 4) = (m : Int) := by split <;> omega
    have HM : Hid ((∃ k, m = 2 ^ (k + 2)) ∧ n ≤ m ∧ n < m ∧ m ≤ 1099511627776) := by
      refine ⟨?_, by omega, by omega, by omega⟩
      rcases Nat.eq_zero_or_pos N with e0 | e0
      · exact ⟨0, by omega⟩
      · obtain ⟨k, hk⟩ := h.pow e0
        have := h.four e0
        have hk2 : 2 ^ (k + 1 + 2) = 2 ^ (k + 2) * 2 := Nat.pow_succ ..
        exact ⟨k + 1, by rw [hk2, ← hk]; omega⟩
    subst e
    clear h ep em en
    go_enter Try.func45, Try.ntmps45
    go_wp2_with fail
    go_quiet (fail)
    go_wp2_with fail
    refine (moveI_any r g _ f _ m xs (w.drewN nq) (HH.out.1.of_blocks rfl rfl) rfl (by have := HH.out.2; have := HM.out.2.1; omega) HM.out.1 HM.out.2.2.2).mono ?_
    rintro e w1 ⟨rfl, h1, h2⟩
    go_wp2_with fail
    refine bodyPost_end (v := .tuple #[]) (by simp [results, Try.results45, go_sem]) rfl ⟨rfl, _, _, _, h1, ?_, .inr (.inr (Nat.le_refl _)), by have := HH.out.2; have := HM.out.2.2.1; omega⟩
    exact ((Chg.refl w r g).drewN nq).trans h2 (.inr (.inl rfl))
  · have hd : ((n : Int) == (N : Int)) = false := by simp <;> omega
    have HL : Hid (n < N) := by show n < N; omega
    clear h ep en e
    go_enter Try.func45, Try.ntmps45
    go_wp2_with fail
    go_quiet (fail)
    go_wp2_with fail
    exact bodyPost_end (v := .tuple #[]) (by simp [results, Try.results45, go_sem]) rfl ⟨rfl, _, _, _, HH.out.1.of_blocks rfl rfl, (Chg.refl w r g).drewN nq, .inl rfl, by have := HH.out.2; have := HL.out; omega⟩
set_option maxHeartbeats 1000000 in
theorem narrowI_any (r g N f : Nat) (xs : List Int) (w : World) (h : RI w r g N f xs.length xs) :
    Calls Try.prog 53 #[.pointer (some ⟨r, 0, none⟩)] w fun e w' => e = .returned (.tuple #[]) ∧ RingsI w r g xs w' := by
  obtain ⟨p, ep⟩ : ∃ p, p = pt g N := ⟨_, rfl⟩
  have c0 : w.cell? ⟨r, 0, none⟩ = some (.slice p N N) := by rw [ep]; exact h.hd.cell (i := 0) (by omega)
  have c2 := h.c2
  have hl := h.lim
  have hcN := h.cl
  obtain ⟨n, en⟩ : ∃ n, n = xs.length := ⟨_, rfl⟩
  rw [← en] at c2 hcN
  have HH : Hid (RI w r g N f xs.length xs ∧ n = xs.length) := ⟨h, en⟩
  by_cases e4 : 4 < N
  · have hd : decide ((4 : Int) < (N : Int)) = true := decide_eq_true (by omega)
    have hd' : decide (4 < N) = true := decide_eq_true (by omega)
    by_cases e5 : n ≤ N / 4
    · have hd5 : decide ((n : Int) ≤ (N : Int) / 4) = true := decide_eq_true (by omega)
      have hd6 : decide (n ≤ N / 4) = true := decide_eq_true (by omega)
      obtain ⟨m, em⟩ : ∃ m, m = N / 2 := ⟨_, rfl⟩
      have hm : (N : Int) / 2 = (m : Int) := by omega
      have HM : Hid ((∃ k, m = 2 ^ (k + 2)) ∧ n ≤ m ∧ m ≤ 1099511627776) := by
        refine ⟨?_, by omega, by omega⟩
        obtain ⟨k, hk⟩ := h.pow (by omega)
        rcases k with _ | k
        · rw [hk] at e4; omega
        · have hk2 : 2 ^ (k + 1 + 2) = 2 ^ (k + 2) * 2 := Nat.pow_succ ..
          exact ⟨k, by rw [hk2] at hk; omega⟩
      clear h ep em en e4 e5
      go_enter Try.func53, Try.ntmps53
      go_wp2_with fail
      go_quiet (fail)
      go_wp2_with fail
      refine (moveI_any r g _ f _ m xs (w.drewN nq) (HH.out.1.of_blocks rfl rfl) rfl (by have := HH.out.2; have := HM.out.2.1; omega) HM.out.1 HM.out.2.2).mono ?_
      rintro e w1 ⟨rfl, h1, h2⟩
      go_wp2_with fail
      exact bodyPost_end (v := .tuple #[]) (by simp [results, Try.results53, go_sem]) rfl ⟨rfl, RingsI.intro h1 (((Chg.refl w r g).drewN nq).trans h2 (.inr (.inl rfl))) (.inr (.inr (Nat.le_refl _)))⟩
    · have hd5 : decide ((n : Int) ≤ (N : Int) / 4) = false := decide_eq_false (by omega)
      have hd6 : decide (n ≤ N / 4) = false := decide_eq_false (by omega)
      clear h ep en e4 e5
      go_enter Try.func53, Try.ntmps53
      go_wp2_with fail
      go_quiet (fail)
      go_wp2_with fail
      exact bodyPost_end (v := .tuple #[]) (by simp [results, Try.results53, go_sem]) rfl ⟨rfl, RingsI.intro (HH.out.1.of_blocks rfl rfl) ((Chg.refl w r g).drewN nq) (.inl rfl)⟩
  · have hd : decide ((4 : Int) < (N : Int)) = false := decide_eq_false (by omega)
    have hd' : decide (4 < N) = false := decide_eq_false (by omega)
    clear h ep en e4
    go_enter Try.func53, Try.ntmps53
    go_wp2_with fail
    go_quiet (fail)
    go_wp2_with fail
    exact bodyPost_end (v := .tuple #[]) (by simp [results, Try.results53, go_sem]) rfl ⟨rfl, RingsI.intro (HH.out.1.of_blocks rfl rfl) ((Chg.refl w r g).drewN nq) (.inl rfl)⟩
end Go.Proofs.Ytmghkkaoblkmpaa

/- Contracts of the program's functions, part 6: own work, joined in build order. -/
import Derived.Test.YtmghkkaoblkmpaaJ5
namespace Go.Proofs.Ytmghkkaoblkmpaa
open Go.RowKit
set_option maxRecDepth 100000
set_option linter.unusedVariables false
theorem newI_any (w : World) : Calls Try.prog 8 #[] w fun e w' => e = .returned (.pointer (some ⟨w.heap.size, 0, none⟩)) ∧ RI w' w.heap.size w.heap.size 0 0 0 [] ∧ Below w.heap.size w w' := by
  have F : Hid (RI (w.alloc (.cells #[.slice none 0 0, .int .i64 0, .int .i64 0] 60)) w.heap.size w.heap.size 0 0 0 [] ∧ Below w.heap.size w (w.alloc (.cells #[.slice none 0 0, .int .i64 0, .int .i64 0] 60))) := by
    refine ⟨⟨?_, fun h => by omega, fun h => by omega, fun _ => ⟨rfl, rfl⟩, fun h => by omega, Nat.le_refl _, Nat.le_refl _, fun h => by omega, by omega⟩, (Below.refl _ _).alloc (Nat.le_refl _) _⟩
    refine World.rowIs_alloc w #[.slice none 0 0, .int .i64 0, .int .i64 0] 60 _ fun i hi => ?_
    rcases i with _ | _ | _ | i
    · rfl
    · rfl
    · rfl
    · simp at hi
      omega
  go_enter Try.func8, Try.ntmps8
  go_wp2_with fail
  go_ret
  exact ⟨rfl, F.out⟩
theorem lenI_any (r g N f c : Nat) (xs : List Int) (w : World) (h : RI w r g N f c xs) : Calls Try.prog 33 #[.pointer (some ⟨r, 0, none⟩)] w fun e w' => e = .returned (.int .i64 (c : Int)) ∧ w' = w := by
  have c2 := h.c2
  clear h
  go_enter Try.func33, Try.ntmps33
  go_wp2_with fail
  go_ret
  exact ⟨rfl, rfl⟩
theorem hasI_yes (r g N f c : Nat) (xs : List Int) (i : Int) (w : World) (h : RI w r g N f c xs) (h0 : 0 ≤ i) (h1 : i < c) : Calls Try.prog 49 #[.pointer (some ⟨r, 0, none⟩), .int .i64 i] w fun e w' => e = .returned (.bool true) ∧ w' = w := by
  have c2 := h.c2
  have d0 : decide (0 ≤ i) = true := decide_eq_true h0
  have d1 : decide (i < (c : Int)) = true := decide_eq_true h1
  clear h h0 h1
  go_enter Try.func49, Try.ntmps49
  go_wp2_with fail
  go_ret
  exact ⟨rfl, rfl⟩
theorem hasI_no (r g N f c : Nat) (xs : List Int) (i : Int) (w : World) (h : RI w r g N f c xs) (h0 : i < 0 ∨ (c : Int) ≤ i) : Calls Try.prog 49 #[.pointer (some ⟨r, 0, none⟩), .int .i64 i] w fun e w' => e = .returned (.bool false) ∧ w' = w := by
  have c2 := h.c2
  by_cases e : 0 ≤ i
  · have d0 : decide (0 ≤ i) = true := decide_eq_true e
    have d1 : decide (i < (c : Int)) = false := decide_eq_false (by omega)
    clear h h0 e
    go_enter Try.func49, Try.ntmps49
    go_wp2_with fail
    go_ret
    exact ⟨rfl, rfl⟩
  · have d0 : decide (0 ≤ i) = false := decide_eq_false e
    clear h h0 e
    go_enter Try.func49, Try.ntmps49
    go_wp2_with fail
    go_ret
    exact ⟨rfl, rfl⟩
set_option maxHeartbeats 1000000 in
theorem atI_no (r g N f c : Nat) (xs : List Int) (i : Int) (w : World) (h : RI w r g N f c xs) (h0 : i < 0 ∨ (c : Int) ≤ i) : Calls Try.prog 31 #[.pointer (some ⟨r, 0, none⟩), .int .i64 i] w fun e w' => e = .returned (.tuple #[(.int .i64 0), .bool false]) ∧ ∃ n, w' = w.drewN n := by
  have HH : Hid (RI w r g N f c xs ∧ (i < 0 ∨ (c : Int) ≤ i)) := ⟨h, h0⟩
  clear h h0
  go_enter Try.func31, Try.ntmps31
  go_wp2_with fail
  refine (hasI_no r g N f c xs i w HH.out.1 HH.out.2).mono ?_
  rintro e w1 ⟨rfl, e1⟩
  rw [e1]
  go_wp2_with fail
  exact bodyPost_ret (v := .tuple #[(.int .i64 0), .bool false]) (by simp [results, Try.results31, go_sem]) rfl ⟨rfl, 0, rfl⟩
set_option maxHeartbeats 1000000 in
theorem atI_yes (r g N f c : Nat) (xs : List Int) (j : Nat) (i : Int) (w : World) (h : RI w r g N f c xs) (hi : i = j) (h1 : j < c) : Calls Try.prog 31 #[.pointer (some ⟨r, 0, none⟩), .int .i64 i] w fun e w' => e = .returned (.tuple #[Value.int .i64 (xs.getD j (0 : Int)), .bool true]) ∧ ∃ n, w' = w.drewN n := by
  subst hi
  have hcN := h.cl
  have hN : 0 < N := by omega
  have hl := h.lim
  have HH : Hid (RI w r g N f c xs) := h
  obtain ⟨k, ek⟩ : ∃ k, k = (f + j) % N := ⟨_, rfl⟩
  have hk : k < N := by rw [ek]; exact Nat.mod_lt _ hN
  have ck := h.at (i := j) (by omega)
  rw [← ek] at ck
  have c0 := h.c0 hN
  have IX : Hid (∀ nd, Calls Try.prog 46 #[.pointer (some ⟨r, 0, none⟩), .int .i64 (j : Int)] (w.drewN nd) fun e w' => e = .returned (.int .i64 (k : Int)) ∧ ∃ n, w' = (w.drewN nd).drewN n) := fun nd => indexI_any r g N f c xs (j : Int) k (w.drewN nd) (h.of_blocks rfl rfl) hN (by omega) (by omega) hk (by rw [ek]; simp)
  clear h ek
  go_enter Try.func31, Try.ntmps31
  go_wp2_with fail
  refine (hasI_yes r g N f c xs (j : Int) w HH.out (by omega) (by omega)).mono ?_
  rintro e w1 ⟨rfl, e1⟩
  rw [e1]
  clear e1
  go_wp2_with fail
  go_quiet ((go_at_call 46; exact Calls.quiet_of (IX.out _)))
  go_wp2_with fail
  exact bodyPost_ret (v := .tuple #[Value.int .i64 (xs.getD j (0 : Int)), .bool true]) (by simp [results, Try.results31, go_sem]) rfl ⟨rfl, _, rfl⟩
theorem setI_no (r g N f c : Nat) (xs : List Int) (i : Int) (v : Int) (w : World) (h : RI w r g N f c xs) (h0 : i < 0 ∨ (c : Int) ≤ i) : Calls Try.prog 25 #[.pointer (some ⟨r, 0, none⟩), .int .i64 i, Value.int .i64 v] w fun e w' => e = .returned (.bool false) ∧ ∃ n, w' = w.drewN n := by
  have HH : Hid (RI w r g N f c xs ∧ (i < 0 ∨ (c : Int) ≤ i)) := ⟨h, h0⟩
  clear h h0
  go_enter Try.func25, Try.ntmps25
  go_wp2_with fail
  refine (hasI_no r g N f c xs i w HH.out.1 HH.out.2).mono ?_
  rintro e w1 ⟨rfl, e1⟩
  rw [e1]
  go_wp2_with fail
  go_ret
  exact ⟨rfl, 0, rfl⟩
set_option maxHeartbeats 1000000 in
theorem setI_yes (r g N f c : Nat) (xs : List Int) (j : Nat) (i : Int) (v : Int) (w : World) (h : RI w r g N f c xs) (hx : xs.length = c) (hi : i = j) (h1 : j < c) : Calls Try.prog 25 #[.pointer (some ⟨r, 0, none⟩), .int .i64 i, Value.int .i64 v] w fun e w' => e = .returned (.bool true) ∧ RI w' r g N f c (xs.set j v) ∧ Chg w w' r g := by
  subst hi
  have hcN := h.cl
  have hN : 0 < N := by omega
  have hl := h.lim
  have hne := h.ne hN
  have HH : Hid (RI w r g N f c xs) := h
  obtain ⟨k, ek⟩ : ∃ k, k = (f + j) % N := ⟨_, rfl⟩
  have hk : k < N := by rw [ek]; exact Nat.mod_lt _ hN
  have ck := h.at (i := j) (by omega)
  have fk := h.fg hN k
  rw [← ek] at ck
  have c0 := h.c0 hN
  have IX : Hid (∀ nd, Calls Try.prog 46 #[.pointer (some ⟨r, 0, none⟩), .int .i64 (j : Int)] (w.drewN nd) fun e w' => e = .returned (.int .i64 (k : Int)) ∧ ∃ n, w' = (w.drewN nd).drewN n) := fun nd => indexI_any r g N f c xs (j : Int) k (w.drewN nd) (h.of_blocks rfl rfl) hN (by omega) (by omega) hk (by rw [ek]; simp)
  have FH : Hid (∀ nd, RI ((w.drewN nd).setCell ⟨g, k, none⟩ (Value.int .i64 v)) r g N f c (xs.set j v) ∧ Chg w ((w.drewN nd).setCell ⟨g, k, none⟩ (Value.int .i64 v)) r g) := fun nd => by
    refine ⟨?_, ((Chg.refl w r g).drewN nd).setG k _⟩
    have := (show RI (w.drewN nd) r g N f c xs from h.of_blocks rfl rfl).set (i := j) (by omega) v (ys := xs.set j v) (by simpa using h.len) (fun i hi => getD_set _ _ _ _ (by omega) i)
    rw [← ek] at this
    exact this
  clear h ek hx
  go_enter Try.func25, Try.ntmps25
  go_wp2_with fail
  refine (hasI_yes r g N f c xs (j : Int) w HH.out (by omega) (by omega)).mono ?_
  rintro e w1 ⟨rfl, e1⟩
  rw [e1]
  clear e1
  go_wp2_with fail
  go_region_held3 (fun w' => w'.cell? ⟨r, 0, none⟩ = some (.slice (some ⟨g, 0, none⟩) N N)) (first | (simp [go_sem, *]; done) | (trace_state; fail))
    (first
      | (go_at_call 46; refine Calls.mono (IX.out 1) ?_; rintro e w1 ⟨rfl, n, rfl⟩))
  go_wp2_with fail
  go_ret
  exact ⟨rfl, FH.out _⟩
set_option maxHeartbeats 1000000 in
theorem pushBackI_any (r g N f : Nat) (xs : List Int) (v : Int) (w : World) (h : RI w r g N f xs.length xs) (hx : xs.length ≤ 4294967296) :
    Calls Try.prog 17 #[.pointer (some ⟨r, 0, none⟩), Value.int .i64 v] w fun e w' => e = .returned (.tuple #[]) ∧ RingsI w r g (xs ++ [v]) w' := by
  have HW : Hid (RI w r g N f xs.length xs) := h
  clear h
  go_enter Try.func17, Try.ntmps17
  go_wp2_with fail
  refine (widenI_any r g N f xs w HW.out hx).mono ?_
  rintro e w1 ⟨rfl, g1, N1, f1, h1, hg1, hg2, hlt⟩
  clear HW
  have hN : 0 < N1 := by omega
  have hl := h1.lim
  have hne := h1.ne hN
  have c0 := h1.c0 hN
  have c2 := h1.c2
  have f2 := h1.fz 2
  obtain ⟨k, ek⟩ : ∃ k, k = (f1 + xs.length) % N1 := ⟨_, rfl⟩
  have hk : k < N1 := by rw [ek]; exact Nat.mod_lt _ hN
  have ck := h1.at (i := xs.length) hlt
  have fk := h1.fg hN k
  rw [← ek] at ck
  obtain ⟨n, en⟩ : ∃ n, n = xs.length := ⟨_, rfl⟩
  have IX : Hid (∀ nd, Calls Try.prog 46 #[.pointer (some ⟨r, 0, none⟩), .int .i64 (n : Int)] (w1.drewN nd) fun e w' => e = .returned (.int .i64 (k : Int)) ∧ ∃ n, w' = (w1.drewN nd).drewN n) := fun nd => indexI_any r g1 N1 f1 _ xs (n : Int) k (w1.drewN nd) (h1.of_blocks rfl rfl) hN (by omega) (by omega) hk (by rw [ek, en]; simp)
  have FH : Hid (∀ nd, RingsI w r g (xs ++ [v]) (((w1.drewN nd).setCell ⟨g1, k, none⟩ (Value.int .i64 v)).setCell ⟨r, 2, none⟩ (.int .i64 ((n : Int) + 1)))) := fun nd => by
    have h2 := (show RI (w1.drewN nd) r g1 N1 f1 xs.length xs from h1.of_blocks rfl rfl).snoc hlt v
    rw [← ek, ← en] at h2
    exact RingsI.intro h2 (hg1.trans ((((Chg.refl w1 r g1).drewN nd).setG k _).setR 2 _) hg2) hg2
  rw [← en] at c2 hx
  clear h1 hg1 hg2 ek hlt en
  go_wp2_with fail
  go_region_held3 (fun w' => w'.cell? ⟨r, 0, none⟩ = some (.slice (some ⟨g1, 0, none⟩) N1 N1) ∧ w'.cell? ⟨r, 2, none⟩ = some (.int .i64 (n : Int))) (first | (simp [go_sem, *]; done) | (trace_state; fail))
    (first
      | (go_at_call 46; refine Calls.mono (IX.out 1) ?_; rintro e w1 ⟨rfl, n, rfl⟩))
  go_wp2_with fail
  exact bodyPost_end (v := .tuple #[]) (by simp [results, Try.results17, go_sem]) rfl ⟨rfl, FH.out _⟩
end Go.Proofs.Ytmghkkaoblkmpaa

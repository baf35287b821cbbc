/- Contracts of the program's functions, part 9: own work, joined in build order. -/
import Derived.Test.YtmghkkaoblkmpaaJ8
namespace Go.Proofs.Ytmghkkaoblkmpaa
open Go.RowKit
set_option maxRecDepth 100000
set_option linter.unusedVariables false
set_option maxHeartbeats 2000000 in
theorem closeBI_any (r g N f : Nat) (xs : List Int) (i0 : Nat) (w : World) (h : RI w r g N f xs.length xs) (hi : i0 < xs.length) :
    Calls Try.prog 52 #[.pointer (some ⟨r, 0, none⟩), .int .i64 (i0 : Int)] w fun e w' => e = .returned (.tuple #[]) ∧ RI w' r g N f xs.length (xs.eraseIdx i0) ∧ Chg w w' r g := by
  have hcN := h.cl
  have hN : 0 < N := by omega
  have hl := h.lim
  have hf := h.fl hN
  have H0 : Hid (RI w r g N f xs.length xs) := h
  obtain ⟨n, en⟩ : ∃ n, n = xs.length := ⟨_, rfl⟩
  have HE : Hid (n = xs.length) := en
  rw [← en] at hcN hi
  have hne := h.ne hN
  clear h en
  go_enter Try.func52, Try.ntmps52
  go_wp2_with fail
  go_loopw [1] (fun q wr => ∃ (k : Nat) (ys : List Int), i0 ≤ k ∧ k < n ∧ q = .int .i64 (k : Int) ∧ RI wr r g N f xs.length ys ∧ ys.length = xs.length ∧ (∀ j, ys.getD j (0 : Int) = if i0 ≤ j ∧ j < k then xs.getD (j + 1) (0 : Int) else xs.getD j (0 : Int)) ∧ Chg w wr r g) (fun q _ => n - (intOf q).toNat)
  case atStart => exact ⟨i0, xs, Nat.le_refl _, hi, rfl, H0.out, rfl, fun j => by rw [if_neg (by omega)], Chg.refl _ _ _⟩
  case round =>
    obtain ⟨k, ys, hk, hkn, rfl, hR, hyl, hy, hC⟩ := hrel
    have c2 := hR.c2
    have en : xs.length = n := HE.out.symm
    rw [en] at c2
    clear en
    by_cases hk0 : k + 1 < n
    · have hd : decide ((k : Int) < (n : Int) - 1) = true := decide_eq_true (by omega)
      have HI : Hid (n = xs.length) := HE.out
      obtain ⟨a, ea⟩ : ∃ a, a = (f + k) % N := ⟨_, rfl⟩
      obtain ⟨b, eb⟩ : ∃ b, b = (f + (k + 1)) % N := ⟨_, rfl⟩
      have ha : a < N := by rw [ea]; exact Nat.mod_lt _ hN
      have hb : b < N := by rw [eb]; exact Nat.mod_lt _ hN
      have hab : ¬ a = b := fun e => by
        have x1 := pl_at hf (show k < N by omega)
        have x2 := pl_at hf (show k + 1 < N by omega)
        rw [← ea, e, eb, x2] at x1
        omega
      have hba : ¬ b = a := fun e => hab e.symm
      have c0 := hR.c0 hN
      have ca : ∃ x, wr.cell? ⟨g, a, none⟩ = some x := ⟨_, (hR.row hN).cell ha⟩
      obtain ⟨x, ca⟩ := ca
      have fa := hR.fg hN a
      have cb := hR.at (i := k + 1) (by omega)
      rw [← eb] at cb
      obtain ⟨v, ev⟩ : ∃ v, v = ys.getD (k + 1) (0 : Int) := ⟨_, rfl⟩
      rw [← ev] at cb
      have wk : IntKind.i64.wrap ((k : Int) + 1) = (k : Int) + 1 := by rw [IntKind.wrap_i64]; omega
      have IX : Hid (TwoI wr r (k : Int) a ((k : Int) + 1) b) := by
        rintro i p w2 hA (⟨rfl, rfl⟩ | ⟨rfl, rfl⟩)
        · exact indexI_in r g N f _ ys (k : Int) _ _ _ hR hA hN (by omega) (by omega) ha (by rw [ea]; simp)
        · exact indexI_in r g N f _ ys ((k : Int) + 1) _ _ _ hR hA hN (by omega) (by omega) hb (by rw [eb, show (f : Int) + ((k : Int) + 1) = ((f + (k + 1) : Nat) : Int) by omega]; simp)
      have FH : Hid (∀ nd, RI ((wr.drewN nd).setCell ⟨g, a, none⟩ (Value.int .i64 v)) r g N f xs.length (ys.set k v) ∧ (ys.set k v).length = xs.length ∧ (∀ j, (ys.set k v).getD j (0 : Int) = if i0 ≤ j ∧ j < k + 1 then xs.getD (j + 1) (0 : Int) else xs.getD j (0 : Int)) ∧ Chg w ((wr.drewN nd).setCell ⟨g, a, none⟩ (Value.int .i64 v)) r g) := fun nd => by
        have hkl : k < ys.length := by rw [hyl, ← HI.out]; omega
        refine ⟨?_, by simpa using hyl, fun j => ?_, hC.trans (((Chg.refl wr r g).drewN nd).setG a _) (.inl rfl)⟩
        · have := (show RI (wr.drewN nd) r g N f xs.length ys from hR.of_blocks rfl rfl).set (i := k) (by omega) v (ys := ys.set k v) (by simpa using hR.len) (fun i _ => getD_set _ _ _ _ hkl i)
          rw [← ea] at this
          exact this
        · rw [getD_set _ _ _ _ hkl, ev, hy, hy]
          by_cases e : j = k
          · subst e
            rw [if_pos rfl, if_neg (by omega), if_pos (by omega)]
          · rw [if_neg e]
            by_cases e2 : i0 ≤ j ∧ j < k
            · rw [if_pos e2, if_pos (by omega)]
            · rw [if_neg e2, if_neg (by omega)]
      clear hR hyl hy hC ea eb ev
      go_wp2_with fail
      go_region_held3 (fun w' => w'.cell? ⟨r, 0, none⟩ = some (.slice (some ⟨g, 0, none⟩) N N) ∧ w'.cell? ⟨g, b, none⟩ = some (Value.int .i64 v)) (first | (simp [go_sem, *]; done) | (trace_state; fail))
        (first
          | (go_at_call 46; refine Calls.mono (IX.out _ _ _ (by first | assumption | exact Alk.one _) (by first | exact .inl ⟨rfl, rfl⟩ | exact .inr ⟨rfl, rfl⟩)) ?_; rintro e w1 ⟨rfl, hA⟩; have x0 := hA.out.cell c0; have x1 := hA.out.cell ca; have x2 := hA.out.cell cb; have x3 := hA.out.frozen fa))
      all_goals go_wp2_with fail
      all_goals go_roundw
      all_goals first
        | (obtain ⟨nn, rfl⟩ := hA.out; exact ⟨k + 1, _, by omega, by omega, by go_num, FH.out _⟩)
        | (simp [intOf]; omega)
    · have hd : decide ((k : Int) < (n : Int) - 1) = false := decide_eq_false (by omega)
      have HR : Hid (RI wr r g N f xs.length ys ∧ ys.length = xs.length ∧ (∀ j, ys.getD j (0 : Int) = if i0 ≤ j ∧ j < k then xs.getD (j + 1) (0 : Int) else xs.getD j (0 : Int)) ∧ Chg w wr r g ∧ k + 1 = n) := ⟨hR, hyl, hy, hC, by omega⟩
      clear hR hyl hy hC
      go_wp2_with fail
      refine (emptyI_any r g N f _ ys k wr HR.out.1 (by omega)).mono ?_
      rintro e w1 ⟨rfl, h1, hc1⟩
      have FH : Hid (RI w1 r g N f xs.length (xs.eraseIdx i0) ∧ Chg w w1 r g) := by
        obtain ⟨_, hyl, hy, hC, hkn⟩ := HR.out
        have hn := HE.out
        have hle : (xs.eraseIdx i0).length + 1 = xs.length := by rw [List.length_eraseIdx, if_pos (by omega)]; omega
        refine ⟨h1.congr (by omega) fun j hj => ?_, hC.trans hc1 (.inl rfl)⟩
        rw [getD_set _ _ _ _ (by omega), hy, getD_erase]
        by_cases e : j = k
        · rw [if_pos e, if_neg (by omega), getD_far _ _ (by omega)]
        · rw [if_neg e]
          by_cases e2 : j < i0
          · rw [if_neg (by omega), if_pos e2]
          · rw [if_neg e2]
            by_cases e3 : j < k
            · rw [if_pos (by omega)]
            · rw [if_neg (by omega), getD_far _ _ (by omega), getD_far _ _ (by omega)]
      clear h1 hc1
      go_wp2_with fail
      exact bodyPost_end (v := .tuple #[]) (by simp [results, Try.results52, go_sem]) rfl ⟨rfl, FH.out⟩
set_option maxHeartbeats 1000000 in
theorem takeI_no (r g N f c : Nat) (xs : List Int) (i : Int) (w : World) (h : RI w r g N f c xs) (h0 : i < 0 ∨ (c : Int) ≤ i) : Calls Try.prog 27 #[.pointer (some ⟨r, 0, none⟩), .int .i64 i] w fun e w' => e = .returned (.tuple #[(.int .i64 0), .bool false]) ∧ ∃ n, w' = w.drewN n := by
  have HH : Hid (RI w r g N f c xs ∧ (i < 0 ∨ (c : Int) ≤ i)) := ⟨h, h0⟩
  clear h h0
  go_enter Try.func27, Try.ntmps27
  go_wp2_with fail
  refine (atI_no r g N f c xs i w HH.out.1 HH.out.2).mono ?_
  rintro e w1 ⟨rfl, nd, rfl⟩
  go_wp2_with fail
  exact bodyPost_ret (v := .tuple #[(.int .i64 0), .bool false]) (by simp [results, Try.results27, go_sem]) rfl ⟨rfl, nd, rfl⟩
set_option maxHeartbeats 1000000 in
theorem takeI_yes (r g N f : Nat) (xs : List Int) (j : Nat) (i : Int) (w : World) (h : RI w r g N f xs.length xs) (hi : i = j) (h1 : j < xs.length) : Calls Try.prog 27 #[.pointer (some ⟨r, 0, none⟩), .int .i64 i] w fun e w' => e = .returned (.tuple #[Value.int .i64 (xs.getD j (0 : Int)), .bool true]) ∧ RingsI w r g (xs.eraseIdx j) w' := by
  subst hi
  have hcN := h.cl
  have hN : 0 < N := by omega
  have hl := h.lim
  have HH : Hid (RI w r g N f xs.length xs ∧ j < xs.length) := ⟨h, h1⟩
  have c2 := h.c2
  obtain ⟨n, en⟩ : ∃ n, n = xs.length := ⟨_, rfl⟩
  have HE : Hid (n = xs.length ∧ (xs.eraseIdx j).length = n - 1) := ⟨en, by rw [List.length_eraseIdx, if_pos h1]; omega⟩
  rw [← en] at c2 h1 hcN
  have FIN : Hid (∀ (w1 w2 w3 : World) (nd f1 : Nat), w1 = w.drewN nd → RI w2 r g N f1 xs.length (xs.eraseIdx j) → Chg w1 w2 r g → RI (w2.setCell ⟨r, 2, none⟩ (.int .i64 ((n : Int) - 1))) r g N f1 (xs.eraseIdx j).length (xs.eraseIdx j) ∧ (RingsI (w2.setCell ⟨r, 2, none⟩ (.int .i64 ((n : Int) - 1))) r g (xs.eraseIdx j) w3 → RingsI w r g (xs.eraseIdx j) w3)) := by
    intro w1 w2 w3 nd f1 e1 h2 h3
    have hn2 := HE.out.2
    refine ⟨?_, ?_⟩
    · have := h2.setCount (c' := (xs.eraseIdx j).length) (by omega)
      rw [show (((xs.eraseIdx j).length : Nat) : Int) = (n : Int) - 1 by omega] at this
      exact this
    · rintro ⟨g', N', f', h4, h5, h6⟩
      have a1 : Chg w w2 r g := ((Chg.refl w r g).drewN nd).trans (e1 ▸ h3) (.inl rfl)
      refine ⟨g', N', f', h4, (a1.setR 2 _).trans h5 (.inl rfl), ?_⟩
      rcases h6 with e | e | e
      · exact .inl e
      · exact .inr (.inl e)
      · refine .inr (.inr (Nat.le_trans (a1.setR 2 (.int .i64 ((n : Int) - 1))).size e))
  clear h en
  go_enter Try.func27, Try.ntmps27
  go_wp2_with fail
  refine (atI_yes r g N f _ xs j (j : Int) w HH.out.1 rfl HH.out.2).mono ?_
  rintro e w1 ⟨rfl, nd, e1⟩
  have R1 : Hid (RI w1 r g N f xs.length xs ∧ w1 = w.drewN nd) := ⟨by rw [e1]; exact HH.out.1.of_blocks rfl rfl, e1⟩
  have d2 : w1.cell? ⟨r, 2, none⟩ = some (.int .i64 (n : Int)) := by rw [e1]; exact c2
  clear e1
  by_cases hd : j < n - 1 - j
  · have hdd : decide ((j : Int) < (n : Int) - 1 - (j : Int)) = true := decide_eq_true (by omega)
    go_wp2_with fail
    refine (closeFI_any r g N f xs j w1 R1.out.1 HH.out.2).mono ?_
    rintro e w2 ⟨rfl, h2, h3⟩
    have x2 := h2.c2
    rw [← HE.out.1] at x2
    have z2 := h2.fz 2
    have FF := fun w3 => FIN.out w1 w2 w3 nd _ R1.out.2 h2 h3
    have FH : Hid _ := FF
    clear h2 h3 FF
    go_wp2_with fail
    refine (narrowI_any r g N _ _ _ (FH.out w2).1).mono ?_
    rintro e w3 ⟨rfl, h4⟩
    have H4 : Hid _ := (FH.out w3).2 h4
    clear h4
    go_wp2_with fail
    exact bodyPost_ret (v := .tuple #[Value.int .i64 (xs.getD j (0 : Int)), .bool true]) (by simp [results, Try.results27, go_sem]) rfl ⟨rfl, H4.out⟩
  · have hdd : decide ((j : Int) < (n : Int) - 1 - (j : Int)) = false := decide_eq_false (by omega)
    go_wp2_with fail
    refine (closeBI_any r g N f xs j w1 R1.out.1 HH.out.2).mono ?_
    rintro e w2 ⟨rfl, h2, h3⟩
    have x2 := h2.c2
    rw [← HE.out.1] at x2
    have z2 := h2.fz 2
    have FF := fun w3 => FIN.out w1 w2 w3 nd _ R1.out.2 h2 h3
    have FH : Hid _ := FF
    clear h2 h3 FF
    go_wp2_with fail
    refine (narrowI_any r g N _ _ _ (FH.out w2).1).mono ?_
    rintro e w3 ⟨rfl, h4⟩
    have H4 : Hid _ := (FH.out w3).2 h4
    clear h4
    go_wp2_with fail
    exact bodyPost_ret (v := .tuple #[Value.int .i64 (xs.getD j (0 : Int)), .bool true]) (by simp [results, Try.results27, go_sem]) rfl ⟨rfl, H4.out⟩
end Go.Proofs.Ytmghkkaoblkmpaa

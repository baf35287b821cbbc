/- Contracts of the program's functions, part 8: own work, joined in build order. -/
import Derived.Test.YtmghkkaoblkmpaaJ7
namespace Go.Proofs.Ytmghkkaoblkmpaa
open Go.RowKit
set_option maxRecDepth 100000
set_option linter.unusedVariables false
set_option maxHeartbeats 1000000 in
theorem pushFrontI_any (r g N f : Nat) (xs : List Int) (v : Int) (w : World) (h : RI w r g N f xs.length xs) (hx : xs.length ≤ 4294967296) :
    Calls Try.prog 19 #[.pointer (some ⟨r, 0, none⟩), Value.int .i64 v] w fun e w' => e = .returned (.tuple #[]) ∧ RingsI w r g (v :: xs) w' := by
  have HW : Hid (RI w r g N f xs.length xs) := h
  clear h
  go_enter Try.func19, Try.ntmps19
  go_wp2_with fail
  refine (widenI_any r g N f xs w HW.out hx).mono ?_
  rintro e w1 ⟨rfl, g1, N1, f1, h1, hg1, hg2, hlt⟩
  clear HW
  have hN : 0 < N1 := by omega
  have hl := h1.lim
  have hne := h1.ne hN
  have hne' : ¬ r = g1 := fun e => hne e.symm
  have c0 := h1.c0 hN
  have c1 := h1.c1
  have c2 := h1.c2
  have z1 := h1.fz 1
  have z2 := h1.fz 2
  obtain ⟨k, ek⟩ : ∃ k, k = (f1 + N1 - 1) % N1 := ⟨_, rfl⟩
  have hk : k < N1 := by rw [ek]; exact Nat.mod_lt _ hN
  have fk := h1.fg hN k
  have ck : ∃ x, w1.cell? ⟨g1, k, none⟩ = some x := ⟨_, (h1.row hN).cell hk⟩
  obtain ⟨x, ck⟩ := ck
  obtain ⟨n, en⟩ : ∃ n, n = xs.length := ⟨_, rfl⟩
  have H1 : Hid (RI w1 r g1 N1 f1 xs.length xs ∧ k = (f1 + N1 - 1) % N1) := ⟨h1, ek⟩
  have FH : Hid (∀ nd md, RingsI w r g (v :: xs) (((((w1.drewN nd).setCell ⟨r, 1, none⟩ (.int .i64 (k : Int))).drewN md).setCell ⟨g1, k, none⟩ (Value.int .i64 v)).setCell ⟨r, 2, none⟩ (.int .i64 ((n : Int) + 1)))) := fun nd md => by
    have h2 := (show RI (w1.drewN (nd + md)) r g1 N1 f1 xs.length xs from h1.of_blocks rfl rfl).cons hlt v ek
    rw [← en] at h2
    exact RingsI.intro (h2.of_blocks rfl rfl) (hg1.trans ((((((Chg.refl w1 r g1).drewN nd).setR 1 _).drewN md).setG k _).setR 2 _) hg2) hg2
  rw [← en] at c2 hx
  clear h1 hg1 hg2 ek hlt en
  go_wp2_with fail
  refine (indexI_any r g1 N1 f1 _ xs (-1) k w1 H1.out.1 hN (by omega) (by omega) hk (by
    have := H1.out.1.fl hN
    rw [H1.out.2, show ((f1 : Int) + -1) = ((f1 + N1 - 1 : Nat) : Int) + (-1) * (N1 : Int) by omega, Int.add_mul_emod_self_right]
    simp)).mono ?_
  rintro e w2 ⟨rfl, nd, rfl⟩
  go_wp2_with fail
  go_region_held3 (fun w' => w'.cell? ⟨r, 0, none⟩ = some (.slice (some ⟨g1, 0, none⟩) N1 N1) ∧ w'.cell? ⟨r, 1, none⟩ = some (.int .i64 (k : Int))) (first | (simp [go_sem, *]; done) | (trace_state; fail)) (fail)
  go_wp2_with fail
  exact bodyPost_end (v := .tuple #[]) (by simp [results, Try.results19, go_sem]) rfl ⟨rfl, FH.out nd 1⟩
/-- What two questions for places are answered. -/
def TwoI (w : World) (r : Nat) (a : Int) (k : Nat) (b : Int) (l : Nat) : Prop := ∀ (i : Int) (p : Nat) (w1 : World), Hid (Alk w w1) → (i = a ∧ p = k ∨ i = b ∧ p = l) → Calls Try.prog 46 #[.pointer (some ⟨r, 0, none⟩), .int .i64 i] w1 fun e w' => e = .returned (.int .i64 (p : Int)) ∧ Hid (Alk w w')
theorem indexI_in (r g N f c : Nat) (xs : List Int) (i : Int) (k : Nat) (w w1 : World) (h : RI w r g N f c xs) (hA : Hid (Alk w w1)) (hN : 0 < N) (hi : -1 ≤ i) (hi2 : i ≤ N) (hk : k < N) (e : ((k : Nat) : Int) = ((f : Int) + i) % (N : Int)) :
    Calls Try.prog 46 #[.pointer (some ⟨r, 0, none⟩), .int .i64 i] w1 fun e w' => e = .returned (.int .i64 (k : Int)) ∧ Hid (Alk w w') := by
  obtain ⟨nd, rfl⟩ := hA.out
  exact (indexI_any r g N f c xs i k (w.drewN nd) (h.of_blocks rfl rfl) hN hi hi2 hk e).mono fun _ _ ⟨he, m, hm⟩ => ⟨he, ⟨nd + m, by rw [hm, World.drewN_drewN]⟩⟩
set_option maxHeartbeats 2000000 in
theorem closeFI_any (r g N f : Nat) (xs : List Int) (i0 : Nat) (w : World) (h : RI w r g N f xs.length xs) (hi : i0 < xs.length) :
    Calls Try.prog 51 #[.pointer (some ⟨r, 0, none⟩), .int .i64 (i0 : Int)] w fun e w' => e = .returned (.tuple #[]) ∧ RI w' r g N ((f + 1) % N) xs.length (xs.eraseIdx i0) ∧ Chg w w' r g := by
  have hcN := h.cl
  have hN : 0 < N := by omega
  have hl := h.lim
  have hf := h.fl hN
  have H0 : Hid (RI w r g N f xs.length xs) := h
  obtain ⟨n, en⟩ : ∃ n, n = xs.length := ⟨_, rfl⟩
  have HE : Hid (n = xs.length) := en
  rw [← en] at hcN hi
  have hne := h.ne hN
  clear h en
  go_enter Try.func51, Try.ntmps51
  go_wp2_with fail
  go_loopw [1] (fun q wr => ∃ (k : Nat) (ys : List Int), k ≤ i0 ∧ q = .int .i64 (k : Int) ∧ RI wr r g N f xs.length ys ∧ ys.length = xs.length ∧ (∀ j, ys.getD j (0 : Int) = if k < j ∧ j ≤ i0 then xs.getD (j - 1) (0 : Int) else xs.getD j (0 : Int)) ∧ Chg w wr r g) (fun q _ => (intOf q).toNat)
  case atStart => exact ⟨i0, xs, Nat.le_refl _, rfl, H0.out, rfl, fun j => by rw [if_neg (by omega)], Chg.refl _ _ _⟩
  case round =>
    obtain ⟨k, ys, hk, rfl, hR, hyl, hy, hC⟩ := hrel
    by_cases hk0 : 0 < k
    · have HI : Hid (n = xs.length) := HE.out
      have hkn : k < n := by omega
      obtain ⟨a, ea⟩ : ∃ a, a = (f + k) % N := ⟨_, rfl⟩
      obtain ⟨b, eb⟩ : ∃ b, b = (f + (k - 1)) % N := ⟨_, rfl⟩
      have ha : a < N := by rw [ea]; exact Nat.mod_lt _ hN
      have hb : b < N := by rw [eb]; exact Nat.mod_lt _ hN
      have hab : ¬ a = b := fun e => by
        have x1 := pl_at hf (show k < N by omega)
        have x2 := pl_at hf (show k - 1 < N by omega)
        rw [← ea, e, eb, x2] at x1
        omega
      have hba : ¬ b = a := fun e => hab e.symm
      have c0 := hR.c0 hN
      have ca : ∃ x, wr.cell? ⟨g, a, none⟩ = some x := ⟨_, (hR.row hN).cell ha⟩
      obtain ⟨x, ca⟩ := ca
      have fa := hR.fg hN a
      have cb := hR.at (i := k - 1) (by omega)
      rw [← eb] at cb
      obtain ⟨v, ev⟩ : ∃ v, v = ys.getD (k - 1) (0 : Int) := ⟨_, rfl⟩
      rw [← ev] at cb
      have wk : IntKind.i64.wrap ((k : Int) - 1) = (k : Int) - 1 := by rw [IntKind.wrap_i64]; omega
      have IX : Hid (TwoI wr r (k : Int) a ((k : Int) - 1) b) := by
        rintro i p w2 hA (⟨rfl, rfl⟩ | ⟨rfl, rfl⟩)
        · exact indexI_in r g N f _ ys (k : Int) _ _ _ hR hA hN (by omega) (by omega) ha (by rw [ea]; simp)
        · exact indexI_in r g N f _ ys ((k : Int) - 1) _ _ _ hR hA hN (by omega) (by omega) hb (by rw [eb, show (f : Int) + ((k : Int) - 1) = ((f + (k - 1) : Nat) : Int) by omega]; simp)
      have FH : Hid (∀ nd, RI ((wr.drewN nd).setCell ⟨g, a, none⟩ (Value.int .i64 v)) r g N f xs.length (ys.set k v) ∧ (ys.set k v).length = xs.length ∧ (∀ j, (ys.set k v).getD j (0 : Int) = if k - 1 < j ∧ j ≤ i0 then xs.getD (j - 1) (0 : Int) else xs.getD j (0 : Int)) ∧ Chg w ((wr.drewN nd).setCell ⟨g, a, none⟩ (Value.int .i64 v)) r g) := fun nd => by
        have hkl : k < ys.length := by rw [hyl, ← HI.out]; omega
        refine ⟨?_, by simpa using hyl, fun j => ?_, hC.trans (((Chg.refl wr r g).drewN nd).setG a _) (.inl rfl)⟩
        · have := (show RI (wr.drewN nd) r g N f xs.length ys from hR.of_blocks rfl rfl).set (i := k) (by omega) v (ys := ys.set k v) (by simpa using hR.len) (fun i _ => getD_set _ _ _ _ hkl i)
          rw [← ea] at this
          exact this
        · rw [getD_set _ _ _ _ hkl, ev, hy, hy]
          by_cases e : j = k
          · subst e
            rw [if_pos rfl, if_neg (by omega), if_pos (by omega)]
          · rw [if_neg e]
            by_cases e2 : k < j ∧ j ≤ i0
            · rw [if_pos e2, if_pos (by omega)]
            · rw [if_neg e2, if_neg (by omega)]
      clear hR hyl hy hC ea eb ev
      go_wp2_with fail
      go_region_held3 (fun w' => w'.cell? ⟨r, 0, none⟩ = some (.slice (some ⟨g, 0, none⟩) N N) ∧ w'.cell? ⟨g, b, none⟩ = some (Value.int .i64 v)) (first | (simp [go_sem, *]; done) | (trace_state; fail))
        (first
          | (go_at_call 46; refine Calls.mono (IX.out _ _ _ (by first | assumption | exact Alk.one _) (by first | exact .inl ⟨rfl, rfl⟩ | exact .inr ⟨rfl, rfl⟩)) ?_; rintro e w1 ⟨rfl, hA⟩; have x0 := hA.out.cell c0; have x1 := hA.out.cell ca; have x2 := hA.out.cell cb; have x3 := hA.out.frozen fa))
      all_goals go_wp2_with fail
      all_goals go_roundw
      all_goals first
        | (obtain ⟨nn, rfl⟩ := hA.out; exact ⟨k - 1, _, by omega, by go_num, FH.out _⟩)
        | (simp [intOf]; omega)
    · obtain rfl : k = 0 := by omega
      have HR : Hid (RI wr r g N f xs.length ys ∧ ys.length = xs.length ∧ (∀ j, ys.getD j (0 : Int) = if 0 < j ∧ j ≤ i0 then xs.getD (j - 1) (0 : Int) else xs.getD j (0 : Int)) ∧ Chg w wr r g) := ⟨hR, hyl, hy, hC⟩
      clear hR hyl hy hC
      go_wp2_with fail
      refine (emptyI_at r g N f _ ys 0 0 wr HR.out.1 rfl (by omega)).mono ?_
      rintro e w1 ⟨rfl, h1, hc1⟩
      have c1 := h1.c1
      have z1 := h1.fz 1
      obtain ⟨p, ep⟩ : ∃ p, p = (f + 1) % N := ⟨_, rfl⟩
      have HP : Hid (p = (f + 1) % N ∧ p < N) := ⟨ep, by rw [ep]; exact Nat.mod_lt _ hN⟩
      have FH : Hid (∀ nd, RI ((w1.drewN nd).setCell ⟨r, 1, none⟩ (.int .i64 (p : Int))) r g N ((f + 1) % N) xs.length (xs.eraseIdx i0) ∧ Chg w ((w1.drewN nd).setCell ⟨r, 1, none⟩ (.int .i64 (p : Int))) r g) := fun nd => by
        rw [ep]
        obtain ⟨_, hyl, hy, hC⟩ := HR.out
        have hn := HE.out
        refine ⟨(show RI (w1.drewN nd) r g N f xs.length (ys.set 0 (0 : Int)) from h1.of_blocks rfl rfl).closedF (xs := xs) (i := i0) (by omega) (by omega) (by omega) fun j => ?_, hC.trans (hc1.trans (((Chg.refl w1 r g).drewN nd).setR 1 _) (.inl rfl)) (.inl rfl)⟩
        rw [getD_set _ _ _ _ (by omega), hy]
        by_cases e : j = 0
        · rw [if_pos e, if_pos e]
        · rw [if_neg e, if_neg e]
          by_cases e2 : j ≤ i0
          · rw [if_pos (by omega), if_pos e2]
          · rw [if_neg (by omega), if_neg e2]
      have H1 : Hid (RI w1 r g N f xs.length (ys.set 0 (0 : Int))) := h1
      clear h1 hc1 ep
      go_wp2_with fail
      refine (indexI_any r g N f _ _ 1 p w1 H1.out hN (by omega) (by omega) HP.out.2 (by rw [HP.out.1]; simp)).mono ?_
      rintro e w2 ⟨rfl, nd, rfl⟩
      go_wp2_with fail
      exact bodyPost_end (v := .tuple #[]) (by simp [results, Try.results51, go_sem]) rfl ⟨rfl, FH.out nd⟩
end Go.Proofs.Ytmghkkaoblkmpaa

/- Contracts of the program's functions, part 4: own work, joined in build order. -/
import Derived.Test.YtcndbmccediknaaJ3
namespace Go.Proofs.Ytcndbmccediknaa
open Go.RowKit
set_option maxRecDepth 100000
set_option linter.unusedVariables false
set_option maxHeartbeats 1000000 in
theorem pushFrontF_any (r g N f : Nat) (xs : List (Option Addr)) (v : (Option Addr)) (w : World) (h : RF w r g N f xs.length xs) (hx : xs.length ≤ 4294967296) :
    Calls Try.prog 58 #[.pointer (some ⟨r, 0, none⟩), Value.pointer v] w fun e w' => e = .returned (.tuple #[]) ∧ RingsF w r g (v :: xs) w' := by
  have HW : Hid (RF w r g N f xs.length xs) := h
  clear h
  go_enter Try.func58, Try.ntmps58
  go_wp2_with fail
  refine (widenF_any r g N f xs w HW.out hx).mono ?_
  rintro e w1 ⟨rfl, g1, N1, f1, h1, hg1, hg2, hlt⟩
  clear HW
  have hN : 0 < N1 := by omega
  have hl := h1.lim
  have hne := h1.ne hN
  have hne' : ¬ r = g1 := fun e => hne e.symm
  have c0 := h1.c0 hN
  have c1 := h1.c1
  have c2 := h1.c2
  have z1 := h1.fz 1
  have z2 := h1.fz 2
  obtain ⟨k, ek⟩ : ∃ k, k = (f1 + N1 - 1) % N1 := ⟨_, rfl⟩
  have hk : k < N1 := by rw [ek]; exact Nat.mod_lt _ hN
  have fk := h1.fg hN k
  have ck : ∃ x, w1.cell? ⟨g1, k, none⟩ = some x := ⟨_, (h1.row hN).cell hk⟩
  obtain ⟨x, ck⟩ := ck
  obtain ⟨n, en⟩ : ∃ n, n = xs.length := ⟨_, rfl⟩
  have H1 : Hid (RF w1 r g1 N1 f1 xs.length xs ∧ k = (f1 + N1 - 1) % N1) := ⟨h1, ek⟩
  have FH : Hid (∀ nd md, RingsF w r g (v :: xs) (((((w1.drewN nd).setCell ⟨r, 1, none⟩ (.int .i64 (k : Int))).drewN md).setCell ⟨g1, k, none⟩ (Value.pointer v)).setCell ⟨r, 2, none⟩ (.int .i64 ((n : Int) + 1)))) := fun nd md => by
    have h2 := (show RF (w1.drewN (nd + md)) r g1 N1 f1 xs.length xs from h1.of_blocks rfl rfl).cons hlt v ek
    rw [← en] at h2
    exact RingsF.intro (h2.of_blocks rfl rfl) (hg1.trans ((((((Chg.refl w1 r g1).drewN nd).setR 1 _).drewN md).setG k _).setR 2 _) hg2) hg2
  rw [← en] at c2 hx
  clear h1 hg1 hg2 ek hlt en
  go_wp2_with fail
  refine (indexF_any r g1 N1 f1 _ xs (-1) k w1 H1.out.1 hN (by omega) (by omega) hk (by
    have := H1.out.1.fl hN
    rw [H1.out.2, show ((f1 : Int) + -1) = ((f1 + N1 - 1 : Nat) : Int) + (-1) * (N1 : Int) by omega, Int.add_mul_emod_self_right]
    simp)).mono ?_
  rintro e w2 ⟨rfl, nd, rfl⟩
  go_wp2_with fail
  go_region_held3 (fun w' => w'.cell? ⟨r, 0, none⟩ = some (.slice (some ⟨g1, 0, none⟩) N1 N1) ∧ w'.cell? ⟨r, 1, none⟩ = some (.int .i64 (k : Int))) (first | (simp [go_sem, *]; done) | (trace_state; fail)) (fail)
  go_wp2_with fail
  exact bodyPost_end (v := .tuple #[]) (by simp [results, Try.results58, go_sem]) rfl ⟨rfl, FH.out nd 1⟩
def TwoF (w : World) (r : Nat) (a : Int) (k : Nat) (b : Int) (l : Nat) : Prop := ∀ (i : Int) (p : Nat) (w1 : World), Hid (Alk w w1) → (i = a ∧ p = k ∨ i = b ∧ p = l) → Calls Try.prog 43 #[.pointer (some ⟨r, 0, none⟩), .int .i64 i] w1 fun e w' => e = .returned (.int .i64 (p : Int)) ∧ Hid (Alk w w')
theorem indexF_in (r g N f c : Nat) (xs : List (Option Addr)) (i : Int) (k : Nat) (w w1 : World) (h : RF w r g N f c xs) (hA : Hid (Alk w w1)) (hN : 0 < N) (hi : -1 ≤ i) (hi2 : i ≤ N) (hk : k < N) (e : ((k : Nat) : Int) = ((f : Int) + i) % (N : Int)) :
    Calls Try.prog 43 #[.pointer (some ⟨r, 0, none⟩), .int .i64 i] w1 fun e w' => e = .returned (.int .i64 (k : Int)) ∧ Hid (Alk w w') := by
  obtain ⟨nd, rfl⟩ := hA.out
  exact (indexF_any r g N f c xs i k (w.drewN nd) (h.of_blocks rfl rfl) hN hi hi2 hk e).mono fun _ _ ⟨he, m, hm⟩ => ⟨he, ⟨nd + m, by rw [hm, World.drewN_drewN]⟩⟩
set_option maxHeartbeats 2000000 in
theorem closeFF_any (r g N f : Nat) (xs : List (Option Addr)) (i0 : Nat) (w : World) (h : RF w r g N f xs.length xs) (hi : i0 < xs.length) :
    Calls Try.prog 64 #[.pointer (some ⟨r, 0, none⟩), .int .i64 (i0 : Int)] w fun e w' => e = .returned (.tuple #[]) ∧ RF w' r g N ((f + 1) % N) xs.length (xs.eraseIdx i0) ∧ Chg w w' r g := by
  have hcN := h.cl
  have hN : 0 < N := by omega
  have hl := h.lim
  have hf := h.fl hN
  have H0 : Hid (RF w r g N f xs.length xs) := h
  obtain ⟨n, en⟩ : ∃ n, n = xs.length := ⟨_, rfl⟩
  have HE : Hid (n = xs.length) := en
  rw [← en] at hcN hi
  have hne := h.ne hN
  clear h en
  go_enter Try.func64, Try.ntmps64
  go_wp2_with fail
  go_loopw [1] (fun q wr => ∃ (k : Nat) (ys : List (Option Addr)), k ≤ i0 ∧ q = .int .i64 (k : Int) ∧ RF wr r g N f xs.length ys ∧ ys.length = xs.length ∧ (∀ j, ys.getD j (none : Option Addr) = if k < j ∧ j ≤ i0 then xs.getD (j - 1) (none : Option Addr) else xs.getD j (none : Option Addr)) ∧ Chg w wr r g) (fun q _ => (intOf q).toNat)
  case atStart => exact ⟨i0, xs, Nat.le_refl _, rfl, H0.out, rfl, fun j => by rw [if_neg (by omega)], Chg.refl _ _ _⟩
  case round =>
    obtain ⟨k, ys, hk, rfl, hR, hyl, hy, hC⟩ := hrel
    by_cases hk0 : 0 < k
    · have HI : Hid (n = xs.length) := HE.out
      have hkn : k < n := by omega
      obtain ⟨a, ea⟩ : ∃ a, a = (f + k) % N := ⟨_, rfl⟩
      obtain ⟨b, eb⟩ : ∃ b, b = (f + (k - 1)) % N := ⟨_, rfl⟩
      have ha : a < N := by rw [ea]; exact Nat.mod_lt _ hN
      have hb : b < N := by rw [eb]; exact Nat.mod_lt _ hN
      have hab : ¬ a = b := fun e => by
        have x1 := pl_at hf (show k < N by omega)
        have x2 := pl_at hf (show k - 1 < N by omega)
        rw [← ea, e, eb, x2] at x1
        omega
      have hba : ¬ b = a := fun e => hab e.symm
      have c0 := hR.c0 hN
      have ca : ∃ x, wr.cell? ⟨g, a, none⟩ = some x := ⟨_, (hR.row hN).cell ha⟩
      obtain ⟨x, ca⟩ := ca
      have fa := hR.fg hN a
      have cb := hR.at (i := k - 1) (by omega)
      rw [← eb] at cb
      obtain ⟨v, ev⟩ : ∃ v, v = ys.getD (k - 1) (none : Option Addr) := ⟨_, rfl⟩
      rw [← ev] at cb
      have wk : IntKind.i64.wrap ((k : Int) - 1) = (k : Int) - 1 := by rw [IntKind.wrap_i64]; omega
      have IX : Hid (TwoF wr r (k : Int) a ((k : Int) - 1) b) := by
        rintro i p w2 hA (⟨rfl, rfl⟩ | ⟨rfl, rfl⟩)
        · exact indexF_in r g N f _ ys (k : Int) _ _ _ hR hA hN (by omega) (by omega) ha (by rw [ea]; simp)
        exact indexF_in r g N f _ ys ((k : Int) - 1) _ _ _ hR hA hN (by omega) (by omega) hb (by rw [eb, show (f : Int) + ((k : Int) - 1) = ((f + (k - 1) : Nat) : Int) by omega]; simp)
      have FH : Hid (∀ nd, RF ((wr.drewN nd).setCell ⟨g, a, none⟩ (Value.pointer v)) r g N f xs.length (ys.set k v) ∧ (ys.set k v).length = xs.length ∧ (∀ j, (ys.set k v).getD j (none : Option Addr) = if k - 1 < j ∧ j ≤ i0 then xs.getD (j - 1) (none : Option Addr) else xs.getD j (none : Option Addr)) ∧ Chg w ((wr.drewN nd).setCell ⟨g, a, none⟩ (Value.pointer v)) r g) := fun nd => by
        have hkl : k < ys.length := by rw [hyl, ← HI.out]; omega
        refine ⟨?_, by simpa using hyl, fun j => ?_, hC.trans (((Chg.refl wr r g).drewN nd).setG a _) (.inl rfl)⟩
        · have := (show RF (wr.drewN nd) r g N f xs.length ys from hR.of_blocks rfl rfl).set (i := k) (by omega) v (ys := ys.set k v) (by simpa using hR.len) (fun i _ => getD_set _ _ _ _ hkl i)
          rw [← ea] at this
          exact this
        rw [getD_set _ _ _ _ hkl, ev, hy, hy]
        by_cases e : j = k
        · subst e
          rw [if_pos rfl, if_neg (by omega), if_pos (by omega)]
        rw [if_neg e]
        by_cases e2 : k < j ∧ j ≤ i0
        · rw [if_pos e2, if_pos (by omega)]
        rw [if_neg e2, if_neg (by omega)]
      clear hR hyl hy hC ea eb ev
      go_wp2_with fail
      go_region_held3 (fun w' => w'.cell? ⟨r, 0, none⟩ = some (.slice (some ⟨g, 0, none⟩) N N) ∧ w'.cell? ⟨g, b, none⟩ = some (Value.pointer v)) (first | (simp [go_sem, *]; done) | (trace_state; fail))
        (first
          | (go_at_call 43; refine Calls.mono (IX.out _ _ _ (by first | assumption | exact Alk.one _) (by first | exact .inl ⟨rfl, rfl⟩ | exact .inr ⟨rfl, rfl⟩)) ?_; rintro e w1 ⟨rfl, hA⟩; have x0 := hA.out.cell c0; have x1 := hA.out.cell ca; have x2 := hA.out.cell cb; have x3 := hA.out.frozen fa))
      all_goals go_wp2_with fail
      all_goals go_roundw
      all_goals first
        | (obtain ⟨nn, rfl⟩ := hA.out; exact ⟨k - 1, _, by omega, by go_num, FH.out _⟩)
        | (simp [intOf]; omega)
    obtain rfl : k = 0 := by omega
    have HR : Hid (RF wr r g N f xs.length ys ∧ ys.length = xs.length ∧ (∀ j, ys.getD j (none : Option Addr) = if 0 < j ∧ j ≤ i0 then xs.getD (j - 1) (none : Option Addr) else xs.getD j (none : Option Addr)) ∧ Chg w wr r g) := ⟨hR, hyl, hy, hC⟩
    clear hR hyl hy hC
    go_wp2_with fail
    refine (emptyF_at r g N f _ ys 0 0 wr HR.out.1 rfl (by omega)).mono ?_
    rintro e w1 ⟨rfl, h1, hc1⟩
    have c1 := h1.c1
    have z1 := h1.fz 1
    obtain ⟨p, ep⟩ : ∃ p, p = (f + 1) % N := ⟨_, rfl⟩
    have HP : Hid (p = (f + 1) % N ∧ p < N) := ⟨ep, by rw [ep]; exact Nat.mod_lt _ hN⟩
    have FH : Hid (∀ nd, RF ((w1.drewN nd).setCell ⟨r, 1, none⟩ (.int .i64 (p : Int))) r g N ((f + 1) % N) xs.length (xs.eraseIdx i0) ∧ Chg w ((w1.drewN nd).setCell ⟨r, 1, none⟩ (.int .i64 (p : Int))) r g) := fun nd => by
      rw [ep]
      obtain ⟨_, hyl, hy, hC⟩ := HR.out
      have hn := HE.out
      refine ⟨(show RF (w1.drewN nd) r g N f xs.length (ys.set 0 (none : Option Addr)) from h1.of_blocks rfl rfl).closedF (xs := xs) (i := i0) (by omega) (by omega) (by omega) fun j => ?_, hC.trans (hc1.trans (((Chg.refl w1 r g).drewN nd).setR 1 _) (.inl rfl)) (.inl rfl)⟩
      rw [getD_set _ _ _ _ (by omega), hy]
      by_cases e : j = 0
      · rw [if_pos e, if_pos e]
      rw [if_neg e, if_neg e]
      by_cases e2 : j ≤ i0
      · rw [if_pos (by omega), if_pos e2]
      rw [if_neg (by omega), if_neg e2]
    have H1 : Hid (RF w1 r g N f xs.length (ys.set 0 (none : Option Addr))) := h1
    clear h1 hc1 ep
    go_wp2_with fail
    refine (indexF_any r g N f _ _ 1 p w1 H1.out hN (by omega) (by omega) HP.out.2 (by rw [HP.out.1]; simp)).mono ?_
    rintro e w2 ⟨rfl, nd, rfl⟩
    go_wp2_with fail
    exact bodyPost_end (v := .tuple #[]) (by simp [results, Try.results64, go_sem]) rfl ⟨rfl, FH.out nd⟩
set_option maxHeartbeats 2000000 in
theorem closeBF_any (r g N f : Nat) (xs : List (Option Addr)) (i0 : Nat) (w : World) (h : RF w r g N f xs.length xs) (hi : i0 < xs.length) :
    Calls Try.prog 65 #[.pointer (some ⟨r, 0, none⟩), .int .i64 (i0 : Int)] w fun e w' => e = .returned (.tuple #[]) ∧ RF w' r g N f xs.length (xs.eraseIdx i0) ∧ Chg w w' r g := by
  have hcN := h.cl
  have hN : 0 < N := by omega
  have hl := h.lim
  have hf := h.fl hN
  have H0 : Hid (RF w r g N f xs.length xs) := h
  obtain ⟨n, en⟩ : ∃ n, n = xs.length := ⟨_, rfl⟩
  have HE : Hid (n = xs.length) := en
  rw [← en] at hcN hi
  have hne := h.ne hN
  clear h en
  go_enter Try.func65, Try.ntmps65
  go_wp2_with fail
  go_loopw [1] (fun q wr => ∃ (k : Nat) (ys : List (Option Addr)), i0 ≤ k ∧ k < n ∧ q = .int .i64 (k : Int) ∧ RF wr r g N f xs.length ys ∧ ys.length = xs.length ∧ (∀ j, ys.getD j (none : Option Addr) = if i0 ≤ j ∧ j < k then xs.getD (j + 1) (none : Option Addr) else xs.getD j (none : Option Addr)) ∧ Chg w wr r g) (fun q _ => n - (intOf q).toNat)
  case atStart => exact ⟨i0, xs, Nat.le_refl _, hi, rfl, H0.out, rfl, fun j => by rw [if_neg (by omega)], Chg.refl _ _ _⟩
  case round =>
    obtain ⟨k, ys, hk, hkn, rfl, hR, hyl, hy, hC⟩ := hrel
    have c2 := hR.c2
    have en : xs.length = n := HE.out.symm
    rw [en] at c2
    clear en
    by_cases hk0 : k + 1 < n
    · have hd : decide ((k : Int) < (n : Int) - 1) = true := decide_eq_true (by omega)
      have HI : Hid (n = xs.length) := HE.out
      obtain ⟨a, ea⟩ : ∃ a, a = (f + k) % N := ⟨_, rfl⟩
      obtain ⟨b, eb⟩ : ∃ b, b = (f + (k + 1)) % N := ⟨_, rfl⟩
      have ha : a < N := by rw [ea]; exact Nat.mod_lt _ hN
      have hb : b < N := by rw [eb]; exact Nat.mod_lt _ hN
      have hab : ¬ a = b := fun e => by
        have x1 := pl_at hf (show k < N by omega)
        have x2 := pl_at hf (show k + 1 < N by omega)
        rw [← ea, e, eb, x2] at x1
        omega
      have hba : ¬ b = a := fun e => hab e.symm
      have c0 := hR.c0 hN
      have ca : ∃ x, wr.cell? ⟨g, a, none⟩ = some x := ⟨_, (hR.row hN).cell ha⟩
      obtain ⟨x, ca⟩ := ca
      have fa := hR.fg hN a
      have cb := hR.at (i := k + 1) (by omega)
      rw [← eb] at cb
      obtain ⟨v, ev⟩ : ∃ v, v = ys.getD (k + 1) (none : Option Addr) := ⟨_, rfl⟩
      rw [← ev] at cb
      have wk : IntKind.i64.wrap ((k : Int) + 1) = (k : Int) + 1 := by rw [IntKind.wrap_i64]; omega
      have IX : Hid (TwoF wr r (k : Int) a ((k : Int) + 1) b) := by
        rintro i p w2 hA (⟨rfl, rfl⟩ | ⟨rfl, rfl⟩)
        · exact indexF_in r g N f _ ys (k : Int) _ _ _ hR hA hN (by omega) (by omega) ha (by rw [ea]; simp)
        exact indexF_in r g N f _ ys ((k : Int) + 1) _ _ _ hR hA hN (by omega) (by omega) hb (by rw [eb, show (f : Int) + ((k : Int) + 1) = ((f + (k + 1) : Nat) : Int) by omega]; simp)
      have FH : Hid (∀ nd, RF ((wr.drewN nd).setCell ⟨g, a, none⟩ (Value.pointer v)) r g N f xs.length (ys.set k v) ∧ (ys.set k v).length = xs.length ∧ (∀ j, (ys.set k v).getD j (none : Option Addr) = if i0 ≤ j ∧ j < k + 1 then xs.getD (j + 1) (none : Option Addr) else xs.getD j (none : Option Addr)) ∧ Chg w ((wr.drewN nd).setCell ⟨g, a, none⟩ (Value.pointer v)) r g) := fun nd => by
        have hkl : k < ys.length := by rw [hyl, ← HI.out]; omega
        refine ⟨?_, by simpa using hyl, fun j => ?_, hC.trans (((Chg.refl wr r g).drewN nd).setG a _) (.inl rfl)⟩
        · have := (show RF (wr.drewN nd) r g N f xs.length ys from hR.of_blocks rfl rfl).set (i := k) (by omega) v (ys := ys.set k v) (by simpa using hR.len) (fun i _ => getD_set _ _ _ _ hkl i)
          rw [← ea] at this
          exact this
        rw [getD_set _ _ _ _ hkl, ev, hy, hy]
        by_cases e : j = k
        · subst e
          rw [if_pos rfl, if_neg (by omega), if_pos (by omega)]
        rw [if_neg e]
        by_cases e2 : i0 ≤ j ∧ j < k
        · rw [if_pos e2, if_pos (by omega)]
        rw [if_neg e2, if_neg (by omega)]
      clear hR hyl hy hC ea eb ev
      go_wp2_with fail
      go_region_held3 (fun w' => w'.cell? ⟨r, 0, none⟩ = some (.slice (some ⟨g, 0, none⟩) N N) ∧ w'.cell? ⟨g, b, none⟩ = some (Value.pointer v)) (first | (simp [go_sem, *]; done) | (trace_state; fail))
        (first
          | (go_at_call 43; refine Calls.mono (IX.out _ _ _ (by first | assumption | exact Alk.one _) (by first | exact .inl ⟨rfl, rfl⟩ | exact .inr ⟨rfl, rfl⟩)) ?_; rintro e w1 ⟨rfl, hA⟩; have x0 := hA.out.cell c0; have x1 := hA.out.cell ca; have x2 := hA.out.cell cb; have x3 := hA.out.frozen fa))
      all_goals go_wp2_with fail
      all_goals go_roundw
      all_goals first
        | (obtain ⟨nn, rfl⟩ := hA.out; exact ⟨k + 1, _, by omega, by omega, by go_num, FH.out _⟩)
        | (simp [intOf]; omega)
    have hd : decide ((k : Int) < (n : Int) - 1) = false := decide_eq_false (by omega)
    have HR : Hid (RF wr r g N f xs.length ys ∧ ys.length = xs.length ∧ (∀ j, ys.getD j (none : Option Addr) = if i0 ≤ j ∧ j < k then xs.getD (j + 1) (none : Option Addr) else xs.getD j (none : Option Addr)) ∧ Chg w wr r g ∧ k + 1 = n) := ⟨hR, hyl, hy, hC, by omega⟩
    clear hR hyl hy hC
    go_wp2_with fail
    refine (emptyF_any r g N f _ ys k wr HR.out.1 (by omega)).mono ?_
    rintro e w1 ⟨rfl, h1, hc1⟩
    have FH : Hid (RF w1 r g N f xs.length (xs.eraseIdx i0) ∧ Chg w w1 r g) := by
      obtain ⟨_, hyl, hy, hC, hkn⟩ := HR.out
      have hn := HE.out
      have hle : (xs.eraseIdx i0).length + 1 = xs.length := by rw [List.length_eraseIdx, if_pos (by omega)]; omega
      refine ⟨h1.congr (by omega) fun j hj => ?_, hC.trans hc1 (.inl rfl)⟩
      rw [getD_set _ _ _ _ (by omega), hy, getD_erase]
      by_cases e : j = k
      · rw [if_pos e, if_neg (by omega), getD_far _ _ (by omega)]
      rw [if_neg e]
      by_cases e2 : j < i0
      · rw [if_neg (by omega), if_pos e2]
      rw [if_neg e2]
      by_cases e3 : j < k
      · rw [if_pos (by omega)]
      rw [if_neg (by omega), getD_far _ _ (by omega), getD_far _ _ (by omega)]
    clear h1 hc1
    go_wp2_with fail
    exact bodyPost_end (v := .tuple #[]) (by simp [results, Try.results65, go_sem]) rfl ⟨rfl, FH.out⟩
set_option maxHeartbeats 1000000 in
theorem takeF_yes (r g N f : Nat) (xs : List (Option Addr)) (j : Nat) (i : Int) (w : World) (h : RF w r g N f xs.length xs) (hi : i = j) (h1 : j < xs.length) : Calls Try.prog 51 #[.pointer (some ⟨r, 0, none⟩), .int .i64 i] w fun e w' => e = .returned (.tuple #[Value.pointer (xs.getD j (none : Option Addr)), .bool true]) ∧ RingsF w r g (xs.eraseIdx j) w' := by
  subst hi
  have hcN := h.cl
  have hN : 0 < N := by omega
  have hl := h.lim
  have HH : Hid (RF w r g N f xs.length xs ∧ j < xs.length) := ⟨h, h1⟩
  have c2 := h.c2
  obtain ⟨n, en⟩ : ∃ n, n = xs.length := ⟨_, rfl⟩
  have HE : Hid (n = xs.length ∧ (xs.eraseIdx j).length = n - 1) := ⟨en, by rw [List.length_eraseIdx, if_pos h1]; omega⟩
  rw [← en] at c2 h1 hcN
  have FIN : Hid (∀ (w1 w2 w3 : World) (nd f1 : Nat), w1 = w.drewN nd → RF w2 r g N f1 xs.length (xs.eraseIdx j) → Chg w1 w2 r g → RF (w2.setCell ⟨r, 2, none⟩ (.int .i64 ((n : Int) - 1))) r g N f1 (xs.eraseIdx j).length (xs.eraseIdx j) ∧ (RingsF (w2.setCell ⟨r, 2, none⟩ (.int .i64 ((n : Int) - 1))) r g (xs.eraseIdx j) w3 → RingsF w r g (xs.eraseIdx j) w3)) := by
    intro w1 w2 w3 nd f1 e1 h2 h3
    have hn2 := HE.out.2
    refine ⟨?_, ?_⟩
    · have := h2.setCount (c' := (xs.eraseIdx j).length) (by omega)
      rw [show (((xs.eraseIdx j).length : Nat) : Int) = (n : Int) - 1 by omega] at this
      exact this
    rintro ⟨g', N', f', h4, h5, h6⟩
    have a1 : Chg w w2 r g := ((Chg.refl w r g).drewN nd).trans (e1 ▸ h3) (.inl rfl)
    refine ⟨g', N', f', h4, (a1.setR 2 _).trans h5 (.inl rfl), ?_⟩
    rcases h6 with e | e | e
    · exact .inl e
    · exact .inr (.inl e)
    refine .inr (.inr (Nat.le_trans (a1.setR 2 (.int .i64 ((n : Int) - 1))).size e))
  clear h en
  go_enter Try.func51, Try.ntmps51
  go_wp2_with fail
  refine (atF_yes r g N f _ xs j (j : Int) w HH.out.1 rfl HH.out.2).mono ?_
  rintro e w1 ⟨rfl, nd, e1⟩
  have R1 : Hid (RF w1 r g N f xs.length xs ∧ w1 = w.drewN nd) := ⟨by rw [e1]; exact HH.out.1.of_blocks rfl rfl, e1⟩
  have d2 : w1.cell? ⟨r, 2, none⟩ = some (.int .i64 (n : Int)) := by rw [e1]; exact c2
  clear e1
  by_cases hd : j < n - 1 - j
  · have hdd : decide ((j : Int) < (n : Int) - 1 - (j : Int)) = true := decide_eq_true (by omega)
    go_wp2_with fail
    refine (closeFF_any r g N f xs j w1 R1.out.1 HH.out.2).mono ?_
    rintro e w2 ⟨rfl, h2, h3⟩
    have x2 := h2.c2
    rw [← HE.out.1] at x2
    have z2 := h2.fz 2
    have FF := fun w3 => FIN.out w1 w2 w3 nd _ R1.out.2 h2 h3
    have FH : Hid _ := FF
    clear h2 h3 FF
    go_wp2_with fail
    refine (narrowF_any r g N _ _ _ (FH.out w2).1).mono ?_
    rintro e w3 ⟨rfl, h4⟩
    have H4 : Hid _ := (FH.out w3).2 h4
    clear h4
    go_wp2_with fail
    exact bodyPost_ret (v := .tuple #[Value.pointer (xs.getD j (none : Option Addr)), .bool true]) (by simp [results, Try.results51, go_sem]) rfl ⟨rfl, H4.out⟩
  have hdd : decide ((j : Int) < (n : Int) - 1 - (j : Int)) = false := decide_eq_false (by omega)
  go_wp2_with fail
  refine (closeBF_any r g N f xs j w1 R1.out.1 HH.out.2).mono ?_
  rintro e w2 ⟨rfl, h2, h3⟩
  have x2 := h2.c2
  rw [← HE.out.1] at x2
  have z2 := h2.fz 2
  have FF := fun w3 => FIN.out w1 w2 w3 nd _ R1.out.2 h2 h3
  have FH : Hid _ := FF
  clear h2 h3 FF
  go_wp2_with fail
  refine (narrowF_any r g N _ _ _ (FH.out w2).1).mono ?_
  rintro e w3 ⟨rfl, h4⟩
  have H4 : Hid _ := (FH.out w3).2 h4
  clear h4
  go_wp2_with fail
  exact bodyPost_ret (v := .tuple #[Value.pointer (xs.getD j (none : Option Addr)), .bool true]) (by simp [results, Try.results51, go_sem]) rfl ⟨rfl, H4.out⟩
theorem popFrontF_yes (r g N f : Nat) (x : (Option Addr)) (xs : List (Option Addr)) (w : World) (h : RF w r g N f (x :: xs).length (x :: xs)) : Calls Try.prog 56 #[.pointer (some ⟨r, 0, none⟩)] w fun e w' => e = .returned (.tuple #[Value.pointer x, .bool true]) ∧ RingsF w r g xs w' := by
  have HH : Hid (RF w r g N f (x :: xs).length (x :: xs)) := h
  clear h
  go_enter Try.func56, Try.ntmps56
  go_wp2_with fail
  refine (takeF_yes r g N f (x :: xs) 0 0 w HH.out rfl (by simp)).mono ?_
  rintro e w1 ⟨rfl, h1⟩
  have H1 : Hid (RingsF w r g xs w1) := h1
  clear h1
  go_wp2_with fail
  exact bodyPost_ret (v := .tuple #[Value.pointer x, .bool true]) (by simp [results, Try.results56, go_sem]) rfl ⟨rfl, H1.out⟩
theorem popBackF_yes (r g N f : Nat) (x : (Option Addr)) (xs : List (Option Addr)) (w : World) (h : RF w r g N f (xs ++ [x]).length (xs ++ [x])) : Calls Try.prog 57 #[.pointer (some ⟨r, 0, none⟩)] w fun e w' => e = .returned (.tuple #[Value.pointer x, .bool true]) ∧ RingsF w r g xs w' := by
  have HH : Hid (RF w r g N f (xs ++ [x]).length (xs ++ [x])) := h
  have c2 := h.c2
  have hl := h.lim
  have hc := h.cl
  obtain ⟨n, en⟩ : ∃ n, n = (xs ++ [x]).length := ⟨_, rfl⟩
  rw [← en] at c2 hc
  have HE : Hid (n = xs.length + 1) := by show n = _; rw [en]; simp
  clear h en
  go_enter Try.func57, Try.ntmps57
  go_wp2_with fail
  refine (takeF_yes r g N f (xs ++ [x]) xs.length ((n : Int) - 1) w HH.out (by have := HE.out; omega) (by simp)).mono ?_
  rintro e w1 ⟨rfl, h1⟩
  have e1 : (xs ++ [x]).eraseIdx xs.length = xs := by rw [List.eraseIdx_append_of_length_le (Nat.le_refl _)]; simp
  have e2 : (xs ++ [x]).getD xs.length (none : Option Addr) = x := by simp
  rw [e1] at h1
  have H1 : Hid (RingsF w r g xs w1) := h1
  rw [e2]
  clear h1 e1 e2
  go_wp2_with fail
  exact bodyPost_ret (v := .tuple #[Value.pointer x, .bool true]) (by simp [results, Try.results57, go_sem]) rfl ⟨rfl, H1.out⟩
theorem RingsF.trans {w w1 w2 : World} {r g g' : Nat} {zs : List (Option Addr)} (hC : Chg w w1 r g) (hg : g' = g ∨ g' = r ∨ w.heap.size ≤ g') (h2 : RingsF w1 r g' zs w2) : RingsF w r g zs w2 := by
  obtain ⟨g2, N2, f2, h3, h4, h5⟩ := h2
  refine ⟨g2, N2, f2, h3, hC.trans h4 hg, ?_⟩
  rcases h5 with e | e | e
  · rcases hg with e2 | e2 | e2
    · exact .inl (by omega)
    · exact .inr (.inl (by omega))
    exact .inr (.inr (by omega))
  · exact .inr (.inl e)
  exact .inr (.inr (Nat.le_trans hC.size e))
set_option maxHeartbeats 2000000 in
theorem turnF_any (r g N f : Nat) (xs : List (Option Addr)) (n : Int) (w : World) (h : RF w r g N f xs.length xs) (hx : xs.length ≤ 4294967296) (hn : -9223372036854775808 ≤ n) (hn2 : n ≤ 9223372036854775807) :
    Calls Try.prog 47 #[.pointer (some ⟨r, 0, none⟩), .int .i64 n] w fun e w' => e = .returned (.tuple #[]) ∧ RingsF w r g (rt n xs) w' := by
  have c2 := h.c2
  have hl := h.lim
  have hc := h.cl
  have HH : Hid (RF w r g N f xs.length xs) := h
  obtain ⟨c, ec⟩ : ∃ c, c = xs.length := ⟨_, rfl⟩
  rw [← ec] at c2 hc hx
  have HE : Hid (c = xs.length) := ec
  by_cases hc0 : c = 0
  · have d0 : ((c : Int) == 0) = true := by simp <;> omega
    have HR : Hid (rt n xs = xs) := by
      have : xs = [] := List.eq_nil_of_length_eq_zero (by omega)
      show rt n xs = xs
      subst this
      exact rt_nil n
    clear h ec hc0
    go_enter Try.func47, Try.ntmps47
    go_wp2_with fail
    refine bodyPost_ret (v := .tuple #[]) (by simp [results, Try.results47, go_sem]) rfl ⟨rfl, ?_⟩
    rw [HR.out]
    exact RingsF.intro HH.out (Chg.refl _ _ _) (.inl rfl)
  have d0 : ((c : Int) == 0) = false := by simp <;> omega
  obtain ⟨q, hq⟩ : ∃ q, n.tmod (c : Int) = q := ⟨_, rfl⟩
  have HQ : Hid (rt q xs = rt n xs ∧ rt (q + (c : Int)) xs = rt n xs ∧ rt (q - (c : Int)) xs = rt n xs) := by
    have e1 := rt_tmod n q xs (by rw [← ec]; exact hq)
    refine ⟨e1, ?_, ?_⟩
    · rw [ec, rt_add, e1]
    rw [ec, rt_sub, e1]
  have hq1 : q < (c : Int) := by
    have := Int.tmod_lt_of_pos n (show (0 : Int) < (c : Int) by omega)
    omega
  have hq2 : -(c : Int) < q := by
    have := Int.lt_tmod_of_pos n (show (0 : Int) < (c : Int) by omega)
    omega
  have H0 : Hid (RingsF w r g xs w) := RingsF.intro h (Chg.refl _ _ _) (.inl rfl)
  clear h ec
  have cases3 : (decide ((c : Int) / 2 < q) = true) ∨ (decide ((c : Int) / 2 < q) = false ∧ decide (q < -((c : Int) / 2)) = true) ∨ (decide ((c : Int) / 2 < q) = false ∧ decide (q < -((c : Int) / 2)) = false) := by
    simp only [decide_eq_true_eq, decide_eq_false_iff_not]
    omega
  rcases cases3 with hd1 | ⟨hd1, hd2⟩ | ⟨hd1, hd2⟩
  all_goals (
    have HD1 : Hid _ := hd1
    go_enter Try.func47, Try.ntmps47
    go_wp2_with fail
    clear hd1
    go_loopw [1] (fun p wr => ∃ (m : Int) (ys : List (Option Addr)), p = .int .i64 m ∧ -(c : Int) ≤ m ∧ m ≤ (c : Int) ∧ ys.length = c ∧ rt m ys = rt n xs ∧ Hid (RingsF w r g ys wr)) (fun p _ => (intOf p).toNat)
    case atStart =>
      have hd1 := HD1.out
      simp only [decide_eq_true_eq, decide_eq_false_iff_not] at *
      first
        | exact ⟨q, xs, by go_num, by omega, by omega, HE.out.symm, HQ.out.1, H0⟩
        | exact ⟨q + (c : Int), xs, by go_num, by omega, by omega, HE.out.symm, HQ.out.2.1, H0⟩
        | exact ⟨q - (c : Int), xs, by go_num, by omega, by omega, HE.out.symm, HQ.out.2.2, H0⟩
    case round =>
      obtain ⟨m, ys, rfl, hm1, hm2, hyl, hrt, hR⟩ := hrel
      clear hq
      by_cases hm : 0 < m
      · have hd : decide (0 < m) = true := decide_eq_true hm
        obtain ⟨g1, N1, f1, h1, hC, hg⟩ := hR.out
        obtain ⟨y, zs, rfl⟩ : ∃ y zs, ys = y :: zs := by
          rcases ys with _ | ⟨y, zs⟩
          · simp at hyl; omega
          exact ⟨y, zs, rfl⟩
        rw [rt_front] at hrt
        have H1 : Hid (RF wr r g1 N1 f1 (y :: zs).length (y :: zs) ∧ Chg w wr r g ∧ (g1 = g ∨ g1 = r ∨ w.heap.size ≤ g1) ∧ (y :: zs).length = c ∧ rt (m - 1) (zs ++ [y]) = rt n xs) := ⟨h1, hC, hg, hyl, hrt⟩
        clear h1 hC hg hyl hrt hR
        go_wp2_with fail
        refine (popFrontF_yes r g1 N1 f1 y zs wr H1.out.1).mono ?_
        rintro e w1 ⟨rfl, h2⟩
        obtain ⟨g2, N2, f2, h3, h4⟩ := h2
        have H2 : Hid (RF w1 r g2 N2 f2 zs.length zs ∧ Chg wr w1 r g1 ∧ (g2 = g1 ∨ g2 = r ∨ wr.heap.size ≤ g2)) := ⟨h3, h4⟩
        clear h3 h4
        go_wp2_with fail
        refine (pushBackF_any r g2 N2 f2 zs y w1 H2.out.1 (by have := H1.out.2.2.2.1; simp at this; omega)).mono ?_
        rintro e w2 ⟨rfl, h5⟩
        have H3 : Hid (RingsF w r g (zs ++ [y]) w2) := RingsF.trans H1.out.2.1 H1.out.2.2.1 (RingsF.trans H2.out.2.1 H2.out.2.2 h5)
        clear h5
        go_wp2_with fail
        go_roundw
        case rel => exact ⟨m - 1, zs ++ [y], by go_num, by omega, by omega, by have := H1.out.2.2.2.1; simpa using this, H1.out.2.2.2.2, H3⟩
        case measure => simp [intOf]; omega
      have hd : decide (0 < m) = false := decide_eq_false hm
      have HR : Hid (ys.length = c ∧ rt m ys = rt n xs ∧ Hid (RingsF w r g ys wr)) := ⟨hyl, hrt, hR⟩
      clear hyl hrt hR
      go_wp2_with fail
      go_loopw [1] (fun p wr => ∃ (m : Int) (ys : List (Option Addr)), p = .int .i64 m ∧ -(c : Int) ≤ m ∧ m ≤ 0 ∧ ys.length = c ∧ rt m ys = rt n xs ∧ Hid (RingsF w r g ys wr)) (fun p _ => (-(intOf p)).toNat)
      case atStart => exact ⟨m, ys, rfl, by omega, by omega, HR.out⟩
      case round =>
        clear HR hd
        obtain ⟨m, ys, rfl, hm1, hm2, hyl, hrt, hR⟩ := hrel
        by_cases hm : m < 0
        · have hd : decide (m < 0) = true := decide_eq_true hm
          obtain ⟨g1, N1, f1, h1, hC, hg⟩ := hR.out
          obtain ⟨y, zs, rfl⟩ : ∃ y zs, ys = zs ++ [y] := by
            rcases List.eq_nil_or_concat ys with e | ⟨zs, y, e⟩
            · subst e
              simp at hyl
              omega
            exact ⟨y, zs, by simpa using e⟩
          rw [rt_back] at hrt
          have H1 : Hid (RF wr r g1 N1 f1 (zs ++ [y]).length (zs ++ [y]) ∧ Chg w wr r g ∧ (g1 = g ∨ g1 = r ∨ w.heap.size ≤ g1) ∧ (zs ++ [y]).length = c ∧ rt (m + 1) (y :: zs) = rt n xs) := ⟨h1, hC, hg, hyl, hrt⟩
          clear h1 hC hg hyl hrt hR
          go_wp2_with fail
          refine (popBackF_yes r g1 N1 f1 y zs wr H1.out.1).mono ?_
          rintro e w1 ⟨rfl, h2⟩
          obtain ⟨g2, N2, f2, h3, h4⟩ := h2
          have H2 : Hid (RF w1 r g2 N2 f2 zs.length zs ∧ Chg wr w1 r g1 ∧ (g2 = g1 ∨ g2 = r ∨ wr.heap.size ≤ g2)) := ⟨h3, h4⟩
          clear h3 h4
          go_wp2_with fail
          refine (pushFrontF_any r g2 N2 f2 zs y w1 H2.out.1 (by have := H1.out.2.2.2.1; simp at this; omega)).mono ?_
          rintro e w2 ⟨rfl, h5⟩
          have H3 : Hid (RingsF w r g (y :: zs) w2) := RingsF.trans H1.out.2.1 H1.out.2.2.1 (RingsF.trans H2.out.2.1 H2.out.2.2 h5)
          clear h5
          go_wp2_with fail
          go_roundw
          case rel => exact ⟨m + 1, y :: zs, by go_num, by omega, by omega, by have := H1.out.2.2.2.1; simpa using this, H1.out.2.2.2.2, H3⟩
          case measure => simp [intOf]; omega
        have hd : decide (m < 0) = false := decide_eq_false hm
        obtain rfl : m = 0 := by omega
        rw [rt_zero] at hrt
        have HR : Hid (RingsF w r g (rt n xs) wr) := by rw [← hrt]; exact hR
        clear hyl hrt hR
        go_wp2_with fail
        exact bodyPost_end (v := .tuple #[]) (by simp [results, Try.results47, go_sem]) rfl ⟨rfl, HR.out⟩)
structure Dv where
  flows : Nat
  ring : Nat
  turn : Bool
  weight : Int
  count : Int
  seq : Int
  came : Int
def Dv.cell (x : Dv) : Nat → Value
  | 0 => .map (some x.flows)
  | 1 => .pointer (some ⟨x.ring, 0, none⟩)
  | 2 => .bool x.turn
  | 3 => .int .i64 x.weight
  | 4 => .int .i64 x.count
  | 5 => .int .i64 x.seq
  | _ => .int .i64 x.came
def Dr (w : World) (d : Nat) (x : Dv) : Prop := w.rowIs d 69 7 x.cell
theorem lenD_any (d : Nat) (x : Dv) (w : World) (h : Dr w d x) : Calls Try.prog 18 #[.pointer (some ⟨d, 0, none⟩)] w fun e w' => e = .returned (.int .i64 x.count) ∧ w' = w := by
  have c4 : w.cell? ⟨d, 4, none⟩ = some (.int .i64 x.count) := World.rowIs.cell h (i := 4) (by omega)
  clear h
  go_enter Try.func18, Try.ntmps18
  go_wp2_with fail
  go_ret
  exact ⟨rfl, rfl⟩
set_option maxHeartbeats 1000000 in
theorem newD_any (w : World) : Calls Try.prog 14 #[] w fun e w' => ∃ rg d, e = .returned (.pointer (some ⟨d, 0, none⟩)) ∧ Dr w' d ⟨w.heap.size, rg, false, 0, 0, 0, 0⟩ ∧ Mp w' w.heap.size 0 (fun _ => none) ∧ RF w' rg rg 0 0 0 [] ∧ Below w.heap.size w w' ∧ w.heap.size < rg ∧ rg < d := by
  obtain ⟨W, hW⟩ : ∃ W, W = w.alloc (.map #[] 0) := ⟨_, rfl⟩
  have HM : Hid (Mp W w.heap.size 0 (fun _ => none) ∧ Below w.heap.size w W ∧ W.heap.size = w.heap.size + 1) := by
    rw [hW]
    exact ⟨Mp.made w, (Below.refl _ _).alloc (Nat.le_refl _) _, by simp⟩
  have HW : Hid (w.alloc (.map #[] 0) = W) := hW.symm
  have hmm := @run_makeMap Try.prog
  clear hW
  go_enter Try.func14, Try.ntmps14
  go_wp2_with fail
  rw [HW.out]
  refine (newF_any W).mono ?_
  rintro e w1 ⟨rfl, h1, hb⟩
  have HF : Hid (Dr (w1.alloc (.cells #[.map (some w.heap.size), .pointer (some ⟨W.heap.size, 0, none⟩), .bool false, .int .i64 0, .int .i64 0, .int .i64 0, .int .i64 0] 69)) w1.heap.size ⟨w.heap.size, W.heap.size, false, 0, 0, 0, 0⟩ ∧ Mp (w1.alloc (.cells #[.map (some w.heap.size), .pointer (some ⟨W.heap.size, 0, none⟩), .bool false, .int .i64 0, .int .i64 0, .int .i64 0, .int .i64 0] 69)) w.heap.size 0 (fun _ => none) ∧ RF (w1.alloc (.cells #[.map (some w.heap.size), .pointer (some ⟨W.heap.size, 0, none⟩), .bool false, .int .i64 0, .int .i64 0, .int .i64 0, .int .i64 0] 69)) W.heap.size W.heap.size 0 0 0 [] ∧ Below w.heap.size w (w1.alloc (.cells #[.map (some w.heap.size), .pointer (some ⟨W.heap.size, 0, none⟩), .bool false, .int .i64 0, .int .i64 0, .int .i64 0, .int .i64 0] 69)) ∧ w.heap.size < W.heap.size ∧ W.heap.size < w1.heap.size) := by
    have hs := HM.out.2.2
    have hr := h1.rlt
    have k0 : ∀ o : Obj, Below w1.heap.size w1 (w1.alloc o) := fun o => (Below.refl _ _).alloc (Nat.le_refl _) o
    refine ⟨?_, ?_, h1.mono (k0 _), HM.out.2.1.trans ((hb.mono (by omega)).trans ((k0 _).mono (by omega))), by omega, hr⟩
    · refine World.rowIs_alloc w1 #[.map (some w.heap.size), .pointer (some ⟨W.heap.size, 0, none⟩), .bool false, .int .i64 0, .int .i64 0, .int .i64 0, .int .i64 0] 69 _ fun i hi => ?_
      rcases i with _ | _ | _ | _ | _ | _ | _ | i
      · rfl
      · rfl
      · rfl
      · rfl
      · rfl
      · rfl
      · rfl
      simp at hi
      omega
    exact HM.out.1.kept (((k0 _).block _ (by omega)).trans (hb.block _ (by omega)))
  clear h1 hb
  go_wp2_with fail
  go_ret
  exact ⟨_, _, rfl, HF.out⟩
set_option maxHeartbeats 2000000 in
theorem openD_yes (d : Nat) (x : Dv) (nn : Nat) (F : Int → Option Nat) (s gn : Int) (w : World) (h : Dr w d x) (hm : Mp w x.flows nn F) (h1 : -9223372036854775808 ≤ s) (h2 : s ≤ 9223372036854775807) (b : Nat) (y : Fw) (hF : F s = some b) (hb : Fl w b y) (hs : y.slot = s) (hg : y.gen = gn) :
    Calls Try.prog 24 #[.pointer (some ⟨d, 0, none⟩), .agg #[.int .i64 s, .int .i64 gn]] w fun e w' => e = .returned (.tuple #[.pointer (some ⟨b, 0, none⟩), .int .i64 0]) ∧ Below w.heap.size w w' := by
  obtain ⟨m, rg, tn, wt, ct, sq, cm⟩ := x
  obtain ⟨W, hW⟩ : ∃ W, W = w.alloc (.cells #[.int .i64 s, .int .i64 gn] 41) := ⟨_, rfl⟩
  obtain ⟨v, ev⟩ : ∃ v, v = w.heap.size := ⟨_, rfl⟩
  have B0 : Below w.heap.size w W := by rw [hW]; exact (Below.refl _ _).alloc (Nat.le_refl _) _
  have hB : W.heap[v]? = some (.cells #[.int .i64 s, .int .i64 gn] 41) := by rw [hW, ev]; exact (MapKept.heap_alloc _ _).1
  have v0 : W.cell? ⟨v, 0, none⟩ = some (.int .i64 s) := by simp [World.cell?, hB]
  have c0 : W.cell? ⟨d, 0, none⟩ = some (.map (some m)) := cell_later B0 (World.rowIs.cell h (i := 0) (by omega))
  have b0 : W.cell? ⟨b, 0, none⟩ = some (.int .i64 s) := by rw [← hs]; exact cell_later B0 (World.rowIs.cell hb (i := 0) (by omega))
  have b1 : W.cell? ⟨b, 1, none⟩ = some (.int .i64 gn) := by rw [← hg]; exact cell_later B0 (World.rowIs.cell hb (i := 1) (by omega))
  have v1 : W.cell? ⟨v, 1, none⟩ = some (.int .i64 gn) := by simp [World.cell?, hB]
  have hml : m < w.heap.size := by
    obtain ⟨es, clock, hb⟩ := hm.block
    exact (Array.getElem?_eq_some_iff.1 hb).1
  have hm' : Mp W m nn F := hm.kept (B0.block _ hml)
  have lk : ∀ k, (Instr.lookup 66 (.map (some m)) (.int .i64 s) false).run Try.prog (W.drewN k) = .ok (.pointer (some ⟨b, 0, none⟩)) (W.drewN k) := fun k => by
    have := (hm'.kept (W' := W.drewN k) rfl).look Try.underlying66 (by rfl) (i := s) h1 h2
    rw [hF] at this
    exact this
  have lk0 : (Instr.lookup 66 (.map (some m)) (.int .i64 s) false).run Try.prog W = .ok (.pointer (some ⟨b, 0, none⟩)) W := lk 0
  have HW : Hid (w.alloc (.cells #[.int .i64 s, .int .i64 gn] 41) = W ∧ w.heap.size = v ∧ Below w.heap.size w W) := ⟨hW.symm, ev.symm, B0⟩
  clear h hm hm' h1 h2 hF hb hs hg B0 hB hW ev
  go_enter Try.func24, Try.ntmps24
  go_wp2_with fail
  rw [HW.out.1, HW.out.2.1]
  go_quiet (fail)
  go_wp2_with fail
  go_quiet (fail)
  go_wp2_with fail
  exact bodyPost_ret (v := .tuple #[.pointer (some ⟨b, 0, none⟩), .int .i64 0]) (by simp [results, Try.results24, go_sem]) rfl ⟨rfl, bel_drewN (bel_drewN HW.out.2.2 _) _⟩
set_option maxHeartbeats 4000000 in
theorem takerD_yes (d : Nat) (x : Dv) (nn : Nat) (F : Int → Option Nat) (p : Pk) (w : World) (h : Dr w d x) (hm : Mp w x.flows nn F) (h1 : -9223372036854775808 ≤ p.slot) (h2 : p.slot ≤ 9223372036854775807) (b : Nat) (y : Fw) (hF : F p.slot = some b) (hb : Fl w b y) (hs : y.slot = p.slot) (hg : y.gen = p.gen)
    (s1 : 1 ≤ p.size) (s2 : p.size ≤ 65536) (q1 : x.seq < p.seq) (t1 : x.came ≤ p.came) (t2 : p.came ≤ 4611686018427387904) :
    Calls Try.prog 27 #[.pointer (some ⟨d, 0, none⟩), p.val] w fun e w' => e = .returned (.tuple #[.pointer (some ⟨b, 0, none⟩), .int .i64 0]) ∧ Below w.heap.size w w' := by
  obtain ⟨a0, a1, a2, a3, a4, a5⟩ := p
  obtain ⟨W, hW⟩ : ∃ W, W = w.alloc (.cells #[.int .i64 a0, .int .i64 a1, .int .i64 a2, .int .i64 a3, .int .i64 a4, .int .i64 a5] 49) := ⟨_, rfl⟩
  obtain ⟨v, ev⟩ : ∃ v, v = w.heap.size := ⟨_, rfl⟩
  have B0 : Below w.heap.size w W := by rw [hW]; exact (Below.refl _ _).alloc (Nat.le_refl _) _
  have hB : W.heap[v]? = some (.cells #[.int .i64 a0, .int .i64 a1, .int .i64 a2, .int .i64 a3, .int .i64 a4, .int .i64 a5] 49) := by rw [hW, ev]; exact (MapKept.heap_alloc _ _).1
  have hvl : v < W.heap.size := (Array.getElem?_eq_some_iff.1 hB).1
  have c0 : (w.alloc (.cells #[.int .i64 a0, .int .i64 a1, .int .i64 a2, .int .i64 a3, .int .i64 a4, .int .i64 a5] 49)).cell? ⟨v, 0, none⟩ = some (.int .i64 a0) := by rw [← hW]; simp [World.cell?, hB]
  have c1 : (w.alloc (.cells #[.int .i64 a0, .int .i64 a1, .int .i64 a2, .int .i64 a3, .int .i64 a4, .int .i64 a5] 49)).cell? ⟨v, 1, none⟩ = some (.int .i64 a1) := by rw [← hW]; simp [World.cell?, hB]
  have hml : x.flows < w.heap.size := by
    obtain ⟨es, clock, hb⟩ := hm.block
    exact (Array.getElem?_eq_some_iff.1 hb).1
  have hD : Dr W d x := World.rowIs.of_block h (B0.block _ (World.rowIs.lt h))
  have hbW : Fl W b y := World.rowIs.of_block hb (B0.block _ (World.rowIs.lt hb))
  have HO : Hid (Calls Try.prog 24 #[.pointer (some ⟨d, 0, none⟩), .agg #[.int .i64 a0, .int .i64 a1]] W fun e w' => e = .returned (.tuple #[.pointer (some ⟨b, 0, none⟩), .int .i64 0]) ∧ Below W.heap.size W w') := openD_yes d x nn F a0 a1 W hD (hm.kept (B0.block _ hml)) h1 h2 b y hF hbW hs hg
  have HD : Hid (Dr W d x ∧ W.heap[v]? = some (.cells #[.int .i64 a0, .int .i64 a1, .int .i64 a2, .int .i64 a3, .int .i64 a4, .int .i64 a5] 49) ∧ v < W.heap.size ∧ Below w.heap.size w W) := ⟨hD, hB, hvl, B0⟩
  have HW : Hid (w.alloc (.cells #[.int .i64 a0, .int .i64 a1, .int .i64 a2, .int .i64 a3, .int .i64 a4, .int .i64 a5] 49) = W) := hW.symm
  have HV : Hid (w.heap.size = v) := ev.symm
  rw [ev] at c0 c1
  obtain ⟨m, rg, tn, wt, ct, sq, cm⟩ := x
  have d1 : decide (a3 < 1) = false := decide_eq_false (by simp only at s1; omega)
  have d2 : decide (65536 < a3) = false := decide_eq_false (by simp only at s2; omega)
  have d3 : decide (a4 ≤ sq) = false := decide_eq_false (by simp only at q1; omega)
  have d4 : decide (a5 < cm) = false := decide_eq_false (by simp only at t1; omega)
  have d5 : decide ((4611686018427387904 : Int) < a5) = false := decide_eq_false (by simp only at t2; omega)
  show Calls Try.prog 27 #[.pointer (some ⟨d, 0, none⟩), .agg #[.int .i64 a0, .int .i64 a1, .int .i64 a2, .int .i64 a3, .int .i64 a4, .int .i64 a5]] w _
  clear h hm h1 h2 hF hb hs hg s1 s2 q1 t1 t2 hD hbW B0 hB hvl hW ev hml
  go_enter Try.func27, Try.ntmps27
  go_wp2_with fail
  rw [HW.out, HV.out]
  refine HO.out.mono ?_
  rintro e w1 ⟨rfl, hb1⟩
  have hv1 : w1.heap[v]? = some (.cells #[.int .i64 a0, .int .i64 a1, .int .i64 a2, .int .i64 a3, .int .i64 a4, .int .i64 a5] 49) := (hb1.block v HD.out.2.2.1).trans HD.out.2.1
  have k2 : w1.cell? ⟨v, 3, none⟩ = some (.int .i64 a3) := by simp [World.cell?, hv1]
  have k3 : w1.cell? ⟨v, 4, none⟩ = some (.int .i64 a4) := by simp [World.cell?, hv1]
  have k4 : w1.cell? ⟨v, 5, none⟩ = some (.int .i64 a5) := by simp [World.cell?, hv1]
  have e5 : w1.cell? ⟨d, 5, none⟩ = some (.int .i64 sq) := cell_later hb1 (World.rowIs.cell HD.out.1 (i := 5) (by omega))
  have e6 : w1.cell? ⟨d, 6, none⟩ = some (.int .i64 cm) := cell_later hb1 (World.rowIs.cell HD.out.1 (i := 6) (by omega))
  have HB : Hid (Below w.heap.size w w1) := HD.out.2.2.2.trans (hb1.mono (HD.out.2.2.2.size))
  clear hb1 hv1 c0 c1
  go_wp2_with fail
  go_quiet (fail)
  go_wp2_with fail
  go_quiet (fail)
  go_wp2_with fail
  exact bodyPost_ret (v := .tuple #[.pointer (some ⟨b, 0, none⟩), .int .i64 0]) (by simp [results, Try.results27, go_sem]) rfl ⟨rfl, bel_drewN (bel_drewN HB.out _) _⟩
end Go.Proofs.Ytcndbmccediknaa

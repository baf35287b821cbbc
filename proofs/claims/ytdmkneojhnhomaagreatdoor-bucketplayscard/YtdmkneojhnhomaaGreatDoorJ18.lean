/- Contracts of the program's functions, part 18: own work, joined in build order. -/
import Derived.Test.YtdmkneojhnhomaaGreatDoorJ17
import Derived.Deep.Cut
namespace Go.Proofs.YtdmkneojhnhomaaGreatDoor
open Go.RowKit
set_option maxRecDepth 100000
set_option linter.unusedVariables false
theorem rrate_some (u : Nat) (hu : u < 18446744073709551616) : ∃ p q ok, (ok = true ↔ isF u ∧ gtM u = false) ∧ ∀ w, Calls Tryz.prog 21 #[.int .u64 (u : Int)] w (MakesRRB w p q ok) := by
  by_cases h : isF u ∧ gtM u = false
  · exact ⟨_, _, true, by simp [h], fun w => rrate_yes u w hu h.1 h.2⟩
  · exact ⟨_, _, false, by simp [h], fun w => rrate_no u w hu h⟩
/-- An error is told. -/
def RNo (w : World) (n : Int) (e : Ending) (w' : World) : Prop := e = .returned (.tuple #[.agg #[.int .i64 0, .slice none 0 0, .slice none 0 0, .slice none 0 0, .slice none 0 0, .int .i64 0], .int .i64 n]) ∧ Below w.heap.size w w'
set_option maxHeartbeats 4000000 in
theorem rnew8_burst (B : Int) (u : Nat) (per t : Int) (w : World) (hu : u < 18446744073709551616) (h : B < 1 ∨ 1099511627776 < B) : Calls Tryz.prog 11 #[.int .i64 B, .int .u64 (u : Int), .int .i64 per, .int .i64 t] w (RNo w 97) := by
  obtain ⟨rp, rq, ok, hok, hrt⟩ := rrate_some u hu
  have RT : Hid (∀ w, Calls Tryz.prog 21 #[.int .u64 (u : Int)] w (MakesRRB w rp rq ok)) := hrt
  clear hrt hok
  by_cases h1 : B < 1
  · have d1 : decide (B < 1) = true := decide_eq_true h1
    clear h h1
    go_enter Tryz.func11, Tryz.ntmps11
    go_wp2_with fail
    refine (RT.out _).mono ?_
    rintro e w1 ⟨v1, rfl, hv1, hb1⟩
    obtain ⟨a1, n1, c1, a2, n2, c2, ev, _, _⟩ := hv1
    subst ev
    have bx := bel_go hb1 (bel_al (o := .cells #[.slice a1 n1 c1, .slice a2 n2 c2] 35) (bel_refl _))
    have X1 : Hid (Rx (w1.alloc (.cells #[.slice a1 n1 c1, .slice a2 n2 c2] 35)) w.heap.size (.int .i64 0) (.slice none 0 0) (.slice none 0 0) (.slice none 0 0) (.slice none 0 0) (.int .i64 0) ∧ Below w.heap.size w (w1.alloc (.cells #[.slice a1 n1 c1, .slice a2 n2 c2] 35))) := ⟨Rx.go (heap_new w (.cells #[.int .i64 0, .slice none 0 0, .slice none 0 0, .slice none 0 0, .slice none 0 0, .int .i64 0] 37)) bx, bel_go (bel_al (bel_refl w)) bx⟩
    obtain ⟨k0, k1, k2, k3, k4, k5, kf⟩ := X1.out.1.cells
    have kf0 := kf 0
    have kf1 := kf 1
    have kf2 := kf 2
    have kf3 := kf 3
    have kf4 := kf 4
    have kf5 := kf 5
    have EN : Hid _ := X1.out.1.all (.int .i64 0) (.slice none 0 0) (.slice none 0 0) (.slice none 0 0) (.slice none 0 0) (.int .i64 0)
    clear hb1 bx kf
    go_wp2_with fail
    exact bodyPost_ret (v := .tuple #[.agg #[.int .i64 0, .slice none 0 0, .slice none 0 0, .slice none 0 0, .slice none 0 0, .int .i64 0], .int .i64 97]) (by simp [results, Tryz.results11, go_sem, k0, k1, k2, k3, k4, k5]) rfl ⟨rfl, X1.out.2.trans (EN.out.2.below X1.out.2.size (fun k e => by rw [e]; exact Nat.le_refl _))⟩
  · have d1 : decide (B < 1) = false := decide_eq_false h1
    have d2 : decide ((1099511627776 : Int) < B) = true := decide_eq_true (h.resolve_left h1)
    clear h h1
    go_enter Tryz.func11, Tryz.ntmps11
    go_wp2_with fail
    refine (RT.out _).mono ?_
    rintro e w1 ⟨v1, rfl, hv1, hb1⟩
    obtain ⟨a1, n1, c1, a2, n2, c2, ev, _, _⟩ := hv1
    subst ev
    have bx := bel_go hb1 (bel_al (o := .cells #[.slice a1 n1 c1, .slice a2 n2 c2] 35) (bel_refl _))
    have X1 : Hid (Rx (w1.alloc (.cells #[.slice a1 n1 c1, .slice a2 n2 c2] 35)) w.heap.size (.int .i64 0) (.slice none 0 0) (.slice none 0 0) (.slice none 0 0) (.slice none 0 0) (.int .i64 0) ∧ Below w.heap.size w (w1.alloc (.cells #[.slice a1 n1 c1, .slice a2 n2 c2] 35))) := ⟨Rx.go (heap_new w (.cells #[.int .i64 0, .slice none 0 0, .slice none 0 0, .slice none 0 0, .slice none 0 0, .int .i64 0] 37)) bx, bel_go (bel_al (bel_refl w)) bx⟩
    obtain ⟨k0, k1, k2, k3, k4, k5, kf⟩ := X1.out.1.cells
    have kf0 := kf 0
    have kf1 := kf 1
    have kf2 := kf 2
    have kf3 := kf 3
    have kf4 := kf 4
    have kf5 := kf 5
    have EN : Hid _ := X1.out.1.all (.int .i64 0) (.slice none 0 0) (.slice none 0 0) (.slice none 0 0) (.slice none 0 0) (.int .i64 0)
    clear hb1 bx kf
    go_wp2_with fail
    exact bodyPost_ret (v := .tuple #[.agg #[.int .i64 0, .slice none 0 0, .slice none 0 0, .slice none 0 0, .slice none 0 0, .int .i64 0], .int .i64 97]) (by simp [results, Tryz.results11, go_sem, k0, k1, k2, k3, k4, k5]) rfl ⟨rfl, X1.out.2.trans (EN.out.2.below X1.out.2.size (fun k e => by rw [e]; exact Nat.le_refl _))⟩
set_option maxHeartbeats 4000000 in
theorem rnew8_rate (B : Int) (u : Nat) (per t : Int) (w : World) (hu : u < 18446744073709551616) (h1 : 1 ≤ B) (h2 : B ≤ 1099511627776) (h : ¬ rateOk u per) : Calls Tryz.prog 11 #[.int .i64 B, .int .u64 (u : Int), .int .i64 per, .int .i64 t] w (RNo w 98) := by
  obtain ⟨rp, rq, ok, hok, hrt⟩ := rrate_some u hu
  have RT : Hid (∀ w, Calls Tryz.prog 21 #[.int .u64 (u : Int)] w (MakesRRB w rp rq ok)) := hrt
  have d1 : decide (B < 1) = false := decide_eq_false (by omega)
  have d2 : decide ((1099511627776 : Int) < B) = false := decide_eq_false (by omega)
  cases ok
  · clear hrt hok h
    go_enter Tryz.func11, Tryz.ntmps11
    go_wp2_with fail
    refine (RT.out _).mono ?_
    rintro e w1 ⟨v1, rfl, hv1, hb1⟩
    obtain ⟨a1, n1, c1, a2, n2, c2, ev, _, _⟩ := hv1
    subst ev
    have bx := bel_go hb1 (bel_al (o := .cells #[.slice a1 n1 c1, .slice a2 n2 c2] 35) (bel_refl _))
    have X1 : Hid (Rx (w1.alloc (.cells #[.slice a1 n1 c1, .slice a2 n2 c2] 35)) w.heap.size (.int .i64 0) (.slice none 0 0) (.slice none 0 0) (.slice none 0 0) (.slice none 0 0) (.int .i64 0) ∧ Below w.heap.size w (w1.alloc (.cells #[.slice a1 n1 c1, .slice a2 n2 c2] 35))) := ⟨Rx.go (heap_new w (.cells #[.int .i64 0, .slice none 0 0, .slice none 0 0, .slice none 0 0, .slice none 0 0, .int .i64 0] 37)) bx, bel_go (bel_al (bel_refl w)) bx⟩
    obtain ⟨k0, k1, k2, k3, k4, k5, kf⟩ := X1.out.1.cells
    have kf0 := kf 0
    have kf1 := kf 1
    have kf2 := kf 2
    have kf3 := kf 3
    have kf4 := kf 4
    have kf5 := kf 5
    have EN : Hid _ := X1.out.1.all (.int .i64 0) (.slice none 0 0) (.slice none 0 0) (.slice none 0 0) (.slice none 0 0) (.int .i64 0)
    clear hb1 bx kf
    go_wp2_with fail
    exact bodyPost_ret (v := .tuple #[.agg #[.int .i64 0, .slice none 0 0, .slice none 0 0, .slice none 0 0, .slice none 0 0, .int .i64 0], .int .i64 98]) (by simp [results, Tryz.results11, go_sem, k0, k1, k2, k3, k4, k5]) rfl ⟨rfl, X1.out.2.trans (EN.out.2.below X1.out.2.size (fun k e => by rw [e]; exact Nat.le_refl _))⟩
  · have hk := hok.1 rfl
    by_cases h3 : per < 1
    · have d3 : decide (per < 1) = true := decide_eq_true h3
      clear hrt hok h hk h3
      go_enter Tryz.func11, Tryz.ntmps11
      go_wp2_with fail
      refine (RT.out _).mono ?_
      rintro e w1 ⟨v1, rfl, hv1, hb1⟩
      obtain ⟨a1, n1, c1, a2, n2, c2, ev, _, _⟩ := hv1
      subst ev
      have bx := bel_go hb1 (bel_al (o := .cells #[.slice a1 n1 c1, .slice a2 n2 c2] 35) (bel_refl _))
      have X1 : Hid (Rx (w1.alloc (.cells #[.slice a1 n1 c1, .slice a2 n2 c2] 35)) w.heap.size (.int .i64 0) (.slice none 0 0) (.slice none 0 0) (.slice none 0 0) (.slice none 0 0) (.int .i64 0) ∧ Below w.heap.size w (w1.alloc (.cells #[.slice a1 n1 c1, .slice a2 n2 c2] 35))) := ⟨Rx.go (heap_new w (.cells #[.int .i64 0, .slice none 0 0, .slice none 0 0, .slice none 0 0, .slice none 0 0, .int .i64 0] 37)) bx, bel_go (bel_al (bel_refl w)) bx⟩
      obtain ⟨k0, k1, k2, k3, k4, k5, kf⟩ := X1.out.1.cells
      have kf0 := kf 0
      have kf1 := kf 1
      have kf2 := kf 2
      have kf3 := kf 3
      have kf4 := kf 4
      have kf5 := kf 5
      have EN : Hid _ := X1.out.1.all (.int .i64 0) (.slice none 0 0) (.slice none 0 0) (.slice none 0 0) (.slice none 0 0) (.int .i64 0)
      clear hb1 bx kf
      go_wp2_with fail
      exact bodyPost_ret (v := .tuple #[.agg #[.int .i64 0, .slice none 0 0, .slice none 0 0, .slice none 0 0, .slice none 0 0, .int .i64 0], .int .i64 98]) (by simp [results, Tryz.results11, go_sem, k0, k1, k2, k3, k4, k5]) rfl ⟨rfl, X1.out.2.trans (EN.out.2.below X1.out.2.size (fun k e => by rw [e]; exact Nat.le_refl _))⟩
    · have d3 : decide (per < 1) = false := decide_eq_false h3
      have d4 : decide ((1073741824 : Int) < per) = true := decide_eq_true (Int.not_le.1 fun e => h ⟨hk.2, by omega, e, hk.1⟩)
      clear hrt hok h hk h3
      go_enter Tryz.func11, Tryz.ntmps11
      go_wp2_with fail
      refine (RT.out _).mono ?_
      rintro e w1 ⟨v1, rfl, hv1, hb1⟩
      obtain ⟨a1, n1, c1, a2, n2, c2, ev, _, _⟩ := hv1
      subst ev
      have bx := bel_go hb1 (bel_al (o := .cells #[.slice a1 n1 c1, .slice a2 n2 c2] 35) (bel_refl _))
      have X1 : Hid (Rx (w1.alloc (.cells #[.slice a1 n1 c1, .slice a2 n2 c2] 35)) w.heap.size (.int .i64 0) (.slice none 0 0) (.slice none 0 0) (.slice none 0 0) (.slice none 0 0) (.int .i64 0) ∧ Below w.heap.size w (w1.alloc (.cells #[.slice a1 n1 c1, .slice a2 n2 c2] 35))) := ⟨Rx.go (heap_new w (.cells #[.int .i64 0, .slice none 0 0, .slice none 0 0, .slice none 0 0, .slice none 0 0, .int .i64 0] 37)) bx, bel_go (bel_al (bel_refl w)) bx⟩
      obtain ⟨k0, k1, k2, k3, k4, k5, kf⟩ := X1.out.1.cells
      have kf0 := kf 0
      have kf1 := kf 1
      have kf2 := kf 2
      have kf3 := kf 3
      have kf4 := kf 4
      have kf5 := kf 5
      have EN : Hid _ := X1.out.1.all (.int .i64 0) (.slice none 0 0) (.slice none 0 0) (.slice none 0 0) (.slice none 0 0) (.int .i64 0)
      clear hb1 bx kf
      go_wp2_with fail
      exact bodyPost_ret (v := .tuple #[.agg #[.int .i64 0, .slice none 0 0, .slice none 0 0, .slice none 0 0, .slice none 0 0, .int .i64 0], .int .i64 98]) (by simp [results, Tryz.results11, go_sem, k0, k1, k2, k3, k4, k5]) rfl ⟨rfl, X1.out.2.trans (EN.out.2.below X1.out.2.size (fun k e => by rw [e]; exact Nat.le_refl _))⟩
set_option maxHeartbeats 4000000 in
theorem rnew8_time (B : Int) (u : Nat) (per t : Int) (w : World) (hu : u < 18446744073709551616) (h1 : 1 ≤ B) (h2 : B ≤ 1099511627776) (h : rateOk u per) (ht : t < 0 ∨ 4611686018427387904 < t) : Calls Tryz.prog 11 #[.int .i64 B, .int .u64 (u : Int), .int .i64 per, .int .i64 t] w (RNo w 1) := by
  obtain ⟨rp, rq, ok, hok, hrt⟩ := rrate_some u hu
  have RT : Hid (∀ w, Calls Tryz.prog 21 #[.int .u64 (u : Int)] w (MakesRRB w rp rq ok)) := hrt
  have d1 : decide (B < 1) = false := decide_eq_false (by omega)
  have d2 : decide ((1099511627776 : Int) < B) = false := decide_eq_false (by omega)
  have hk : ok = true := hok.2 ⟨h.2.2.2, h.1⟩
  subst hk
  have d3 : decide (per < 1) = false := decide_eq_false (by have := h.2.1; omega)
  have d4 : decide ((1073741824 : Int) < per) = false := decide_eq_false (by have := h.2.2.1; omega)
  clear hrt hok h
  by_cases h3 : t < 0
  · have d5 : decide (t < 0) = true := decide_eq_true h3
    clear ht h3
    go_enter Tryz.func11, Tryz.ntmps11
    go_wp2_with fail
    refine (RT.out _).mono ?_
    rintro e w1 ⟨v1, rfl, hv1, hb1⟩
    obtain ⟨a1, n1, c1, a2, n2, c2, ev, _, _⟩ := hv1
    subst ev
    have bx := bel_go hb1 (bel_al (o := .cells #[.slice a1 n1 c1, .slice a2 n2 c2] 35) (bel_refl _))
    have X1 : Hid (Rx (w1.alloc (.cells #[.slice a1 n1 c1, .slice a2 n2 c2] 35)) w.heap.size (.int .i64 0) (.slice none 0 0) (.slice none 0 0) (.slice none 0 0) (.slice none 0 0) (.int .i64 0) ∧ Below w.heap.size w (w1.alloc (.cells #[.slice a1 n1 c1, .slice a2 n2 c2] 35))) := ⟨Rx.go (heap_new w (.cells #[.int .i64 0, .slice none 0 0, .slice none 0 0, .slice none 0 0, .slice none 0 0, .int .i64 0] 37)) bx, bel_go (bel_al (bel_refl w)) bx⟩
    obtain ⟨k0, k1, k2, k3, k4, k5, kf⟩ := X1.out.1.cells
    have kf0 := kf 0
    have kf1 := kf 1
    have kf2 := kf 2
    have kf3 := kf 3
    have kf4 := kf 4
    have kf5 := kf 5
    have EN : Hid _ := X1.out.1.all (.int .i64 0) (.slice none 0 0) (.slice none 0 0) (.slice none 0 0) (.slice none 0 0) (.int .i64 0)
    clear hb1 bx kf
    go_wp2_with fail
    exact bodyPost_ret (v := .tuple #[.agg #[.int .i64 0, .slice none 0 0, .slice none 0 0, .slice none 0 0, .slice none 0 0, .int .i64 0], .int .i64 1]) (by simp [results, Tryz.results11, go_sem, k0, k1, k2, k3, k4, k5]) rfl ⟨rfl, X1.out.2.trans (EN.out.2.below X1.out.2.size (fun k e => by rw [e]; exact Nat.le_refl _))⟩
  · have d5 : decide (t < 0) = false := decide_eq_false h3
    have d6 : decide ((4611686018427387904 : Int) < t) = true := decide_eq_true (ht.resolve_left h3)
    clear ht h3
    go_enter Tryz.func11, Tryz.ntmps11
    go_wp2_with fail
    refine (RT.out _).mono ?_
    rintro e w1 ⟨v1, rfl, hv1, hb1⟩
    obtain ⟨a1, n1, c1, a2, n2, c2, ev, _, _⟩ := hv1
    subst ev
    have bx := bel_go hb1 (bel_al (o := .cells #[.slice a1 n1 c1, .slice a2 n2 c2] 35) (bel_refl _))
    have X1 : Hid (Rx (w1.alloc (.cells #[.slice a1 n1 c1, .slice a2 n2 c2] 35)) w.heap.size (.int .i64 0) (.slice none 0 0) (.slice none 0 0) (.slice none 0 0) (.slice none 0 0) (.int .i64 0) ∧ Below w.heap.size w (w1.alloc (.cells #[.slice a1 n1 c1, .slice a2 n2 c2] 35))) := ⟨Rx.go (heap_new w (.cells #[.int .i64 0, .slice none 0 0, .slice none 0 0, .slice none 0 0, .slice none 0 0, .int .i64 0] 37)) bx, bel_go (bel_al (bel_refl w)) bx⟩
    obtain ⟨k0, k1, k2, k3, k4, k5, kf⟩ := X1.out.1.cells
    have kf0 := kf 0
    have kf1 := kf 1
    have kf2 := kf 2
    have kf3 := kf 3
    have kf4 := kf 4
    have kf5 := kf 5
    have EN : Hid _ := X1.out.1.all (.int .i64 0) (.slice none 0 0) (.slice none 0 0) (.slice none 0 0) (.slice none 0 0) (.int .i64 0)
    clear hb1 bx kf
    go_wp2_with fail
    exact bodyPost_ret (v := .tuple #[.agg #[.int .i64 0, .slice none 0 0, .slice none 0 0, .slice none 0 0, .slice none 0 0, .int .i64 0], .int .i64 1]) (by simp [results, Tryz.results11, go_sem, k0, k1, k2, k3, k4, k5]) rfl ⟨rfl, X1.out.2.trans (EN.out.2.below X1.out.2.size (fun k e => by rw [e]; exact Nat.le_refl _))⟩
set_option maxHeartbeats 8000000 in
theorem rnew8_yes (B u k t : Nat) (w : World) (hu : u < 18446744073709551616) (h1 : 1 ≤ B) (h2 : B ≤ 1099511627776) (h : rateOk u (k : Int)) (ht : t ≤ 4611686018427387904) : Calls Tryz.prog 11 #[.int .i64 (B : Int), .int .u64 (u : Int), .int .i64 (k : Int), .int .i64 (t : Int)] w fun e w' => ∃ v', e = .returned (.tuple #[v', .int .i64 0]) ∧ RB w' v' t 0 (rP u k) (rQ u k) B ∧ Below w.heap.size w w' := by
  have K1 : 1 ≤ k := by have := h.2.1; omega
  have K2 : k ≤ 1073741824 := by have := h.2.2.1; omega
  have rf := rate_fc h.2.2.2 K1 K2
  have FQ := low_fc (N := fN (nz u)) (D := fD (nz u)) (n := 17) (fD_pos _) (P_up (fN_lt (nz_lt h.2.2.2)) (by omega)) (fD_lt _)
  obtain ⟨A, C, fm2, mi⟩ := FQ.rdivInt (by omega) (k := k) (by omega) (by omega)
  obtain ⟨eA, eC⟩ := fm2.one rf
  obtain ⟨p0, hp0⟩ : ∃ p0, p0 = fN (nz u) / Nat.gcd (fN (nz u)) (fD (nz u)) := ⟨_, rfl⟩
  obtain ⟨q0, hq0⟩ : ∃ q0, q0 = fD (nz u) / Nat.gcd (fN (nz u)) (fD (nz u)) := ⟨_, rfl⟩
  have RT : Hid (∀ w, Calls Tryz.prog 21 #[.int .u64 (u : Int)] w (MakesRRB w p0 q0 true)) := fun w => by rw [hp0, hq0]; exact rrate_yes u w hu h.2.2.2 h.1
  obtain ⟨R, eR⟩ : ∃ R, R = rP u k := ⟨_, rfl⟩
  obtain ⟨D, eD⟩ : ∃ D, D = rQ u k := ⟨_, rfl⟩
  have RL := rP_lt (per := k) h.2.2.2
  rw [eA, eC, ← hp0, ← hq0, ← eR, ← eD] at mi
  rw [← eR, ← eD] at rf ⊢
  rw [← eR] at RL
  have MI : Hid (∀ v w, RRt w v p0 q0 → Calls Tryz.prog 22 #[v, .int .i64 (k : Int)] w (MakesRRB w R D true)) := mi
  have HR : Hid (Nat.gcd R D = 1 ∧ 0 < D ∧ D < P 18 ∧ R < P 17 ∧ 1 ≤ B ∧ B ≤ 1099511627776 ∧ t ≤ 4611686018427387904) := ⟨rf.low, rf.pos, rf.s2, RL, h1, h2, ht⟩
  have d1 : decide ((B : Int) < 1) = false := decide_eq_false (by omega)
  have d2 : decide ((1099511627776 : Int) < (B : Int)) = false := decide_eq_false (by omega)
  have d3 : decide ((k : Int) < 1) = false := decide_eq_false (by omega)
  have d4 : decide ((1073741824 : Int) < (k : Int)) = false := decide_eq_false (by omega)
  have d5 : decide ((t : Int) < 0) = false := decide_eq_false (by omega)
  have d6 : decide ((4611686018427387904 : Int) < (t : Int)) = false := decide_eq_false (by omega)
  clear h rf FQ fm2 mi eA eC hp0 hq0 eR eD RL hu
  go_enter Tryz.func11, Tryz.ntmps11
  go_wp2_with fail
  refine (RT.out _).mono ?_
  rintro e w1 ⟨v1, rfl, hv1, hb1⟩
  have hv' := hv1
  obtain ⟨a1, n1, c1, a2, n2, c2, ev, _, _⟩ := hv'
  subst ev
  have bx := bel_go hb1 (bel_al (o := .cells #[.slice a1 n1 c1, .slice a2 n2 c2] 35) (bel_refl _))
  obtain ⟨g, hg⟩ : ∃ g, g = w.heap.size := ⟨_, rfl⟩
  have X1 : Hid (Rx (w1.alloc (.cells #[.slice a1 n1 c1, .slice a2 n2 c2] 35)) g (.int .i64 0) (.slice none 0 0) (.slice none 0 0) (.slice none 0 0) (.slice none 0 0) (.int .i64 0) ∧ Below w.heap.size w (w1.alloc (.cells #[.slice a1 n1 c1, .slice a2 n2 c2] 35)) ∧ RRt (w1.alloc (.cells #[.slice a1 n1 c1, .slice a2 n2 c2] 35)) (.agg #[.slice a1 n1 c1, .slice a2 n2 c2]) p0 q0 ∧ g < w1.heap.size) := by
    refine ⟨by rw [hg]; exact Rx.go (heap_new w (.cells #[.int .i64 0, .slice none 0 0, .slice none 0 0, .slice none 0 0, .slice none 0 0, .int .i64 0] 37)) bx, bel_go (bel_al (bel_refl w)) bx, hv1.mono (bel_al (bel_refl _)), ?_⟩
    have := hb1.size
    rw [World.size_alloc] at this
    omega
  have y0 : (w1.alloc (.cells #[.slice a1 n1 c1, .slice a2 n2 c2] 35)).cell? ⟨w1.heap.size, 0, none⟩ = some (.slice a1 n1 c1) := by simp [go_sem]
  have y1 : (w1.alloc (.cells #[.slice a1 n1 c1, .slice a2 n2 c2] 35)).cell? ⟨w1.heap.size, 1, none⟩ = some (.slice a2 n2 c2) := by simp [go_sem]
  have x0 : (w1.alloc (.cells #[.slice a1 n1 c1, .slice a2 n2 c2] 35)).frozen? ⟨w1.heap.size, 0, none⟩ = false := by simp [go_sem]
  have x1 : (w1.alloc (.cells #[.slice a1 n1 c1, .slice a2 n2 c2] 35)).frozen? ⟨w1.heap.size, 1, none⟩ = false := by simp [go_sem]
  have HC : Hid _ := And.intro (And.intro y0 y1) (And.intro x0 x1)
  have HG : Hid (g = w.heap.size) := hg
  rw [← hg]
  clear hv1 hb1 bx y0 y1 x0 x1 hg RT
  go_wp2_with fail
  obtain ⟨w2, hw2⟩ : ∃ w2, w2 = w1.alloc (.cells #[.slice a1 n1 c1, .slice a2 n2 c2] 35) := ⟨_, rfl⟩
  obtain ⟨b, hb⟩ : ∃ b, b = w1.heap.size := ⟨_, rfl⟩
  rw [← hw2] at X1 HC
  rw [← hb] at X1 HC
  rw [← hw2, ← hb]
  clear hw2 hb
  refine (MI.out _ _ X1.out.2.2.1).mono ?_
  rintro e w3 ⟨v3, rfl, hv3, hb3⟩
  have hv' := hv3
  obtain ⟨a3, n3, c3, a4, n4, c4, ev, _, _⟩ := hv'
  subst ev
  have y0 := cell_later hb3 HC.out.1.1
  have y1 := cell_later hb3 HC.out.1.2
  have x0 := (hb3.frozen (World.block_lt_of_cell? _ _ HC.out.1.1)).trans HC.out.2.1
  have x1 := (hb3.frozen (World.block_lt_of_cell? _ _ HC.out.1.2)).trans HC.out.2.2
  have hs := two_set y0 y1 (.slice a3 n3 c3)
  have FB : Fb (fun x => x = b) w3 ((w3.setCell ⟨b, 0, none⟩ (.slice a3 n3 c3)).setCell ⟨b, 1, none⟩ (.slice a4 n4 c4)) := ((Fb.refl (fun x => x = b) w3).set (x := ⟨b, 0, none⟩) rfl _).set (x := ⟨b, 1, none⟩) rfl _
  have X2 : Hid (Rx ((w3.setCell ⟨b, 0, none⟩ (.slice a3 n3 c3)).setCell ⟨b, 1, none⟩ (.slice a4 n4 c4)) g (.int .i64 0) (.slice none 0 0) (.slice none 0 0) (.slice none 0 0) (.slice none 0 0) (.int .i64 0) ∧ Below w.heap.size w ((w3.setCell ⟨b, 0, none⟩ (.slice a3 n3 c3)).setCell ⟨b, 1, none⟩ (.slice a4 n4 c4)) ∧ RRt ((w3.setCell ⟨b, 0, none⟩ (.slice a3 n3 c3)).setCell ⟨b, 1, none⟩ (.slice a4 n4 c4)) (.agg #[.slice a3 n3 c3, .slice a4 n4 c4]) R D ∧ g < b ∧ ((w3.setCell ⟨b, 0, none⟩ (.slice a3 n3 c3)).setCell ⟨b, 1, none⟩ (.slice a4 n4 c4)).cell? ⟨b, 0, none⟩ = some (.slice a3 n3 c3) ∧ ((w3.setCell ⟨b, 0, none⟩ (.slice a3 n3 c3)).setCell ⟨b, 1, none⟩ (.slice a4 n4 c4)).cell? ⟨b, 1, none⟩ = some (.slice a4 n4 c4)) := by
    have hgb := X1.out.2.2.2
    have hbl := bel_go X1.out.2.1 hb3
    refine ⟨FB.heap (X1.out.1.go hb3) (by show ¬ g = b; omega), hbl.trans (FB.below hbl.size (fun k e => by have := HG.out; omega)), (hv3.setCell hs.1 _).setCell hs.2 _, hgb, by simp [go_sem, y0], by simp [go_sem, y1]⟩
  clear hv3 hb3 X1 HC FB hs MI
  go_wp2_with fail
  obtain ⟨w4, hw4⟩ : ∃ w4, w4 = (w3.setCell ⟨b, 0, none⟩ (.slice a3 n3 c3)).setCell ⟨b, 1, none⟩ (.slice a4 n4 c4) := ⟨_, rfl⟩
  rw [← hw4] at X2
  rw [← hw4]
  clear hw4 y0 y1 x0 x1
  have ne1 : ¬ b = g := by have := X2.out.2.2.2.1; omega
  have ne2 : ¬ g = b := by have := X2.out.2.2.2.1; omega
  refine wp_region_held_drew (S := fun w9 => w9.cell? ⟨b, 0, none⟩ = some (.slice a3 n3 c3) ∧ w9.cell? ⟨b, 1, none⟩ = some (.slice a4 n4 c4)) (by kernel_rfl) ⟨X2.out.2.2.2.2.1, X2.out.2.2.2.2.2⟩ (fun hHeld => ?_)
  refine wpAnyH_take (i := 0) (v := .int .i64 (B : Int)) rfl (by kernel_rfl) (by kernel_rfl) (by kernel_rfl) (fun _ _ _ h => h) (Or.inl ⟨by rfl, ?_⟩) (by assumption) ?_
  · intro w hSw
    obtain ⟨g0, g1⟩ := hSw
    go_simp
  refine wpAnyH_take (i := 1) (v := .agg #[.slice a3 n3 c3, .slice a4 n4 c4]) rfl (by kernel_rfl) (by kernel_rfl) (by kernel_rfl) (fun _ _ _ h => h) (Or.inl ⟨by rfl, ?_⟩) (by assumption) ?_
  · intro w hSw
    obtain ⟨g0, g1⟩ := hSw
    go_simp
  refine wpAnyH_take (i := 3) (v := .int .i64 (t : Int)) rfl (by kernel_rfl) (by kernel_rfl) (by kernel_rfl) (fun _ _ _ h => h) (Or.inl ⟨by rfl, ?_⟩) (by assumption) ?_
  · intro w hSw
    obtain ⟨g0, g1⟩ := hSw
    go_simp
  refine wpAnyH_ready (rs := [2]) (by kernel_rfl) (by simp) ?_
  refine AllReadyH.cons rfl (fun K9 hK9 => ?_) AllReadyH.nil
  go_simp
  refine Calls.mono (rzero2_any _) ?_
  rintro e w5 ⟨v5, rfl, hv5, hb5⟩
  replace hb5 : Below w4.heap.size w4 w5 := bel_undrew hb5
  have hv' := hv5
  obtain ⟨a5, n5, c5, a6, n6, c6, ev, _, _⟩ := hv'
  subst ev
  have X3 : Hid (Rx w5 g (.int .i64 0) (.slice none 0 0) (.slice none 0 0) (.slice none 0 0) (.slice none 0 0) (.int .i64 0) ∧ Below w.heap.size w w5 ∧ RRt w5 (.agg #[.slice a3 n3 c3, .slice a4 n4 c4]) R D ∧ RRt w5 (.agg #[.slice a5 n5 c5, .slice a6 n6 c6]) 0 1) := ⟨X2.out.1.go hb5, bel_go X2.out.2.1 hb5, X2.out.2.2.1.mono hb5, hv5⟩
  have t0 := cell_later hb5 X2.out.2.2.2.2.1
  have t1 := cell_later hb5 X2.out.2.2.2.2.2
  obtain ⟨k0, k1, k2, k3, k4, k5, kf⟩ := X3.out.1.cells
  have kf0 := kf 0
  have kf1 := kf 1
  have kf2 := kf 2
  have kf3 := kf 3
  have kf4 := kf 4
  have kf5 := kf 5
  clear hv5 hb5 X2 hHeld kf
  refine hK9.out _ _ ⟨t0, t1⟩ (fun hHeld => ?_)
  clear hK9 K9
  refine wpAnyH_take (i := 4) (v := .agg #[.int .i64 (B : Int), .slice a3 n3 c3, .slice a4 n4 c4, .slice a5 n5 c5, .slice a6 n6 c6, .int .i64 (t : Int)]) rfl (by kernel_rfl) (by kernel_rfl) (by kernel_rfl) (fun _ _ _ h => h) (Or.inl ⟨by rfl, ?_⟩) (by assumption) ?_
  · intro w hSw
    obtain ⟨g0, g1⟩ := hSw
    go_simp
  refine wpAnyH_ready (rs := [5]) (by kernel_rfl) (by simp) ?_
  refine AllReadyH.cons rfl (fun K9 hK9 => ?_) AllReadyH.nil
  go_simp
  clear hHeld
  refine hK9.out _ _ (by simp [go_sem, *]) (fun hHeld => ?_)
  clear hK9 K9
  refine wpAnyH_take (i := 6) (v := .int .i64 0) rfl (by kernel_rfl) (by kernel_rfl) (by kernel_rfl) (fun _ _ _ h => h) (Or.inl ⟨by rfl, ?_⟩) (by assumption) ?_
  · intro w hSw
    obtain ⟨g0, g1⟩ := hSw
    go_simp
  refine wpAnyH_done (by kernel_rfl) ?_ _
  have RV : Hid (RB w5 (.agg #[.int .i64 (B : Int), .slice a3 n3 c3, .slice a4 n4 c4, .slice a5 n5 c5, .slice a6 n6 c6, .int .i64 (t : Int)]) t 0 R D B) := ⟨⟨0, 1, _, _, _, _, _, _, _, _, _, _, _, _, rfl, X3.out.2.2.1, X3.out.2.2.2, ⟨by simp, by omega, HR.out.2.1, by rw [Nat.zero_mul, Nat.zero_mul], P_pos _, P_lt (by omega : 0 < 20)⟩⟩, HR.out.2.2.2.2.2.2, ⟨HR.out.2.2.2.2.1, HR.out.2.2.2.2.2.1⟩, ⟨HR.out.2.1, HR.out.2.2.1⟩, HR.out.2.2.2.1, HR.out.1, Nat.zero_le _⟩
  have EN : Hid _ := rx_end X3.out.1 (by have := HG.out; omega : w.heap.size ≤ g) X3.out.2.1 RV.out (.int .i64 (B : Int)) (.slice a3 n3 c3) (.slice a4 n4 c4) (.slice a5 n5 c5) (.slice a6 n6 c6) (.int .i64 (t : Int)) (g := 0) (x0 := 0) (x5 := 0) (a1 := none) (a2 := none) (a3 := none) (a4 := none) (n1 := 0) (c1 := 0) (n2 := 0) (c2 := 0) (n3 := 0) (c3 := 0) (n4 := 0) (c4 := 0)
  go_wp2_with fail
  exact bodyPost_ret (v := .tuple #[.agg #[.int .i64 (B : Int), .slice a3 n3 c3, .slice a4 n4 c4, .slice a5 n5 c5, .slice a6 n6 c6, .int .i64 (t : Int)], .int .i64 0]) (by simp [results, Tryz.results11, go_sem, k0, k1, k2, k3, k4, k5]) rfl ⟨_, rfl, EN.out.1, EN.out.2⟩
end Go.Proofs.YtdmkneojhnhomaaGreatDoor
namespace Go.Proofs.YtdmkneojhnhomaaGreatDoor
open Go.RowKit
set_option maxRecDepth 100000
set_option linter.unusedVariables false
theorem i64_and1023 (n : Int) : bits .and .i64 n 1023 = n % 1024 := by
  have h127 : (BitVec.ofInt 64 1023).toNat = 2 ^ 10 - 1 := by decide
  have key : (BitVec.ofInt 64 n &&& BitVec.ofInt 64 1023).toNat = (n % ((2 ^ 64 : Nat) : Int)).toNat % 2 ^ 10 := by
    rw [BitVec.toNat_and, BitVec.toNat_ofInt, h127, Nat.and_two_pow_sub_one_eq_mod]
  show IntKind.i64.wrap ((BitVec.ofInt 64 n &&& BitVec.ofInt 64 1023).toNat : Nat) = n % 1024
  rw [key, IntKind.wrap_i64]
  omega
theorem ty_ne {W : World} {x y : Nat} {cs ds : Array Value} {t t' : TypeId} (h : W.heap[x]? = some (.cells cs t)) (k : W.heap[y]? = some (.cells ds t')) (ne : t ≠ t') : x ≠ y := by
  rintro rfl
  rw [h] at k
  injection k with k
  injection k with k1 k2
  exact ne k2
/-- A box that holds a bucket of the document's. -/
def Pw (W : World) (g T N R D B : Nat) : Prop := ∃ a1 n1 c1 a2 n2 c2 a3 n3 c3 a4 n4 c4, Rx W g (.int .i64 (B : Int)) (.slice a1 n1 c1) (.slice a2 n2 c2) (.slice a3 n3 c3) (.slice a4 n4 c4) (.int .i64 (T : Int)) ∧ RB W (.agg #[.int .i64 (B : Int), .slice a1 n1 c1, .slice a2 n2 c2, .slice a3 n3 c3, .slice a4 n4 c4, .int .i64 (T : Int)]) T N R D B
theorem Pw.go {W W' : World} {g T N R D B : Nat} (h : Pw W g T N R D B) (k : Below W.heap.size W W') : Pw W' g T N R D B := by
  obtain ⟨a1, n1, c1, a2, n2, c2, a3, n3, c3, a4, n4, c4, h1, h2⟩ := h
  exact ⟨a1, n1, c1, a2, n2, c2, a3, n3, c3, a4, n4, c4, h1.go k, h2.mono k⟩
theorem Pw.fb {W W' : World} {g T N R D B x : Nat} (h : Pw W g T N R D B) (f : Fb (fun k => k = x) W W') (ho : Odd W x) (hne : g ≠ x) : Pw W' g T N R D B := by
  obtain ⟨a1, n1, c1, a2, n2, c2, a3, n3, c3, a4, n4, c4, h1, h2⟩ := h
  exact ⟨a1, n1, c1, a2, n2, c2, a3, n3, c3, a4, n4, c4, f.heap h1 hne, h2.fb f (fun k e => e ▸ ho)⟩
theorem Pw.odd {W : World} {g T N R D B : Nat} (h : Pw W g T N R D B) : Odd W g := by
  obtain ⟨a1, n1, c1, a2, n2, c2, a3, n3, c3, a4, n4, c4, h1, h2⟩ := h
  exact h1.odd
theorem Pw.neB {W : World} {g b T N R D B T' N' R' D' B' : Nat} (h : Pw W g T N R D B) (k : Bu W b T' N' R' D' B') : g ≠ b := by
  obtain ⟨a1, n1, c1, a2, n2, c2, a3, n3, c3, a4, n4, c4, h1, h2⟩ := h
  obtain ⟨p, q, u1, u2, u3, u4, u5, u6, hb, _⟩ := k.ex
  exact ty_ne h1 hb (by decide)
theorem Pw.neX {W : World} {g s T N R D B : Nat} {x y z : Int} (h : Pw W g T N R D B) (k : Bx W s x y z) : g ≠ s := by
  obtain ⟨a1, n1, c1, a2, n2, c2, a3, n3, c3, a4, n4, c4, h1, h2⟩ := h
  exact ty_ne h1 k (by decide)
/-- Two buckets of the program's, two of the document's. -/
structure Sp (W0 W : World) (b c gw gv R D B R2 D2 B2 Tb Nb Tw Nw Tc Nc Tv Nv : Nat) : Prop where
  bb : Bu W b Tb Nb R D B
  bc : Bu W c Tc Nc R2 D2 B2
  xw : Pw W gw Tw Nw R D B
  xv : Pw W gv Tv Nv R2 D2 B2
  ne : b ≠ c
  nw : gw ≠ gv
  lb : W0.heap.size ≤ b ∧ W0.heap.size ≤ c ∧ W0.heap.size ≤ gw ∧ W0.heap.size ≤ gv
  bel : Below W0.heap.size W0 W
  tab : Tab W
/-- And a step. -/
structure Sq (W0 W : World) (b c gw gv R D B R2 D2 B2 Tb Nb Tw Nw Tc Nc Tv Nv s : Nat) (x y z : Int) : Prop extends Sp W0 W b c gw gv R D B R2 D2 B2 Tb Nb Tw Nw Tc Nc Tv Nv where
  bx : Bx W s x y z
section
variable {W0 W W' : World} {b c gw gv R D B R2 D2 B2 Tb Nb Tw Nw Tc Nc Tv Nv s T' N' : Nat} {x y z : Int}
theorem Sp.go (h : Sp W0 W b c gw gv R D B R2 D2 B2 Tb Nb Tw Nw Tc Nc Tv Nv) (k : Below W.heap.size W W') : Sp W0 W' b c gw gv R D B R2 D2 B2 Tb Nb Tw Nw Tc Nc Tv Nv := ⟨h.bb.go k, h.bc.go k, h.xw.go k, h.xv.go k, h.ne, h.nw, h.lb, h.bel.trans (k.mono h.bel.size), h.tab.go k⟩
theorem Sq.go (h : Sq W0 W b c gw gv R D B R2 D2 B2 Tb Nb Tw Nw Tc Nc Tv Nv s x y z) (k : Below W.heap.size W W') : Sq W0 W' b c gw gv R D B R2 D2 B2 Tb Nb Tw Nw Tc Nc Tv Nv s x y z := ⟨h.toSp.go k, h.bx.go k⟩
theorem Sq.setB (h : Sq W0 W b c gw gv R D B R2 D2 B2 Tb Nb Tw Nw Tc Nc Tv Nv s x y z) (k : Bu W' b T' N' R D B) (f : Fb (fun x => x = b) W W') : Sq W0 W' b c gw gv R D B R2 D2 B2 T' N' Tw Nw Tc Nc Tv Nv s x y z :=
  ⟨⟨k, h.bc.fb f (fun x e => e ▸ h.bb.odd) (fun e => h.ne e.symm), h.xw.fb f h.bb.odd (h.xw.neB h.bb), h.xv.fb f h.bb.odd (h.xv.neB h.bb), h.ne, h.nw, h.lb, h.bel.trans (f.below h.bel.size (fun x e => e ▸ h.lb.1)), h.tab.fb f (fun x e => e ▸ h.bb.odd)⟩, h.bx.fb h.bb f⟩
theorem Sq.setC (h : Sq W0 W b c gw gv R D B R2 D2 B2 Tb Nb Tw Nw Tc Nc Tv Nv s x y z) (k : Bu W' c T' N' R2 D2 B2) (f : Fb (fun x => x = c) W W') : Sq W0 W' b c gw gv R D B R2 D2 B2 Tb Nb Tw Nw T' N' Tv Nv s x y z :=
  ⟨⟨h.bb.fb f (fun x e => e ▸ h.bc.odd) (fun e => h.ne e), k, h.xw.fb f h.bc.odd (h.xw.neB h.bc), h.xv.fb f h.bc.odd (h.xv.neB h.bc), h.ne, h.nw, h.lb, h.bel.trans (f.below h.bel.size (fun x e => e ▸ h.lb.2.1)), h.tab.fb f (fun x e => e ▸ h.bc.odd)⟩, h.bx.fb h.bc f⟩
theorem Sq.setW (h : Sq W0 W b c gw gv R D B R2 D2 B2 Tb Nb Tw Nw Tc Nc Tv Nv s x y z) (k : Pw W' gw T' N' R D B) (f : Fb (fun x => x = gw) W W') : Sq W0 W' b c gw gv R D B R2 D2 B2 Tb Nb T' N' Tc Nc Tv Nv s x y z :=
  ⟨⟨h.bb.fb f (fun x e => e ▸ h.xw.odd) (fun e => h.xw.neB h.bb e.symm), h.bc.fb f (fun x e => e ▸ h.xw.odd) (fun e => h.xw.neB h.bc e.symm), k, h.xv.fb f h.xw.odd (fun e => h.nw e.symm), h.ne, h.nw, h.lb, h.bel.trans (f.below h.bel.size (fun x e => e ▸ h.lb.2.2.1)), h.tab.fb f (fun x e => e ▸ h.xw.odd)⟩, f.heap h.bx (fun e => h.xw.neX h.bx e.symm)⟩
theorem Sq.setV (h : Sq W0 W b c gw gv R D B R2 D2 B2 Tb Nb Tw Nw Tc Nc Tv Nv s x y z) (k : Pw W' gv T' N' R2 D2 B2) (f : Fb (fun x => x = gv) W W') : Sq W0 W' b c gw gv R D B R2 D2 B2 Tb Nb Tw Nw Tc Nc T' N' s x y z :=
  ⟨⟨h.bb.fb f (fun x e => e ▸ h.xv.odd) (fun e => h.xv.neB h.bb e.symm), h.bc.fb f (fun x e => e ▸ h.xv.odd) (fun e => h.xv.neB h.bc e.symm), h.xw.fb f h.xv.odd (fun e => h.nw e), k, h.ne, h.nw, h.lb, h.bel.trans (f.below h.bel.size (fun x e => e ▸ h.lb.2.2.2)), h.tab.fb f (fun x e => e ▸ h.xv.odd)⟩, f.heap h.bx (fun e => h.xv.neX h.bx e.symm)⟩
end
/-- What is told is put into the box. -/
theorem Pw.put {W : World} {g T N R D B T' N' : Nat} (h : Pw W g T N R D B) {a1 a2 a3 a4 : Option Addr} {n1 c1 n2 c2 n3 c3 n4 c4 : Nat} (k : RB W (.agg #[.int .i64 (B : Int), .slice a1 n1 c1, .slice a2 n2 c2, .slice a3 n3 c3, .slice a4 n4 c4, .int .i64 (T' : Int)]) T' N' R D B) : Pw ((((((W.setCell ⟨g, 0, none⟩ (.int .i64 (B : Int))).setCell ⟨g, 1, none⟩ (.slice a1 n1 c1)).setCell ⟨g, 2, none⟩ (.slice a2 n2 c2)).setCell ⟨g, 3, none⟩ (.slice a3 n3 c3)).setCell ⟨g, 4, none⟩ (.slice a4 n4 c4)).setCell ⟨g, 5, none⟩ (.int .i64 (T' : Int))) g T' N' R D B ∧ Fb (fun x => x = g) W ((((((W.setCell ⟨g, 0, none⟩ (.int .i64 (B : Int))).setCell ⟨g, 1, none⟩ (.slice a1 n1 c1)).setCell ⟨g, 2, none⟩ (.slice a2 n2 c2)).setCell ⟨g, 3, none⟩ (.slice a3 n3 c3)).setCell ⟨g, 4, none⟩ (.slice a4 n4 c4)).setCell ⟨g, 5, none⟩ (.int .i64 (T' : Int))) := by
  have ho := h.odd
  obtain ⟨_, _, _, _, _, _, _, _, _, _, _, _, h1, h2⟩ := h
  have AL := h1.all (.int .i64 (B : Int)) (.slice a1 n1 c1) (.slice a2 n2 c2) (.slice a3 n3 c3) (.slice a4 n4 c4) (.int .i64 (T' : Int))
  exact ⟨⟨_, _, _, _, _, _, _, _, _, _, _, _, AL.1, k.fb AL.2 (fun x e => e ▸ ho)⟩, AL.2⟩
end Go.Proofs.YtdmkneojhnhomaaGreatDoor
namespace Go.Proofs.YtdmkneojhnhomaaGreatDoor
open Go.RowKit
set_option maxRecDepth 100000
set_option linter.unusedVariables false
/-- Both refuse alike. -/
theorem new_bad (B : Int) (u : Nat) (per t : Int) (hu : u < 18446744073709551616) (r2 : per ≤ 9223372036854775807) (h : ¬ ((1 ≤ B ∧ B ≤ 1099511627776) ∧ rateOk u per ∧ 0 ≤ t ∧ t ≤ 4611686018427387904)) : ∃ E : Int, (E = 1 ∨ E = 97 ∨ E = 98) ∧ (∀ w, Tab w → Calls Tryz.prog 9 #[.int .i64 B, .float .f64 u, .int .i64 per, .int .i64 t] w (NewNo w E)) ∧ ∀ w, Calls Tryz.prog 11 #[.int .i64 B, .int .u64 (u : Int), .int .i64 per, .int .i64 t] w (RNo w E) := by
  by_cases h1 : 1 ≤ B ∧ B ≤ 1099511627776
  · by_cases h2 : rateOk u per
    · have h3 : t < 0 ∨ 4611686018427387904 < t := by
        by_cases h4 : t < 0
        · exact .inl h4
        · exact .inr (Int.not_le.1 fun e => h ⟨h1, h2, by omega, e⟩)
      obtain ⟨k, rfl⟩ : ∃ k : Nat, per = (k : Int) := ⟨per.toNat, by have := h2.2.1; omega⟩
      exact ⟨1, by omega, fun w hT => bnew_time B u k t w h1.1 h1.2 h2 h3 hT, fun w => rnew8_time B u k t w hu h1.1 h1.2 h2 h3⟩
    · exact ⟨98, by omega, fun w hT => bnew_rate B u per t w h1.1 h1.2 h2 hu, fun w => rnew8_rate B u per t w hu h1.1 h1.2 h2⟩
  · have h3 : B < 1 ∨ 1099511627776 < B := by omega
    exact ⟨97, by omega, fun w hT => bnew_burst B u per t w h3, fun w => rnew8_burst B u per t w hu h3⟩
/-- How the second bucket begins. -/
theorem two_new (n : Nat) (hn : n ≤ 1024) (h1 : 1 ≤ n) : ∃ R D, (∀ w, Tab w → Calls Tryz.prog 9 #[.int .i64 (n : Int), .float .f64 4602678819172646912, .int .i64 2, .int .i64 0] w (NewYes w 0 R D n)) ∧ (∀ w, Calls Tryz.prog 11 #[.int .i64 (n : Int), .int .u64 4602678819172646912, .int .i64 2, .int .i64 0] w fun e w' => ∃ v', e = .returned (.tuple #[v', .int .i64 0]) ∧ RB w' v' 0 0 R D n ∧ Below w.heap.size w w') ∧ ∀ w, Calls Tryz.prog 12 #[.float .f64 4602678819172646912] w fun e w' => e = .returned (.int .u64 4602678819172646912) ∧ w = w' := by
  obtain ⟨m, hm⟩ : ∃ m : Nat, m = 4602678819172646912 := ⟨_, rfl⟩
  have em : (m : Int) = 4602678819172646912 := by omega
  have hok : rateOk m ((2 : Nat) : Int) := by rw [hm]; exact half_ok _ (by omega) (by omega)
  refine ⟨rP m 2, rQ m 2, fun w hT => ?_, fun w => ?_, fun w => ?_⟩
  · have := bnew_yes n m 2 0 w h1 (by omega) hok (by omega) hT
    rw [← hm]
    exact this
  · have := rnew8_yes n m 2 0 w (by omega) h1 (by omega) hok (by omega)
    rw [em] at this
    exact this
  · have := bits_any m w
    rw [em] at this
    rw [← hm]
    exact this.mono fun e w' h => ⟨h.1, h.2.symm⟩
set_option maxHeartbeats 8000000 in
theorem plays_any (W0 : World) (i0 : Int) (u : Nat) (i2 i3 i4 : Int) (sa : Option Addr) (L K : Nat) (G : Nat → Nat → Int) (r0 : -9223372036854775808 ≤ i0 ∧ i0 ≤ 9223372036854775807) (hu : u < 18446744073709551616) (r2 : -9223372036854775808 ≤ i2 ∧ i2 ≤ 9223372036854775807) (r3 : -9223372036854775808 ≤ i3 ∧ i3 ≤ 9223372036854775807) (r4 : -9223372036854775808 ≤ i4 ∧ i4 ≤ 9223372036854775807) (hs : SSl W0 sa L K G) (hT : Tab W0) :
    Calls Tryz.prog 3 #[.int .i64 i0, .int .u64 (u : Int), .int .i64 i2, .int .i64 i3, .int .i64 i4, .slice sa L K] W0 fun e w' => e = .returned (.bool true) ∧ Below W0.heap.size W0 w' := by
  have HU : Hid (SSl W0 sa L K G ∧ Tab W0) := ⟨hs, hT⟩
  have hl : L ≤ 9223372036854775807 := Nat.le_trans hs.le hs.lim
  have hl' := hs.le
  obtain ⟨m, hm⟩ : ∃ m : Nat, (m : Int) = i4 % 1024 := ⟨(i4 % 1024).toNat, by omega⟩
  have qm : bits .and .i64 i4 1023 = (m : Int) := by rw [i64_and1023, hm]
  obtain ⟨B2, eB2⟩ : ∃ B2 : Nat, B2 = m + 1 := ⟨_, rfl⟩
  obtain ⟨R2, D2, ny2, ry2, bt⟩ := two_new B2 (by omega) (by omega)
  have NY2 : Hid (∀ w, Tab w → Calls Tryz.prog 9 #[.int .i64 (B2 : Int), .float .f64 4602678819172646912, .int .i64 2, .int .i64 0] w (NewYes w 0 R2 D2 B2)) := ny2
  have RY2 : Hid (∀ w, Calls Tryz.prog 11 #[.int .i64 (B2 : Int), .int .u64 4602678819172646912, .int .i64 2, .int .i64 0] w fun e w' => ∃ v', e = .returned (.tuple #[v', .int .i64 0]) ∧ RB w' v' 0 0 R2 D2 B2 ∧ Below w.heap.size w w') := ry2
  have BT : Hid (∀ w, Calls Tryz.prog 12 #[.float .f64 4602678819172646912] w fun e w' => e = .returned (.int .u64 4602678819172646912) ∧ w = w') := bt
  have FT : Hid (∀ w, Calls Tryz.prog 10 #[.int .u64 (u : Int)] w fun e w' => e = .returned (.float .f64 u) ∧ w = w') := fun w => (float_any u w).mono fun e w' h => ⟨h.1, h.2.symm⟩
  have QB : Hid (wrap64 ((m : Int) + 1) = (B2 : Int)) := by show _ = _; rw [IntWalk.wrap64_in _ ⟨by omega, by omega⟩]; omega
  clear hs hT eB2 hm ny2 ry2 bt r0 r3 r4
  go_enter Tryz.func3, Tryz.ntmps3
  go_wp2_with fail
  refine (btold_true W0 HU.out.2).mono ?_
  rintro e w1 ⟨rfl, hb1⟩
  have Z1 : Hid (Below W0.heap.size W0 w1 ∧ Tab w1) := ⟨hb1, HU.out.2.go hb1⟩
  clear hb1
  go_wp2_with fail
  refine (FT.out _).mono ?_
  rintro e w2 ⟨rfl, rfl⟩
  go_wp2_with fail
  by_cases hgood : (1 ≤ i0 ∧ i0 ≤ 1099511627776) ∧ rateOk u i2 ∧ 0 ≤ i3 ∧ i3 ≤ 4611686018427387904
  · obtain ⟨hb0, hr0, ht0⟩ := hgood
    obtain ⟨B, rfl⟩ : ∃ B : Nat, i0 = (B : Int) := ⟨i0.toNat, by omega⟩
    obtain ⟨k0, rfl⟩ : ∃ k0 : Nat, i2 = (k0 : Int) := ⟨i2.toNat, by have := hr0.2.1; omega⟩
    obtain ⟨t0, rfl⟩ : ∃ t0 : Nat, i3 = (t0 : Int) := ⟨i3.toNat, by omega⟩
    refine (bnew_yes B u k0 t0 _ (by omega) (by omega) hr0 (by omega) Z1.out.2).mono ?_
    rintro e w3 ⟨b, rfl, hb, hub, hbl⟩
    have RY : Hid (∀ w, Calls Tryz.prog 11 #[.int .i64 (B : Int), .int .u64 (u : Int), .int .i64 (k0 : Int), .int .i64 (t0 : Int)] w fun e w' => ∃ v', e = .returned (.tuple #[v', .int .i64 0]) ∧ RB w' v' t0 0 (rP u k0) (rQ u k0) B ∧ Below w.heap.size w w') := fun w => rnew8_yes B u k0 t0 w hu (by omega) (by omega) hr0 (by omega)
    obtain ⟨R, eR⟩ : ∃ R, R = rP u k0 := ⟨_, rfl⟩
    obtain ⟨D, eD⟩ : ∃ D, D = rQ u k0 := ⟨_, rfl⟩
    rw [← eR, ← eD] at hub RY
    have Z2 : Hid (Bu w3 b t0 0 R D B ∧ W0.heap.size ≤ b ∧ Below W0.heap.size W0 w3 ∧ Tab w3) := ⟨hub, Nat.le_trans Z1.out.1.size hb, Z1.out.1.trans (hbl.mono Z1.out.1.size), Z1.out.2.go hbl⟩
    clear hb hub hbl Z1 hb0 hr0 ht0 eR eD r2 hu
    go_wp2_with fail
    refine (RY.out _).mono ?_
    rintro e w4 ⟨v4, rfl, h4, hb4⟩
    obtain ⟨p4, q4, a1, n1, c1, a2, n2, c2, a3, n3, c3, a4, n4, c4, ev, -, -, -⟩ := h4.ex
    subst ev
    have bx := bel_go hb4 (bel_al (o := .cells #[.int .i64 (B : Int), .slice a1 n1 c1, .slice a2 n2 c2, .slice a3 n3 c3, .slice a4 n4 c4, .int .i64 (t0 : Int)] 37) (bel_refl _))
    obtain ⟨gw, hgw⟩ : ∃ gw, gw = w4.heap.size := ⟨_, rfl⟩
    have Z3 : Hid (Bu (w4.alloc (.cells #[.int .i64 (B : Int), .slice a1 n1 c1, .slice a2 n2 c2, .slice a3 n3 c3, .slice a4 n4 c4, .int .i64 (t0 : Int)] 37)) b t0 0 R D B ∧ W0.heap.size ≤ b ∧ Below W0.heap.size W0 (w4.alloc (.cells #[.int .i64 (B : Int), .slice a1 n1 c1, .slice a2 n2 c2, .slice a3 n3 c3, .slice a4 n4 c4, .int .i64 (t0 : Int)] 37)) ∧ Tab (w4.alloc (.cells #[.int .i64 (B : Int), .slice a1 n1 c1, .slice a2 n2 c2, .slice a3 n3 c3, .slice a4 n4 c4, .int .i64 (t0 : Int)] 37)) ∧ Pw (w4.alloc (.cells #[.int .i64 (B : Int), .slice a1 n1 c1, .slice a2 n2 c2, .slice a3 n3 c3, .slice a4 n4 c4, .int .i64 (t0 : Int)] 37)) gw t0 0 R D B ∧ W0.heap.size ≤ gw ∧ gw < (w4.alloc (.cells #[.int .i64 (B : Int), .slice a1 n1 c1, .slice a2 n2 c2, .slice a3 n3 c3, .slice a4 n4 c4, .int .i64 (t0 : Int)] 37)).heap.size) := by
      refine ⟨Z2.out.1.go bx, Z2.out.2.1, Z2.out.2.2.1.trans (bx.mono Z2.out.2.2.1.size), Z2.out.2.2.2.go bx, ⟨_, _, _, _, _, _, _, _, _, _, _, _, by rw [hgw]; exact heap_new _ _, h4.mono (bel_al (bel_refl _))⟩, ?_, ?_⟩
      · rw [hgw]; exact Nat.le_trans Z2.out.2.2.1.size hb4.size
      · rw [hgw, World.size_alloc]; omega
    have HGW : Hid (gw = w4.heap.size) := hgw
    clear h4 hb4 bx hgw Z2 RY
    have qb := QB.out
    go_wp2_with fail
    rw [← HGW.out]
    clear HGW
    refine (NY2.out _ Z3.out.2.2.2.1).mono ?_
    rintro e w5 ⟨c, rfl, hc, huc, hbl⟩
    have Z4 : Hid (Bu w5 b t0 0 R D B ∧ W0.heap.size ≤ b ∧ Below W0.heap.size W0 w5 ∧ Tab w5 ∧ Pw w5 gw t0 0 R D B ∧ W0.heap.size ≤ gw ∧ gw < w5.heap.size ∧ Bu w5 c 0 0 R2 D2 B2 ∧ W0.heap.size ≤ c ∧ b ≠ c) := ⟨Z3.out.1.go hbl, Z3.out.2.1, Z3.out.2.2.1.trans (hbl.mono Z3.out.2.2.1.size), Z3.out.2.2.2.1.go hbl, Z3.out.2.2.2.2.1.go hbl, Z3.out.2.2.2.2.2.1, Nat.lt_of_lt_of_le Z3.out.2.2.2.2.2.2 hbl.size, huc, Nat.le_trans Z3.out.2.2.1.size hc, by have := Z3.out.1.lt; omega⟩
    clear hc huc hbl Z3
    go_wp2_with fail
    refine (BT.out _).mono ?_
    rintro e w2 ⟨rfl, rfl⟩
    go_wp2_with fail
    refine (RY2.out _).mono ?_
    rintro e w6 ⟨v6, rfl, h6, hb6⟩
    obtain ⟨p6, q6, a5, n5, c5, a6, n6, c6, a7, n7, c7, a8, n8, c8, ev, -, -, -⟩ := h6.ex
    subst ev
    have bx := bel_go hb6 (bel_al (o := .cells #[.int .i64 (B2 : Int), .slice a5 n5 c5, .slice a6 n6 c6, .slice a7 n7 c7, .slice a8 n8 c8, .int .i64 ((0 : Nat) : Int)] 37) (bel_refl _))
    obtain ⟨gv, hgv⟩ : ∃ gv, gv = w6.heap.size := ⟨_, rfl⟩
    have Z5 : Hid (Sp W0 (w6.alloc (.cells #[.int .i64 (B2 : Int), .slice a5 n5 c5, .slice a6 n6 c6, .slice a7 n7 c7, .slice a8 n8 c8, .int .i64 ((0 : Nat) : Int)] 37)) b c gw gv R D B R2 D2 B2 t0 0 t0 0 0 0 0 0) := by
      obtain ⟨z1, z2, z3, z4, z5, z6, z7, z8, z9, z10⟩ := Z4.out
      refine ⟨z1.go bx, z8.go bx, z5.go bx, ⟨_, _, _, _, _, _, _, _, _, _, _, _, by rw [hgv]; exact heap_new _ _, h6.mono (bel_al (bel_refl _))⟩, z10, ?_, ⟨z2, z9, z6, ?_⟩, z3.trans (bx.mono z3.size), z4.go bx⟩
      · have := hb6.size; omega
      · rw [hgv]; exact Nat.le_trans z3.size hb6.size
    have HGV : Hid (gv = w6.heap.size) := hgv
    clear h6 hb6 bx hgv Z4 qb
    go_wp2_with fail
    rw [← HGV.out]
    clear HGV
    obtain ⟨w7, hw7⟩ : ∃ w7, w7 = w6.alloc (.cells #[.int .i64 (B2 : Int), .slice a5 n5 c5, .slice a6 n6 c6, .slice a7 n7 c7, .slice a8 n8 c8, .int .i64 ((0 : Nat) : Int)] 37) := ⟨_, rfl⟩
    rw [← hw7] at Z5
    first | rw [← hw7] | (simp only [Int.natCast_zero] at hw7; rw [← hw7])
    clear hw7
    go_loopw [21] (fun iv wr => ∃ (k T N T2 N2 : Nat), k ≤ L ∧ iv = .int .i64 (k : Int) ∧ Hid (Sp W0 wr b c gw gv R D B R2 D2 B2 T N T N T2 N2 T2 N2)) (fun i _ => L - (intOf i).toNat)
    case atStart => exact ⟨0, t0, 0, 0, 0, Nat.zero_le _, rfl, Z5⟩
    case round =>
      clear Z5
      obtain ⟨k, T, N, T2, N2, hk, rfl, hI⟩ := hrel
      by_cases hk1 : k < L
      · have d1 : decide ((k : Int) < (L : Int)) = true := decide_eq_true (by omega)
        by_cases hk2 : k < 200
        · have d2 : decide ((k : Int) < 200) = true := decide_eq_true (by omega)
          obtain ⟨sb, so, es, hc⟩ := HU.out.1.at hI.out.bel (by omega)
          have c0 : wr.cell? ⟨sb, so + k * 3, none⟩ = some (.int .i64 (G k 0)) := by simpa using hc k 0 hk1 (by omega)
          have c1 := hc k 1 hk1 (by omega)
          have c2 := hc k 2 hk1 (by omega)
          have b2 := HU.out.1.wf k 2 hk1 (by omega)
          subst es
          obtain ⟨x, ex⟩ : ∃ x, x = G k 0 := ⟨_, rfl⟩
          obtain ⟨y, ey⟩ : ∃ y, y = G k 1 := ⟨_, rfl⟩
          obtain ⟨z, ez⟩ : ∃ z, z = G k 2 := ⟨_, rfl⟩
          rw [← ex] at c0
          rw [← ey] at c1
          rw [← ez] at c2 b2
          have HZ : Hid (z ≤ 9223372036854775807) := b2.2
          obtain ⟨s, hs⟩ : ∃ s, s = wr.heap.size := ⟨_, rfl⟩
          have Q1 : Hid (Sq W0 (wr.alloc (.cells #[.int .i64 x, .int .i64 y, .int .i64 z] 42)) b c gw gv R D B R2 D2 B2 T N T N T2 N2 T2 N2 s x y z) := ⟨hI.out.go (bel_al (bel_refl _)), by rw [hs]; exact heap_new _ _⟩
          have HSS : Hid (s = wr.heap.size) := hs
          clear ex ey ez b2 hc hI hs
          go_upto_region 16 with fail
          rw [← HSS.out]
          clear HSS c0 c1 c2
          obtain ⟨w1, hw1⟩ : ∃ w1, w1 = (wr.alloc (.cells #[.int .i64 x, .int .i64 y, .int .i64 z] 42)) := ⟨_, rfl⟩
          rw [← hw1] at Q1
          rw [← hw1]
          clear hw1
          obtain ⟨e0, e1, e2⟩ := Q1.out.bx.cells
          by_cases hx0 : x = 0
          · subst hx0
            go_wp2_with fail
            refine (bat_any b T N R D B y w1 Q1.out.bb Q1.out.tab).mono ?_
            rintro e w2 ⟨v2, p, q, rfl, hv2, hf2, k2, f2⟩
            obtain ⟨a1, n1, c1, a2, n2, c2, ev, _, _⟩ := hv2.raw
            subst ev
            obtain ⟨M, hM⟩ : ∃ M, M = atN T N R D B y := ⟨_, rfl⟩
            obtain ⟨T', hT'⟩ : ∃ T', T' = atT T y := ⟨_, rfl⟩
            have HM : Hid (M = atN T N R D B y ∧ T' = atT T y) := ⟨hM, hT'⟩
            rw [← hM] at hf2 k2
            rw [← hT'] at k2
            have ba := bel_al (o := .cells #[.slice a1 n1 c1, .slice a2 n2 c2] 46) (bel_refl w2)
            obtain ⟨b24, hb24⟩ : ∃ b24, b24 = w2.heap.size := ⟨_, rfl⟩
            have x := 0
            have Q2 : Hid (Sq W0 (w2.alloc (.cells #[.slice a1 n1 c1, .slice a2 n2 c2] 46)) b c gw gv R D B R2 D2 B2 T' M T N T2 N2 T2 N2 s 0 y z ∧ Rt (w2.alloc (.cells #[.slice a1 n1 c1, .slice a2 n2 c2] 46)) (.agg #[.slice a1 n1 c1, .slice a2 n2 c2]) p q ∧ Fc p q M D 20 ∧ (w2.alloc (.cells #[.slice a1 n1 c1, .slice a2 n2 c2] 46)).cell? ⟨b24, 0, none⟩ = some (.slice a1 n1 c1) ∧ (w2.alloc (.cells #[.slice a1 n1 c1, .slice a2 n2 c2] 46)).cell? ⟨b24, 1, none⟩ = some (.slice a2 n2 c2) ∧ gw < b24) := by
              have q2 := Q1.out.setB k2 f2
              refine ⟨q2.go ba, hv2.mono ba, hf2, by rw [hb24]; simp [go_sem], by rw [hb24]; simp [go_sem], ?_⟩
              obtain ⟨_, _, _, _, _, _, _, _, _, _, _, _, h1, _⟩ := q2.xw
              rw [hb24]
              exact (Array.getElem?_eq_some_iff.1 h1).1
            obtain ⟨a3, n3, c3, a4, n4, c4, a5, n5, c5, a6, n6, c6, rx, rb⟩ := Q2.out.1.xw
            have HX : Hid (Rx (w2.alloc (.cells #[.slice a1 n1 c1, .slice a2 n2 c2] 46)) gw (.int .i64 (B : Int)) (.slice a3 n3 c3) (.slice a4 n4 c4) (.slice a5 n5 c5) (.slice a6 n6 c6) (.int .i64 (T : Int)) ∧ RB (w2.alloc (.cells #[.slice a1 n1 c1, .slice a2 n2 c2] 46)) (.agg #[.int .i64 (B : Int), .slice a3 n3 c3, .slice a4 n4 c4, .slice a5 n5 c5, .slice a6 n6 c6, .int .i64 (T : Int)]) T N R D B) := ⟨rx, rb⟩
            obtain ⟨j0, j1, j2, j3, j4, j5, jf⟩ := rx.cells
            clear jf
            obtain ⟨-, e1, e2⟩ := Q2.out.1.bx.cells
            have H24 : Hid (b24 = w2.heap.size) := hb24
            clear hv2 hf2 k2 f2 hM hT' ba rx rb Q1 hb24 x
            go_wp2_with fail
            rw [← H24.out]
            obtain ⟨w3, hw3⟩ : ∃ w3, w3 = (w2.alloc (.cells #[.slice a1 n1 c1, .slice a2 n2 c2] 46)) := ⟨_, rfl⟩
            rw [← hw3] at Q2 HX e1 e2
            rw [← hw3]
            clear hw3 H24 j0 j1 j2 j3 j4 j5
            refine (rat8_any _ T N R D B y w3 HX.out.2).mono ?_
            rintro e w4 ⟨v4, rfl, h4, hb4⟩
            rw [← HM.out.1, ← HM.out.2] at h4
            obtain ⟨p4, q4, a7, n7, c7, a8, n8, c8, a9, n9, c9, a10, n10, c10, ev, -, g2, f4⟩ := h4.ex
            subst ev
            obtain ⟨ep, eq⟩ := Q2.out.2.2.1.one f4
            subst ep eq
            have x4 := HX.out.1.go hb4
            obtain ⟨ii0, ii1, ii2, ii3, ii4, ii5, iif⟩ := x4.cells
            have iif0 := iif 0
            have iif1 := iif 1
            have iif2 := iif 2
            have iif3 := iif 3
            have iif4 := iif 4
            have iif5 := iif 5
            clear iif
            have AL := x4.all (.int .i64 (B : Int)) (.slice a7 n7 c7) (.slice a8 n8 c8) (.slice a9 n9 c9) (.slice a10 n10 c10) (.int .i64 (T' : Int))
            have PT := (Q2.out.1.go hb4).xw.put h4
            have ho : ∀ k, k = gw → Odd w4 k := fun k e => e ▸ x4.odd
            have Q3 : Hid (Sq W0 ((((((w4.setCell ⟨gw, 0, none⟩ (.int .i64 (B : Int))).setCell ⟨gw, 1, none⟩ (.slice a7 n7 c7)).setCell ⟨gw, 2, none⟩ (.slice a8 n8 c8)).setCell ⟨gw, 3, none⟩ (.slice a9 n9 c9)).setCell ⟨gw, 4, none⟩ (.slice a10 n10 c10)).setCell ⟨gw, 5, none⟩ (.int .i64 (T' : Int))) b c gw gv R D B R2 D2 B2 T' M T' M T2 N2 T2 N2 s 0 y z ∧ Rt ((((((w4.setCell ⟨gw, 0, none⟩ (.int .i64 (B : Int))).setCell ⟨gw, 1, none⟩ (.slice a7 n7 c7)).setCell ⟨gw, 2, none⟩ (.slice a8 n8 c8)).setCell ⟨gw, 3, none⟩ (.slice a9 n9 c9)).setCell ⟨gw, 4, none⟩ (.slice a10 n10 c10)).setCell ⟨gw, 5, none⟩ (.int .i64 (T' : Int))) (.agg #[.slice a1 n1 c1, .slice a2 n2 c2]) p q ∧ RRt ((((((w4.setCell ⟨gw, 0, none⟩ (.int .i64 (B : Int))).setCell ⟨gw, 1, none⟩ (.slice a7 n7 c7)).setCell ⟨gw, 2, none⟩ (.slice a8 n8 c8)).setCell ⟨gw, 3, none⟩ (.slice a9 n9 c9)).setCell ⟨gw, 4, none⟩ (.slice a10 n10 c10)).setCell ⟨gw, 5, none⟩ (.int .i64 (T' : Int))) (.agg #[.slice a9 n9 c9, .slice a10 n10 c10]) p q ∧ RS p ∧ RS q ∧ ((((((w4.setCell ⟨gw, 0, none⟩ (.int .i64 (B : Int))).setCell ⟨gw, 1, none⟩ (.slice a7 n7 c7)).setCell ⟨gw, 2, none⟩ (.slice a8 n8 c8)).setCell ⟨gw, 3, none⟩ (.slice a9 n9 c9)).setCell ⟨gw, 4, none⟩ (.slice a10 n10 c10)).setCell ⟨gw, 5, none⟩ (.int .i64 (T' : Int))).cell? ⟨b24, 0, none⟩ = some (.slice a1 n1 c1) ∧ ((((((w4.setCell ⟨gw, 0, none⟩ (.int .i64 (B : Int))).setCell ⟨gw, 1, none⟩ (.slice a7 n7 c7)).setCell ⟨gw, 2, none⟩ (.slice a8 n8 c8)).setCell ⟨gw, 3, none⟩ (.slice a9 n9 c9)).setCell ⟨gw, 4, none⟩ (.slice a10 n10 c10)).setCell ⟨gw, 5, none⟩ (.int .i64 (T' : Int))).cell? ⟨b24, 1, none⟩ = some (.slice a2 n2 c2) ∧ ((((((w4.setCell ⟨gw, 0, none⟩ (.int .i64 (B : Int))).setCell ⟨gw, 1, none⟩ (.slice a7 n7 c7)).setCell ⟨gw, 2, none⟩ (.slice a8 n8 c8)).setCell ⟨gw, 3, none⟩ (.slice a9 n9 c9)).setCell ⟨gw, 4, none⟩ (.slice a10 n10 c10)).setCell ⟨gw, 5, none⟩ (.int .i64 (T' : Int))).cell? ⟨gw, 3, none⟩ = some (.slice a9 n9 c9) ∧ ((((((w4.setCell ⟨gw, 0, none⟩ (.int .i64 (B : Int))).setCell ⟨gw, 1, none⟩ (.slice a7 n7 c7)).setCell ⟨gw, 2, none⟩ (.slice a8 n8 c8)).setCell ⟨gw, 3, none⟩ (.slice a9 n9 c9)).setCell ⟨gw, 4, none⟩ (.slice a10 n10 c10)).setCell ⟨gw, 5, none⟩ (.int .i64 (T' : Int))).cell? ⟨gw, 4, none⟩ = some (.slice a10 n10 c10)) := by
              have hne : ¬ b24 = gw := by have := Q2.out.2.2.2.2.2; omega
              exact ⟨(Q2.out.1.go hb4).setW PT.1 PT.2, (Q2.out.2.1.mono hb4).fb AL.2 ho, g2.fb AL.2 ho, Q2.out.2.2.1.rs1 (by omega), Q2.out.2.2.1.rs2 (by omega), AL.2.cell (cell_later hb4 Q2.out.2.2.2.1) hne, AL.2.cell (cell_later hb4 Q2.out.2.2.2.2.1) hne, AL.1.cells.2.2.2.1, AL.1.cells.2.2.2.2.1⟩
            clear h4 hb4 g2 f4 x4 AL PT ho Q2 HX e1 e2
            go_upto_region 24 with fail
            clear ii0 ii1 ii2 ii3 ii4 ii5 iif0 iif1 iif2 iif3 iif4 iif5
            obtain ⟨w5, hw5⟩ : ∃ w5, w5 = ((((((w4.setCell ⟨gw, 0, none⟩ (.int .i64 (B : Int))).setCell ⟨gw, 1, none⟩ (.slice a7 n7 c7)).setCell ⟨gw, 2, none⟩ (.slice a8 n8 c8)).setCell ⟨gw, 3, none⟩ (.slice a9 n9 c9)).setCell ⟨gw, 4, none⟩ (.slice a10 n10 c10)).setCell ⟨gw, 5, none⟩ (.int .i64 (T' : Int))) := ⟨_, rfl⟩
            rw [← hw5] at Q3
            rw [← hw5]
            clear hw5
            have m0 := Q3.out.2.2.2.2.2.1
            have m1 := Q3.out.2.2.2.2.2.2.1
            have m3 := Q3.out.2.2.2.2.2.2.2.1
            have m4 := Q3.out.2.2.2.2.2.2.2.2
            go_wp2_with fail
            refine (rsame_true _ _ p q w5 Q3.out.2.1 Q3.out.2.2.1 Q3.out.2.2.2.1 Q3.out.2.2.2.2.1).mono ?_
            rintro e w6 ⟨rfl, hb6⟩
            have Q5 : Hid (Sp W0 w6 b c gw gv R D B R2 D2 B2 T' M T' M T2 N2 T2 N2) := Q3.out.1.toSp.go hb6
            clear hb6 Q3 m0 m1 m3 m4
            go_wp2_with fail
            go_roundw
            case rel => exact ⟨k + 1, T', M, T2, N2, by omega, by go_num, Q5⟩
            case measure => simp [intOf]; omega
          · have x0 : decide (x = 0) = false := decide_eq_false hx0
            have x0' : (x == 0) = false := by simpa using hx0
            by_cases hx1 : x = 1
            · have x1 : decide (x = 1) = true := decide_eq_true hx1
              have x1' : (x == 1) = true := by simpa using hx1
              clear hx0 hx1
              go_wp2_with fail
              refine (btake_any b T N R D B y z w1 Q1.out.bb Q1.out.tab HZ.out).mono ?_
              rintro e w2 ⟨rfl, k2, f2⟩
              obtain ⟨M, hM⟩ : ∃ M, M = takeN (atN T N R D B y) D z := ⟨_, rfl⟩
              obtain ⟨T', hT'⟩ : ∃ T', T' = atT T y := ⟨_, rfl⟩
              obtain ⟨E1, hE1⟩ : ∃ E1, E1 = takeE (atN T N R D B y) D z := ⟨_, rfl⟩
              have HM : Hid (M = takeN (atN T N R D B y) D z ∧ T' = atT T y ∧ E1 = takeE (atN T N R D B y) D z) := ⟨hM, hT', hE1⟩
              rw [← hM, ← hT'] at k2
              rw [← hE1]
              have Q2 : Hid (Sq W0 w2 b c gw gv R D B R2 D2 B2 T' M T N T2 N2 T2 N2 s x y z) := Q1.out.setB k2 f2
              obtain ⟨a3, n3, c3, a4, n4, c4, a5, n5, c5, a6, n6, c6, rx, rb⟩ := Q2.out.xw
              have HX : Hid (Rx w2 gw (.int .i64 (B : Int)) (.slice a3 n3 c3) (.slice a4 n4 c4) (.slice a5 n5 c5) (.slice a6 n6 c6) (.int .i64 (T : Int)) ∧ RB w2 (.agg #[.int .i64 (B : Int), .slice a3 n3 c3, .slice a4 n4 c4, .slice a5 n5 c5, .slice a6 n6 c6, .int .i64 (T : Int)]) T N R D B) := ⟨rx, rb⟩
              obtain ⟨j0, j1, j2, j3, j4, j5, jf⟩ := rx.cells
              clear jf
              obtain ⟨-, e1, e2⟩ := Q2.out.bx.cells
              clear k2 f2 hM hT' hE1 rx rb Q1
              go_wp2_with fail
              clear j0 j1 j2 j3 j4 j5
              refine (rtake8_any _ T N R D B y z w2 HX.out.2 HZ.out).mono ?_
              rintro e w4 ⟨v4, rfl, h4, hb4⟩
              rw [← HM.out.1, ← HM.out.2.1] at h4
              rw [← HM.out.2.2]
              obtain ⟨p4, q4, a7, n7, c7, a8, n8, c8, a9, n9, c9, a10, n10, c10, ev, -, -, -⟩ := h4.ex
              subst ev
              have ba := bel_al (o := .cells #[.int .i64 (B : Int), .slice a7 n7 c7, .slice a8 n8 c8, .slice a9 n9 c9, .slice a10 n10 c10, .int .i64 (T' : Int)] 37) (bel_refl w4)
              have bx := bel_go hb4 ba
              have x4 := HX.out.1.go bx
              obtain ⟨ii0, ii1, ii2, ii3, ii4, ii5, iif⟩ := x4.cells
              have iif0 := iif 0
              have iif1 := iif 1
              have iif2 := iif 2
              have iif3 := iif 3
              have iif4 := iif 4
              have iif5 := iif 5
              clear iif
              have PT := (Q2.out.go bx).xw.put (h4.mono ba)
              have Q3 : Hid (Sq W0 (((((((w4.alloc (.cells #[.int .i64 (B : Int), .slice a7 n7 c7, .slice a8 n8 c8, .slice a9 n9 c9, .slice a10 n10 c10, .int .i64 (T' : Int)] 37)).setCell ⟨gw, 0, none⟩ (.int .i64 (B : Int))).setCell ⟨gw, 1, none⟩ (.slice a7 n7 c7)).setCell ⟨gw, 2, none⟩ (.slice a8 n8 c8)).setCell ⟨gw, 3, none⟩ (.slice a9 n9 c9)).setCell ⟨gw, 4, none⟩ (.slice a10 n10 c10)).setCell ⟨gw, 5, none⟩ (.int .i64 (T' : Int))) b c gw gv R D B R2 D2 B2 T' M T' M T2 N2 T2 N2 s x y z) := (Q2.out.go bx).setW PT.1 PT.2
              clear h4 hb4 ba bx x4 PT Q2 HX e1 e2
              go_upto_region 29 with fail
              clear ii0 ii1 ii2 ii3 ii4 ii5 iif0 iif1 iif2 iif3 iif4 iif5
              obtain ⟨w5, hw5⟩ : ∃ w5, w5 = (((((((w4.alloc (.cells #[.int .i64 (B : Int), .slice a7 n7 c7, .slice a8 n8 c8, .slice a9 n9 c9, .slice a10 n10 c10, .int .i64 (T' : Int)] 37)).setCell ⟨gw, 0, none⟩ (.int .i64 (B : Int))).setCell ⟨gw, 1, none⟩ (.slice a7 n7 c7)).setCell ⟨gw, 2, none⟩ (.slice a8 n8 c8)).setCell ⟨gw, 3, none⟩ (.slice a9 n9 c9)).setCell ⟨gw, 4, none⟩ (.slice a10 n10 c10)).setCell ⟨gw, 5, none⟩ (.int .i64 (T' : Int))) := ⟨_, rfl⟩
              rw [← hw5] at Q3
              rw [← hw5]
              clear hw5
              go_wp2_with fail
              go_roundw
              case rel => exact ⟨k + 1, T', M, T2, N2, by omega, by go_num, Q3.out.toSp⟩
              case measure => simp [intOf]; omega
            · have x1 : decide (x = 1) = false := decide_eq_false hx1
              have x1' : (x == 1) = false := by simpa using hx1
              by_cases hx2 : x = 2
              · have x2 : decide (x = 2) = true := decide_eq_true hx2
                have x2' : (x == 2) = true := by simpa using hx2
                clear hx0 hx1 hx2
                go_wp2_with fail
                refine (bwait_any b T N R D B z w1 Q1.out.bb Q1.out.tab HZ.out).mono ?_
                rintro e w2 ⟨rfl, hb2⟩
                obtain ⟨X1, hX1⟩ : ∃ X1, X1 = waitV T N R D B z := ⟨_, rfl⟩
                obtain ⟨X2, hX2⟩ : ∃ X2, X2 = waitE T N R D B z := ⟨_, rfl⟩
                have HM : Hid (X1 = waitV T N R D B z ∧ X2 = waitE T N R D B z) := ⟨hX1, hX2⟩
                rw [← hX1, ← hX2]
                have Q2 : Hid (Sq W0 w2 b c gw gv R D B R2 D2 B2 T N T N T2 N2 T2 N2 s x y z) := Q1.out.go hb2
                obtain ⟨a3, n3, c3, a4, n4, c4, a5, n5, c5, a6, n6, c6, rx, rb⟩ := Q2.out.xw
                have HX : Hid (RB w2 (.agg #[.int .i64 (B : Int), .slice a3 n3 c3, .slice a4 n4 c4, .slice a5 n5 c5, .slice a6 n6 c6, .int .i64 (T : Int)]) T N R D B) := rb
                obtain ⟨j0, j1, j2, j3, j4, j5, jf⟩ := rx.cells
                clear jf
                obtain ⟨-, e1, e2⟩ := Q2.out.bx.cells
                clear hb2 hX1 hX2 rx rb Q1
                go_wp2_with fail
                clear j0 j1 j2 j3 j4 j5
                refine (rwait8_any _ T N R D B z w2 HX.out HZ.out).mono ?_
                rintro e w4 ⟨rfl, hb4⟩
                rw [← HM.out.1, ← HM.out.2]
                have Q3 : Hid (Sp W0 w4 b c gw gv R D B R2 D2 B2 T N T N T2 N2 T2 N2) := Q2.out.toSp.go hb4
                clear hb4 Q2 HX e1 e2
                go_wp2_with fail
                go_roundw
                case rel => exact ⟨k + 1, T, N, T2, N2, by omega, by go_num, Q3⟩
                case measure => simp [intOf]; omega
              · have x2 : decide (x = 2) = false := decide_eq_false hx2
                have x2' : (x == 2) = false := by simpa using hx2
                clear hx0 hx1 hx2
                go_wp2_with fail
                refine (btake_any c T2 N2 R2 D2 B2 y z w1 Q1.out.bc Q1.out.tab HZ.out).mono ?_
                rintro e w2 ⟨rfl, k2, f2⟩
                obtain ⟨M, hM⟩ : ∃ M, M = takeN (atN T2 N2 R2 D2 B2 y) D2 z := ⟨_, rfl⟩
                obtain ⟨T', hT'⟩ : ∃ T', T' = atT T2 y := ⟨_, rfl⟩
                obtain ⟨E1, hE1⟩ : ∃ E1, E1 = takeE (atN T2 N2 R2 D2 B2 y) D2 z := ⟨_, rfl⟩
                have HM : Hid (M = takeN (atN T2 N2 R2 D2 B2 y) D2 z ∧ T' = atT T2 y ∧ E1 = takeE (atN T2 N2 R2 D2 B2 y) D2 z) := ⟨hM, hT', hE1⟩
                rw [← hM, ← hT'] at k2
                rw [← hE1]
                have Q2 : Hid (Sq W0 w2 b c gw gv R D B R2 D2 B2 T N T N T' M T2 N2 s x y z) := Q1.out.setC k2 f2
                obtain ⟨a3, n3, c3, a4, n4, c4, a5, n5, c5, a6, n6, c6, rx, rb⟩ := Q2.out.xv
                have HX : Hid (Rx w2 gv (.int .i64 (B2 : Int)) (.slice a3 n3 c3) (.slice a4 n4 c4) (.slice a5 n5 c5) (.slice a6 n6 c6) (.int .i64 (T2 : Int)) ∧ RB w2 (.agg #[.int .i64 (B2 : Int), .slice a3 n3 c3, .slice a4 n4 c4, .slice a5 n5 c5, .slice a6 n6 c6, .int .i64 (T2 : Int)]) T2 N2 R2 D2 B2) := ⟨rx, rb⟩
                obtain ⟨j0, j1, j2, j3, j4, j5, jf⟩ := rx.cells
                clear jf
                obtain ⟨-, e1, e2⟩ := Q2.out.bx.cells
                clear k2 f2 hM hT' hE1 rx rb Q1
                go_wp2_with fail
                clear j0 j1 j2 j3 j4 j5
                refine (rtake8_any _ T2 N2 R2 D2 B2 y z w2 HX.out.2 HZ.out).mono ?_
                rintro e w4 ⟨v4, rfl, h4, hb4⟩
                rw [← HM.out.1, ← HM.out.2.1] at h4
                rw [← HM.out.2.2]
                obtain ⟨p4, q4, a7, n7, c7, a8, n8, c8, a9, n9, c9, a10, n10, c10, ev, -, -, -⟩ := h4.ex
                subst ev
                have ba := bel_al (o := .cells #[.int .i64 (B2 : Int), .slice a7 n7 c7, .slice a8 n8 c8, .slice a9 n9 c9, .slice a10 n10 c10, .int .i64 (T' : Int)] 37) (bel_refl w4)
                have bx := bel_go hb4 ba
                have x4 := HX.out.1.go bx
                obtain ⟨ii0, ii1, ii2, ii3, ii4, ii5, iif⟩ := x4.cells
                have iif0 := iif 0
                have iif1 := iif 1
                have iif2 := iif 2
                have iif3 := iif 3
                have iif4 := iif 4
                have iif5 := iif 5
                clear iif
                have PT := (Q2.out.go bx).xv.put (h4.mono ba)
                have Q3 : Hid (Sq W0 (((((((w4.alloc (.cells #[.int .i64 (B2 : Int), .slice a7 n7 c7, .slice a8 n8 c8, .slice a9 n9 c9, .slice a10 n10 c10, .int .i64 (T' : Int)] 37)).setCell ⟨gv, 0, none⟩ (.int .i64 (B2 : Int))).setCell ⟨gv, 1, none⟩ (.slice a7 n7 c7)).setCell ⟨gv, 2, none⟩ (.slice a8 n8 c8)).setCell ⟨gv, 3, none⟩ (.slice a9 n9 c9)).setCell ⟨gv, 4, none⟩ (.slice a10 n10 c10)).setCell ⟨gv, 5, none⟩ (.int .i64 (T' : Int))) b c gw gv R D B R2 D2 B2 T N T N T' M T' M s x y z) := (Q2.out.go bx).setV PT.1 PT.2
                clear h4 hb4 ba bx x4 PT Q2 HX e1 e2
                go_upto_region 20 with fail
                clear ii0 ii1 ii2 ii3 ii4 ii5 iif0 iif1 iif2 iif3 iif4 iif5
                obtain ⟨w5, hw5⟩ : ∃ w5, w5 = (((((((w4.alloc (.cells #[.int .i64 (B2 : Int), .slice a7 n7 c7, .slice a8 n8 c8, .slice a9 n9 c9, .slice a10 n10 c10, .int .i64 (T' : Int)] 37)).setCell ⟨gv, 0, none⟩ (.int .i64 (B2 : Int))).setCell ⟨gv, 1, none⟩ (.slice a7 n7 c7)).setCell ⟨gv, 2, none⟩ (.slice a8 n8 c8)).setCell ⟨gv, 3, none⟩ (.slice a9 n9 c9)).setCell ⟨gv, 4, none⟩ (.slice a10 n10 c10)).setCell ⟨gv, 5, none⟩ (.int .i64 (T' : Int))) := ⟨_, rfl⟩
                rw [← hw5] at Q3
                rw [← hw5]
                clear hw5
                go_wp2_with fail
                go_roundw
                case rel => exact ⟨k + 1, T, N, T', M, by omega, by go_num, Q3.out.toSp⟩
                case measure => simp [intOf]; omega
        · have d2 : decide ((k : Int) < 200) = false := decide_eq_false (by omega)
          go_wp2_with fail
          go_ret
          exact ⟨rfl, hI.out.bel⟩
      · have d1 : decide ((k : Int) < (L : Int)) = false := decide_eq_false (by omega)
        go_wp2_with fail
        go_ret
        exact ⟨rfl, hI.out.bel⟩
  · obtain ⟨E, hE, hn1, hn2⟩ := new_bad i0 u i2 i3 hu r2.2 hgood
    have N2' : Hid (∀ w, Calls Tryz.prog 11 #[.int .i64 i0, .int .u64 (u : Int), .int .i64 i2, .int .i64 i3] w (RNo w E)) := hn2
    refine (hn1 _ Z1.out.2).mono ?_
    rintro e w3 ⟨rfl, hbl⟩
    have Z2 : Hid (Below W0.heap.size W0 w3 ∧ Tab w3) := ⟨Z1.out.1.trans (hbl.mono Z1.out.1.size), Z1.out.2.go hbl⟩
    clear hbl Z1 hn1 hn2 hgood r2 hu
    go_wp2_with fail
    refine (N2'.out _).mono ?_
    rintro e w4 ⟨rfl, hb4⟩
    have bx := bel_go hb4 (bel_al (o := .cells #[.int .i64 0, .slice none 0 0, .slice none 0 0, .slice none 0 0, .slice none 0 0, .int .i64 0] 37) (bel_refl _))
    have Z3 : Hid (Below W0.heap.size W0 (w4.alloc (.cells #[.int .i64 0, .slice none 0 0, .slice none 0 0, .slice none 0 0, .slice none 0 0, .int .i64 0] 37)) ∧ Tab (w4.alloc (.cells #[.int .i64 0, .slice none 0 0, .slice none 0 0, .slice none 0 0, .slice none 0 0, .int .i64 0] 37))) := ⟨Z2.out.1.trans (bx.mono Z2.out.1.size), Z2.out.2.go bx⟩
    clear hb4 bx Z2
    obtain rfl | rfl | rfl := hE
    all_goals
      have qb := QB.out
      go_wp2_with fail
      refine (NY2.out _ Z3.out.2).mono ?_
      rintro e w5 ⟨c, rfl, -, -, hbl⟩
      have Z4 : Hid (Below W0.heap.size W0 w5) := Z3.out.1.trans (hbl.mono Z3.out.1.size)
      clear hbl Z3
      go_wp2_with fail
      refine (BT.out _).mono ?_
      rintro e w2 ⟨rfl, rfl⟩
      go_wp2_with fail
      refine (RY2.out _).mono ?_
      rintro e w6 ⟨v6, rfl, h6, hb6⟩
      obtain ⟨p6, q6, a5, n5, c5, a6, n6, c6, a7, n7, c7, a8, n8, c8, ev, -, -, -⟩ := h6.ex
      subst ev
      have Z5 : Hid (Below W0.heap.size W0 (w6.alloc (.cells #[.int .i64 (B2 : Int), .slice a5 n5 c5, .slice a6 n6 c6, .slice a7 n7 c7, .slice a8 n8 c8, .int .i64 ((0 : Nat) : Int)] 37))) := Z4.out.trans ((bel_go hb6 (bel_al (bel_refl _))).mono Z4.out.size)
      clear h6 hb6 Z4 qb
      go_wp2_with fail
      go_loopw [21] (fun iv wr => iv = .int .i64 0 ∧ Hid (Below W0.heap.size W0 wr)) (fun i _ => 0)
      case atStart => exact ⟨rfl, by first | exact Z5 | simpa using Z5⟩
      case round =>
        clear Z5
        obtain ⟨rfl, hI⟩ := hrel
        by_cases hk1 : 0 < L
        · have d1 : decide ((0 : Int) < (L : Int)) = true := decide_eq_true (by omega)
          go_wp2_with fail
          go_ret
          exact ⟨rfl, hI.out⟩
        · have d1 : decide ((0 : Int) < (L : Int)) = false := decide_eq_false (by omega)
          go_wp2_with fail
          go_ret
          exact ⟨rfl, hI.out⟩
end Go.Proofs.YtdmkneojhnhomaaGreatDoor

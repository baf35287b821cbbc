/- Contracts of the program's functions, part 17: own work, joined in build order. -/
import Derived.Test.YtdmkneojhnhomaaGreatDoorJ16
import Derived.Laws.Bits64b
namespace Go.Proofs.YtdmkneojhnhomaaGreatDoor
open Go.RowKit
set_option maxRecDepth 100000
set_option linter.unusedVariables false
set_option maxHeartbeats 4000000 in
theorem rless2_any (v u : Value) (p q x y A C : Nat) (w : World) (h : RRt w v p q) (k : RRt w u x y) (hs : ∀ v u w, RRt w v p q → RRt w u x y → Calls Tryz.prog 41 #[v, u] w (MakesRRB w A C true)) :
    Calls Tryz.prog 45 #[v, u] w (MakesRR w A C) := by
  have HR : Hid (RRt w v p q ∧ RRt w u x y) := ⟨h, k⟩
  have HS : Hid (∀ v u w, RRt w v p q → RRt w u x y → Calls Tryz.prog 41 #[v, u] w (MakesRRB w A C true)) := hs
  obtain ⟨a1, n1, c1, a2, n2, c2, e0, _, _⟩ := h
  subst e0
  obtain ⟨a3, n3, c3, a4, n4, c4, e1, _, _⟩ := k
  subst e1
  have ba : Hid (Below w.heap.size w (((w.alloc (.cells #[.slice a1 n1 c1, .slice a2 n2 c2] 35)).alloc (.cells #[.slice a3 n3 c3, .slice a4 n4 c4] 35)).alloc (.cells #[.slice none 0 0, .slice none 0 0] 35))) := bel_al (bel_al (bel_al (bel_refl w)))
  clear hs
  go_enter Tryz.func45, Tryz.ntmps45
  go_wp2_with fail
  refine (HS.out _ _ _ (HR.out.1.mono ba.out) (HR.out.2.mono ba.out)).mono ?_
  rintro e w1 ⟨v1, rfl, hv1, hb1⟩
  have hv' := hv1
  obtain ⟨a5, n5, c5, a6, n6, c6, ev, _, _⟩ := hv'
  subst ev
  have bx := bel_go hb1 (bel_al (o := .cells #[.slice a5 n5 c5, .slice a6 n6 c6] 35) (bel_refl _))
  have z0 : (w1.alloc (.cells #[.slice a5 n5 c5, .slice a6 n6 c6] 35)).cell? ⟨w.heap.size + 1 + 1, 0, none⟩ = some (.slice none 0 0) := cell_later bx (by simp [go_sem])
  have z1 : (w1.alloc (.cells #[.slice a5 n5 c5, .slice a6 n6 c6] 35)).cell? ⟨w.heap.size + 1 + 1, 1, none⟩ = some (.slice none 0 0) := cell_later bx (by simp [go_sem])
  have y0 : (w1.alloc (.cells #[.slice a5 n5 c5, .slice a6 n6 c6] 35)).frozen? ⟨w.heap.size + 1 + 1, 0, none⟩ = false := (bx.frozen (by simp)).trans (by simp [go_sem])
  have y1 : (w1.alloc (.cells #[.slice a5 n5 c5, .slice a6 n6 c6] 35)).frozen? ⟨w.heap.size + 1 + 1, 1, none⟩ = false := (bx.frozen (by simp)).trans (by simp [go_sem])
  have Z : Hid _ := rrat_put (w0 := w) (v := .slice a5 n5 c5) (u := .slice a6 n6 c6) z0 z1 (hv1.mono (bel_al (o := .cells #[.slice a5 n5 c5, .slice a6 n6 c6] 35) (bel_refl _))) (bel_go ba.out bx) (by omega)
  clear hv1 hb1 bx ba
  go_wp2_with fail
  exact bodyPost_ret (v := .agg #[.slice a5 n5 c5, .slice a6 n6 c6]) (by simp [results, Tryz.results45, go_sem, z0, z1]) rfl ⟨_, rfl, Z.out.1, Z.out.2⟩
theorem wait_has {T N R D B k : Nat} (h1 : 1 ≤ k) (h2 : k * D ≤ N) (hN : N ≤ B * D) (hD : 0 < D) : waitE T N R D B (k : Int) = 0 ∧ waitV T N R D B (k : Int) = T := by
  have hk : k ≤ B := Nat.le_of_mul_le_mul_right (Nat.le_trans h2 hN) hD
  have a1 : ¬ (k : Int) < 1 := by omega
  have a2 : ¬ (B : Int) < (k : Int) := by omega
  unfold waitE waitV
  rw [Int.toNat_natCast, if_neg a1, if_neg a1, if_neg a2, if_neg a2, if_pos h2, if_pos h2]
  exact ⟨rfl, rfl⟩
theorem wait_much {T N R D B k : Nat} (h1 : 1 ≤ k) (h2 : ¬ k * D ≤ N) (h : B < k ∨ R = 0) : waitE T N R D B (k : Int) = 80 ∧ waitV T N R D B (k : Int) = 0 := by
  have a1 : ¬ (k : Int) < 1 := by omega
  unfold waitE waitV
  rw [Int.toNat_natCast, if_neg a1, if_neg a1]
  by_cases a2 : (B : Int) < (k : Int)
  · rw [if_pos a2, if_pos a2]
    exact ⟨rfl, rfl⟩
  · have hR : R = 0 := h.resolve_left (by omega)
    rw [if_neg a2, if_neg a2, if_neg h2, if_neg h2, if_pos hR, if_pos hR]
    exact ⟨rfl, rfl⟩
theorem wait_far {T N R D B k c : Nat} (h1 : 1 ≤ k) (h2 : ¬ k * D ≤ N) (h3 : k ≤ B) (h4 : 0 < R) (hc : c = ceilN (k * D - N) R) : (c + T ≤ 4611686018427387904 → waitE T N R D B (k : Int) = 0 ∧ waitV T N R D B (k : Int) = c + T) ∧ (¬ c + T ≤ 4611686018427387904 → waitE T N R D B (k : Int) = 80 ∧ waitV T N R D B (k : Int) = 0) := by
  have a1 : ¬ (k : Int) < 1 := by omega
  have a2 : ¬ (B : Int) < (k : Int) := by omega
  have a4 : ¬ R = 0 := by omega
  unfold waitE waitV lackN
  rw [Int.toNat_natCast, if_neg a1, if_neg a1, if_neg a2, if_neg a2, if_neg h2, if_neg h2, if_neg a4, if_neg a4, ← hc]
  constructor
  · intro h
    have h' : T + c ≤ 4611686018427387904 := by omega
    rw [if_pos h', if_pos h']
    exact ⟨rfl, by omega⟩
  · intro h
    have h' : ¬ T + c ≤ 4611686018427387904 := by omega
    rw [if_neg h', if_neg h']
    exact ⟨rfl, rfl⟩
set_option maxHeartbeats 8000000 in
theorem rwait8_any (v : Value) (T N R D B : Nat) (n : Int) (w : World) (h : RB w v T N R D B) (hn : n ≤ 9223372036854775807) :
    Calls Tryz.prog 19 #[v, .int .i64 n] w fun e w' => e = .returned (.tuple #[.int .i64 ((waitV T N R D B n : Nat) : Int), .int .i64 (waitE T N R D B n)]) ∧ Below w.heap.size w w' := by
  have HK : Hid (T ≤ 4611686018427387904 ∧ (1 ≤ B ∧ B ≤ 1099511627776) ∧ (0 < D ∧ D < P 18) ∧ R < P 17 ∧ Nat.gcd R D = 1 ∧ N ≤ B * D) := ⟨h.cT, h.cB, h.cD, h.cR, h.low, h.cN⟩
  obtain ⟨p, q, a1, n1, c1, a2, n2, c2, a3, n3, c3, a4, n4, c4, e0, g1, g2, f0⟩ := h.ex
  subst e0
  have FH : Hid (Fc p q N D 20) := f0
  have X1 : Hid (Rx (w.alloc (.cells #[.int .i64 (B : Int), .slice a1 n1 c1, .slice a2 n2 c2, .slice a3 n3 c3, .slice a4 n4 c4, .int .i64 (T : Int)] 37)) w.heap.size (.int .i64 (B : Int)) (.slice a1 n1 c1) (.slice a2 n2 c2) (.slice a3 n3 c3) (.slice a4 n4 c4) (.int .i64 (T : Int)) ∧ RRt (w.alloc (.cells #[.int .i64 (B : Int), .slice a1 n1 c1, .slice a2 n2 c2, .slice a3 n3 c3, .slice a4 n4 c4, .int .i64 (T : Int)] 37)) (.agg #[.slice a1 n1 c1, .slice a2 n2 c2]) R D ∧ RRt (w.alloc (.cells #[.int .i64 (B : Int), .slice a1 n1 c1, .slice a2 n2 c2, .slice a3 n3 c3, .slice a4 n4 c4, .int .i64 (T : Int)] 37)) (.agg #[.slice a3 n3 c3, .slice a4 n4 c4]) p q ∧ Below w.heap.size w (w.alloc (.cells #[.int .i64 (B : Int), .slice a1 n1 c1, .slice a2 n2 c2, .slice a3 n3 c3, .slice a4 n4 c4, .int .i64 (T : Int)] 37))) := ⟨heap_new w (.cells #[.int .i64 (B : Int), .slice a1 n1 c1, .slice a2 n2 c2, .slice a3 n3 c3, .slice a4 n4 c4, .int .i64 (T : Int)] 37), g1.mono (bel_al (bel_refl _)), g2.mono (bel_al (bel_refl _)), bel_al (bel_refl _)⟩
  clear h g1 g2 f0
  by_cases h1 : n < 1
  · have d1 : decide (n < 1) = true := decide_eq_true h1
    have HE : Hid (waitE T N R D B n = 1 ∧ waitV T N R D B n = 0) := by
      unfold waitE waitV
      rw [if_pos h1, if_pos h1]
      exact ⟨rfl, rfl⟩
    clear h1
    go_enter Tryz.func19, Tryz.ntmps19
    go_wp2_with fail
    exact bodyPost_ret (v := .tuple #[.int .i64 0, .int .i64 1]) (by simp [results, Tryz.results19, go_sem]) rfl ⟨by rw [HE.out.1, HE.out.2]; rfl, X1.out.2.2.2⟩
  · obtain ⟨k, rfl⟩ : ∃ k : Nat, n = (k : Int) := ⟨n.toNat, by omega⟩
    have d1 : decide ((k : Int) < 1) = false := decide_eq_false h1
    have HN : Hid (1 ≤ k ∧ k ≤ 9223372036854775807) := ⟨by omega, by omega⟩
    have mk : IntKind.u64.wrap (k : Int) = (k : Int) := by rw [IntKind.wrap_u64]; omega
    have FK : Hid (Fc k 1 k 1 1) := ⟨Nat.gcd_one_right _, by omega, by omega, rfl, by rw [P_one]; omega, by rw [P_one]; omega⟩
    have WH : Hid (∀ w, Calls Tryz.prog 25 #[.int .u64 (k : Int)] w (MakesRR w k 1)) := fun w => rwhole_any k w (by omega)
    obtain ⟨z, hz⟩ : ∃ z, cmpI (N * 1) (k * D) = z := ⟨_, rfl⟩
    have CM : Hid (∀ v u w, RRt w v p q → RRt w u k 1 → Calls Tryz.prog 26 #[v, u] w fun e w' => e = .returned (.int .i64 z) ∧ Below w.heap.size w w') := FH.out.rcmp FK.out (by omega) (by omega) hz
    have dz : decide (0 ≤ z) = decide (k * D ≤ N) := by rw [← hz, cmpI_ge, Nat.mul_one]
    clear h1 hn hz
    go_enter Tryz.func19, Tryz.ntmps19
    go_wp2_with fail
    obtain ⟨w0, hw0⟩ : ∃ w0, w0 = w.alloc (.cells #[.int .i64 (B : Int), .slice a1 n1 c1, .slice a2 n2 c2, .slice a3 n3 c3, .slice a4 n4 c4, .int .i64 (T : Int)] 37) := ⟨_, rfl⟩
    obtain ⟨g, hg⟩ : ∃ g, g = w.heap.size := ⟨_, rfl⟩
    have X2 : Hid (Rx w0 g (.int .i64 (B : Int)) (.slice a1 n1 c1) (.slice a2 n2 c2) (.slice a3 n3 c3) (.slice a4 n4 c4) (.int .i64 (T : Int)) ∧ RRt w0 (.agg #[.slice a1 n1 c1, .slice a2 n2 c2]) R D ∧ RRt w0 (.agg #[.slice a3 n3 c3, .slice a4 n4 c4]) p q ∧ Below w.heap.size w w0) := by rw [hw0, hg]; exact X1.out
    rw [← hw0, ← hg]
    clear hw0 hg X1
    refine (WH.out _).mono ?_
    rintro e w1 ⟨v1, rfl, hv1, hb1⟩
    have hv' := hv1
    obtain ⟨a5, n5, c5, a6, n6, c6, ev, _, _⟩ := hv'
    subst ev
    have bx := bel_go hb1 (bel_al (o := .cells #[.slice a5 n5 c5, .slice a6 n6 c6] 35) (bel_refl _))
    have X3 : Hid (Rx (w1.alloc (.cells #[.slice a5 n5 c5, .slice a6 n6 c6] 35)) g (.int .i64 (B : Int)) (.slice a1 n1 c1) (.slice a2 n2 c2) (.slice a3 n3 c3) (.slice a4 n4 c4) (.int .i64 (T : Int)) ∧ RRt (w1.alloc (.cells #[.slice a5 n5 c5, .slice a6 n6 c6] 35)) (.agg #[.slice a1 n1 c1, .slice a2 n2 c2]) R D ∧ RRt (w1.alloc (.cells #[.slice a5 n5 c5, .slice a6 n6 c6] 35)) (.agg #[.slice a3 n3 c3, .slice a4 n4 c4]) p q ∧ RRt (w1.alloc (.cells #[.slice a5 n5 c5, .slice a6 n6 c6] 35)) (.agg #[.slice a5 n5 c5, .slice a6 n6 c6]) k 1 ∧ Below w.heap.size w (w1.alloc (.cells #[.slice a5 n5 c5, .slice a6 n6 c6] 35))) := ⟨X2.out.1.go bx, X2.out.2.1.mono bx, X2.out.2.2.1.mono bx, hv1.mono (bel_al (bel_refl _)), bel_go X2.out.2.2.2 bx⟩
    have D0 : (w1.alloc (.cells #[.slice a5 n5 c5, .slice a6 n6 c6] 35)).cell? ⟨w1.heap.size, 0, none⟩ = some (.slice a5 n5 c5) := by simp [go_sem]
    have D1 : (w1.alloc (.cells #[.slice a5 n5 c5, .slice a6 n6 c6] 35)).cell? ⟨w1.heap.size, 1, none⟩ = some (.slice a6 n6 c6) := by simp [go_sem]
    have DD : Hid _ := And.intro D0 D1
    obtain ⟨-, -, -, k3, k4, -, -⟩ := X3.out.1.cells
    clear hv1 hb1 bx X2 D0 D1
    go_wp2_with fail
    refine (CM.out _ _ _ X3.out.2.2.1 X3.out.2.2.2.1).mono ?_
    rintro e w2 ⟨rfl, hb2⟩
    obtain ⟨b6, e6⟩ : ∃ b6, b6 = w1.heap.size := ⟨_, rfl⟩
    have X4 : Hid (Rx w2 g (.int .i64 (B : Int)) (.slice a1 n1 c1) (.slice a2 n2 c2) (.slice a3 n3 c3) (.slice a4 n4 c4) (.int .i64 (T : Int)) ∧ RRt w2 (.agg #[.slice a1 n1 c1, .slice a2 n2 c2]) R D ∧ RRt w2 (.agg #[.slice a3 n3 c3, .slice a4 n4 c4]) p q ∧ RRt w2 (.agg #[.slice a5 n5 c5, .slice a6 n6 c6]) k 1 ∧ Below w.heap.size w w2 ∧ w2.cell? ⟨b6, 0, none⟩ = some (.slice a5 n5 c5) ∧ w2.cell? ⟨b6, 1, none⟩ = some (.slice a6 n6 c6)) := ⟨X3.out.1.go hb2, X3.out.2.1.mono hb2, X3.out.2.2.1.mono hb2, X3.out.2.2.2.1.mono hb2, bel_go X3.out.2.2.2.2 hb2, by rw [e6]; exact cell_later hb2 DD.out.1, by rw [e6]; exact cell_later hb2 DD.out.2⟩
    rw [← e6]
    obtain ⟨k0, k1, k2, k3, k4, k5, -⟩ := X4.out.1.cells
    clear hb2 X3 DD e6 CM WH
    by_cases h2 : k * D ≤ N
    · rw [decide_eq_true h2] at dz
      have HE : Hid _ := wait_has (T := T) (R := R) HN.out.1 h2 HK.out.2.2.2.2.2 HK.out.2.2.1.1
      clear h2
      go_wp2_with fail
      exact bodyPost_ret (v := .tuple #[.int .i64 (T : Int), .int .i64 0]) (by simp [results, Tryz.results19, go_sem]) rfl ⟨by rw [HE.out.1, HE.out.2], X4.out.2.2.2.2.1⟩
    · rw [decide_eq_false h2] at dz
      by_cases h3 : B < k
      · have d3 : decide ((B : Int) < (k : Int)) = true := decide_eq_true (by omega)
        have HE : Hid _ := wait_much (T := T) (R := R) HN.out.1 h2 (.inl h3)
        clear h2
        go_wp2_with fail
        exact bodyPost_ret (v := .tuple #[.int .i64 0, .int .i64 80]) (by simp [results, Tryz.results19, go_sem]) rfl ⟨by rw [HE.out.1, HE.out.2]; rfl, X4.out.2.2.2.2.1⟩
      · have d3 : decide ((B : Int) < (k : Int)) = false := decide_eq_false (by omega)
        by_cases h4 : R = 0
        · have HE : Hid _ := wait_much (T := T) (B := B) HN.out.1 h2 (.inr h4)
          have SG : Hid (∀ v w, RRt w v R D → Calls Tryz.prog 43 #[v] w fun e w' => e = .returned (.int .i64 0) ∧ Below w.heap.size w w') := fun v w h => rsign2_any v R D w h (rfits_P HK.out.2.2.2.1 (by omega)) 0 (by rw [if_pos h4])
          clear h2 h4
          go_wp2_with fail
          refine (SG.out _ _ X4.out.2.1).mono ?_
          rintro e w3 ⟨rfl, hb3⟩
          have B3 : Hid (Below w.heap.size w w3) := bel_go X4.out.2.2.2.2.1 hb3
          clear hb3 X4 k0 k1 k2 k3 k4 k5
          go_wp2_with fail
          exact bodyPost_ret (v := .tuple #[.int .i64 0, .int .i64 80]) (by simp [results, Tryz.results19, go_sem]) rfl ⟨by rw [HE.out.1, HE.out.2]; rfl, B3.out⟩
        · have SG : Hid (∀ v w, RRt w v R D → Calls Tryz.prog 43 #[v] w fun e w' => e = .returned (.int .i64 1) ∧ Below w.heap.size w w') := fun v w h => rsign2_any v R D w h (rfits_P HK.out.2.2.2.1 (by omega)) 1 (by rw [if_neg h4])
          have hR : 0 < R := Nat.pos_of_ne_zero h4
          have FR : Fc R D R D 18 := ⟨HK.out.2.2.2.2.1, HK.out.2.2.1.1, HK.out.2.2.1.1, rfl, P_up HK.out.2.2.2.1 (by omega), HK.out.2.2.1.2⟩
          obtain ⟨X, Y, fs, ad⟩ := FK.out.rsub FH.out (by omega) (by omega) (by rw [Nat.mul_one]; omega)
          rw [Nat.mul_one, Nat.one_mul] at fs
          obtain ⟨X2, Y2, fd, dv⟩ := fs.rdiv FR (by omega) (by omega) hR
          have FD : Hid (Fc X2 Y2 (k * D - N) R 39) := fd.scale rfl (Nat.mul_comm _ _) HK.out.2.2.1.1
          have LS : Hid (∀ v u w, RRt w v k 1 → RRt w u p q → Calls Tryz.prog 45 #[v, u] w (MakesRR w X Y)) := fun v u w h1 h2 => rless2_any v u k 1 p q X Y w h1 h2 ad
          have DV : Hid (∀ v u w, RRt w v X Y → RRt w u R D → Calls Tryz.prog 44 #[v, u] w (MakesRRB w X2 Y2 true)) := dv
          obtain ⟨c, hc⟩ : ∃ c, c = ceilN (k * D - N) R := ⟨_, rfl⟩
          have HE : Hid _ := wait_far (T := T) (B := B) HN.out.1 h2 (by omega) hR hc
          have hcp : ceilN X2 Y2 = c := by rw [hc, FD.out.ceil]
          have hcl : c < P 40 := by
            rw [← hcp]
            have h1 : X2 < P 39 := FD.out.s1
            have h2 : ceilN X2 Y2 ≤ X2 + 1 := by
              unfold ceilN
              have := Nat.div_le_self X2 Y2
              split <;> omega
            have h3 : 1 < P 39 := Nat.one_lt_pow (by omega) (by omega)
            exact Nat.lt_of_le_of_lt h2 (P_twice h1 h3)
          have rc : RS c := ⟨P_up hcl (by omega)⟩
          have rT : RS T := rs_word (by have := HK.out.1; omega)
          have rcT : RS (c + T) := ⟨P_up (P_twice hcl (P_up (n := 1) (by rw [P_one]; have := HK.out.1; omega) (by omega))) (by omega)⟩
          have CE : Hid (∀ v w, RRt w v X2 Y2 → Calls Tryz.prog 47 #[v] w (RMakes w c)) := fun v w h => by
            have := rceil2_any v X2 Y2 w h (FD.out.rs1 (by omega)).rsome (FD.out.rs2 (by omega)).rsome (by have := FD.out.pos; omega)
            rw [hcp] at this
            exact this
          have OT : Hid (∀ w, Calls Tryz.prog 30 #[.int .u64 (T : Int)] w (RMakes w T)) := fun w => rof_any T w (by have := HK.out.1; omega)
          have OM : Hid (∀ w, Calls Tryz.prog 30 #[.int .u64 4611686018427387904] w (RMakes w 4611686018427387904)) := fun w => by
            obtain ⟨m, hm⟩ : ∃ m : Nat, m = 4611686018427387904 := ⟨_, rfl⟩
            have := rof_any m w (by omega)
            rw [show (m : Int) = 4611686018427387904 by omega] at this
            rw [← hm]
            exact this
          have HR : Hid (RFits c ∧ RFits T ∧ RFits (c + T) ∧ RFits 4611686018427387904) := ⟨rc.rfits, rT.rfits, rcT.rfits, (rs_word (by omega)).rfits⟩
          have mT : IntKind.u64.wrap (T : Int) = (T : Int) := by have := HK.out.1; rw [IntKind.wrap_u64]; omega
          obtain ⟨z2, hz2⟩ : ∃ z2, z2 = cmpI (c + T) 4611686018427387904 := ⟨_, rfl⟩
          obtain ⟨bb, hbb⟩ : ∃ bb, decide (0 < z2) = bb := ⟨_, rfl⟩
          have HBN : Hid (decide (4611686018427387904 < c + T) = bb) := by show _ = _; rw [← hbb, hz2, cmpI_pos]
          have HZ2 : Hid (z2 = cmpI (c + T) 4611686018427387904) := hz2
          clear h2 h4 hR FR fs fd ad dv hc hcp hcl rc rT rcT hz2
          go_wp2_with fail
          refine (SG.out _ _ X4.out.2.1).mono ?_
          rintro e w3 ⟨rfl, hb3⟩
          have x5 := X4.out.1.go hb3
          have S1 : Hid _ := (((((((((((sx_start w3).addG (X4.out.2.2.1.mono hb3)).addG (X4.out.2.1.mono hb3)).addG (X4.out.2.2.2.1.mono hb3)).addC x5.cells.2.2.2.2.2.1).addC x5.cells.2.2.2.2.1).addC x5.cells.2.2.2.1).addC x5.cells.2.2.1).addC x5.cells.2.1).addC x5.cells.1).addC (cell_later hb3 X4.out.2.2.2.2.2.2)).addC (cell_later hb3 X4.out.2.2.2.2.2.1)
          have HW : Hid (Below w.heap.size w w3) := bel_go X4.out.2.2.2.2.1 hb3
          clear hb3 X4 x5 k0 k1 k2 k3 k4 k5 SG
          go_wp2_with fail
          refine wp_region_inv (JC w3 [sEq (.agg #[.slice a5 n5 c5, .slice a6 n6 c6]), sEq (.pointer (some ⟨g, 3, none⟩)), sEq (.agg #[.slice a3 n3 c3, .slice a4 n4 c4]), sRRt (X) (Y), sEq (.pointer (some ⟨g, 1, none⟩)), sEq (.agg #[.slice a1 n1 c1, .slice a2 n2 c2]), sRRtB (X2) (Y2) true, sRRtB (X2) (Y2) true, sRRt (X2) (Y2), sEq (.bool true), sAny, sAny, sEq (.bool true)] (10, 11, 8)) 62 (by kernel_rfl) rfl (by kernel_rfl) (JC.start _ _ _) (fun HG HN => ⟨?_, ?_, ?_, ?_, ?_, ?_, ?_, ?_, ?_, ?_, ?_, ?_, ?_, trivial⟩) ?_
          · intro L vs a w' hJ hF hP hL
            have q6 : (a.tmps[6]?).getD undef = .pointer (some ⟨b6, 0, none⟩) := hF.old 6 rfl
            have cb0 := cell_later hJ.bel (S1.out.cel (b6) 0 (.slice a5 n5 c5))
            have cb1 := cell_later hJ.bel (S1.out.cel (b6) 1 (.slice a6 n6 c6))
            exact run_val (v := .agg #[.slice a5 n5 c5, .slice a6 n6 c6]) rfl (by simp [execOp, go_sem, q6, cb0, cb1]) ⟨_, rfl, hJ.step hL rfl (Below.refl _ _) (by exact rfl)⟩
          · intro L vs a w' hJ hF hP hL
            have q2 : (a.tmps[2]?).getD undef = .pointer (some ⟨g, 0, none⟩) := hF.old 2 rfl
            exact run_val (v := .pointer (some ⟨g, 3, none⟩)) rfl (by simp [execOp, go_sem, q2]) ⟨_, rfl, hJ.step hL rfl (Below.refl _ _) (by exact rfl)⟩
          · intro L vs a w' hJ hF hP hL
            have p1 : L 1 = true := hP ⟨1, .data⟩ (by simp) rfl
            have s1 : vs 1 = .pointer (some ⟨g, 3, none⟩) := hJ.sp 1 p1
            have q36 := hF.slot 1 36 rfl p1
            have cb0 := cell_later hJ.bel (S1.out.cel (g) 3 (.slice a3 n3 c3))
            have cb1 := cell_later hJ.bel (S1.out.cel (g) 4 (.slice a4 n4 c4))
            exact run_val (v := .agg #[.slice a3 n3 c3, .slice a4 n4 c4]) rfl (by simp [execOp, go_sem, q36, s1, cb0, cb1]) ⟨_, rfl, hJ.step hL rfl (Below.refl _ _) (by exact rfl)⟩
          · intro L vs a w' hJ hF hP hL
            have p0 : L 0 = true := hP ⟨0, .data⟩ (by simp) rfl
            have s0 : vs 0 = .agg #[.slice a5 n5 c5, .slice a6 n6 c6] := hJ.sp 0 p0
            have q35 := hF.slot 0 35 rfl p0
            have p2 : L 2 = true := hP ⟨2, .data⟩ (by simp) rfl
            have s2 : vs 2 = .agg #[.slice a3 n3 c3, .slice a4 n4 c4] := hJ.sp 2 p2
            have q37 := hF.slot 2 37 rfl p2
            refine run_call (f := 45) (args := #[.agg #[.slice a5 n5 c5, .slice a6 n6 c6], .agg #[.slice a3 n3 c3, .slice a4 n4 c4]]) rfl (by simp [go_sem, q35, s0, q37, s2]) (LS.out _ _ _ ((S1.out.rfr (.agg #[.slice a5 n5 c5, .slice a6 n6 c6]) k 1).mono hJ.bel) ((S1.out.rfr (.agg #[.slice a3 n3 c3, .slice a4 n4 c4]) p q).mono hJ.bel)) ?_
            rintro e w2 ⟨v, rfl, hv, hb⟩
            exact ⟨_, rfl, _, rfl, hJ.step hL rfl hb (by exact hv)⟩
          · intro L vs a w' hJ hF hP hL
            have q2 : (a.tmps[2]?).getD undef = .pointer (some ⟨g, 0, none⟩) := hF.old 2 rfl
            exact run_val (v := .pointer (some ⟨g, 1, none⟩)) rfl (by simp [execOp, go_sem, q2]) ⟨_, rfl, hJ.step hL rfl (Below.refl _ _) (by exact rfl)⟩
          · intro L vs a w' hJ hF hP hL
            have p4 : L 4 = true := hP ⟨4, .data⟩ (by simp) rfl
            have s4 : vs 4 = .pointer (some ⟨g, 1, none⟩) := hJ.sp 4 p4
            have q39 := hF.slot 4 39 rfl p4
            have cb0 := cell_later hJ.bel (S1.out.cel (g) 1 (.slice a1 n1 c1))
            have cb1 := cell_later hJ.bel (S1.out.cel (g) 2 (.slice a2 n2 c2))
            exact run_val (v := .agg #[.slice a1 n1 c1, .slice a2 n2 c2]) rfl (by simp [execOp, go_sem, q39, s4, cb0, cb1]) ⟨_, rfl, hJ.step hL rfl (Below.refl _ _) (by exact rfl)⟩
          · intro L vs a w' hJ hF hP hL
            have p3 : L 3 = true := hP ⟨3, .data⟩ (by simp) rfl
            have s3 : RRt w' (vs 3) (X) (Y) := hJ.sp 3 p3
            have q38 := hF.slot 3 38 rfl p3
            have p5 : L 5 = true := hP ⟨5, .data⟩ (by simp) rfl
            have s5 : vs 5 = .agg #[.slice a1 n1 c1, .slice a2 n2 c2] := hJ.sp 5 p5
            have q40 := hF.slot 5 40 rfl p5
            refine run_call (f := 44) (args := #[vs 3, .agg #[.slice a1 n1 c1, .slice a2 n2 c2]]) rfl (by simp [go_sem, q38, q40, s5]) (DV.out _ _ _ s3 ((S1.out.rfr (.agg #[.slice a1 n1 c1, .slice a2 n2 c2]) R D).mono hJ.bel)) ?_
            rintro e w2 ⟨v1, rfl, h1, hb⟩
            exact ⟨_, rfl, _, rfl, hJ.step hL rfl hb (by exact ⟨v1, rfl, h1⟩)⟩
          · intro L vs a w' hJ hF hP hL
            have p6 : L 6 = true := hP ⟨6, .data⟩ (by simp) rfl
            have s6 : ∃ p, vs 6 = .tuple #[p, .bool true] ∧ RRt w' p (X2) (Y2) := hJ.sp 6 p6
            have q41 := hF.slot 6 41 rfl p6
            exact run_val (v := vs 6) rfl (by simp [execOp, go_sem, q41]) ⟨_, rfl, hJ.step hL rfl (Below.refl _ _) (by exact s6)⟩
          · intro L vs a w' hJ hF hP hL
            have p7 : L 7 = true := hP ⟨7, .data⟩ (by simp) rfl
            have s7 : ∃ p, vs 7 = .tuple #[p, .bool true] ∧ RRt w' p (X2) (Y2) := hJ.sp 7 p7
            have q34 := hF.slot 7 34 rfl p7
            obtain ⟨vp, e1, e2⟩ := s7
            exact run_val (v := vp) rfl (by simp [execOp, go_sem, q34, e1]) ⟨_, rfl, hJ.step hL rfl (Below.refl _ _) (by exact e2)⟩
          · intro L vs a w' hJ hF hP hL
            have p7 : L 7 = true := hP ⟨7, .data⟩ (by simp) rfl
            have s7 : ∃ p, vs 7 = .tuple #[p, .bool true] ∧ RRt w' p (X2) (Y2) := hJ.sp 7 p7
            have q34 := hF.slot 7 34 rfl p7
            obtain ⟨vp, e1, e2⟩ := s7
            exact run_val (v := .bool true) rfl (by simp [execOp, go_sem, q34, e1]) ⟨_, rfl, hJ.step hL rfl (Below.refl _ _) (by exact rfl)⟩
          · intro L vs a w' hJ hF hP hL
            exact run_val (v := .pointer (some ⟨w'.heap.size, 0, none⟩)) (w' := w'.alloc (.cells #[.slice none 0 0, .slice none 0 0] 35)) rfl (by simp [execOp, go_sem]) ⟨_, rfl, hJ.alloc hL rfl (by decide) rfl _⟩
          · intro L vs a w' hJ hF hP hL
            have p10 : L 10 = true := hP ⟨10, .data⟩ (by simp) rfl
            have q7 := hF.slot 10 7 rfl p10
            have p8 : L 8 = true := hP ⟨8, .data⟩ (by simp) rfl
            have s8 : RRt w' (vs 8) (X2) (Y2) := hJ.sp 8 p8
            have q42 := hF.slot 8 42 rfl p8
            obtain ⟨bk, e1, e2, e3, e4, e4', e5, e6⟩ := hJ.bx p10
            obtain ⟨e7, e7'⟩ := e5 hL
            have s8' := s8
            obtain ⟨aa, nn, cc, a2, n2, c2, e8, _, _⟩ := s8'
            exact run_unit (w' := (w'.setCell ⟨bk, 0, none⟩ (.slice aa nn cc)).setCell ⟨bk, 1, none⟩ (.slice a2 n2 c2)) rfl (by simp [execOp, go_sem, q7, q42, e1, e8, e7, e4, e7', e4']) ⟨undef, rfl, hJ.store hL p10 p8 (by decide) rfl e1 e8⟩
          · intro L vs a w' hJ hF hP hL
            have p9 : L 9 = true := hP ⟨9, .data⟩ (by simp) rfl
            have s9 : vs 9 = .bool true := hJ.sp 9 p9
            have q43 := hF.slot 9 43 rfl p9
            exact run_val (v := .bool true) rfl (by simp [execOp, go_sem, q43, s9]) ⟨_, rfl, hJ.step hL rfl (Below.refl _ _) (by exact rfl)⟩
          intro L vs w' hA hJ
          have s8 : RRt w' (vs 8) (X2) (Y2) := hJ.sp 8 (hA 8 (by simp))
          have s9 : vs 9 = .bool true := hJ.sp 9 (hA 9 (by simp))
          have s12 : vs 12 = .bool true := hJ.sp 12 (hA 12 (by simp))
          obtain ⟨bk10, eb10, ge10, lt10, fz10, fz10', _, e6⟩ := hJ.bx (hA 10 (by simp))
          obtain ⟨_, u10, u10', eu10, ce10, ce10'⟩ := e6 (hA 11 (by simp))
          clear e6
          simp only [putL, Act.put, List.setIfInBounds_toArray, List.set_cons_zero, List.set_cons_succ, Nat.reduceAdd]
          have s8' := s8
          obtain ⟨a7, n7, c7, a8, n8, c8, q1, _, _⟩ := s8'
          rw [q1] at s8 eu10
          obtain ⟨rfl, rfl⟩ : u10 = .slice a7 n7 c7 ∧ u10' = .slice a8 n8 c8 := by simpa using eu10.symm
          simp only [eb10, s9, s12]
          have S2 : Hid _ := (((S1.out.go hJ.bel).addG s8).addC ce10').addC ce10
          have HW2 : Hid (Below w.heap.size w w') := bel_go HW.out hJ.bel
          obtain ⟨w4, ew⟩ : ∃ w4, w4 = w' := ⟨_, rfl⟩
          obtain ⟨b7, e1⟩ : ∃ b7, b7 = bk10 := ⟨_, rfl⟩
          rw [← ew, ← e1] at S2
          rw [← ew] at HW2
          rw [← ew, ← e1]
          clear ew e1 q1 s8 s9 s12 eu10 eb10 ge10 lt10 fz10 fz10' hJ hA S1 HW ce10 ce10'
          go_wp2_with fail
          refine wp_region_inv (JB w4 [sEq (.agg #[.slice a7 n7 c7, .slice a8 n8 c8]), sR (c), sEq (.pointer (some ⟨g, 5, none⟩)), sEq (.int .i64 (T : Int)), sEq (.int .u64 (T : Int)), sR (T), sR (c + T), sAny, sAny] [(7, 8, 6)]) 62 (by kernel_rfl) rfl (by kernel_rfl) (JB.start _ _ _) (fun HG HN => ⟨?_, ?_, ?_, ?_, ?_, ?_, ?_, ?_, ?_, trivial⟩) ?_
          · intro L vs a w' hJ hF hP hL
            have q7 : (a.tmps[7]?).getD undef = .pointer (some ⟨b7, 0, none⟩) := hF.old 7 rfl
            have cb0 := cell_later hJ.bel (S2.out.cel (b7) 0 (.slice a7 n7 c7))
            have cb1 := cell_later hJ.bel (S2.out.cel (b7) 1 (.slice a8 n8 c8))
            exact run_val (v := .agg #[.slice a7 n7 c7, .slice a8 n8 c8]) rfl (by simp [execOp, go_sem, q7, cb0, cb1]) ⟨_, rfl, hJ.step hL rfl (Below.refl _ _) (by exact rfl)⟩
          · intro L vs a w' hJ hF hP hL
            have p0 : L 0 = true := hP ⟨0, .data⟩ (by simp) rfl
            have s0 : vs 0 = .agg #[.slice a7 n7 c7, .slice a8 n8 c8] := hJ.sp 0 p0
            have q44 := hF.slot 0 44 rfl p0
            refine run_call (f := 47) (args := #[.agg #[.slice a7 n7 c7, .slice a8 n8 c8]]) rfl (by simp [go_sem, q44, s0]) (CE.out _ _ ((S2.out.rfr (.agg #[.slice a7 n7 c7, .slice a8 n8 c8]) X2 Y2).mono hJ.bel)) ?_
            rintro e w2 ⟨v, rfl, hv, hb⟩
            exact ⟨_, rfl, _, rfl, hJ.step hL rfl hb (by exact hv)⟩
          · intro L vs a w' hJ hF hP hL
            have q2 : (a.tmps[2]?).getD undef = .pointer (some ⟨g, 0, none⟩) := hF.old 2 rfl
            exact run_val (v := .pointer (some ⟨g, 5, none⟩)) rfl (by simp [execOp, go_sem, q2]) ⟨_, rfl, hJ.step hL rfl (Below.refl _ _) (by exact rfl)⟩
          · intro L vs a w' hJ hF hP hL
            have p2 : L 2 = true := hP ⟨2, .data⟩ (by simp) rfl
            have s2 : vs 2 = .pointer (some ⟨g, 5, none⟩) := hJ.sp 2 p2
            have q46 := hF.slot 2 46 rfl p2
            have cb := cell_later hJ.bel (S2.out.cel (g) 5 (.int .i64 (T : Int)))
            exact run_val (v := .int .i64 (T : Int)) rfl (by simp [execOp, go_sem, q46, s2, cb]) ⟨_, rfl, hJ.step hL rfl (Below.refl _ _) (by exact rfl)⟩
          · intro L vs a w' hJ hF hP hL
            have p3 : L 3 = true := hP ⟨3, .data⟩ (by simp) rfl
            have s3 : vs 3 = .int .i64 (T : Int) := hJ.sp 3 p3
            have q47 := hF.slot 3 47 rfl p3
            exact run_val (v := .int .u64 (T : Int)) rfl (by simp [execOp, go_sem, q47, s3, mT]) ⟨_, rfl, hJ.step hL rfl (Below.refl _ _) (by exact rfl)⟩
          · intro L vs a w' hJ hF hP hL
            have p4 : L 4 = true := hP ⟨4, .data⟩ (by simp) rfl
            have s4 : vs 4 = .int .u64 (T : Int) := hJ.sp 4 p4
            have q48 := hF.slot 4 48 rfl p4
            refine run_call (f := 30) (args := #[.int .u64 (T : Int)]) rfl (by simp [go_sem, q48, s4]) (OT.out _) ?_
            rintro e w2 ⟨v, rfl, hv, hb⟩
            exact ⟨_, rfl, _, rfl, hJ.step hL rfl hb (by exact hv)⟩
          · intro L vs a w' hJ hF hP hL
            have p1 : L 1 = true := hP ⟨1, .data⟩ (by simp) rfl
            have s1 : RNat w' (vs 1) (c) := hJ.sp 1 p1
            have q45 := hF.slot 1 45 rfl p1
            have p5 : L 5 = true := hP ⟨5, .data⟩ (by simp) rfl
            have s5 : RNat w' (vs 5) (T) := hJ.sp 5 p5
            have q49 := hF.slot 5 49 rfl p5
            refine run_call (f := 46) (args := #[vs 1, vs 5]) rfl (by simp [go_sem, q45, q49]) (rplus_any _ _ c T _ s1 s5 HR.out.1 HR.out.2.1) ?_
            rintro e w2 ⟨v, rfl, hv, hb⟩
            exact ⟨_, rfl, _, rfl, hJ.step hL rfl hb (by exact hv)⟩
          · intro L vs a w' hJ hF hP hL
            exact run_val (v := .pointer (some ⟨w'.heap.size, 0, none⟩)) (w' := w'.alloc (.cells #[.slice none 0 0] 33)) rfl (by simp [execOp, go_sem]) ⟨_, rfl, hJ.alloc hL rfl rfl _⟩
          · intro L vs a w' hJ hF hP hL
            have p7 : L 7 = true := hP ⟨7, .data⟩ (by simp) rfl
            have q9 := hF.slot 7 9 rfl p7
            have p6 : L 6 = true := hP ⟨6, .data⟩ (by simp) rfl
            have s6 : RNat w' (vs 6) (c + T) := hJ.sp 6 p6
            have q50 := hF.slot 6 50 rfl p6
            obtain ⟨bk, e1, e2, e3, e4, e5, e6⟩ := hJ.bx (7, 8, 6) (by simp) p7
            have e7 := e5 hL
            obtain ⟨aa, nn, cc, e8⟩ := s6.isAgg
            exact run_unit (w' := w'.setCell ⟨bk, 0, none⟩ (.slice aa nn cc)) rfl (by simp [execOp, go_sem, q9, q50, e1, e8, e7, e4]) ⟨undef, rfl, hJ.store (b := (7, 8, 6)) (by simp) hL p7 p6 (by decide) rfl e1 e8⟩
          intro L vs w' hA hJ
          have s6 : RNat w' (vs 6) (c + T) := hJ.sp 6 (hA 6 (by simp))
          obtain ⟨bk7, eb7, ge7, lt7, fz7, _, e6⟩ := hJ.bx (7, 8, 6) (by simp) (hA 7 (by simp))
          obtain ⟨_, u7, eu7, ce7⟩ := e6 (hA 8 (by simp))
          clear e6
          simp only [putL, Act.put, List.setIfInBounds_toArray, List.set_cons_zero, List.set_cons_succ, Nat.reduceAdd]
          obtain ⟨a9, n9, c9, q1⟩ := s6.isAgg
          rw [q1] at s6 eu7
          obtain rfl : u7 = .slice a9 n9 c9 := by simpa using eu7.symm
          simp only [eb7]
          have S3 : Hid _ := ((S2.out.go hJ.bel).addM s6).addC ce7
          have HW3 : Hid (Below w.heap.size w w') := bel_go HW2.out hJ.bel
          obtain ⟨w5, ew⟩ : ∃ w5, w5 = w' := ⟨_, rfl⟩
          obtain ⟨b9, e1⟩ : ∃ b9, b9 = bk7 := ⟨_, rfl⟩
          rw [← ew, ← e1] at S3
          rw [← ew] at HW3
          rw [← ew, ← e1]
          clear ew e1 q1 s6 eu7 eb7 ge7 lt7 fz7 hJ hA S2 HW2 ce7
          go_wp2_with fail
          refine wp_region_inv (JB w5 [sR (c + T), sR (4611686018427387904), sEq (.int .i64 z2), sEq (.bool bb)] []) 62 (by kernel_rfl) rfl (by kernel_rfl) (JB.start _ _ _) (fun HG HN => ⟨?_, ?_, ?_, ?_, trivial⟩) ?_
          · intro L vs a w' hJ hF hP hL
            have q9 : (a.tmps[9]?).getD undef = .pointer (some ⟨b9, 0, none⟩) := hF.old 9 rfl
            have cb := cell_later hJ.bel (S3.out.cell (b9) (.slice a9 n9 c9))
            exact run_val (v := .agg #[.slice a9 n9 c9]) rfl (by simp [execOp, go_sem, q9, cb]) ⟨_, rfl, hJ.step hL rfl (Below.refl _ _) (by exact ((S3.out.rat (.agg #[.slice a9 n9 c9]) (c + T)).mono hJ.bel))⟩
          · intro L vs a w' hJ hF hP hL
            refine run_call (f := 30) (args := #[.int .u64 4611686018427387904]) rfl (by simp [go_sem]) (OM.out _) ?_
            rintro e w2 ⟨v, rfl, hv, hb⟩
            exact ⟨_, rfl, _, rfl, hJ.step hL rfl hb (by exact hv)⟩
          · intro L vs a w' hJ hF hP hL
            have p0 : L 0 = true := hP ⟨0, .data⟩ (by simp) rfl
            have s0 : RNat w' (vs 0) (c + T) := hJ.sp 0 p0
            have q51 := hF.slot 0 51 rfl p0
            have p1 : L 1 = true := hP ⟨1, .data⟩ (by simp) rfl
            have s1 : RNat w' (vs 1) (4611686018427387904) := hJ.sp 1 p1
            have q52 := hF.slot 1 52 rfl p1
            refine run_call (f := 28) (args := #[vs 0, vs 1]) rfl (by simp [go_sem, q51, q52]) (rcmp_any _ _ (c + T) 4611686018427387904 _ s0 s1 HR.out.2.2.1 HR.out.2.2.2) ?_
            rintro e w2 ⟨rfl, hb⟩
            rw [← HZ2.out]
            exact ⟨_, rfl, _, rfl, hJ.step hL rfl hb (by exact rfl)⟩
          · intro L vs a w' hJ hF hP hL
            have p2 : L 2 = true := hP ⟨2, .data⟩ (by simp) rfl
            have s2 : vs 2 = .int .i64 z2 := hJ.sp 2 p2
            have q53 := hF.slot 2 53 rfl p2
            exact run_val (v := .bool bb) rfl (by simp [execOp, go_sem, q53, s2, hbb]) ⟨_, rfl, hJ.step hL rfl (Below.refl _ _) (by exact rfl)⟩
          intro L vs w' hA hJ
          have s3 : vs 3 = .bool bb := hJ.sp 3 (hA 3 (by simp))
          simp only [putL, Act.put, List.setIfInBounds_toArray, List.set_cons_zero, List.set_cons_succ, Nat.reduceAdd]
          simp only [s3]
          have z9 := cell_later hJ.bel (S3.out.cell b9 (.slice a9 n9 c9))
          have B5 : Hid (RNat w' (.agg #[.slice a9 n9 c9]) (c + T) ∧ Below w.heap.size w w') := ⟨(S3.out.rat (.agg #[.slice a9 n9 c9]) (c + T)).mono hJ.bel, bel_go HW3.out hJ.bel⟩
          clear hJ hA s3 S3 HW3 hbb
          cases bb
          · have hle : c + T ≤ 4611686018427387904 := by have := of_decide_eq_false HBN.out; omega
            have HF : Hid _ := HE.out.1 hle
            obtain ⟨q9, hq9⟩ : ∃ q9, q9 = c + T := ⟨_, rfl⟩
            have m9 : IntKind.i64.wrap (q9 : Int) = (q9 : Int) := by rw [IntKind.wrap_i64]; omega
            have U9 : Hid (q9 < 18446744073709551616 ∧ q9 = c + T) := ⟨by omega, hq9⟩
            rw [← hq9] at B5
            clear hle hq9
            go_wp2_with fail
            refine (ruint_yes _ q9 _ B5.out.1 U9.out.1).mono ?_
            rintro e w6 ⟨rfl, hb6⟩
            have B6 : Hid (Below w.heap.size w w6) := bel_go B5.out.2 hb6
            clear hb6 B5
            go_wp2_with fail
            exact bodyPost_ret (v := .tuple #[.int .i64 (q9 : Int), .int .i64 0]) (by simp [results, Tryz.results19, go_sem]) rfl ⟨by rw [HF.out.1, HF.out.2, U9.out.2], B6.out⟩
          · have HF : Hid _ := HE.out.2 (by have := of_decide_eq_true HBN.out; omega)
            go_wp2_with fail
            exact bodyPost_ret (v := .tuple #[.int .i64 0, .int .i64 80]) (by simp [results, Tryz.results19, go_sem]) rfl ⟨by rw [HF.out.1, HF.out.2]; rfl, B5.out.2⟩
end Go.Proofs.YtdmkneojhnhomaaGreatDoor
namespace Go.Proofs.YtdmkneojhnhomaaGreatDoor
open Go.RowKit
set_option maxRecDepth 100000
set_option linter.unusedVariables false
theorem dbl_sign : Ieee.double.signWeight = 9223372036854775808 := by decide
theorem dbl_bin : Ieee.double.binade = 4503599627370496 := by decide
theorem dbl_inf : Ieee.double.infRung = 9218868437227405312 := by decide
theorem dbl_least : Ieee.double.leastPlace = -1074 := by decide
theorem read_num {u : Nat} (h : u < 9218868437227405312) : Ieee.double.read u = .number false (fm u) (-1074 + (fe u : Int)) := by
  have h1 : (u / 9223372036854775808 % 2 == 1) = false := by rw [Nat.div_eq_of_lt (by omega)]; rfl
  have h2 : u % 9223372036854775808 = u := Nat.mod_eq_of_lt (by omega)
  unfold Ieee.Format.read
  rw [dbl_sign, dbl_bin, dbl_inf, dbl_least, h2]
  simp only [h1]
  unfold fm fe
  by_cases hs : u < 4503599627370496
  · have e0 : u / 4503599627370496 = 0 := Nat.div_eq_of_lt hs
    have e1 : u % 4503599627370496 = u := Nat.mod_eq_of_lt hs
    rw [if_pos hs, e0, if_pos rfl, e1]
    rfl
  · have e0 : ¬ u / 4503599627370496 = 0 := by omega
    rw [if_neg hs, if_pos h, if_neg e0, Nat.add_comm]
theorem signed_pos (m k : Nat) : Ieee.signed false m k = ((m * 2 ^ k : Nat) : Int) := by
  unfold Ieee.signed
  rw [Nat.shiftLeft_eq]
  simp
theorem order_gt {m n i j : Nat} : ((Ieee.Datum.number false m (-1074 + (i : Int))).order (.number false n (-1074 + (j : Int))) == some .gt) = decide (n * 2 ^ j < m * 2 ^ i) := by
  unfold Ieee.Datum.order
  simp only [signed_pos]
  by_cases h : i ≤ j
  · have e1 : (-1074 + (i : Int) - min (-1074 + (i : Int)) (-1074 + (j : Int))).toNat = 0 := by omega
    have e2 : (-1074 + (j : Int) - min (-1074 + (i : Int)) (-1074 + (j : Int))).toNat = j - i := by omega
    have e3 : n * 2 ^ j = n * 2 ^ (j - i) * 2 ^ i := by rw [Nat.mul_assoc, ← Nat.pow_add, show j - i + i = j by omega]
    rw [e1, e2, e3, Nat.pow_zero, Nat.mul_one]
    have e4 : (n * 2 ^ (j - i) * 2 ^ i < m * 2 ^ i) ↔ n * 2 ^ (j - i) < m := Nat.mul_lt_mul_right (Nat.two_pow_pos i)
    generalize n * 2 ^ (j - i) = a at *
    rw [decide_eq_decide.2 e4]
    rcases Nat.lt_trichotomy a m with h5 | h5 | h5
    · rw [decide_eq_true h5]
      have : compare (m : Int) (a : Int) = .gt := Int.compare_eq_gt.2 (by omega)
      rw [this]; rfl
    · rw [decide_eq_false (by omega)]
      have : compare (m : Int) (a : Int) = .eq := Int.compare_eq_eq.2 (by omega)
      rw [this]; rfl
    · rw [decide_eq_false (by omega)]
      have : compare (m : Int) (a : Int) = .lt := Int.compare_eq_lt.2 (by omega)
      rw [this]; rfl
  · have e1 : (-1074 + (i : Int) - min (-1074 + (i : Int)) (-1074 + (j : Int))).toNat = i - j := by omega
    have e2 : (-1074 + (j : Int) - min (-1074 + (i : Int)) (-1074 + (j : Int))).toNat = 0 := by omega
    have e3 : m * 2 ^ i = m * 2 ^ (i - j) * 2 ^ j := by rw [Nat.mul_assoc, ← Nat.pow_add, show i - j + j = i by omega]
    rw [e1, e2, e3, Nat.pow_zero, Nat.mul_one]
    have e4 : (n * 2 ^ j < m * 2 ^ (i - j) * 2 ^ j) ↔ n < m * 2 ^ (i - j) := Nat.mul_lt_mul_right (Nat.two_pow_pos j)
    generalize m * 2 ^ (i - j) = a at *
    rw [decide_eq_decide.2 e4]
    rcases Nat.lt_trichotomy n a with h5 | h5 | h5
    · rw [decide_eq_true h5]
      have : compare (a : Int) (n : Int) = .gt := Int.compare_eq_gt.2 (by omega)
      rw [this]; rfl
    · rw [decide_eq_false (by omega)]
      have : compare (a : Int) (n : Int) = .eq := Int.compare_eq_eq.2 (by omega)
      rw [this]; rfl
    · rw [decide_eq_false (by omega)]
      have : compare (a : Int) (n : Int) = .lt := Int.compare_eq_lt.2 (by omega)
      rw [this]; rfl
theorem gtM_val {u : Nat} (h : u < 9218868437227405312) : gtM u = decide (4503599627370496 * 2 ^ 1042 < fm u * 2 ^ fe u) := by
  have hK := read_num (u := 4697254411347427328) (by omega)
  rw [show fm 4697254411347427328 = 4503599627370496 by decide, show fe 4697254411347427328 = 1042 by decide] at hK
  show ((Ieee.double.read u).order (Ieee.double.read 4697254411347427328) == some .gt) = _
  rw [read_num h, hK]
  exact order_gt
theorem pow_split {e c : Nat} (h : c ≤ e) : 2 ^ e = 2 ^ c * 2 ^ (e - c) := by rw [← Nat.pow_add, show c + (e - c) = e by omega]
theorem gtM_iff {u : Nat} (h : u < 9218868437227405312) : gtM u = decide (4697254411347427328 < u) := by
  rw [gtM_val h]
  refine decide_eq_decide.2 ?_
  have hm := fm_lt u
  have hm' : fm u < 9007199254740992 := hm
  obtain ⟨c, hc⟩ : ∃ c, c = 1042 := ⟨_, rfl⟩
  rw [← hc]
  rcases Nat.lt_trichotomy (fe u) c with h1 | h1 | h1
  · have h2 : 2 ^ c = 2 ^ (fe u + 1) * 2 ^ (c - (fe u + 1)) := pow_split (by omega)
    have h3 : 0 < 2 ^ (c - (fe u + 1)) := Nat.two_pow_pos _
    have h4 : 0 < 2 ^ fe u := Nat.two_pow_pos _
    have h5 : 2 ^ (fe u + 1) = 2 * 2 ^ fe u := by rw [Nat.pow_succ, Nat.mul_comm]
    have h6 : fm u * 2 ^ fe u < 9007199254740992 * 2 ^ fe u := Nat.mul_lt_mul_of_pos_right hm' h4
    have h7 : 9007199254740992 * 2 ^ fe u ≤ 4503599627370496 * 2 ^ c := by
      rw [h2, h5]
      calc 9007199254740992 * 2 ^ fe u = 4503599627370496 * (2 * 2 ^ fe u) * 1 := by omega
        _ ≤ 4503599627370496 * (2 * 2 ^ fe u) * 2 ^ (c - (fe u + 1)) := Nat.mul_le_mul_left _ h3
        _ = 4503599627370496 * (2 * 2 ^ fe u * 2 ^ (c - (fe u + 1))) := by rw [Nat.mul_assoc 4503599627370496]
    have h8 : ¬ 4697254411347427328 < u := by
      unfold fe at h1
      omega
    constructor
    · intro h9; omega
    · intro h9; exact absurd h9 h8
  · rw [h1]
    have h4 : 0 < 2 ^ c := Nat.two_pow_pos _
    rw [Nat.mul_lt_mul_right h4]
    unfold fe at h1
    have e0 : ¬ u / 4503599627370496 = 0 := by omega
    unfold fm
    rw [if_neg e0]
    omega
  · have h2 : 2 ^ fe u = 2 ^ (c + 1) * 2 ^ (fe u - (c + 1)) := pow_split (by omega)
    have h3 : 0 < 2 ^ (fe u - (c + 1)) := Nat.two_pow_pos _
    have h4 : 0 < 2 ^ c := Nat.two_pow_pos _
    have h5 : 2 ^ (c + 1) = 2 * 2 ^ c := by rw [Nat.pow_succ, Nat.mul_comm]
    have e0 : ¬ u / 4503599627370496 = 0 := by unfold fe at h1; omega
    have h6 : 4503599627370496 ≤ fm u := by unfold fm; rw [if_neg e0]; omega
    have h7 : 4503599627370496 * (2 * 2 ^ c) ≤ fm u * 2 ^ fe u := by
      rw [h2, h5]
      refine Nat.mul_le_mul h6 ?_
      exact Nat.le_mul_of_pos_right _ h3
    have h8 : 4697254411347427328 < u := by
      unfold fe at h1
      omega
    constructor
    · intro _; exact h8
    · intro _; omega
end Go.Proofs.YtdmkneojhnhomaaGreatDoor
namespace Go.Proofs.YtdmkneojhnhomaaGreatDoor
open Go.RowKit
set_option maxRecDepth 100000
set_option linter.unusedVariables false
theorem and_2047 (x : Nat) (h : x < 18446744073709551616) : bits .and .u64 (x : Int) 2047 = ((x % 2048 : Nat) : Int) := by
  have := bits_and_u64_nat x 2047 h (by omega)
  rw [show (2047 : Nat) = 2 ^ 11 - 1 from rfl, Nat.and_two_pow_sub_one_eq_mod] at this
  exact this
theorem and_low52 (x : Nat) (h : x < 18446744073709551616) : bits .and .u64 (x : Int) 4503599627370495 = ((x % 4503599627370496 : Nat) : Int) := by
  have := bits_and_u64_nat x 4503599627370495 h (by omega)
  rw [show (4503599627370495 : Nat) = 2 ^ 52 - 1 from rfl, Nat.and_two_pow_sub_one_eq_mod] at this
  exact this
theorem or_52 (m : Nat) (h : m < 4503599627370496) : bits .or .u64 (m : Int) 4503599627370496 = ((m + 4503599627370496 : Nat) : Int) := by
  have := bits_or_u64_nat m 4503599627370496 (by omega) (by omega)
  rw [Nat.or_comm, show (4503599627370496 : Nat) = 2 ^ 52 * 1 from rfl, ← Nat.two_pow_add_eq_or_of_lt (show m < 2 ^ 52 from h)] at this
  rw [Nat.add_comm m]
  exact this
/-- What Rate looks at. -/
structure Rl (u x0 E m t s : Nat) : Prop where
  lt : u < 18446744073709551616
  x : x0 = u / 4503599627370496
  e : E = x0 % 2048
  m : m = u % 4503599627370496
  t : t = u / 9223372036854775808
  s : s = u * 2 % 18446744073709551616
theorem rl_of (u : Nat) (h : u < 18446744073709551616) : ∃ x0 E m t s, Rl u x0 E m t s := ⟨_, _, _, _, _, h, rfl, rfl, rfl, rfl, rfl⟩
structure Rr (u x0 E m t s : Nat) : Prop where
  r2 : (u : Int) / 4503599627370496 = (x0 : Int)
  r3 : bits .and .u64 (x0 : Int) 2047 = (E : Int)
  r5 : bits .and .u64 (u : Int) 4503599627370495 = (m : Int)
  r6 : (u : Int) / 9223372036854775808 = (t : Int)
  r7 : IntKind.u64.wrap ((u : Int) * 2) = (s : Int)
  r8 : wrap64 (E : Int) = (E : Int)
  r9 : IntKind.i64.wrap (E : Int) = (E : Int)
  r10 : bits .or .u64 (m : Int) 4503599627370496 = ((m + 4503599627370496 : Nat) : Int)
theorem Rl.rules {u x0 E m t s : Nat} (h : Rl u x0 E m t s) : Rr u x0 E m t s := by
  obtain ⟨h0, h1, h2, h3, h4, h5⟩ := h
  have hE : E < 2048 := by rw [h2]; exact Nat.mod_lt _ (by omega)
  refine ⟨by omega, ?_, ?_, by omega, by rw [IntKind.wrap_u64]; omega, IntWalk.wrap64_in _ ⟨by omega, by omega⟩, by rw [IntKind.wrap_i64]; omega, or_52 m (by omega)⟩
  · rw [h2]; exact and_2047 x0 (by omega)
  · rw [h3]; exact and_low52 u h0
set_option maxHeartbeats 4000000 in
theorem rrate_bad1 (u x0 E m t s : Nat) (w : World) (h : Rl u x0 E m t s) (h1 : E = 2047) : Calls Tryz.prog 21 #[.int .u64 (u : Int)] w (MakesRRB w 0 1 false) := by
  have RR : Hid (Rr u x0 E m t s) := h.rules
  have d1 : decide (E = 2047) = true := decide_eq_true h1
  have d1' : ((E : Int) == 2047) = true := by simp; omega
  clear h1
  clear h
  obtain ⟨r2, r3, r5, r6, r7, r8, r9, r10⟩ := RR.out
  go_enter Tryz.func21, Tryz.ntmps21
  go_wp2_with fail
  refine (rzero2_any _).mono ?_
  rintro e w1 ⟨v1, rfl, hv1, hb1⟩
  have hv' := hv1
  obtain ⟨a6, n6, c6, a7, n7, c7, ev, _, _⟩ := hv'
  subst ev
  have z0 : w1.cell? ⟨w.heap.size, 0, none⟩ = some (.slice none 0 0) := cell_later hb1 (by simp [go_sem])
  have z1 : w1.cell? ⟨w.heap.size, 1, none⟩ = some (.slice none 0 0) := cell_later hb1 (by simp [go_sem])
  have y0 : w1.frozen? ⟨w.heap.size, 0, none⟩ = false := (hb1.frozen (by simp)).trans (by simp [go_sem])
  have y1 : w1.frozen? ⟨w.heap.size, 1, none⟩ = false := (hb1.frozen (by simp)).trans (by simp [go_sem])
  have Z : Hid _ := rrat_put (v := .slice a6 n6 c6) (u := .slice a7 n7 c7) z0 z1 hv1 (bel_go (bel_al (bel_refl w)) hb1) (Nat.le_refl _)
  clear hv1 hb1
  go_wp2_with fail
  exact bodyPost_ret (v := .tuple #[.agg #[.slice a6 n6 c6, .slice a7 n7 c7], .bool false]) (by simp [results, Tryz.results21, go_sem, z0, z1]) rfl ⟨_, rfl, Z.out.1, Z.out.2⟩
set_option maxHeartbeats 4000000 in
theorem rrate_bad2 (u x0 E m t s : Nat) (w : World) (h : Rl u x0 E m t s) (h1 : E ≠ 2047) (h2 : t = 1) (h3 : s ≠ 0) : Calls Tryz.prog 21 #[.int .u64 (u : Int)] w (MakesRRB w 0 1 false) := by
  have RR : Hid (Rr u x0 E m t s) := h.rules
  have d1 : decide (E = 2047) = false := decide_eq_false (by omega)
  have d1' : ((E : Int) == 2047) = false := by simp; omega
  have d12 : ¬ E = 2047 := by omega
  have d2 : decide (t = 1) = true := decide_eq_true h2
  have d2' : ((t : Int) == 1) = true := by simp; omega
  have d3 : decide (s = 0) = false := decide_eq_false (by omega)
  have d3' : ((s : Int) == 0) = false := by simp; omega
  have d32 : ¬ s = 0 := by omega
  clear h1 h2 h3
  clear h
  obtain ⟨r2, r3, r5, r6, r7, r8, r9, r10⟩ := RR.out
  go_enter Tryz.func21, Tryz.ntmps21
  go_wp2_with fail
  refine (rzero2_any _).mono ?_
  rintro e w1 ⟨v1, rfl, hv1, hb1⟩
  have hv' := hv1
  obtain ⟨a6, n6, c6, a7, n7, c7, ev, _, _⟩ := hv'
  subst ev
  have z0 : w1.cell? ⟨w.heap.size, 0, none⟩ = some (.slice none 0 0) := cell_later hb1 (by simp [go_sem])
  have z1 : w1.cell? ⟨w.heap.size, 1, none⟩ = some (.slice none 0 0) := cell_later hb1 (by simp [go_sem])
  have y0 : w1.frozen? ⟨w.heap.size, 0, none⟩ = false := (hb1.frozen (by simp)).trans (by simp [go_sem])
  have y1 : w1.frozen? ⟨w.heap.size, 1, none⟩ = false := (hb1.frozen (by simp)).trans (by simp [go_sem])
  have Z : Hid _ := rrat_put (v := .slice a6 n6 c6) (u := .slice a7 n7 c7) z0 z1 hv1 (bel_go (bel_al (bel_refl w)) hb1) (Nat.le_refl _)
  clear hv1 hb1
  go_wp2_with fail
  exact bodyPost_ret (v := .tuple #[.agg #[.slice a6 n6 c6, .slice a7 n7 c7], .bool false]) (by simp [results, Tryz.results21, go_sem, z0, z1]) rfl ⟨_, rfl, Z.out.1, Z.out.2⟩
set_option maxHeartbeats 4000000 in
theorem rrate_bad3 (u x0 E m t s : Nat) (w : World) (h : Rl u x0 E m t s) (h1 : E ≠ 2047) (h2 : t ≠ 1) (h3 : 1043 < E) : Calls Tryz.prog 21 #[.int .u64 (u : Int)] w (MakesRRB w 0 1 false) := by
  have RR : Hid (Rr u x0 E m t s) := h.rules
  have d1 : decide (E = 2047) = false := decide_eq_false (by omega)
  have d1' : ((E : Int) == 2047) = false := by simp; omega
  have d12 : ¬ E = 2047 := by omega
  have d2 : decide (t = 1) = false := decide_eq_false (by omega)
  have d2' : ((t : Int) == 1) = false := by simp; omega
  have d22 : ¬ t = 1 := by omega
  have d4 : decide (1043 < E) = true := decide_eq_true (by omega)
  have d4' : decide ((1043 : Int) < (E : Int)) = true := decide_eq_true (by omega)
  clear h
  obtain ⟨r2, r3, r5, r6, r7, r8, r9, r10⟩ := RR.out
  go_enter Tryz.func21, Tryz.ntmps21
  go_wp2_with fail
  refine (rzero2_any _).mono ?_
  rintro e w1 ⟨v1, rfl, hv1, hb1⟩
  have hv' := hv1
  obtain ⟨a6, n6, c6, a7, n7, c7, ev, _, _⟩ := hv'
  subst ev
  have z0 : w1.cell? ⟨w.heap.size, 0, none⟩ = some (.slice none 0 0) := cell_later hb1 (by simp [go_sem])
  have z1 : w1.cell? ⟨w.heap.size, 1, none⟩ = some (.slice none 0 0) := cell_later hb1 (by simp [go_sem])
  have y0 : w1.frozen? ⟨w.heap.size, 0, none⟩ = false := (hb1.frozen (by simp)).trans (by simp [go_sem])
  have y1 : w1.frozen? ⟨w.heap.size, 1, none⟩ = false := (hb1.frozen (by simp)).trans (by simp [go_sem])
  have Z : Hid _ := rrat_put (v := .slice a6 n6 c6) (u := .slice a7 n7 c7) z0 z1 hv1 (bel_go (bel_al (bel_refl w)) hb1) (Nat.le_refl _)
  clear hv1 hb1
  go_wp2_with fail
  exact bodyPost_ret (v := .tuple #[.agg #[.slice a6 n6 c6, .slice a7 n7 c7], .bool false]) (by simp [results, Tryz.results21, go_sem, z0, z1]) rfl ⟨_, rfl, Z.out.1, Z.out.2⟩
set_option maxHeartbeats 4000000 in
theorem rrate_bad4 (u x0 E m t s : Nat) (w : World) (h : Rl u x0 E m t s) (h2 : t ≠ 1) (h3 : E = 1043) (h4 : 0 < m) : Calls Tryz.prog 21 #[.int .u64 (u : Int)] w (MakesRRB w 0 1 false) := by
  have RR : Hid (Rr u x0 E m t s) := h.rules
  have d1 : decide (E = 2047) = false := decide_eq_false (by omega)
  have d1' : ((E : Int) == 2047) = false := by simp; omega
  have d12 : ¬ E = 2047 := by omega
  have d2 : decide (t = 1) = false := decide_eq_false (by omega)
  have d2' : ((t : Int) == 1) = false := by simp; omega
  have d22 : ¬ t = 1 := by omega
  have d4 : decide (1043 < E) = false := decide_eq_false (by omega)
  have d4' : decide ((1043 : Int) < (E : Int)) = false := decide_eq_false (by omega)
  have d5 : decide (E = 1043) = true := decide_eq_true h3
  have d5' : ((E : Int) == 1043) = true := by simp; omega
  have d6 : decide (0 < m) = true := decide_eq_true (by omega)
  have d6' : decide ((0 : Int) < (m : Int)) = true := decide_eq_true (by omega)
  clear h3
  clear h
  obtain ⟨r2, r3, r5, r6, r7, r8, r9, r10⟩ := RR.out
  go_enter Tryz.func21, Tryz.ntmps21
  go_wp2_with fail
  refine (rzero2_any _).mono ?_
  rintro e w1 ⟨v1, rfl, hv1, hb1⟩
  have hv' := hv1
  obtain ⟨a6, n6, c6, a7, n7, c7, ev, _, _⟩ := hv'
  subst ev
  have z0 : w1.cell? ⟨w.heap.size, 0, none⟩ = some (.slice none 0 0) := cell_later hb1 (by simp [go_sem])
  have z1 : w1.cell? ⟨w.heap.size, 1, none⟩ = some (.slice none 0 0) := cell_later hb1 (by simp [go_sem])
  have y0 : w1.frozen? ⟨w.heap.size, 0, none⟩ = false := (hb1.frozen (by simp)).trans (by simp [go_sem])
  have y1 : w1.frozen? ⟨w.heap.size, 1, none⟩ = false := (hb1.frozen (by simp)).trans (by simp [go_sem])
  have Z : Hid _ := rrat_put (v := .slice a6 n6 c6) (u := .slice a7 n7 c7) z0 z1 hv1 (bel_go (bel_al (bel_refl w)) hb1) (Nat.le_refl _)
  clear hv1 hb1
  go_wp2_with fail
  exact bodyPost_ret (v := .tuple #[.agg #[.slice a6 n6 c6, .slice a7 n7 c7], .bool false]) (by simp [results, Tryz.results21, go_sem, z0, z1]) rfl ⟨_, rfl, Z.out.1, Z.out.2⟩
end Go.Proofs.YtdmkneojhnhomaaGreatDoor
namespace Go.Proofs.YtdmkneojhnhomaaGreatDoor
open Go.RowKit
set_option maxRecDepth 100000
set_option linter.unusedVariables false
/-- What comes of it. -/
structure Rg (u mm d : Nat) : Prop where
  mlt : mm < 9007199254740992
  dle : d ≤ 1074
  eN : fN (nz u) = mm
  eD : fD (nz u) = 2 ^ d
theorem Rg.some1 {u mm d : Nat} (h : Rg u mm d) : RSome mm := rsome_word (by have := h.mlt; omega)
theorem Rg.some2 {u mm d : Nat} (h : Rg u mm d) : RSome (2 ^ d) := by
  have h1 : 2 ^ d < P 17 := two_P (by have := h.dle; omega)
  exact (RS.rsome ⟨P_up h1 (by omega)⟩)
theorem rg_of {u E m : Nat} (hE : E = nz u / 4503599627370496) (hm : m = nz u % 4503599627370496) (h : E ≤ 1043) : Rg u (if E = 0 then m else m + 4503599627370496) (1075 - (if E = 0 then 1 else E)) := by
  have hf : fe (nz u) - 1074 = 0 := by unfold fe; omega
  refine ⟨?_, ?_, ?_, ?_⟩
  · split <;> omega
  · split <;> omega
  · unfold fN
    rw [hf, Nat.pow_zero, Nat.mul_one]
    unfold fm
    rw [← hE, ← hm]
  · unfold fD fe
    rw [← hE]
    congr 1
    split <;> omega
set_option maxHeartbeats 4000000 in
theorem rrate_good1 (u x0 E m t s d : Nat) (w : World) (h : Rl u x0 E m t s) (ht : t ≠ 1) (he : E = 0) (hd : d = 1074) (hg : Rg u m d) : Calls Tryz.prog 21 #[.int .u64 (u : Int)] w (MakesRRB w (fN (nz u) / Nat.gcd (fN (nz u)) (fD (nz u))) (fD (nz u) / Nat.gcd (fN (nz u)) (fD (nz u))) true) := by
  have RR : Hid (Rr u x0 E m t s) := h.rules
  have HG : Hid (Rg u m d) := hg
  rw [hg.eN, hg.eD]
  have LF : Hid (∀ v w, RNat w v 1 → Calls Tryz.prog 49 #[v, .int .i64 1074] w (RMakes w (2 ^ d))) := fun v w h => by
    have := rleft_any v 1 d w h (rs_word (by omega)).rfits (by have := hg.dle; omega)
    rw [Nat.one_mul] at this
    rw [show (d : Int) = 1074 by omega] at this
    exact this
  have d1 : decide (E = 2047) = false := decide_eq_false (by omega)
  have d1' : ((E : Int) == 2047) = false := by simp; omega
  have d12 : ¬ E = 2047 := by omega
  have d2 : decide (t = 1) = false := decide_eq_false (by omega)
  have d2' : ((t : Int) == 1) = false := by simp; omega
  have d22 : ¬ t = 1 := by omega
  have d4 : decide (1043 < E) = false := decide_eq_false (by omega)
  have d4' : decide ((1043 : Int) < (E : Int)) = false := decide_eq_false (by omega)
  have d5 : decide (E = 1043) = false := decide_eq_false (by omega)
  have d5' : ((E : Int) == 1043) = false := by simp; omega
  have d52 : ¬ E = 1043 := by omega
  have d8 : decide (E = 0) = true := decide_eq_true he
  have d8' : ((E : Int) == 0) = true := by simp; omega
  clear ht he hd
  clear h hg
  obtain ⟨r2, r3, r5, r6, r7, r8, r9, r10⟩ := RR.out
  clear r10
  have S1 : Hid _ := (sx_start w).box (.slice none 0 0) (.slice none 0 0) 35 _ rfl
  have f6 : (w.alloc (.cells #[.slice none 0 0, .slice none 0 0] 35)).frozen? ⟨w.heap.size, 0, none⟩ = false := by simp [go_sem]
  have f7 : (w.alloc (.cells #[.slice none 0 0, .slice none 0 0] 35)).frozen? ⟨w.heap.size, 1, none⟩ = false := by simp [go_sem]
  have FZ : Hid _ := And.intro f6 f7
  clear f6 f7
  go_enter Tryz.func21, Tryz.ntmps21
  go_wp2_with fail
  refine (rof_any m _ (by have := HG.out.mlt; omega)).mono ?_
  rintro e w2 ⟨v2, rfl, hv2, hb2⟩
  obtain ⟨a1, n1, c1, rfl⟩ := hv2.isAgg
  have FZ : Hid (w2.frozen? ⟨w.heap.size, 0, none⟩ = false ∧ w2.frozen? ⟨w.heap.size, 1, none⟩ = false) := ⟨(hb2.frozen (World.block_lt_of_cell? _ _ (S1.out.cel w.heap.size 0 (.slice none 0 0)))).trans FZ.out.1, (hb2.frozen (World.block_lt_of_cell? _ _ (S1.out.cel w.heap.size 1 (.slice none 0 0)))).trans FZ.out.2⟩
  have S2 : Hid _ := (S1.out.go hb2).addM hv2
  clear hv2 hb2 S1
  go_wp2_with fail
  refine (rof_any 1 _ (by omega)).mono ?_
  rintro e w3 ⟨v3, rfl, hv3, hb3⟩
  obtain ⟨a2, n2, c2, rfl⟩ := hv3.isAgg
  have hbb := bel_go hb3 (bel_al (o := .cells #[.slice a2 n2 c2] 33) (bel_al (o := .cells #[.slice a1 n1 c1] 33) (bel_refl _)))
  have FZ : Hid (((w3.alloc (.cells #[.slice a1 n1 c1] 33)).alloc (.cells #[.slice a2 n2 c2] 33)).frozen? ⟨w.heap.size, 0, none⟩ = false ∧ ((w3.alloc (.cells #[.slice a1 n1 c1] 33)).alloc (.cells #[.slice a2 n2 c2] 33)).frozen? ⟨w.heap.size, 1, none⟩ = false) := ⟨(hbb.frozen (World.block_lt_of_cell? _ _ (S2.out.cel w.heap.size 0 (.slice none 0 0)))).trans FZ.out.1, (hbb.frozen (World.block_lt_of_cell? _ _ (S2.out.cel w.heap.size 1 (.slice none 0 0)))).trans FZ.out.2⟩
  have S3 : Hid _ := ((((S2.out.go hb3).addM hv3).box1 (.slice a1 n1 c1) 33 _ rfl).box1 (.slice a2 n2 c2) 33 _ rfl)
  simp only [World.size_alloc] at S3
  have ff : ((w3.alloc (.cells #[.slice a1 n1 c1] 33)).alloc (.cells #[.slice a2 n2 c2] 33)).frozen? ⟨w3.heap.size + 1, 0, none⟩ = false := by simp [go_sem]
  have HL : Hid (w.heap.size < w3.heap.size ∧ w.heap.size ≤ w3.heap.size) := by
    have := World.block_lt_of_cell? _ _ (cell_later hb3 (S2.out.cel w.heap.size 0 (.slice none 0 0)))
    exact ⟨this, Nat.le_of_lt this⟩
  clear hv3 hb3 hbb S2
  go_wp2_with fail
  obtain ⟨w4, hw4⟩ : ∃ w4, w4 = (w3.alloc (.cells #[.slice a1 n1 c1] 33)).alloc (.cells #[.slice a2 n2 c2] 33) := ⟨_, rfl⟩
  obtain ⟨g, hg⟩ : ∃ g, g = w3.heap.size := ⟨_, rfl⟩
  rw [← hw4, ← hg] at S3 ff
  rw [← hw4] at FZ
  rw [← hg] at HL
  rw [← hw4, ← hg]
  clear hw4 hg
  refine (LF.out _ _ (S3.out.rat (.agg #[.slice a2 n2 c2]) 1)).mono ?_
  rintro e w5 ⟨v5, rfl, hv5, hb5⟩
  obtain ⟨a5, n5, c5, rfl⟩ := hv5.isAgg
  have g0 := cell_later hb5 (S3.out.cel g 0 (.slice a1 n1 c1))
  have g1 := cell_later hb5 (S3.out.cel (g + 1) 0 (.slice a2 n2 c2))
  have g2 : w5.frozen? ⟨g + 1, 0, none⟩ = false := (hb5.frozen (World.block_lt_of_cell? _ _ (S3.out.cel (g + 1) 0 (.slice a2 n2 c2)))).trans ff
  have x0' := cell_later hb5 (S3.out.cel w.heap.size 0 (.slice none 0 0))
  have x1' := cell_later hb5 (S3.out.cel w.heap.size 1 (.slice none 0 0))
  have FZ : Hid (w5.frozen? ⟨w.heap.size, 0, none⟩ = false ∧ w5.frozen? ⟨w.heap.size, 1, none⟩ = false) := ⟨(hb5.frozen (World.block_lt_of_cell? _ _ (S3.out.cel w.heap.size 0 (.slice none 0 0)))).trans FZ.out.1, (hb5.frozen (World.block_lt_of_cell? _ _ (S3.out.cel w.heap.size 1 (.slice none 0 0)))).trans FZ.out.2⟩
  have S4 : Hid (RNat w5 (.agg #[.slice a1 n1 c1]) m ∧ RNat w5 (.agg #[.slice a5 n5 c5]) (2 ^ d) ∧ Below w.heap.size w w5) := ⟨(S3.out.rat (.agg #[.slice a1 n1 c1]) m).mono hb5, hv5, bel_go S3.out.bel hb5⟩
  clear hv5 hb5 S3 ff
  obtain ⟨W, hW⟩ : ∃ W, W = w5.setCell ⟨g + 1, 0, none⟩ (.slice a5 n5 c5) := ⟨_, rfl⟩
  have ne1 : w.heap.size ≠ g + 1 := by have := HL.out; omega
  have k0 : (w5.setCell ⟨g + 1, 0, none⟩ (.slice a5 n5 c5)).cell? ⟨g, 0, none⟩ = some (.slice a1 n1 c1) := by rw [World.cell?_setCell_far _ _ _ _ (by show g + 1 ≠ g; omega)]; exact g0
  have k1 : (w5.setCell ⟨g + 1, 0, none⟩ (.slice a5 n5 c5)).cell? ⟨g + 1, 0, none⟩ = some (.slice a5 n5 c5) := by simp [go_sem, g1]
  have S5 : Hid (RNat (w5.setCell ⟨g + 1, 0, none⟩ (.slice a5 n5 c5)) (.agg #[.slice a1 n1 c1]) m ∧ RNat (w5.setCell ⟨g + 1, 0, none⟩ (.slice a5 n5 c5)) (.agg #[.slice a5 n5 c5]) (2 ^ d) ∧ Below w.heap.size w (w5.setCell ⟨g + 1, 0, none⟩ (.slice a5 n5 c5))) := ⟨S4.out.1.setCell (no_int_slice g1) _, S4.out.2.1.setCell (no_int_slice g1) _, S4.out.2.2.setCell (by have := HL.out; show _ ≤ g + 1; omega) _⟩
  have C5 : Hid ((w5.setCell ⟨g + 1, 0, none⟩ (.slice a5 n5 c5)).cell? ⟨w.heap.size, 0, none⟩ = some (.slice none 0 0) ∧ (w5.setCell ⟨g + 1, 0, none⟩ (.slice a5 n5 c5)).cell? ⟨w.heap.size, 1, none⟩ = some (.slice none 0 0) ∧ (w5.setCell ⟨g + 1, 0, none⟩ (.slice a5 n5 c5)).frozen? ⟨w.heap.size, 0, none⟩ = false ∧ (w5.setCell ⟨g + 1, 0, none⟩ (.slice a5 n5 c5)).frozen? ⟨w.heap.size, 1, none⟩ = false) := by
    refine ⟨?_, ?_, ?_, ?_⟩
    · rw [World.cell?_setCell_far _ _ _ _ (Ne.symm ne1)]; exact x0'
    · rw [World.cell?_setCell_far _ _ _ _ (Ne.symm ne1)]; exact x1'
    · rw [World.frozen?_setCell]; exact FZ.out.1
    · rw [World.frozen?_setCell]; exact FZ.out.2
  clear x0' x1' S4 g0 ne1 hW
  go_wp2_with fail
  refine (rfrom2_yes _ _ m (2 ^ d) _ S5.out.1 S5.out.2.1 HG.out.some1 HG.out.some2 (Nat.two_pow_pos _)).mono ?_
  rintro e w6 ⟨v6, rfl, hv6, hb6⟩
  have hv' := hv6
  obtain ⟨a6, n6, c6, a7, n7, c7, ev, _, _⟩ := hv'
  subst ev
  have z0 := cell_later hb6 C5.out.1
  have z1 := cell_later hb6 C5.out.2.1
  have y0 := (hb6.frozen (World.block_lt_of_cell? _ _ C5.out.1)).trans C5.out.2.2.1
  have y1 := (hb6.frozen (World.block_lt_of_cell? _ _ C5.out.2.1)).trans C5.out.2.2.2
  have Z : Hid _ := rrat_put (w0 := w) (v := .slice a6 n6 c6) (u := .slice a7 n7 c7) z0 z1 hv6 (bel_go S5.out.2.2 hb6) (Nat.le_refl _)
  clear hv6 hb6 S5 C5 k0 k1 g1 g2
  go_wp2_with fail
  exact bodyPost_ret (v := .tuple #[.agg #[.slice a6 n6 c6, .slice a7 n7 c7], .bool true]) (by simp [results, Tryz.results21, go_sem, z0, z1]) rfl ⟨_, rfl, Z.out.1, Z.out.2⟩
set_option maxHeartbeats 4000000 in
theorem rrate_good2 (u x0 E m t s d : Nat) (w : World) (h : Rl u x0 E m t s) (ht : t = 1) (hs : s = 0) (he : E = 0) (hd : d = 1074) (hg : Rg u m d) : Calls Tryz.prog 21 #[.int .u64 (u : Int)] w (MakesRRB w (fN (nz u) / Nat.gcd (fN (nz u)) (fD (nz u))) (fD (nz u) / Nat.gcd (fN (nz u)) (fD (nz u))) true) := by
  have RR : Hid (Rr u x0 E m t s) := h.rules
  have HG : Hid (Rg u m d) := hg
  rw [hg.eN, hg.eD]
  have LF : Hid (∀ v w, RNat w v 1 → Calls Tryz.prog 49 #[v, .int .i64 1074] w (RMakes w (2 ^ d))) := fun v w h => by
    have := rleft_any v 1 d w h (rs_word (by omega)).rfits (by have := hg.dle; omega)
    rw [Nat.one_mul] at this
    rw [show (d : Int) = 1074 by omega] at this
    exact this
  have d1 : decide (E = 2047) = false := decide_eq_false (by omega)
  have d1' : ((E : Int) == 2047) = false := by simp; omega
  have d12 : ¬ E = 2047 := by omega
  have d2 : decide (t = 1) = true := decide_eq_true ht
  have d2' : ((t : Int) == 1) = true := by simp; omega
  have d3 : ((s : Int) != 0) = false := by simp; omega
  have d3' : decide (s = 0) = true := decide_eq_true hs
  have d3'' : ((s : Int) == 0) = true := by simp; omega
  have d3b : s = 0 := hs
  have d4 : decide (1043 < E) = false := decide_eq_false (by omega)
  have d4' : decide ((1043 : Int) < (E : Int)) = false := decide_eq_false (by omega)
  have d5 : decide (E = 1043) = false := decide_eq_false (by omega)
  have d5' : ((E : Int) == 1043) = false := by simp; omega
  have d52 : ¬ E = 1043 := by omega
  have d8 : decide (E = 0) = true := decide_eq_true he
  have d8' : ((E : Int) == 0) = true := by simp; omega
  clear ht hs he hd
  clear h hg
  obtain ⟨r2, r3, r5, r6, r7, r8, r9, r10⟩ := RR.out
  clear r10
  have S1 : Hid _ := (sx_start w).box (.slice none 0 0) (.slice none 0 0) 35 _ rfl
  have f6 : (w.alloc (.cells #[.slice none 0 0, .slice none 0 0] 35)).frozen? ⟨w.heap.size, 0, none⟩ = false := by simp [go_sem]
  have f7 : (w.alloc (.cells #[.slice none 0 0, .slice none 0 0] 35)).frozen? ⟨w.heap.size, 1, none⟩ = false := by simp [go_sem]
  have FZ : Hid _ := And.intro f6 f7
  clear f6 f7
  go_enter Tryz.func21, Tryz.ntmps21
  go_wp2_with fail
  refine (rof_any m _ (by have := HG.out.mlt; omega)).mono ?_
  rintro e w2 ⟨v2, rfl, hv2, hb2⟩
  obtain ⟨a1, n1, c1, rfl⟩ := hv2.isAgg
  have FZ : Hid (w2.frozen? ⟨w.heap.size, 0, none⟩ = false ∧ w2.frozen? ⟨w.heap.size, 1, none⟩ = false) := ⟨(hb2.frozen (World.block_lt_of_cell? _ _ (S1.out.cel w.heap.size 0 (.slice none 0 0)))).trans FZ.out.1, (hb2.frozen (World.block_lt_of_cell? _ _ (S1.out.cel w.heap.size 1 (.slice none 0 0)))).trans FZ.out.2⟩
  have S2 : Hid _ := (S1.out.go hb2).addM hv2
  clear hv2 hb2 S1
  go_wp2_with fail
  refine (rof_any 1 _ (by omega)).mono ?_
  rintro e w3 ⟨v3, rfl, hv3, hb3⟩
  obtain ⟨a2, n2, c2, rfl⟩ := hv3.isAgg
  have hbb := bel_go hb3 (bel_al (o := .cells #[.slice a2 n2 c2] 33) (bel_al (o := .cells #[.slice a1 n1 c1] 33) (bel_refl _)))
  have FZ : Hid (((w3.alloc (.cells #[.slice a1 n1 c1] 33)).alloc (.cells #[.slice a2 n2 c2] 33)).frozen? ⟨w.heap.size, 0, none⟩ = false ∧ ((w3.alloc (.cells #[.slice a1 n1 c1] 33)).alloc (.cells #[.slice a2 n2 c2] 33)).frozen? ⟨w.heap.size, 1, none⟩ = false) := ⟨(hbb.frozen (World.block_lt_of_cell? _ _ (S2.out.cel w.heap.size 0 (.slice none 0 0)))).trans FZ.out.1, (hbb.frozen (World.block_lt_of_cell? _ _ (S2.out.cel w.heap.size 1 (.slice none 0 0)))).trans FZ.out.2⟩
  have S3 : Hid _ := ((((S2.out.go hb3).addM hv3).box1 (.slice a1 n1 c1) 33 _ rfl).box1 (.slice a2 n2 c2) 33 _ rfl)
  simp only [World.size_alloc] at S3
  have ff : ((w3.alloc (.cells #[.slice a1 n1 c1] 33)).alloc (.cells #[.slice a2 n2 c2] 33)).frozen? ⟨w3.heap.size + 1, 0, none⟩ = false := by simp [go_sem]
  have HL : Hid (w.heap.size < w3.heap.size ∧ w.heap.size ≤ w3.heap.size) := by
    have := World.block_lt_of_cell? _ _ (cell_later hb3 (S2.out.cel w.heap.size 0 (.slice none 0 0)))
    exact ⟨this, Nat.le_of_lt this⟩
  clear hv3 hb3 hbb S2
  go_wp2_with fail
  obtain ⟨w4, hw4⟩ : ∃ w4, w4 = (w3.alloc (.cells #[.slice a1 n1 c1] 33)).alloc (.cells #[.slice a2 n2 c2] 33) := ⟨_, rfl⟩
  obtain ⟨g, hg⟩ : ∃ g, g = w3.heap.size := ⟨_, rfl⟩
  rw [← hw4, ← hg] at S3 ff
  rw [← hw4] at FZ
  rw [← hg] at HL
  rw [← hw4, ← hg]
  clear hw4 hg
  refine (LF.out _ _ (S3.out.rat (.agg #[.slice a2 n2 c2]) 1)).mono ?_
  rintro e w5 ⟨v5, rfl, hv5, hb5⟩
  obtain ⟨a5, n5, c5, rfl⟩ := hv5.isAgg
  have g0 := cell_later hb5 (S3.out.cel g 0 (.slice a1 n1 c1))
  have g1 := cell_later hb5 (S3.out.cel (g + 1) 0 (.slice a2 n2 c2))
  have g2 : w5.frozen? ⟨g + 1, 0, none⟩ = false := (hb5.frozen (World.block_lt_of_cell? _ _ (S3.out.cel (g + 1) 0 (.slice a2 n2 c2)))).trans ff
  have x0' := cell_later hb5 (S3.out.cel w.heap.size 0 (.slice none 0 0))
  have x1' := cell_later hb5 (S3.out.cel w.heap.size 1 (.slice none 0 0))
  have FZ : Hid (w5.frozen? ⟨w.heap.size, 0, none⟩ = false ∧ w5.frozen? ⟨w.heap.size, 1, none⟩ = false) := ⟨(hb5.frozen (World.block_lt_of_cell? _ _ (S3.out.cel w.heap.size 0 (.slice none 0 0)))).trans FZ.out.1, (hb5.frozen (World.block_lt_of_cell? _ _ (S3.out.cel w.heap.size 1 (.slice none 0 0)))).trans FZ.out.2⟩
  have S4 : Hid (RNat w5 (.agg #[.slice a1 n1 c1]) m ∧ RNat w5 (.agg #[.slice a5 n5 c5]) (2 ^ d) ∧ Below w.heap.size w w5) := ⟨(S3.out.rat (.agg #[.slice a1 n1 c1]) m).mono hb5, hv5, bel_go S3.out.bel hb5⟩
  clear hv5 hb5 S3 ff
  obtain ⟨W, hW⟩ : ∃ W, W = w5.setCell ⟨g + 1, 0, none⟩ (.slice a5 n5 c5) := ⟨_, rfl⟩
  have ne1 : w.heap.size ≠ g + 1 := by have := HL.out; omega
  have k0 : (w5.setCell ⟨g + 1, 0, none⟩ (.slice a5 n5 c5)).cell? ⟨g, 0, none⟩ = some (.slice a1 n1 c1) := by rw [World.cell?_setCell_far _ _ _ _ (by show g + 1 ≠ g; omega)]; exact g0
  have k1 : (w5.setCell ⟨g + 1, 0, none⟩ (.slice a5 n5 c5)).cell? ⟨g + 1, 0, none⟩ = some (.slice a5 n5 c5) := by simp [go_sem, g1]
  have S5 : Hid (RNat (w5.setCell ⟨g + 1, 0, none⟩ (.slice a5 n5 c5)) (.agg #[.slice a1 n1 c1]) m ∧ RNat (w5.setCell ⟨g + 1, 0, none⟩ (.slice a5 n5 c5)) (.agg #[.slice a5 n5 c5]) (2 ^ d) ∧ Below w.heap.size w (w5.setCell ⟨g + 1, 0, none⟩ (.slice a5 n5 c5))) := ⟨S4.out.1.setCell (no_int_slice g1) _, S4.out.2.1.setCell (no_int_slice g1) _, S4.out.2.2.setCell (by have := HL.out; show _ ≤ g + 1; omega) _⟩
  have C5 : Hid ((w5.setCell ⟨g + 1, 0, none⟩ (.slice a5 n5 c5)).cell? ⟨w.heap.size, 0, none⟩ = some (.slice none 0 0) ∧ (w5.setCell ⟨g + 1, 0, none⟩ (.slice a5 n5 c5)).cell? ⟨w.heap.size, 1, none⟩ = some (.slice none 0 0) ∧ (w5.setCell ⟨g + 1, 0, none⟩ (.slice a5 n5 c5)).frozen? ⟨w.heap.size, 0, none⟩ = false ∧ (w5.setCell ⟨g + 1, 0, none⟩ (.slice a5 n5 c5)).frozen? ⟨w.heap.size, 1, none⟩ = false) := by
    refine ⟨?_, ?_, ?_, ?_⟩
    · rw [World.cell?_setCell_far _ _ _ _ (Ne.symm ne1)]; exact x0'
    · rw [World.cell?_setCell_far _ _ _ _ (Ne.symm ne1)]; exact x1'
    · rw [World.frozen?_setCell]; exact FZ.out.1
    · rw [World.frozen?_setCell]; exact FZ.out.2
  clear x0' x1' S4 g0 ne1 hW
  go_wp2_with fail
  refine (rfrom2_yes _ _ m (2 ^ d) _ S5.out.1 S5.out.2.1 HG.out.some1 HG.out.some2 (Nat.two_pow_pos _)).mono ?_
  rintro e w6 ⟨v6, rfl, hv6, hb6⟩
  have hv' := hv6
  obtain ⟨a6, n6, c6, a7, n7, c7, ev, _, _⟩ := hv'
  subst ev
  have z0 := cell_later hb6 C5.out.1
  have z1 := cell_later hb6 C5.out.2.1
  have y0 := (hb6.frozen (World.block_lt_of_cell? _ _ C5.out.1)).trans C5.out.2.2.1
  have y1 := (hb6.frozen (World.block_lt_of_cell? _ _ C5.out.2.1)).trans C5.out.2.2.2
  have Z : Hid _ := rrat_put (w0 := w) (v := .slice a6 n6 c6) (u := .slice a7 n7 c7) z0 z1 hv6 (bel_go S5.out.2.2 hb6) (Nat.le_refl _)
  clear hv6 hb6 S5 C5 k0 k1 g1 g2
  go_wp2_with fail
  exact bodyPost_ret (v := .tuple #[.agg #[.slice a6 n6 c6, .slice a7 n7 c7], .bool true]) (by simp [results, Tryz.results21, go_sem, z0, z1]) rfl ⟨_, rfl, Z.out.1, Z.out.2⟩
set_option maxHeartbeats 4000000 in
theorem rrate_good3 (u x0 E m t s mm d : Nat) (w : World) (h : Rl u x0 E m t s) (ht : t ≠ 1) (he : 0 < E) (hE : E < 1043) (hmm : mm = m + 4503599627370496) (hd : d = 1075 - E) (hg : Rg u mm d) : Calls Tryz.prog 21 #[.int .u64 (u : Int)] w (MakesRRB w (fN (nz u) / Nat.gcd (fN (nz u)) (fD (nz u))) (fD (nz u) / Nat.gcd (fN (nz u)) (fD (nz u))) true) := by
  have RR : Hid (Rr u x0 E m t s) := h.rules
  have HG : Hid (Rg u mm d) := hg
  rw [hg.eN, hg.eD]
  have LF : Hid (∀ v w, RNat w v 1 → Calls Tryz.prog 49 #[v, .int .i64 (d : Int)] w (RMakes w (2 ^ d))) := fun v w h => by
    have := rleft_any v 1 d w h (rs_word (by omega)).rfits (by have := hg.dle; omega)
    rw [Nat.one_mul] at this
    exact this
  have d1 : decide (E = 2047) = false := decide_eq_false (by omega)
  have d1' : ((E : Int) == 2047) = false := by simp; omega
  have d12 : ¬ E = 2047 := by omega
  have d2 : decide (t = 1) = false := decide_eq_false (by omega)
  have d2' : ((t : Int) == 1) = false := by simp; omega
  have d22 : ¬ t = 1 := by omega
  have d4 : decide (1043 < E) = false := decide_eq_false (by omega)
  have d4' : decide ((1043 : Int) < (E : Int)) = false := decide_eq_false (by omega)
  have d5 : decide (E = 1043) = false := decide_eq_false (by omega)
  have d5' : ((E : Int) == 1043) = false := by simp; omega
  have d52 : ¬ E = 1043 := by omega
  have d8 : decide (E = 0) = false := decide_eq_false (by omega)
  have d8' : ((E : Int) == 0) = false := by simp; omega
  have d82 : ¬ E = 0 := by omega
  have d9 : decide (1075 ≤ E) = false := decide_eq_false (by omega)
  have d9' : decide ((1075 : Int) ≤ (E : Int)) = false := decide_eq_false (by omega)
  have emm : ((m + 4503599627370496 : Nat) : Int) = (mm : Int) := by omega
  have r11 : wrap64 (1075 - (E : Int)) = (d : Int) := by rw [IntWalk.wrap64_in _ ⟨by omega, by omega⟩]; omega
  clear ht he hE hmm hd
  clear h hg
  obtain ⟨r2, r3, r5, r6, r7, r8, r9, r10⟩ := RR.out
  rw [emm] at r10
  clear emm
  have S1 : Hid _ := (sx_start w).box (.slice none 0 0) (.slice none 0 0) 35 _ rfl
  have f6 : (w.alloc (.cells #[.slice none 0 0, .slice none 0 0] 35)).frozen? ⟨w.heap.size, 0, none⟩ = false := by simp [go_sem]
  have f7 : (w.alloc (.cells #[.slice none 0 0, .slice none 0 0] 35)).frozen? ⟨w.heap.size, 1, none⟩ = false := by simp [go_sem]
  have FZ : Hid _ := And.intro f6 f7
  clear f6 f7
  go_enter Tryz.func21, Tryz.ntmps21
  go_wp2_with fail
  refine (rof_any mm _ (by have := HG.out.mlt; omega)).mono ?_
  rintro e w2 ⟨v2, rfl, hv2, hb2⟩
  obtain ⟨a1, n1, c1, rfl⟩ := hv2.isAgg
  have FZ : Hid (w2.frozen? ⟨w.heap.size, 0, none⟩ = false ∧ w2.frozen? ⟨w.heap.size, 1, none⟩ = false) := ⟨(hb2.frozen (World.block_lt_of_cell? _ _ (S1.out.cel w.heap.size 0 (.slice none 0 0)))).trans FZ.out.1, (hb2.frozen (World.block_lt_of_cell? _ _ (S1.out.cel w.heap.size 1 (.slice none 0 0)))).trans FZ.out.2⟩
  have S2 : Hid _ := (S1.out.go hb2).addM hv2
  clear hv2 hb2 S1
  go_wp2_with fail
  refine (rof_any 1 _ (by omega)).mono ?_
  rintro e w3 ⟨v3, rfl, hv3, hb3⟩
  obtain ⟨a2, n2, c2, rfl⟩ := hv3.isAgg
  have hbb := bel_go hb3 (bel_al (o := .cells #[.slice a2 n2 c2] 33) (bel_al (o := .cells #[.slice a1 n1 c1] 33) (bel_refl _)))
  have FZ : Hid (((w3.alloc (.cells #[.slice a1 n1 c1] 33)).alloc (.cells #[.slice a2 n2 c2] 33)).frozen? ⟨w.heap.size, 0, none⟩ = false ∧ ((w3.alloc (.cells #[.slice a1 n1 c1] 33)).alloc (.cells #[.slice a2 n2 c2] 33)).frozen? ⟨w.heap.size, 1, none⟩ = false) := ⟨(hbb.frozen (World.block_lt_of_cell? _ _ (S2.out.cel w.heap.size 0 (.slice none 0 0)))).trans FZ.out.1, (hbb.frozen (World.block_lt_of_cell? _ _ (S2.out.cel w.heap.size 1 (.slice none 0 0)))).trans FZ.out.2⟩
  have S3 : Hid _ := ((((S2.out.go hb3).addM hv3).box1 (.slice a1 n1 c1) 33 _ rfl).box1 (.slice a2 n2 c2) 33 _ rfl)
  simp only [World.size_alloc] at S3
  have ff : ((w3.alloc (.cells #[.slice a1 n1 c1] 33)).alloc (.cells #[.slice a2 n2 c2] 33)).frozen? ⟨w3.heap.size + 1, 0, none⟩ = false := by simp [go_sem]
  have HL : Hid (w.heap.size < w3.heap.size ∧ w.heap.size ≤ w3.heap.size) := by
    have := World.block_lt_of_cell? _ _ (cell_later hb3 (S2.out.cel w.heap.size 0 (.slice none 0 0)))
    exact ⟨this, Nat.le_of_lt this⟩
  clear hv3 hb3 hbb S2
  go_wp2_with fail
  obtain ⟨w4, hw4⟩ : ∃ w4, w4 = (w3.alloc (.cells #[.slice a1 n1 c1] 33)).alloc (.cells #[.slice a2 n2 c2] 33) := ⟨_, rfl⟩
  obtain ⟨g, hg⟩ : ∃ g, g = w3.heap.size := ⟨_, rfl⟩
  rw [← hw4, ← hg] at S3 ff
  rw [← hw4] at FZ
  rw [← hg] at HL
  rw [← hw4, ← hg]
  clear hw4 hg
  refine (LF.out _ _ (S3.out.rat (.agg #[.slice a2 n2 c2]) 1)).mono ?_
  rintro e w5 ⟨v5, rfl, hv5, hb5⟩
  obtain ⟨a5, n5, c5, rfl⟩ := hv5.isAgg
  have g0 := cell_later hb5 (S3.out.cel g 0 (.slice a1 n1 c1))
  have g1 := cell_later hb5 (S3.out.cel (g + 1) 0 (.slice a2 n2 c2))
  have g2 : w5.frozen? ⟨g + 1, 0, none⟩ = false := (hb5.frozen (World.block_lt_of_cell? _ _ (S3.out.cel (g + 1) 0 (.slice a2 n2 c2)))).trans ff
  have x0' := cell_later hb5 (S3.out.cel w.heap.size 0 (.slice none 0 0))
  have x1' := cell_later hb5 (S3.out.cel w.heap.size 1 (.slice none 0 0))
  have FZ : Hid (w5.frozen? ⟨w.heap.size, 0, none⟩ = false ∧ w5.frozen? ⟨w.heap.size, 1, none⟩ = false) := ⟨(hb5.frozen (World.block_lt_of_cell? _ _ (S3.out.cel w.heap.size 0 (.slice none 0 0)))).trans FZ.out.1, (hb5.frozen (World.block_lt_of_cell? _ _ (S3.out.cel w.heap.size 1 (.slice none 0 0)))).trans FZ.out.2⟩
  have S4 : Hid (RNat w5 (.agg #[.slice a1 n1 c1]) mm ∧ RNat w5 (.agg #[.slice a5 n5 c5]) (2 ^ d) ∧ Below w.heap.size w w5) := ⟨(S3.out.rat (.agg #[.slice a1 n1 c1]) mm).mono hb5, hv5, bel_go S3.out.bel hb5⟩
  clear hv5 hb5 S3 ff
  obtain ⟨W, hW⟩ : ∃ W, W = w5.setCell ⟨g + 1, 0, none⟩ (.slice a5 n5 c5) := ⟨_, rfl⟩
  have ne1 : w.heap.size ≠ g + 1 := by have := HL.out; omega
  have k0 : (w5.setCell ⟨g + 1, 0, none⟩ (.slice a5 n5 c5)).cell? ⟨g, 0, none⟩ = some (.slice a1 n1 c1) := by rw [World.cell?_setCell_far _ _ _ _ (by show g + 1 ≠ g; omega)]; exact g0
  have k1 : (w5.setCell ⟨g + 1, 0, none⟩ (.slice a5 n5 c5)).cell? ⟨g + 1, 0, none⟩ = some (.slice a5 n5 c5) := by simp [go_sem, g1]
  have S5 : Hid (RNat (w5.setCell ⟨g + 1, 0, none⟩ (.slice a5 n5 c5)) (.agg #[.slice a1 n1 c1]) mm ∧ RNat (w5.setCell ⟨g + 1, 0, none⟩ (.slice a5 n5 c5)) (.agg #[.slice a5 n5 c5]) (2 ^ d) ∧ Below w.heap.size w (w5.setCell ⟨g + 1, 0, none⟩ (.slice a5 n5 c5))) := ⟨S4.out.1.setCell (no_int_slice g1) _, S4.out.2.1.setCell (no_int_slice g1) _, S4.out.2.2.setCell (by have := HL.out; show _ ≤ g + 1; omega) _⟩
  have C5 : Hid ((w5.setCell ⟨g + 1, 0, none⟩ (.slice a5 n5 c5)).cell? ⟨w.heap.size, 0, none⟩ = some (.slice none 0 0) ∧ (w5.setCell ⟨g + 1, 0, none⟩ (.slice a5 n5 c5)).cell? ⟨w.heap.size, 1, none⟩ = some (.slice none 0 0) ∧ (w5.setCell ⟨g + 1, 0, none⟩ (.slice a5 n5 c5)).frozen? ⟨w.heap.size, 0, none⟩ = false ∧ (w5.setCell ⟨g + 1, 0, none⟩ (.slice a5 n5 c5)).frozen? ⟨w.heap.size, 1, none⟩ = false) := by
    refine ⟨?_, ?_, ?_, ?_⟩
    · rw [World.cell?_setCell_far _ _ _ _ (Ne.symm ne1)]; exact x0'
    · rw [World.cell?_setCell_far _ _ _ _ (Ne.symm ne1)]; exact x1'
    · rw [World.frozen?_setCell]; exact FZ.out.1
    · rw [World.frozen?_setCell]; exact FZ.out.2
  clear x0' x1' S4 g0 ne1 hW
  go_wp2_with fail
  refine (rfrom2_yes _ _ mm (2 ^ d) _ S5.out.1 S5.out.2.1 HG.out.some1 HG.out.some2 (Nat.two_pow_pos _)).mono ?_
  rintro e w6 ⟨v6, rfl, hv6, hb6⟩
  have hv' := hv6
  obtain ⟨a6, n6, c6, a7, n7, c7, ev, _, _⟩ := hv'
  subst ev
  have z0 := cell_later hb6 C5.out.1
  have z1 := cell_later hb6 C5.out.2.1
  have y0 := (hb6.frozen (World.block_lt_of_cell? _ _ C5.out.1)).trans C5.out.2.2.1
  have y1 := (hb6.frozen (World.block_lt_of_cell? _ _ C5.out.2.1)).trans C5.out.2.2.2
  have Z : Hid _ := rrat_put (w0 := w) (v := .slice a6 n6 c6) (u := .slice a7 n7 c7) z0 z1 hv6 (bel_go S5.out.2.2 hb6) (Nat.le_refl _)
  clear hv6 hb6 S5 C5 k0 k1 g1 g2
  go_wp2_with fail
  exact bodyPost_ret (v := .tuple #[.agg #[.slice a6 n6 c6, .slice a7 n7 c7], .bool true]) (by simp [results, Tryz.results21, go_sem, z0, z1]) rfl ⟨_, rfl, Z.out.1, Z.out.2⟩
set_option maxHeartbeats 4000000 in
theorem rrate_good4 (u x0 E m t s mm d : Nat) (w : World) (h : Rl u x0 E m t s) (ht : t ≠ 1) (hE : E = 1043) (hm : m = 0) (hmm : mm = m + 4503599627370496) (hd : d = 1075 - E) (hg : Rg u mm d) : Calls Tryz.prog 21 #[.int .u64 (u : Int)] w (MakesRRB w (fN (nz u) / Nat.gcd (fN (nz u)) (fD (nz u))) (fD (nz u) / Nat.gcd (fN (nz u)) (fD (nz u))) true) := by
  have RR : Hid (Rr u x0 E m t s) := h.rules
  have HG : Hid (Rg u mm d) := hg
  rw [hg.eN, hg.eD]
  have LF : Hid (∀ v w, RNat w v 1 → Calls Tryz.prog 49 #[v, .int .i64 (d : Int)] w (RMakes w (2 ^ d))) := fun v w h => by
    have := rleft_any v 1 d w h (rs_word (by omega)).rfits (by have := hg.dle; omega)
    rw [Nat.one_mul] at this
    exact this
  have d1 : decide (E = 2047) = false := decide_eq_false (by omega)
  have d1' : ((E : Int) == 2047) = false := by simp; omega
  have d12 : ¬ E = 2047 := by omega
  have d2 : decide (t = 1) = false := decide_eq_false (by omega)
  have d2' : ((t : Int) == 1) = false := by simp; omega
  have d22 : ¬ t = 1 := by omega
  have d4 : decide (1043 < E) = false := decide_eq_false (by omega)
  have d4' : decide ((1043 : Int) < (E : Int)) = false := decide_eq_false (by omega)
  have d5 : decide (E = 1043) = true := decide_eq_true hE
  have d5' : ((E : Int) == 1043) = true := by simp; omega
  have d6 : decide (0 < m) = false := decide_eq_false (by omega)
  have d6' : decide ((0 : Int) < (m : Int)) = false := decide_eq_false (by omega)
  have d8 : decide (E = 0) = false := decide_eq_false (by omega)
  have d8' : ((E : Int) == 0) = false := by simp; omega
  have d82 : ¬ E = 0 := by omega
  have d9 : decide (1075 ≤ E) = false := decide_eq_false (by omega)
  have d9' : decide ((1075 : Int) ≤ (E : Int)) = false := decide_eq_false (by omega)
  have emm : ((m + 4503599627370496 : Nat) : Int) = (mm : Int) := by omega
  have r11 : wrap64 (1075 - (E : Int)) = (d : Int) := by rw [IntWalk.wrap64_in _ ⟨by omega, by omega⟩]; omega
  clear ht hE hm hmm hd
  clear h hg
  obtain ⟨r2, r3, r5, r6, r7, r8, r9, r10⟩ := RR.out
  rw [emm] at r10
  clear emm
  have S1 : Hid _ := (sx_start w).box (.slice none 0 0) (.slice none 0 0) 35 _ rfl
  have f6 : (w.alloc (.cells #[.slice none 0 0, .slice none 0 0] 35)).frozen? ⟨w.heap.size, 0, none⟩ = false := by simp [go_sem]
  have f7 : (w.alloc (.cells #[.slice none 0 0, .slice none 0 0] 35)).frozen? ⟨w.heap.size, 1, none⟩ = false := by simp [go_sem]
  have FZ : Hid _ := And.intro f6 f7
  clear f6 f7
  go_enter Tryz.func21, Tryz.ntmps21
  go_wp2_with fail
  refine (rof_any mm _ (by have := HG.out.mlt; omega)).mono ?_
  rintro e w2 ⟨v2, rfl, hv2, hb2⟩
  obtain ⟨a1, n1, c1, rfl⟩ := hv2.isAgg
  have FZ : Hid (w2.frozen? ⟨w.heap.size, 0, none⟩ = false ∧ w2.frozen? ⟨w.heap.size, 1, none⟩ = false) := ⟨(hb2.frozen (World.block_lt_of_cell? _ _ (S1.out.cel w.heap.size 0 (.slice none 0 0)))).trans FZ.out.1, (hb2.frozen (World.block_lt_of_cell? _ _ (S1.out.cel w.heap.size 1 (.slice none 0 0)))).trans FZ.out.2⟩
  have S2 : Hid _ := (S1.out.go hb2).addM hv2
  clear hv2 hb2 S1
  go_wp2_with fail
  refine (rof_any 1 _ (by omega)).mono ?_
  rintro e w3 ⟨v3, rfl, hv3, hb3⟩
  obtain ⟨a2, n2, c2, rfl⟩ := hv3.isAgg
  have hbb := bel_go hb3 (bel_al (o := .cells #[.slice a2 n2 c2] 33) (bel_al (o := .cells #[.slice a1 n1 c1] 33) (bel_refl _)))
  have FZ : Hid (((w3.alloc (.cells #[.slice a1 n1 c1] 33)).alloc (.cells #[.slice a2 n2 c2] 33)).frozen? ⟨w.heap.size, 0, none⟩ = false ∧ ((w3.alloc (.cells #[.slice a1 n1 c1] 33)).alloc (.cells #[.slice a2 n2 c2] 33)).frozen? ⟨w.heap.size, 1, none⟩ = false) := ⟨(hbb.frozen (World.block_lt_of_cell? _ _ (S2.out.cel w.heap.size 0 (.slice none 0 0)))).trans FZ.out.1, (hbb.frozen (World.block_lt_of_cell? _ _ (S2.out.cel w.heap.size 1 (.slice none 0 0)))).trans FZ.out.2⟩
  have S3 : Hid _ := ((((S2.out.go hb3).addM hv3).box1 (.slice a1 n1 c1) 33 _ rfl).box1 (.slice a2 n2 c2) 33 _ rfl)
  simp only [World.size_alloc] at S3
  have ff : ((w3.alloc (.cells #[.slice a1 n1 c1] 33)).alloc (.cells #[.slice a2 n2 c2] 33)).frozen? ⟨w3.heap.size + 1, 0, none⟩ = false := by simp [go_sem]
  have HL : Hid (w.heap.size < w3.heap.size ∧ w.heap.size ≤ w3.heap.size) := by
    have := World.block_lt_of_cell? _ _ (cell_later hb3 (S2.out.cel w.heap.size 0 (.slice none 0 0)))
    exact ⟨this, Nat.le_of_lt this⟩
  clear hv3 hb3 hbb S2
  go_wp2_with fail
  obtain ⟨w4, hw4⟩ : ∃ w4, w4 = (w3.alloc (.cells #[.slice a1 n1 c1] 33)).alloc (.cells #[.slice a2 n2 c2] 33) := ⟨_, rfl⟩
  obtain ⟨g, hg⟩ : ∃ g, g = w3.heap.size := ⟨_, rfl⟩
  rw [← hw4, ← hg] at S3 ff
  rw [← hw4] at FZ
  rw [← hg] at HL
  rw [← hw4, ← hg]
  clear hw4 hg
  refine (LF.out _ _ (S3.out.rat (.agg #[.slice a2 n2 c2]) 1)).mono ?_
  rintro e w5 ⟨v5, rfl, hv5, hb5⟩
  obtain ⟨a5, n5, c5, rfl⟩ := hv5.isAgg
  have g0 := cell_later hb5 (S3.out.cel g 0 (.slice a1 n1 c1))
  have g1 := cell_later hb5 (S3.out.cel (g + 1) 0 (.slice a2 n2 c2))
  have g2 : w5.frozen? ⟨g + 1, 0, none⟩ = false := (hb5.frozen (World.block_lt_of_cell? _ _ (S3.out.cel (g + 1) 0 (.slice a2 n2 c2)))).trans ff
  have x0' := cell_later hb5 (S3.out.cel w.heap.size 0 (.slice none 0 0))
  have x1' := cell_later hb5 (S3.out.cel w.heap.size 1 (.slice none 0 0))
  have FZ : Hid (w5.frozen? ⟨w.heap.size, 0, none⟩ = false ∧ w5.frozen? ⟨w.heap.size, 1, none⟩ = false) := ⟨(hb5.frozen (World.block_lt_of_cell? _ _ (S3.out.cel w.heap.size 0 (.slice none 0 0)))).trans FZ.out.1, (hb5.frozen (World.block_lt_of_cell? _ _ (S3.out.cel w.heap.size 1 (.slice none 0 0)))).trans FZ.out.2⟩
  have S4 : Hid (RNat w5 (.agg #[.slice a1 n1 c1]) mm ∧ RNat w5 (.agg #[.slice a5 n5 c5]) (2 ^ d) ∧ Below w.heap.size w w5) := ⟨(S3.out.rat (.agg #[.slice a1 n1 c1]) mm).mono hb5, hv5, bel_go S3.out.bel hb5⟩
  clear hv5 hb5 S3 ff
  obtain ⟨W, hW⟩ : ∃ W, W = w5.setCell ⟨g + 1, 0, none⟩ (.slice a5 n5 c5) := ⟨_, rfl⟩
  have ne1 : w.heap.size ≠ g + 1 := by have := HL.out; omega
  have k0 : (w5.setCell ⟨g + 1, 0, none⟩ (.slice a5 n5 c5)).cell? ⟨g, 0, none⟩ = some (.slice a1 n1 c1) := by rw [World.cell?_setCell_far _ _ _ _ (by show g + 1 ≠ g; omega)]; exact g0
  have k1 : (w5.setCell ⟨g + 1, 0, none⟩ (.slice a5 n5 c5)).cell? ⟨g + 1, 0, none⟩ = some (.slice a5 n5 c5) := by simp [go_sem, g1]
  have S5 : Hid (RNat (w5.setCell ⟨g + 1, 0, none⟩ (.slice a5 n5 c5)) (.agg #[.slice a1 n1 c1]) mm ∧ RNat (w5.setCell ⟨g + 1, 0, none⟩ (.slice a5 n5 c5)) (.agg #[.slice a5 n5 c5]) (2 ^ d) ∧ Below w.heap.size w (w5.setCell ⟨g + 1, 0, none⟩ (.slice a5 n5 c5))) := ⟨S4.out.1.setCell (no_int_slice g1) _, S4.out.2.1.setCell (no_int_slice g1) _, S4.out.2.2.setCell (by have := HL.out; show _ ≤ g + 1; omega) _⟩
  have C5 : Hid ((w5.setCell ⟨g + 1, 0, none⟩ (.slice a5 n5 c5)).cell? ⟨w.heap.size, 0, none⟩ = some (.slice none 0 0) ∧ (w5.setCell ⟨g + 1, 0, none⟩ (.slice a5 n5 c5)).cell? ⟨w.heap.size, 1, none⟩ = some (.slice none 0 0) ∧ (w5.setCell ⟨g + 1, 0, none⟩ (.slice a5 n5 c5)).frozen? ⟨w.heap.size, 0, none⟩ = false ∧ (w5.setCell ⟨g + 1, 0, none⟩ (.slice a5 n5 c5)).frozen? ⟨w.heap.size, 1, none⟩ = false) := by
    refine ⟨?_, ?_, ?_, ?_⟩
    · rw [World.cell?_setCell_far _ _ _ _ (Ne.symm ne1)]; exact x0'
    · rw [World.cell?_setCell_far _ _ _ _ (Ne.symm ne1)]; exact x1'
    · rw [World.frozen?_setCell]; exact FZ.out.1
    · rw [World.frozen?_setCell]; exact FZ.out.2
  clear x0' x1' S4 g0 ne1 hW
  go_wp2_with fail
  refine (rfrom2_yes _ _ mm (2 ^ d) _ S5.out.1 S5.out.2.1 HG.out.some1 HG.out.some2 (Nat.two_pow_pos _)).mono ?_
  rintro e w6 ⟨v6, rfl, hv6, hb6⟩
  have hv' := hv6
  obtain ⟨a6, n6, c6, a7, n7, c7, ev, _, _⟩ := hv'
  subst ev
  have z0 := cell_later hb6 C5.out.1
  have z1 := cell_later hb6 C5.out.2.1
  have y0 := (hb6.frozen (World.block_lt_of_cell? _ _ C5.out.1)).trans C5.out.2.2.1
  have y1 := (hb6.frozen (World.block_lt_of_cell? _ _ C5.out.2.1)).trans C5.out.2.2.2
  have Z : Hid _ := rrat_put (w0 := w) (v := .slice a6 n6 c6) (u := .slice a7 n7 c7) z0 z1 hv6 (bel_go S5.out.2.2 hb6) (Nat.le_refl _)
  clear hv6 hb6 S5 C5 k0 k1 g1 g2
  go_wp2_with fail
  exact bodyPost_ret (v := .tuple #[.agg #[.slice a6 n6 c6, .slice a7 n7 c7], .bool true]) (by simp [results, Tryz.results21, go_sem, z0, z1]) rfl ⟨_, rfl, Z.out.1, Z.out.2⟩
end Go.Proofs.YtdmkneojhnhomaaGreatDoor
namespace Go.Proofs.YtdmkneojhnhomaaGreatDoor
open Go.RowKit
set_option maxRecDepth 100000
set_option linter.unusedVariables false
theorem gtM_neg0 : gtM 9223372036854775808 = false := by decide +kernel
theorem rrate_yes (u : Nat) (w : World) (hu : u < 18446744073709551616) (hF : isF u) (hg : gtM u = false) : Calls Tryz.prog 21 #[.int .u64 (u : Int)] w (MakesRRB w (fN (nz u) / Nat.gcd (fN (nz u)) (fD (nz u))) (fD (nz u) / Nat.gcd (fN (nz u)) (fD (nz u))) true) := by
  obtain ⟨x0, E, m, t, s, h⟩ := rl_of u hu
  have h1 := h.x
  have h2 := h.e
  have h3 := h.m
  have h4 := h.t
  have h5 := h.s
  by_cases e : u = 9223372036854775808
  · have e0 : nz u = 0 := if_pos e
    have eE : E = 0 := by omega
    have rg := rg_of (u := u) (E := E) (m := m) (by rw [e0]; omega) (by rw [e0]; omega) (by omega)
    rw [if_pos eE, if_pos eE] at rg
    exact rrate_good2 u x0 E m t s 1074 w h (by omega) (by omega) eE rfl rg
  · have hl : u < 9218868437227405312 := hF.resolve_left e
    have e0 : nz u = u := if_neg e
    have hK : ¬ 4697254411347427328 < u := by
      have := gtM_iff hl
      rw [hg] at this
      exact of_decide_eq_false this.symm
    have rg := rg_of (u := u) (E := E) (m := m) (by rw [e0]; omega) (by rw [e0]; omega) (by omega)
    by_cases eE : E = 0
    · rw [if_pos eE, if_pos eE] at rg
      exact rrate_good1 u x0 E m t s 1074 w h (by omega) eE rfl rg
    · rw [if_neg eE, if_neg eE] at rg
      by_cases e3 : E < 1043
      · exact rrate_good3 u x0 E m t s _ _ w h (by omega) (by omega) e3 rfl rfl rg
      · exact rrate_good4 u x0 E m t s _ _ w h (by omega) (by omega) (by omega) rfl rfl rg
theorem rrate_no (u : Nat) (w : World) (hu : u < 18446744073709551616) (hn : ¬ (isF u ∧ gtM u = false)) : Calls Tryz.prog 21 #[.int .u64 (u : Int)] w (MakesRRB w 0 1 false) := by
  obtain ⟨x0, E, m, t, s, h⟩ := rl_of u hu
  have h1 := h.x
  have h2 := h.e
  have h3 := h.m
  have h4 := h.t
  have h5 := h.s
  by_cases e1 : E = 2047
  · exact rrate_bad1 u x0 E m t s w h e1
  · by_cases e2 : u < 9223372036854775808
    · have hl : u < 9218868437227405312 := by omega
      have hK : 4697254411347427328 < u := by
        have h6 := gtM_iff hl
        by_cases h7 : 4697254411347427328 < u
        · exact h7
        · rw [decide_eq_false h7] at h6
          exact absurd ⟨.inr hl, h6⟩ hn
      by_cases e3 : 1043 < E
      · exact rrate_bad3 u x0 E m t s w h e1 (by omega) e3
      · exact rrate_bad4 u x0 E m t s w h (by omega) (by omega) (by omega)
    · have hs : s ≠ 0 := by
        intro es
        have : u = 9223372036854775808 := by omega
        exact hn ⟨.inl this, by rw [this]; exact gtM_neg0⟩
      exact rrate_bad2 u x0 E m t s w h e1 (by omega) hs
/-- A rate's tokens, on both sides. -/
theorem rate_cmp {R D N Q t B n : Nat} (h : Fc R D N Q n) : B * Q ≤ N * t ↔ B * D ≤ R * t := by
  have hv := h.val
  have hD := h.pos
  have hQ := h.dpos
  have e1 : B * Q * D = B * D * Q := by grind
  have e2 : N * t * D = R * t * Q := by
    have : N * t * D = N * D * t := by grind
    rw [this, ← hv]
    grind
  rw [← Nat.mul_le_mul_right_iff hD, e1, e2, Nat.mul_le_mul_right_iff hQ]
theorem rate_same {R D N Q t n A C m : Nat} (h : Fc R D N Q n) (k : Fc A C (N * t) Q m) : Fc A C (R * t) D m := by
  refine ⟨k.low, k.pos, h.pos, ?_, k.s1, k.s2⟩
  have hv := h.val
  have kv := k.val
  refine Nat.eq_of_mul_eq_mul_right h.dpos ?_
  have e1 : A * D * Q = A * Q * D := by grind
  have e2 : R * t * C * Q = R * Q * t * C := by grind
  rw [e1, kv, e2, hv]
  grind
theorem floor_ge {A C N Q m B : Nat} (h : Fc A C N Q m) : B ≤ A / C ↔ B * Q ≤ N := by
  rw [Nat.le_div_iff_mul_le h.pos]
  have hv := h.val
  have e1 : B * C * Q = B * Q * C := by grind
  rw [← Nat.mul_le_mul_right_iff h.dpos, e1, hv, Nat.mul_le_mul_right_iff h.pos]
end Go.Proofs.YtdmkneojhnhomaaGreatDoor

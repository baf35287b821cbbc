/- NatLaws: the walk. -/
import Derived.Test.YtekigmkepfhdhaaLaw
namespace Go.Proofs.Ytekigmkepfhdhaa
open Go.RowKit
set_option maxRecDepth 100000
set_option linter.unusedVariables false
set_option maxHeartbeats 4000000 in
theorem natLaws_true (a0 : Option Addr) (l0 k0 : Nat) (D0 : Nat → Nat) (a1 : Option Addr) (l1 k1 : Nat) (D1 : Nat → Nat) (a2 : Option Addr) (l2 k2 : Nat) (D2 : Nat → Nat) (w : World) (h0 : BSl w a0 l0 k0 D0) (h1 : BSl w a1 l1 k1 D1) (h2 : BSl w a2 l2 k2 D2) :
    Calls Try.prog 4 #[.slice a0 l0 k0, .slice a1 l1 k1, .slice a2 l2 k2] w fun e w' => e = .returned (.bool true) ∧ Below w.heap.size w w' := by
  have HA : Hid (BSl w a0 l0 k0 D0 ∧ BSl w a1 l1 k1 D1 ∧ BSl w a2 l2 k2 D2) := ⟨h0, h1, h2⟩
  clear h0 h1 h2
  go_enter Try.func4, Try.ntmps4
  go_wp2_with fail
  refine (cut_any a0 l0 k0 D0 _ HA.out.1).mono ?_
  rintro e w' ⟨⟨n0, rfl, hb0, hn0⟩, hw'⟩
  rw [hw']
  clear hw' w'
  have X0 : Hid _ := hb0
  clear hb0
  go_wp2_with fail
  refine (fromBytes_any a0 n0 k0 D0 _ X0.out (by omega)).mono ?_
  rintro e w1 ⟨v1, rfl, hv1, hb1⟩
  have M1 : Hid (Mid (BV D0 n0)) := ⟨BV_P X0.out.2.2.1 hn0⟩
  generalize BV D0 n0 = x at hv1 M1
  have X1 : Hid (IsNat w1 v1 x ∧ BSl w1 a1 l1 k1 D1 ∧ BSl w1 a2 l2 k2 D2 ∧ Below _ _ w1) := ⟨hv1, HA.out.2.1.mono hb1, HA.out.2.2.mono hb1, hb1⟩
  obtain ⟨ax, nx, cx, rfl⟩ := hv1.isAgg
  clear hv1 hb1 X0 HA hn0
  go_wp2_with fail
  refine (cut_any a1 l1 k1 D1 _ X1.out.2.1).mono ?_
  rintro e w' ⟨⟨n1, rfl, hb0, hn1⟩, hw'⟩
  rw [hw']
  clear hw' w'
  have X0 : Hid _ := hb0
  clear hb0
  go_wp2_with fail
  refine (fromBytes_any a1 n1 k1 D1 _ X0.out (by omega)).mono ?_
  rintro e w2 ⟨v2, rfl, hv2, hb2⟩
  have M2 : Hid (Mid (BV D1 n1)) := ⟨BV_P X0.out.2.2.1 hn1⟩
  generalize BV D1 n1 = y at hv2 M2
  have X2 : Hid (IsNat w2 (.agg #[.slice ax nx cx]) x ∧ IsNat w2 v2 y ∧ BSl w2 a2 l2 k2 D2 ∧ Below _ _ w2) := ⟨X1.out.1.mono hb2, hv2, X1.out.2.2.1.mono hb2, bel_go X1.out.2.2.2 hb2⟩
  obtain ⟨ay, ny, cy, rfl⟩ := hv2.isAgg
  clear hv2 hb2 X0 X1 hn1
  go_wp2_with fail
  refine (cut_any a2 l2 k2 D2 _ X2.out.2.2.1).mono ?_
  rintro e w' ⟨⟨n2, rfl, hb0, hn2⟩, hw'⟩
  rw [hw']
  clear hw' w'
  have X0 : Hid _ := hb0
  clear hb0
  go_wp2_with fail
  refine (fromBytes_any a2 n2 k2 D2 _ X0.out (by omega)).mono ?_
  rintro e w3 ⟨v3, rfl, hv3, hb3⟩
  have M3 : Hid (Mid (BV D2 n2)) := ⟨BV_P X0.out.2.2.1 hn2⟩
  generalize BV D2 n2 = z at hv3 M3
  have X3 : Hid (IsNat w3 (.agg #[.slice ax nx cx]) x ∧ IsNat w3 (.agg #[.slice ay ny cy]) y ∧ IsNat w3 v3 z ∧ Below _ _ w3) := ⟨X2.out.1.mono hb3, X2.out.2.1.mono hb3, hv3, bel_go X2.out.2.2.2 hb3⟩
  obtain ⟨az, nz, cz, rfl⟩ := hv3.isAgg
  clear hv3 hb3 X0 X2 hn2
  go_wp2_with fail
  have S4 : Hid (St w _ [(.agg #[.slice ax nx cx], x), (.agg #[.slice ay ny cy], y), (.agg #[.slice az nz cz], z)] [(w3.heap.size + 1 + 1, .slice az nz cz), (w3.heap.size + 1, .slice ay ny cy), (w3.heap.size, .slice ax nx cx)]) := (((St.mk (N := [(.agg #[.slice ax nx cx], x), (.agg #[.slice ay ny cy], y), (.agg #[.slice az nz cz], z)]) (C := []) (by simp; exact ⟨X3.out.1, X3.out.2.1, X3.out.2.2.1⟩) (by simp) X3.out.2.2.2).box (.slice ax nx cx) 27 _ rfl).box (.slice ay ny cy) 27 (w3.heap.size + 1) (by simp)).box (.slice az nz cz) 27 (w3.heap.size + 1 + 1) (by simp)
  obtain ⟨w4, hw4⟩ : ∃ w4, w4 = ((w3.alloc (Obj.cells #[Value.slice ax nx cx] 27)).alloc (Obj.cells #[Value.slice ay ny cy] 27)).alloc (Obj.cells #[Value.slice az nz cz] 27) := ⟨_, rfl⟩
  rw [← hw4] at S4 ⊢
  obtain ⟨b, hb⟩ : ∃ b, b = w3.heap.size := ⟨_, rfl⟩
  rw [← hb] at S4 ⊢
  clear hw4 hb X3
  go_wp2_with fail
  have MS : Hid (Fits (x + y) ∧ Fits (y + z) ∧ Fits (x + y + z) ∧ Fits (x * y) ∧ Fits (y * z) ∧ Fits (x * z) ∧ Fits (x * (y + z)) ∧ Tx (x + y) ∧ Tx (x + y + z) ∧ Tx (x * y) ∧ Tx (x * y * z) ∧ Tx (x * y + x * z)) := by
    have a1 : x + y < P 76 := M1.out.add M2.out
    have a2 : y + z < P 76 := M2.out.add M3.out
    have p1 : x * y < P 150 := M1.out.mul M2.out
    have p2 : y * z < P 150 := M2.out.mul M3.out
    have p3 : x * z < P 150 := M1.out.mul M3.out
    have a3 : x + y + z < P 77 := by
      have := M3.out.lt
      have h1 := P_le (show 75 ≤ 76 by omega)
      rw [show 77 = 76 + 1 from rfl, P_succ]
      have := P_pos 76
      omega
    have q1 : x * y * z < P 225 := by
      rw [show 225 = 150 + 75 from rfl, P_add]
      exact Nat.mul_lt_mul'' p1 M3.out.lt
    have q2 : x * (y + z) < P 151 := by
      rw [show 151 = 75 + 76 from rfl, P_add]
      exact Nat.mul_lt_mul'' M1.out.lt a2
    have q3 : x * y + x * z < P 151 := by
      rw [← Nat.mul_add]
      exact q2
    exact ⟨(tx_of a1 (by omega)).fits, (tx_of a2 (by omega)).fits, (tx_of a3 (by omega)).fits, (tx_of p1 (by omega)).fits, (tx_of p2 (by omega)).fits, (tx_of p3 (by omega)).fits, (tx_of q2 (by omega)).fits, tx_of a1 (by omega), tx_of a3 (by omega), tx_of p1 (by omega), ⟨q1⟩, tx_of q3 (by omega)⟩
  have c0 := S4.out.cell b (.slice ax nx cx)
  have c1 := S4.out.cell (b + 1) (.slice ay ny cy)
  have c2 := S4.out.cell (b + 1 + 1) (.slice az nz cz)
  have hl0 : b < w4.heap.size := World.block_lt_of_cell? _ _ c0
  have hl1 : b + 1 < w4.heap.size := World.block_lt_of_cell? _ _ c1
  have hl2 : b + 1 + 1 < w4.heap.size := World.block_lt_of_cell? _ _ c2
  have hl3 : b < w4.heap.size + 1 := by omega
  have hl4 : b + 1 < w4.heap.size + 1 := by omega
  have hl5 : b + 1 + 1 < w4.heap.size + 1 := by omega
  go_cut [10, 11] (fun p ok wx => OneVar w4 wx x p ∧ ok = .bool true)
  case first =>
    go_region_held3 (fun w' => w'.cell? ⟨b, 0, none⟩ = some (.slice ax nx cx) ∧ w'.cell? ⟨b + 1, 0, none⟩ = some (.slice ay ny cy)) (first | (simp [go_sem, *]; done) | (trace_state; fail))
      (first
        | (go_at_call 20; refine Calls.mono (add_any _ _ x y _ ?_ ?_ M1.out.fits M2.out.fits) ?_; (refine IsNat.mono (S4.out.at (.agg #[.slice ax nx cx]) x) ?_; repeat (first | exact Below.refl _ _ | refine bel_al ?_ | refine bel_dr ?_)); (refine IsNat.mono (S4.out.at (.agg #[.slice ay ny cy]) y) ?_; repeat (first | exact Below.refl _ _ | refine bel_al ?_ | refine bel_dr ?_)); rintro e w6 ⟨v6, rfl, hv6, hb6⟩; (first | have ⟨p1, p2, p3, p4, p5, p6, p7, p8, p9⟩ := bel_rules_dr hb6 | have ⟨p1, p2, p3, p4, p5, p6, p7, p8, p9⟩ := bel_rules hb6); have X6 : Hid (IsNat w6 v6 (x + y)) := hv6; (have B6 : Hid (Below w4.heap.size w4 w6) := bel_go (by repeat (first | exact Below.refl _ _ | refine bel_al ?_ | refine bel_dr ?_)) hb6); have z6 := B6.out.size; have g0 := Nat.lt_of_lt_of_le hl0 z6; have g1 := Nat.lt_of_lt_of_le hl1 z6; (first | have e0 : w4.heap.size < w6.heap.size := lt_al p3 | skip); clear hv6 hb6 z6)
        | (go_at_call 21; refine Calls.mono (sub_any _ _ (x + y) y _ ?_ ?_ MS.out.1 M2.out.fits) ?_; (refine IsNat.mono X6.out ?_; repeat (first | exact Below.refl _ _ | refine bel_al ?_ | refine bel_dr ?_)); (refine IsNat.mono (S4.out.at (.agg #[.slice ay ny cy]) y) ?_; repeat (first | exact Below.refl _ _ | exact B6.out | refine bel_al ?_ | refine bel_dr ?_)); rintro e w7 ⟨v7, rfl, hv7, hb7⟩; rw [Nat.add_sub_cancel] at hv7; rw [decide_eq_true (Nat.le_add_left y x)]; obtain ⟨ad, nd, cd, rfl⟩ := hv7.isAgg; (first | have ⟨q1, q2, q3, q4, q5, q6, q7, q8, q9⟩ := bel_rules_dr hb7 | have ⟨q1, q2, q3, q4, q5, q6, q7, q8, q9⟩ := bel_rules hb7); have X7 : Hid (IsNat w7 (.agg #[.slice ad nd cd]) x) := hv7; (have B7 : Hid (Below w6.heap.size w6 w7) := bel_go (by repeat (first | exact Below.refl _ _ | refine bel_al ?_ | refine bel_dr ?_)) hb7); have z7 := B7.out.size; have g2 := Nat.lt_of_lt_of_le g0 z7; have g3 := Nat.lt_of_lt_of_le g1 z7; (try have e2 := Nat.lt_of_lt_of_le e0 z7); (first | have e4 : w6.heap.size < w7.heap.size := lt_al q3 | skip); clear hv7 hb7 z7))
    all_goals (have y3 := B6.out.size; have y4 := B7.out.size)
    all_goals go_wp2_with fail
    all_goals go_meet
    all_goals go_light
    all_goals clear c0 c1 c2 S4 X6 M1 M2 M3 MS
    all_goals (have BB := bel_go B6.out B7.out)
    all_goals (have X8 := X7.out)
    all_goals clear X7 B6 B7
    all_goals refine ⟨⟨_, ad, nd, cd, rfl, ?_, ?_, ?_, ?_⟩, rfl⟩
    all_goals try (simp (config := { maxDischargeDepth := 9 }) [go_sem, *]; done)
    all_goals try (repeat (first | exact BB | refine bel_al ?_ | refine bel_st ?_ (Nat.le_trans ?_ (Nat.le_refl _))))
    all_goals try (repeat (first | exact X8 | refine IsNat.mono ?_ (bel_al (Below.refl _ _)) | refine IsNat.setCell ?_ (no_int_slice (a := none) (n := 0) (c := 0) ?_) _))
    all_goals try omega
    all_goals try (simp (config := { maxDischargeDepth := 9 }) [go_sem, *]; done)
    all_goals (dsimp only; omega)
  case rest =>
    obtain ⟨⟨bd, ad, nd, cd, rfl, k0', hv7, hB, lp⟩, rfl⟩ := hcut
    have T0 : Hid (St w wc [(.agg #[.slice ad nd cd], x), (.agg #[.slice ax nx cx], x), (.agg #[.slice ay ny cy], y), (.agg #[.slice az nz cz], z)] [(bd, .slice ad nd cd), (b, .slice ax nx cx), (b + 1, .slice ay ny cy), (b + 1 + 1, .slice az nz cz)]) := ⟨by simp; exact ⟨hv7, (S4.out.go hB).at (.agg #[.slice ax nx cx]) x, (S4.out.go hB).at (.agg #[.slice ay ny cy]) y, (S4.out.go hB).at (.agg #[.slice az nz cz]) z⟩, by simp; exact ⟨k0', (S4.out.go hB).cell b (.slice ax nx cx), (S4.out.go hB).cell (b + 1) (.slice ay ny cy), (S4.out.go hB).cell (b + 1 + 1) (.slice az nz cz)⟩, (S4.out.go hB).bel⟩
    clear hv7 hB lp S4 c0 c1 c2 hl0 hl1 hl2 hl3 hl4 hl5 k0'
    have c0 := T0.out.cell b (.slice ax nx cx)
    have c1 := T0.out.cell (b + 1) (.slice ay ny cy)
    have c2 := T0.out.cell (b + 1 + 1) (.slice az nz cz)
    have c3 := T0.out.cell bd (.slice ad nd cd)
    go_wp2_with fail
    go_region_held3 (fun w' => w'.cell? ⟨b, 0, none⟩ = some (.slice ax nx cx) ∧ w'.cell? ⟨b + 1, 0, none⟩ = some (.slice ay ny cy) ∧ w'.cell? ⟨b + 1 + 1, 0, none⟩ = some (.slice az nz cz) ∧ w'.cell? ⟨bd, 0, none⟩ = some (.slice ad nd cd)) (first | (simp [go_sem, *]; done) | (trace_state; fail))
      (first
        | (go_at_call 22; refine Calls.mono (eq_true _ _ (x) _ (T0.out.at (.agg #[.slice ad nd cd]) (x)) (T0.out.at (.agg #[.slice ax nx cx]) (x)) M1.out.tx) ?_; rintro e wp1 ⟨rfl, hbp1⟩; have Sp1 : Hid _ := (by first | exact (T0.out.go hbp1) | exact (T0.out.god hbp1)); have cp1_0 := Sp1.out.cell (b) (.slice ax nx cx); have cp1_1 := Sp1.out.cell (b + 1) (.slice ay ny cy); have cp1_2 := Sp1.out.cell (b + 1 + 1) (.slice az nz cz); have cp1_3 := Sp1.out.cell (bd) (.slice ad nd cd); clear hbp1 T0)
        | (go_at_call 20; refine Calls.mono (add_any _ _ (x) (y) _ (Sp1.out.at (.agg #[.slice ax nx cx]) (x)) (Sp1.out.at (.agg #[.slice ay ny cy]) (y)) M1.out.fits M2.out.fits) ?_; rintro e wp2 ⟨vp2, rfl, hvp2, hbp2⟩; have Sp2 : Hid _ := (by first | exact (Sp1.out.go hbp2).nat hvp2 | exact (Sp1.out.god hbp2).nat hvp2); have cp2_0 := Sp2.out.cell (b) (.slice ax nx cx); have cp2_1 := Sp2.out.cell (b + 1) (.slice ay ny cy); have cp2_2 := Sp2.out.cell (b + 1 + 1) (.slice az nz cz); have cp2_3 := Sp2.out.cell (bd) (.slice ad nd cd); clear hbp2 hvp2 Sp1 cp1_0 cp1_1 cp1_2 cp1_3)
        | (go_at_call 20; refine Calls.mono (add_any _ _ (y) (x) _ (Sp2.out.at (.agg #[.slice ay ny cy]) (y)) (Sp2.out.at (.agg #[.slice ax nx cx]) (x)) M2.out.fits M1.out.fits) ?_; rintro e wp3 ⟨vp3, rfl, hvp3, hbp3⟩; rw [Nat.add_comm] at hvp3; have Sp3 : Hid _ := (by first | exact (Sp2.out.go hbp3).nat hvp3 | exact (Sp2.out.god hbp3).nat hvp3); have cp3_0 := Sp3.out.cell (b) (.slice ax nx cx); have cp3_1 := Sp3.out.cell (b + 1) (.slice ay ny cy); have cp3_2 := Sp3.out.cell (b + 1 + 1) (.slice az nz cz); have cp3_3 := Sp3.out.cell (bd) (.slice ad nd cd); clear hbp3 hvp3 Sp2 cp2_0 cp2_1 cp2_2 cp2_3)
        | (go_at_call 22; refine Calls.mono (eq_true _ _ (x + y) _ (Sp3.out.at vp2 (x + y)) (Sp3.out.at vp3 (x + y)) MS.out.2.2.2.2.2.2.2.1) ?_; rintro e wp4 ⟨rfl, hbp4⟩; have Sp4 : Hid _ := (by first | exact (Sp3.out.go hbp4) | exact (Sp3.out.god hbp4)); have cp4_0 := Sp4.out.cell (b) (.slice ax nx cx); have cp4_1 := Sp4.out.cell (b + 1) (.slice ay ny cy); have cp4_2 := Sp4.out.cell (b + 1 + 1) (.slice az nz cz); have cp4_3 := Sp4.out.cell (bd) (.slice ad nd cd); clear hbp4 Sp3 cp3_0 cp3_1 cp3_2 cp3_3)
        | (go_at_call 23; refine Calls.mono (mul_short _ _ (x) (y) _ (Sp4.out.at (.agg #[.slice ax nx cx]) (x)) (Sp4.out.at (.agg #[.slice ay ny cy]) (y)) M1.out.fits M2.out.fits (.inl M1.out.p99)) ?_; rintro e wp5 ⟨vp5, rfl, hvp5, hbp5⟩; have Sp5 : Hid _ := (by first | exact (Sp4.out.go hbp5).nat hvp5 | exact (Sp4.out.god hbp5).nat hvp5); have cp5_0 := Sp5.out.cell (b) (.slice ax nx cx); have cp5_1 := Sp5.out.cell (b + 1) (.slice ay ny cy); have cp5_2 := Sp5.out.cell (b + 1 + 1) (.slice az nz cz); have cp5_3 := Sp5.out.cell (bd) (.slice ad nd cd); clear hbp5 hvp5 Sp4 cp4_0 cp4_1 cp4_2 cp4_3)
        | (go_at_call 23; refine Calls.mono (mul_short _ _ (y) (x) _ (Sp5.out.at (.agg #[.slice ay ny cy]) (y)) (Sp5.out.at (.agg #[.slice ax nx cx]) (x)) M2.out.fits M1.out.fits (.inl M2.out.p99)) ?_; rintro e wp6 ⟨vp6, rfl, hvp6, hbp6⟩; rw [Nat.mul_comm] at hvp6; have Sp6 : Hid _ := (by first | exact (Sp5.out.go hbp6).nat hvp6 | exact (Sp5.out.god hbp6).nat hvp6); have cp6_0 := Sp6.out.cell (b) (.slice ax nx cx); have cp6_1 := Sp6.out.cell (b + 1) (.slice ay ny cy); have cp6_2 := Sp6.out.cell (b + 1 + 1) (.slice az nz cz); have cp6_3 := Sp6.out.cell (bd) (.slice ad nd cd); clear hbp6 hvp6 Sp5 cp5_0 cp5_1 cp5_2 cp5_3)
        | (go_at_call 22; refine Calls.mono (eq_true _ _ (x * y) _ (Sp6.out.at vp5 (x * y)) (Sp6.out.at vp6 (x * y)) MS.out.2.2.2.2.2.2.2.2.2.1) ?_; rintro e wp7 ⟨rfl, hbp7⟩; have Sp7 : Hid _ := (by first | exact (Sp6.out.go hbp7) | exact (Sp6.out.god hbp7)); have cp7_0 := Sp7.out.cell (b) (.slice ax nx cx); have cp7_1 := Sp7.out.cell (b + 1) (.slice ay ny cy); have cp7_2 := Sp7.out.cell (b + 1 + 1) (.slice az nz cz); have cp7_3 := Sp7.out.cell (bd) (.slice ad nd cd); clear hbp7 Sp6 cp6_0 cp6_1 cp6_2 cp6_3))
    go_wp2_with fail
    go_region_held3 (fun w' => w'.cell? ⟨b, 0, none⟩ = some (.slice ax nx cx) ∧ w'.cell? ⟨b + 1, 0, none⟩ = some (.slice ay ny cy) ∧ w'.cell? ⟨b + 1 + 1, 0, none⟩ = some (.slice az nz cz)) (first | (simp [go_sem, *]; done) | (trace_state; fail))
      (first
        | (go_at_call 20; refine Calls.mono (add_any _ _ (x) (y) _ (Sp7.out.at (.agg #[.slice ax nx cx]) (x)) (Sp7.out.at (.agg #[.slice ay ny cy]) (y)) M1.out.fits M2.out.fits) ?_; rintro e wq1 ⟨vq1, rfl, hvq1, hbq1⟩; have Sq1 : Hid _ := (by first | exact (Sp7.out.go hbq1).nat hvq1 | exact (Sp7.out.god hbq1).nat hvq1); have cq1_0 := Sq1.out.cell (b) (.slice ax nx cx); have cq1_1 := Sq1.out.cell (b + 1) (.slice ay ny cy); have cq1_2 := Sq1.out.cell (b + 1 + 1) (.slice az nz cz); clear hbq1 hvq1 Sp7)
        | (go_at_call 20; refine Calls.mono (add_any _ _ (x + y) (z) _ (Sq1.out.at vq1 (x + y)) (Sq1.out.at (.agg #[.slice az nz cz]) (z)) MS.out.1 M3.out.fits) ?_; rintro e wq2 ⟨vq2, rfl, hvq2, hbq2⟩; have Sq2 : Hid _ := (by first | exact (Sq1.out.go hbq2).nat hvq2 | exact (Sq1.out.god hbq2).nat hvq2); have cq2_0 := Sq2.out.cell (b) (.slice ax nx cx); have cq2_1 := Sq2.out.cell (b + 1) (.slice ay ny cy); have cq2_2 := Sq2.out.cell (b + 1 + 1) (.slice az nz cz); clear hbq2 hvq2 Sq1 cq1_0 cq1_1 cq1_2)
        | (go_at_call 20; refine Calls.mono (add_any _ _ (y) (z) _ (Sq2.out.at (.agg #[.slice ay ny cy]) (y)) (Sq2.out.at (.agg #[.slice az nz cz]) (z)) M2.out.fits M3.out.fits) ?_; rintro e wq3 ⟨vq3, rfl, hvq3, hbq3⟩; have Sq3 : Hid _ := (by first | exact (Sq2.out.go hbq3).nat hvq3 | exact (Sq2.out.god hbq3).nat hvq3); have cq3_0 := Sq3.out.cell (b) (.slice ax nx cx); have cq3_1 := Sq3.out.cell (b + 1) (.slice ay ny cy); have cq3_2 := Sq3.out.cell (b + 1 + 1) (.slice az nz cz); clear hbq3 hvq3 Sq2 cq2_0 cq2_1 cq2_2)
        | (go_at_call 20; refine Calls.mono (add_any _ _ (x) (y + z) _ (Sq3.out.at (.agg #[.slice ax nx cx]) (x)) (Sq3.out.at vq3 (y + z)) M1.out.fits MS.out.2.1) ?_; rintro e wq4 ⟨vq4, rfl, hvq4, hbq4⟩; rw [← Nat.add_assoc] at hvq4; have Sq4 : Hid _ := (by first | exact (Sq3.out.go hbq4).nat hvq4 | exact (Sq3.out.god hbq4).nat hvq4); have cq4_0 := Sq4.out.cell (b) (.slice ax nx cx); have cq4_1 := Sq4.out.cell (b + 1) (.slice ay ny cy); have cq4_2 := Sq4.out.cell (b + 1 + 1) (.slice az nz cz); clear hbq4 hvq4 Sq3 cq3_0 cq3_1 cq3_2)
        | (go_at_call 22; refine Calls.mono (eq_true _ _ (x + y + z) _ (Sq4.out.at vq2 (x + y + z)) (Sq4.out.at vq4 (x + y + z)) MS.out.2.2.2.2.2.2.2.2.1) ?_; rintro e wq5 ⟨rfl, hbq5⟩; have Sq5 : Hid _ := (by first | exact (Sq4.out.go hbq5) | exact (Sq4.out.god hbq5)); have cq5_0 := Sq5.out.cell (b) (.slice ax nx cx); have cq5_1 := Sq5.out.cell (b + 1) (.slice ay ny cy); have cq5_2 := Sq5.out.cell (b + 1 + 1) (.slice az nz cz); clear hbq5 Sq4 cq4_0 cq4_1 cq4_2)
        | (go_at_call 23; refine Calls.mono (mul_short _ _ (x) (y) _ (Sq5.out.at (.agg #[.slice ax nx cx]) (x)) (Sq5.out.at (.agg #[.slice ay ny cy]) (y)) M1.out.fits M2.out.fits (.inl M1.out.p99)) ?_; rintro e wq6 ⟨vq6, rfl, hvq6, hbq6⟩; have Sq6 : Hid _ := (by first | exact (Sq5.out.go hbq6).nat hvq6 | exact (Sq5.out.god hbq6).nat hvq6); have cq6_0 := Sq6.out.cell (b) (.slice ax nx cx); have cq6_1 := Sq6.out.cell (b + 1) (.slice ay ny cy); have cq6_2 := Sq6.out.cell (b + 1 + 1) (.slice az nz cz); clear hbq6 hvq6 Sq5 cq5_0 cq5_1 cq5_2)
        | (go_at_call 23; refine Calls.mono (mul_short _ _ (x * y) (z) _ (Sq6.out.at vq6 (x * y)) (Sq6.out.at (.agg #[.slice az nz cz]) (z)) MS.out.2.2.2.1 M3.out.fits (.inr M3.out.p99)) ?_; rintro e wq7 ⟨vq7, rfl, hvq7, hbq7⟩; have Sq7 : Hid _ := (by first | exact (Sq6.out.go hbq7).nat hvq7 | exact (Sq6.out.god hbq7).nat hvq7); have cq7_0 := Sq7.out.cell (b) (.slice ax nx cx); have cq7_1 := Sq7.out.cell (b + 1) (.slice ay ny cy); have cq7_2 := Sq7.out.cell (b + 1 + 1) (.slice az nz cz); clear hbq7 hvq7 Sq6 cq6_0 cq6_1 cq6_2)
        | (go_at_call 23; refine Calls.mono (mul_short _ _ (y) (z) _ (Sq7.out.at (.agg #[.slice ay ny cy]) (y)) (Sq7.out.at (.agg #[.slice az nz cz]) (z)) M2.out.fits M3.out.fits (.inl M2.out.p99)) ?_; rintro e wq8 ⟨vq8, rfl, hvq8, hbq8⟩; have Sq8 : Hid _ := (by first | exact (Sq7.out.go hbq8).nat hvq8 | exact (Sq7.out.god hbq8).nat hvq8); have cq8_0 := Sq8.out.cell (b) (.slice ax nx cx); have cq8_1 := Sq8.out.cell (b + 1) (.slice ay ny cy); have cq8_2 := Sq8.out.cell (b + 1 + 1) (.slice az nz cz); clear hbq8 hvq8 Sq7 cq7_0 cq7_1 cq7_2)
        | (go_at_call 23; refine Calls.mono (mul_short _ _ (x) (y * z) _ (Sq8.out.at (.agg #[.slice ax nx cx]) (x)) (Sq8.out.at vq8 (y * z)) M1.out.fits MS.out.2.2.2.2.1 (.inl M1.out.p99)) ?_; rintro e wq9 ⟨vq9, rfl, hvq9, hbq9⟩; rw [← Nat.mul_assoc] at hvq9; have Sq9 : Hid _ := (by first | exact (Sq8.out.go hbq9).nat hvq9 | exact (Sq8.out.god hbq9).nat hvq9); have cq9_0 := Sq9.out.cell (b) (.slice ax nx cx); have cq9_1 := Sq9.out.cell (b + 1) (.slice ay ny cy); have cq9_2 := Sq9.out.cell (b + 1 + 1) (.slice az nz cz); clear hbq9 hvq9 Sq8 cq8_0 cq8_1 cq8_2)
        | (go_at_call 22; refine Calls.mono (eq_true _ _ (x * y * z) _ (Sq9.out.at vq7 (x * y * z)) (Sq9.out.at vq9 (x * y * z)) MS.out.2.2.2.2.2.2.2.2.2.2.1) ?_; rintro e wq10 ⟨rfl, hbq10⟩; have Sq10 : Hid _ := (by first | exact (Sq9.out.go hbq10) | exact (Sq9.out.god hbq10)); have cq10_0 := Sq10.out.cell (b) (.slice ax nx cx); have cq10_1 := Sq10.out.cell (b + 1) (.slice ay ny cy); have cq10_2 := Sq10.out.cell (b + 1 + 1) (.slice az nz cz); clear hbq10 Sq9 cq9_0 cq9_1 cq9_2))
    go_wp2_with fail
    go_region_held3 (fun w' => w'.cell? ⟨b, 0, none⟩ = some (.slice ax nx cx) ∧ w'.cell? ⟨b + 1, 0, none⟩ = some (.slice ay ny cy) ∧ w'.cell? ⟨b + 1 + 1, 0, none⟩ = some (.slice az nz cz)) (first | (simp [go_sem, *]; done) | (trace_state; fail))
      (first
        | (go_at_call 20; refine Calls.mono (add_any _ _ (y) (z) _ (Sq10.out.at (.agg #[.slice ay ny cy]) (y)) (Sq10.out.at (.agg #[.slice az nz cz]) (z)) M2.out.fits M3.out.fits) ?_; rintro e wr1 ⟨vr1, rfl, hvr1, hbr1⟩; have Sr1 : Hid _ := (by first | exact (Sq10.out.go hbr1).nat hvr1 | exact (Sq10.out.god hbr1).nat hvr1); have cr1_0 := Sr1.out.cell (b) (.slice ax nx cx); have cr1_1 := Sr1.out.cell (b + 1) (.slice ay ny cy); have cr1_2 := Sr1.out.cell (b + 1 + 1) (.slice az nz cz); clear hbr1 hvr1 Sq10)
        | (go_at_call 23; refine Calls.mono (mul_short _ _ (x) (y + z) _ (Sr1.out.at (.agg #[.slice ax nx cx]) (x)) (Sr1.out.at vr1 (y + z)) M1.out.fits MS.out.2.1 (.inl M1.out.p99)) ?_; rintro e wr2 ⟨vr2, rfl, hvr2, hbr2⟩; rw [Nat.mul_add] at hvr2; have Sr2 : Hid _ := (by first | exact (Sr1.out.go hbr2).nat hvr2 | exact (Sr1.out.god hbr2).nat hvr2); have cr2_0 := Sr2.out.cell (b) (.slice ax nx cx); have cr2_1 := Sr2.out.cell (b + 1) (.slice ay ny cy); have cr2_2 := Sr2.out.cell (b + 1 + 1) (.slice az nz cz); clear hbr2 hvr2 Sr1 cr1_0 cr1_1 cr1_2)
        | (go_at_call 23; refine Calls.mono (mul_short _ _ (x) (y) _ (Sr2.out.at (.agg #[.slice ax nx cx]) (x)) (Sr2.out.at (.agg #[.slice ay ny cy]) (y)) M1.out.fits M2.out.fits (.inl M1.out.p99)) ?_; rintro e wr3 ⟨vr3, rfl, hvr3, hbr3⟩; have Sr3 : Hid _ := (by first | exact (Sr2.out.go hbr3).nat hvr3 | exact (Sr2.out.god hbr3).nat hvr3); have cr3_0 := Sr3.out.cell (b) (.slice ax nx cx); have cr3_1 := Sr3.out.cell (b + 1) (.slice ay ny cy); have cr3_2 := Sr3.out.cell (b + 1 + 1) (.slice az nz cz); clear hbr3 hvr3 Sr2 cr2_0 cr2_1 cr2_2)
        | (go_at_call 23; refine Calls.mono (mul_short _ _ (x) (z) _ (Sr3.out.at (.agg #[.slice ax nx cx]) (x)) (Sr3.out.at (.agg #[.slice az nz cz]) (z)) M1.out.fits M3.out.fits (.inl M1.out.p99)) ?_; rintro e wr4 ⟨vr4, rfl, hvr4, hbr4⟩; have Sr4 : Hid _ := (by first | exact (Sr3.out.go hbr4).nat hvr4 | exact (Sr3.out.god hbr4).nat hvr4); have cr4_0 := Sr4.out.cell (b) (.slice ax nx cx); have cr4_1 := Sr4.out.cell (b + 1) (.slice ay ny cy); have cr4_2 := Sr4.out.cell (b + 1 + 1) (.slice az nz cz); clear hbr4 hvr4 Sr3 cr3_0 cr3_1 cr3_2)
        | (go_at_call 20; refine Calls.mono (add_any _ _ (x * y) (x * z) _ (Sr4.out.at vr3 (x * y)) (Sr4.out.at vr4 (x * z)) MS.out.2.2.2.1 MS.out.2.2.2.2.2.1) ?_; rintro e wr5 ⟨vr5, rfl, hvr5, hbr5⟩; have Sr5 : Hid _ := (by first | exact (Sr4.out.go hbr5).nat hvr5 | exact (Sr4.out.god hbr5).nat hvr5); have cr5_0 := Sr5.out.cell (b) (.slice ax nx cx); have cr5_1 := Sr5.out.cell (b + 1) (.slice ay ny cy); have cr5_2 := Sr5.out.cell (b + 1 + 1) (.slice az nz cz); clear hbr5 hvr5 Sr4 cr4_0 cr4_1 cr4_2)
        | (go_at_call 22; refine Calls.mono (eq_true _ _ (x * y + x * z) _ (Sr5.out.at vr2 (x * y + x * z)) (Sr5.out.at vr5 (x * y + x * z)) MS.out.2.2.2.2.2.2.2.2.2.2.2) ?_; rintro e wr6 ⟨rfl, hbr6⟩; have Sr6 : Hid _ := (by first | exact (Sr5.out.go hbr6) | exact (Sr5.out.god hbr6)); have cr6_0 := Sr6.out.cell (b) (.slice ax nx cx); have cr6_1 := Sr6.out.cell (b + 1) (.slice ay ny cy); have cr6_2 := Sr6.out.cell (b + 1 + 1) (.slice az nz cz); clear hbr6 Sr5 cr5_0 cr5_1 cr5_2)
        | (go_at_call 14; refine Calls.mono (of_any 1 _ (by omega)) ?_; rintro e wr7 ⟨vr7, rfl, hvr7, hbr7⟩; have Sr7 : Hid _ := (by first | exact (Sr6.out.go hbr7).nat hvr7 | exact (Sr6.out.god hbr7).nat hvr7); have cr7_0 := Sr7.out.cell (b) (.slice ax nx cx); have cr7_1 := Sr7.out.cell (b + 1) (.slice ay ny cy); have cr7_2 := Sr7.out.cell (b + 1 + 1) (.slice az nz cz); clear hbr7 hvr7 Sr6 cr6_0 cr6_1 cr6_2)
        | (go_at_call 23; refine Calls.mono (mul_short _ _ (x) (1) _ (Sr7.out.at (.agg #[.slice ax nx cx]) (x)) (Sr7.out.at vr7 (1)) M1.out.fits (tx_word (by omega)).fits (.inl M1.out.p99)) ?_; rintro e wr8 ⟨vr8, rfl, hvr8, hbr8⟩; rw [Nat.mul_one] at hvr8; have Sr8 : Hid _ := (by first | exact (Sr7.out.go hbr8).nat hvr8 | exact (Sr7.out.god hbr8).nat hvr8); have cr8_0 := Sr8.out.cell (b) (.slice ax nx cx); have cr8_1 := Sr8.out.cell (b + 1) (.slice ay ny cy); have cr8_2 := Sr8.out.cell (b + 1 + 1) (.slice az nz cz); clear hbr8 hvr8 Sr7 cr7_0 cr7_1 cr7_2)
        | (go_at_call 22; refine Calls.mono (eq_true _ _ (x) _ (Sr8.out.at vr8 (x)) (Sr8.out.at (.agg #[.slice ax nx cx]) (x)) M1.out.tx) ?_; rintro e wr9 ⟨rfl, hbr9⟩; have Sr9 : Hid _ := (by first | exact (Sr8.out.go hbr9) | exact (Sr8.out.god hbr9)); have cr9_0 := Sr9.out.cell (b) (.slice ax nx cx); have cr9_1 := Sr9.out.cell (b + 1) (.slice ay ny cy); have cr9_2 := Sr9.out.cell (b + 1 + 1) (.slice az nz cz); clear hbr9 Sr8 cr8_0 cr8_1 cr8_2)
        | (go_at_call 20; refine Calls.mono (add_any _ _ x 0 _ (Sr9.out.at (.agg #[.slice ax nx cx]) (x)) (isNat_zero _) M1.out.fits (tx_word (by omega)).fits) ?_; rintro e wr10 ⟨vr10, rfl, hvr10, hbr10⟩; rw [Nat.add_zero] at hvr10; have Sr10 : Hid _ := (by first | exact (Sr9.out.go hbr10).nat hvr10 | exact (Sr9.out.god hbr10).nat hvr10); have cr10_0 := Sr10.out.cell (b) (.slice ax nx cx); have cr10_1 := Sr10.out.cell (b + 1) (.slice ay ny cy); have cr10_2 := Sr10.out.cell (b + 1 + 1) (.slice az nz cz); clear hbr10 hvr10 Sr9 cr9_0 cr9_1 cr9_2)
        | (go_at_call 22; refine Calls.mono (eq_true _ _ (x) _ (Sr10.out.at vr10 (x)) (Sr10.out.at (.agg #[.slice ax nx cx]) (x)) M1.out.tx) ?_; rintro e wr11 ⟨rfl, hbr11⟩; have Sr11 : Hid _ := (by first | exact (Sr10.out.go hbr11) | exact (Sr10.out.god hbr11)); have cr11_0 := Sr11.out.cell (b) (.slice ax nx cx); have cr11_1 := Sr11.out.cell (b + 1) (.slice ay ny cy); have cr11_2 := Sr11.out.cell (b + 1 + 1) (.slice az nz cz); clear hbr11 Sr10 cr10_0 cr10_1 cr10_2)
        | (go_at_call 19; refine Calls.mono (started_true _) ?_; rintro e wr12 ⟨rfl, hbr12⟩; have Sr12 : Hid _ := (by first | exact (Sr11.out.go hbr12) | exact (Sr11.out.god hbr12)); have cr12_0 := Sr12.out.cell (b) (.slice ax nx cx); have cr12_1 := Sr12.out.cell (b + 1) (.slice ay ny cy); have cr12_2 := Sr12.out.cell (b + 1 + 1) (.slice az nz cz); clear hbr12 Sr11 cr11_0 cr11_1 cr11_2))
    go_wp2_with fail
    go_ret
    exact ⟨rfl, Sr12.out.bel⟩
end Go.Proofs.Ytekigmkepfhdhaa

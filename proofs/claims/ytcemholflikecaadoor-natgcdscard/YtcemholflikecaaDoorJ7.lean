/- Contracts of the program's functions, part 7: own work, joined in build order. -/
import Derived.Test.YtcemholflikecaaDoorJ6
namespace Go.Proofs.YtcemholflikecaaDoor
open Go.RowKit
set_option maxRecDepth 100000
set_option linter.unusedVariables false
theorem St.tab {w0 w : World} {N : List (Value × Nat)} {C : List (Nat × Value)} (h : St w0 w N C) (hT : Tab w0) : Tab w := hT.go h.bel
set_option maxHeartbeats 4000000 in
theorem natGcds_true (a0 : Option Addr) (l0 k0 : Nat) (D0 : Nat → Nat) (a1 : Option Addr) (l1 k1 : Nat) (D1 : Nat → Nat) (a2 : Option Addr) (l2 k2 : Nat) (D2 : Nat → Nat) (w : World) (h0 : BSl w a0 l0 k0 D0) (h1 : BSl w a1 l1 k1 D1) (h2 : BSl w a2 l2 k2 D2) (hT : Tab w) :
    Calls Tryd.prog 5 #[.slice a0 l0 k0, .slice a1 l1 k1, .slice a2 l2 k2] w fun e w' => e = .returned (.bool true) ∧ Below w.heap.size w w' := by
  have HA : Hid (BSl w a0 l0 k0 D0 ∧ BSl w a1 l1 k1 D1 ∧ BSl w a2 l2 k2 D2) := ⟨h0, h1, h2⟩
  have HT : Hid (Tab w) := hT
  clear h0 h1 h2 hT
  go_enter Tryd.func5, Tryd.ntmps5
  go_wp2_with fail
  refine (cut_any a0 l0 k0 D0 _ HA.out.1).mono ?_
  rintro e w' ⟨⟨n0, rfl, hb0, hn0⟩, hw'⟩
  rw [hw']
  clear hw' w'
  have X0 : Hid _ := hb0
  clear hb0
  go_wp2_with fail
  refine (fromBytes_any a0 n0 k0 D0 _ X0.out (by omega)).mono ?_
  rintro e w1 ⟨v1, rfl, hv1, hb1⟩
  have M1 : Hid (Mid (BV D0 n0)) := ⟨BV_P X0.out.2.2.1 hn0⟩
  generalize BV D0 n0 = x at hv1 M1
  have X1 : Hid (IsNat w1 v1 x ∧ BSl w1 a1 l1 k1 D1 ∧ BSl w1 a2 l2 k2 D2 ∧ Below _ _ w1) := ⟨hv1, HA.out.2.1.mono hb1, HA.out.2.2.mono hb1, hb1⟩
  obtain ⟨ax, nx, cx, rfl⟩ := hv1.isAgg
  clear hv1 hb1 X0 HA hn0
  go_wp2_with fail
  refine (cut_any a1 l1 k1 D1 _ X1.out.2.1).mono ?_
  rintro e w' ⟨⟨n1, rfl, hb0, hn1⟩, hw'⟩
  rw [hw']
  clear hw' w'
  have X0 : Hid _ := hb0
  clear hb0
  go_wp2_with fail
  refine (fromBytes_any a1 n1 k1 D1 _ X0.out (by omega)).mono ?_
  rintro e w2 ⟨v2, rfl, hv2, hb2⟩
  have M2 : Hid (Mid (BV D1 n1)) := ⟨BV_P X0.out.2.2.1 hn1⟩
  generalize BV D1 n1 = y at hv2 M2
  have X2 : Hid (IsNat w2 (.agg #[.slice ax nx cx]) x ∧ IsNat w2 v2 y ∧ BSl w2 a2 l2 k2 D2 ∧ Below _ _ w2) := ⟨X1.out.1.mono hb2, hv2, X1.out.2.2.1.mono hb2, bel_go X1.out.2.2.2 hb2⟩
  obtain ⟨ay, ny, cy, rfl⟩ := hv2.isAgg
  clear hv2 hb2 X0 X1 hn1
  go_wp2_with fail
  refine (cut_any a2 l2 k2 D2 _ X2.out.2.2.1).mono ?_
  rintro e w' ⟨⟨n2, rfl, hb0, hn2⟩, hw'⟩
  rw [hw']
  clear hw' w'
  have X0 : Hid _ := hb0
  clear hb0
  go_wp2_with fail
  refine (fromBytes_any a2 n2 k2 D2 _ X0.out (by omega)).mono ?_
  rintro e w3 ⟨v3, rfl, hv3, hb3⟩
  have M3 : Hid (Mid (BV D2 n2)) := ⟨BV_P X0.out.2.2.1 hn2⟩
  generalize BV D2 n2 = z at hv3 M3
  have X3 : Hid (IsNat w3 (.agg #[.slice ax nx cx]) x ∧ IsNat w3 (.agg #[.slice ay ny cy]) y ∧ IsNat w3 v3 z ∧ Below _ _ w3) := ⟨X2.out.1.mono hb3, X2.out.2.1.mono hb3, hv3, bel_go X2.out.2.2.2 hb3⟩
  obtain ⟨az, nz, cz, rfl⟩ := hv3.isAgg
  clear hv3 hb3 X0 X2 hn2
  go_wp2_with fail
  have S4 : Hid (St w _ [(.agg #[.slice ax nx cx], x), (.agg #[.slice ay ny cy], y), (.agg #[.slice az nz cz], z)] [(w3.heap.size + 1 + 1, .slice az nz cz), (w3.heap.size + 1, .slice ay ny cy), (w3.heap.size, .slice ax nx cx)]) := (((St.mk (N := [(.agg #[.slice ax nx cx], x), (.agg #[.slice ay ny cy], y), (.agg #[.slice az nz cz], z)]) (C := []) (by simp; exact ⟨X3.out.1, X3.out.2.1, X3.out.2.2.1⟩) (by simp) X3.out.2.2.2).box (.slice ax nx cx) 26 _ rfl).box (.slice ay ny cy) 26 (w3.heap.size + 1) (by simp)).box (.slice az nz cz) 26 (w3.heap.size + 1 + 1) (by simp)
  obtain ⟨w4, hw4⟩ : ∃ w4, w4 = ((w3.alloc (Obj.cells #[Value.slice ax nx cx] 26)).alloc (Obj.cells #[Value.slice ay ny cy] 26)).alloc (Obj.cells #[Value.slice az nz cz] 26) := ⟨_, rfl⟩
  rw [← hw4] at S4 ⊢
  obtain ⟨b, hb⟩ : ∃ b, b = w3.heap.size := ⟨_, rfl⟩
  rw [← hb] at S4 ⊢
  clear hw4 hb X3
  have MG : Hid (Mid (Nat.gcd x y) ∧ (∀ u, Mid u → u < P 198) ∧ x * z < P 150 ∧ y * z < P 150 ∧ Nat.gcd x y * z < P 150) := by
    have hg : Mid (Nat.gcd x y) := by
      rcases Nat.eq_zero_or_pos x with e | e
      · rw [e, Nat.gcd_zero_left]
        exact M2.out
      · exact M1.out.le (Nat.gcd_le_left _ e)
    exact ⟨hg, fun u hu => Nat.lt_trans hu.lt (P_lt (by omega)), M1.out.mul M3.out, M2.out.mul M3.out, hg.mul M3.out⟩
  refine (gcd_any _ _ x y _ (S4.out.at (.agg #[.slice ax nx cx]) x) (S4.out.at (.agg #[.slice ay ny cy]) y) (MG.out.2.1 x M1.out) (MG.out.2.1 y M2.out) (S4.out.tab HT.out)).mono ?_
  rintro e w5 ⟨v5, rfl, hv5, hb5⟩
  obtain ⟨ag, ng, cg, rfl⟩ := hv5.isAgg
  have S5 : Hid _ := ((S4.out.go hb5).nat hv5).box (.slice ag ng cg) 26 _ rfl
  clear hv5 hb5 S4
  go_wp2_with fail
  obtain ⟨w6, hw6⟩ : ∃ w6, w6 = w5.alloc (Obj.cells #[Value.slice ag ng cg] 26) := ⟨_, rfl⟩
  rw [← hw6] at S5 ⊢
  obtain ⟨bg, hbg⟩ : ∃ bg, bg = w5.heap.size := ⟨_, rfl⟩
  rw [← hbg] at S5 ⊢
  clear hw6 hbg
  have c0 := S5.out.cell b (.slice ax nx cx)
  have c1 := S5.out.cell (b + 1) (.slice ay ny cy)
  have c2 := S5.out.cell (b + 1 + 1) (.slice az nz cz)
  have c3 := S5.out.cell bg (.slice ag ng cg)
  go_region_held3 (fun w' => w'.cell? ⟨b, 0, none⟩ = some (.slice ax nx cx) ∧ w'.cell? ⟨b + 1, 0, none⟩ = some (.slice ay ny cy) ∧ w'.cell? ⟨b + 1 + 1, 0, none⟩ = some (.slice az nz cz) ∧ w'.cell? ⟨bg, 0, none⟩ = some (.slice ag ng cg)) (first | (simp [go_sem, *]; done) | (trace_state; fail))
    (first
      | (go_at_call 17; refine Calls.mono (gcd_any _ _ (y) (x) _ (S5.out.at (.agg #[.slice ay ny cy]) (y)) (S5.out.at (.agg #[.slice ax nx cx]) (x)) (MG.out.2.1 _ M2.out) (MG.out.2.1 _ M1.out) (S5.out.tab HT.out)) ?_; rintro e wp1 ⟨vp1, rfl, hvp1, hbp1⟩; rw [Nat.gcd_comm] at hvp1; have Sp1 : Hid _ := (by first | exact (S5.out.go hbp1).nat hvp1 | exact (S5.out.god hbp1).nat hvp1); have cp1_0 := Sp1.out.cell (b) (.slice ax nx cx); have cp1_1 := Sp1.out.cell (b + 1) (.slice ay ny cy); have cp1_2 := Sp1.out.cell (b + 1 + 1) (.slice az nz cz); have cp1_3 := Sp1.out.cell (bg) (.slice ag ng cg); clear hbp1 hvp1 S5)
      | (go_at_call 18; refine Calls.mono (eq_true _ _ (Nat.gcd x y) _ (Sp1.out.at (.agg #[.slice ag ng cg]) (Nat.gcd x y)) (Sp1.out.at vp1 (Nat.gcd x y)) MG.out.1.tx) ?_; rintro e wp2 ⟨rfl, hbp2⟩; have Sp2 : Hid _ := (by first | exact (Sp1.out.go hbp2) | exact (Sp1.out.god hbp2)); have cp2_0 := Sp2.out.cell (b) (.slice ax nx cx); have cp2_1 := Sp2.out.cell (b + 1) (.slice ay ny cy); have cp2_2 := Sp2.out.cell (b + 1 + 1) (.slice az nz cz); have cp2_3 := Sp2.out.cell (bg) (.slice ag ng cg); clear hbp2 Sp1 cp1_0 cp1_1 cp1_2 cp1_3)
      | (go_at_call 19; refine Calls.mono (mul_short _ _ (x) (z) _ (Sp2.out.at (.agg #[.slice ax nx cx]) (x)) (Sp2.out.at (.agg #[.slice az nz cz]) (z)) M1.out.fits M3.out.fits (.inl M1.out.p99)) ?_; rintro e wp3 ⟨vp3, rfl, hvp3, hbp3⟩; have Sp3 : Hid _ := (by first | exact (Sp2.out.go hbp3).nat hvp3 | exact (Sp2.out.god hbp3).nat hvp3); have cp3_0 := Sp3.out.cell (b) (.slice ax nx cx); have cp3_1 := Sp3.out.cell (b + 1) (.slice ay ny cy); have cp3_2 := Sp3.out.cell (b + 1 + 1) (.slice az nz cz); have cp3_3 := Sp3.out.cell (bg) (.slice ag ng cg); clear hbp3 hvp3 Sp2 cp2_0 cp2_1 cp2_2 cp2_3)
      | (go_at_call 19; refine Calls.mono (mul_short _ _ (y) (z) _ (Sp3.out.at (.agg #[.slice ay ny cy]) (y)) (Sp3.out.at (.agg #[.slice az nz cz]) (z)) M2.out.fits M3.out.fits (.inl M2.out.p99)) ?_; rintro e wp4 ⟨vp4, rfl, hvp4, hbp4⟩; have Sp4 : Hid _ := (by first | exact (Sp3.out.go hbp4).nat hvp4 | exact (Sp3.out.god hbp4).nat hvp4); have cp4_0 := Sp4.out.cell (b) (.slice ax nx cx); have cp4_1 := Sp4.out.cell (b + 1) (.slice ay ny cy); have cp4_2 := Sp4.out.cell (b + 1 + 1) (.slice az nz cz); have cp4_3 := Sp4.out.cell (bg) (.slice ag ng cg); clear hbp4 hvp4 Sp3 cp3_0 cp3_1 cp3_2 cp3_3)
      | (go_at_call 17; refine Calls.mono (gcd_any _ _ (x * z) (y * z) _ (Sp4.out.at vp3 (x * z)) (Sp4.out.at vp4 (y * z)) (Nat.lt_trans MG.out.2.2.1 (P_lt (by omega))) (Nat.lt_trans MG.out.2.2.2.1 (P_lt (by omega))) (Sp4.out.tab HT.out)) ?_; rintro e wp5 ⟨vp5, rfl, hvp5, hbp5⟩; rw [Nat.gcd_mul_right] at hvp5; have Sp5 : Hid _ := (by first | exact (Sp4.out.go hbp5).nat hvp5 | exact (Sp4.out.god hbp5).nat hvp5); have cp5_0 := Sp5.out.cell (b) (.slice ax nx cx); have cp5_1 := Sp5.out.cell (b + 1) (.slice ay ny cy); have cp5_2 := Sp5.out.cell (b + 1 + 1) (.slice az nz cz); have cp5_3 := Sp5.out.cell (bg) (.slice ag ng cg); clear hbp5 hvp5 Sp4 cp4_0 cp4_1 cp4_2 cp4_3)
      | (go_at_call 19; refine Calls.mono (mul_short _ _ (Nat.gcd x y) (z) _ (Sp5.out.at (.agg #[.slice ag ng cg]) (Nat.gcd x y)) (Sp5.out.at (.agg #[.slice az nz cz]) (z)) MG.out.1.fits M3.out.fits (.inl MG.out.1.p99)) ?_; rintro e wp6 ⟨vp6, rfl, hvp6, hbp6⟩; have Sp6 : Hid _ := (by first | exact (Sp5.out.go hbp6).nat hvp6 | exact (Sp5.out.god hbp6).nat hvp6); have cp6_0 := Sp6.out.cell (b) (.slice ax nx cx); have cp6_1 := Sp6.out.cell (b + 1) (.slice ay ny cy); have cp6_2 := Sp6.out.cell (b + 1 + 1) (.slice az nz cz); have cp6_3 := Sp6.out.cell (bg) (.slice ag ng cg); clear hbp6 hvp6 Sp5 cp5_0 cp5_1 cp5_2 cp5_3)
      | (go_at_call 18; refine Calls.mono (eq_true _ _ (Nat.gcd x y * z) _ (Sp6.out.at vp5 (Nat.gcd x y * z)) (Sp6.out.at vp6 (Nat.gcd x y * z)) (tx_of MG.out.2.2.2.2 (by omega))) ?_; rintro e wp7 ⟨rfl, hbp7⟩; have Sp7 : Hid _ := (by first | exact (Sp6.out.go hbp7) | exact (Sp6.out.god hbp7)); have cp7_0 := Sp7.out.cell (b) (.slice ax nx cx); have cp7_1 := Sp7.out.cell (b + 1) (.slice ay ny cy); have cp7_2 := Sp7.out.cell (b + 1 + 1) (.slice az nz cz); have cp7_3 := Sp7.out.cell (bg) (.slice ag ng cg); clear hbp7 Sp6 cp6_0 cp6_1 cp6_2 cp6_3)
      | (go_at_call 17; refine Calls.mono (gcd_any _ _ x 0 _ (Sp7.out.at (.agg #[.slice ax nx cx]) (x)) (isNat_zero _) (MG.out.2.1 _ M1.out) (P_pos _) (Sp7.out.tab HT.out)) ?_; rintro e wp8 ⟨vp8, rfl, hvp8, hbp8⟩; rw [Nat.gcd_zero_right] at hvp8; have Sp8 : Hid _ := (by first | exact (Sp7.out.go hbp8).nat hvp8 | exact (Sp7.out.god hbp8).nat hvp8); have cp8_0 := Sp8.out.cell (b) (.slice ax nx cx); have cp8_1 := Sp8.out.cell (b + 1) (.slice ay ny cy); have cp8_2 := Sp8.out.cell (b + 1 + 1) (.slice az nz cz); have cp8_3 := Sp8.out.cell (bg) (.slice ag ng cg); clear hbp8 hvp8 Sp7 cp7_0 cp7_1 cp7_2 cp7_3)
      | (go_at_call 18; refine Calls.mono (eq_true _ _ (x) _ (Sp8.out.at vp8 (x)) (Sp8.out.at (.agg #[.slice ax nx cx]) (x)) M1.out.tx) ?_; rintro e wp9 ⟨rfl, hbp9⟩; have Sp9 : Hid _ := (by first | exact (Sp8.out.go hbp9) | exact (Sp8.out.god hbp9)); have cp9_0 := Sp9.out.cell (b) (.slice ax nx cx); have cp9_1 := Sp9.out.cell (b + 1) (.slice ay ny cy); have cp9_2 := Sp9.out.cell (b + 1 + 1) (.slice az nz cz); have cp9_3 := Sp9.out.cell (bg) (.slice ag ng cg); clear hbp9 Sp8 cp8_0 cp8_1 cp8_2 cp8_3))
  clear c0 c1 c2 c3
  have T0 : Hid (St w _ [((.agg #[.slice ag ng cg]), Nat.gcd x y), ((.agg #[.slice ax nx cx]), x), ((.agg #[.slice ay ny cy]), y)] [(bg, .slice ag ng cg), (b, .slice ax nx cx), (b + 1, .slice ay ny cy)]) := ⟨fun p hp => Sp9.out.nats p (by simp at hp; rcases hp with rfl | rfl | rfl <;> simp), fun p hp => Sp9.out.cells p (by simp at hp; rcases hp with rfl | rfl | rfl <;> simp), Sp9.out.bel⟩
  clear Sp9
  have c0 := T0.out.cell b (.slice ax nx cx)
  have c3 := T0.out.cell bg (.slice ag ng cg)
  go_wp2_with fail
  rcases Nat.eq_zero_or_pos (Nat.gcd x y) with hg0 | hgp
  · have HG : Hid (Nat.gcd x y = 0) := hg0
    have HX0 : Hid (x = 0 ∧ y = 0) := Nat.gcd_eq_zero_iff.1 hg0
    clear hg0
    refine (divMod_zero _ _ x _ (T0.out.at (.agg #[.slice ax nx cx]) x) (by have := T0.out.at (.agg #[.slice ag ng cg]) (Nat.gcd x y); rw [HG.out] at this; exact this)).mono ?_
    rintro e wa ⟨vq, vr, rfl, hvq, hvr, hb⟩
    obtain ⟨aqa, nqa, cqa, rfl⟩ := hvq.isAgg
    obtain ⟨ara, nra, cra, rfl⟩ := hvr.isAgg
    have Ua : Hid _ := T0.out.go hb
    have Sa : Hid _ := ((((T0.out.go hb).nat hvq).nat hvr).box (.slice aqa nqa cqa) 26 _ rfl).box (.slice ara nra cra) 26 (wa.heap.size + 1) (by simp)
    clear hvq hvr hb T0 c0 c3
    have c0 := Ua.out.cell b (.slice ax nx cx)
    have c1 := Ua.out.cell (b + 1) (.slice ay ny cy)
    have c3 := Ua.out.cell bg (.slice ag ng cg)
    have hl0 := World.block_lt_of_cell? _ _ c0
    have hl1 := World.block_lt_of_cell? _ _ c1
    have hl3 := World.block_lt_of_cell? _ _ c3
    go_wp2_with fail
    refine (divMod_zero _ _ y _ (Sa.out.at (.agg #[.slice ay ny cy]) y) (by have := Sa.out.at (.agg #[.slice ag ng cg]) (Nat.gcd x y); rw [HG.out] at this; exact this)).mono ?_
    rintro e wb ⟨vq, vr, rfl, hvq, hvr, hb⟩
    clear c1 hl0 hl1 hl3 Ua
    obtain ⟨aqb, nqb, cqb, rfl⟩ := hvq.isAgg
    obtain ⟨arb, nrb, crb, rfl⟩ := hvr.isAgg
    have Ub : Hid _ := Sa.out.go hb
    have Sb : Hid _ := ((((Sa.out.go hb).nat hvq).nat hvr).box (.slice aqb nqb cqb) 26 _ rfl).box (.slice arb nrb crb) 26 (wb.heap.size + 1) (by simp)
    clear hvq hvr hb Sa c0 c3
    have c0 := Ub.out.cell b (.slice ax nx cx)
    have c1 := Ub.out.cell (b + 1) (.slice ay ny cy)
    have c3 := Ub.out.cell bg (.slice ag ng cg)
    have hl0 := World.block_lt_of_cell? _ _ c0
    have hl1 := World.block_lt_of_cell? _ _ c1
    have hl3 := World.block_lt_of_cell? _ _ c3
    go_wp2_with fail
    refine (len_any _ (Nat.gcd x y) _ (Sb.out.at (.agg #[.slice ag ng cg]) (Nat.gcd x y)) MG.out.1.fits).mono ?_
    rintro e wc ⟨rfl, hb⟩
    rw [HG.out, bitLen_zero]
    have Sc : Hid _ := Sb.out.go hb
    clear hb Sb c0 c1 c3 hl0 hl1 hl3 Ub
    have c0 := Sc.out.cell b (.slice ax nx cx)
    have c1 := Sc.out.cell (b + 1) (.slice ay ny cy)
    go_wp2_with fail
    refine (len_any _ x _ (Sc.out.at (.agg #[.slice ax nx cx]) x) M1.out.fits).mono ?_
    rintro e wd ⟨rfl, hb⟩
    rw [HX0.out.1, bitLen_zero]
    have Sd : Hid _ := Sc.out.go hb
    clear hb Sc c0 c1
    have c1 := Sd.out.cell (b + 1) (.slice ay ny cy)
    go_wp2_with fail
    refine (len_any _ y _ (Sd.out.at (.agg #[.slice ay ny cy]) y) M2.out.fits).mono ?_
    rintro e we ⟨rfl, hb⟩
    rw [HX0.out.2, bitLen_zero]
    have Se : Hid _ := Sd.out.go hb
    clear hb Sd c1
    go_wp2_with fail
    refine (started_true _).mono ?_
    rintro e wf ⟨rfl, hb⟩
    have Sf : Hid _ := Se.out.go hb
    clear hb Se
    go_wp2_with fail
    go_ret
    exact ⟨rfl, Sf.out.bel⟩
  · have HP : Hid (0 < Nat.gcd x y) := hgp
    clear hgp
    refine (divMod_198 _ _ x (Nat.gcd x y) _ (T0.out.at (.agg #[.slice ax nx cx]) x) (T0.out.at (.agg #[.slice ag ng cg]) (Nat.gcd x y)) MG.out.1.small HP.out (MG.out.2.1 _ M1.out) M1.out.small).mono ?_
    rintro e wa ⟨vq, vr, rfl, hvq, hvr, hb⟩
    rw [Nat.mod_eq_zero_of_dvd (Nat.gcd_dvd_left x y)] at hvr
    obtain ⟨aqa, nqa, cqa, rfl⟩ := hvq.isAgg
    obtain ⟨ara, nra, cra, rfl⟩ := hvr.isAgg
    have Ua : Hid _ := T0.out.go hb
    have Sa : Hid _ := ((((T0.out.go hb).nat hvq).nat hvr).box (.slice aqa nqa cqa) 26 _ rfl).box (.slice ara nra cra) 26 (wa.heap.size + 1) (by simp)
    clear hvq hvr hb T0 c0 c3
    have c0 := Ua.out.cell b (.slice ax nx cx)
    have c1 := Ua.out.cell (b + 1) (.slice ay ny cy)
    have c3 := Ua.out.cell bg (.slice ag ng cg)
    have hl0 := World.block_lt_of_cell? _ _ c0
    have hl1 := World.block_lt_of_cell? _ _ c1
    have hl3 := World.block_lt_of_cell? _ _ c3
    go_wp2_with fail
    refine (divMod_198 _ _ y (Nat.gcd x y) _ (Sa.out.at (.agg #[.slice ay ny cy]) y) (Sa.out.at (.agg #[.slice ag ng cg]) (Nat.gcd x y)) MG.out.1.small HP.out (MG.out.2.1 _ M2.out) M2.out.small).mono ?_
    rintro e wb ⟨vq, vr, rfl, hvq, hvr, hb⟩
    rw [Nat.mod_eq_zero_of_dvd (Nat.gcd_dvd_right x y)] at hvr
    clear c1 hl0 hl1 hl3 Ua
    obtain ⟨aqb, nqb, cqb, rfl⟩ := hvq.isAgg
    obtain ⟨arb, nrb, crb, rfl⟩ := hvr.isAgg
    have Ub : Hid _ := Sa.out.go hb
    have Sb : Hid _ := ((((Sa.out.go hb).nat hvq).nat hvr).box (.slice aqb nqb cqb) 26 _ rfl).box (.slice arb nrb crb) 26 (wb.heap.size + 1) (by simp)
    clear hvq hvr hb Sa c0 c3
    have c0 := Ub.out.cell b (.slice ax nx cx)
    have c1 := Ub.out.cell (b + 1) (.slice ay ny cy)
    have c3 := Ub.out.cell bg (.slice ag ng cg)
    have hl0 := World.block_lt_of_cell? _ _ c0
    have hl1 := World.block_lt_of_cell? _ _ c1
    have hl3 := World.block_lt_of_cell? _ _ c3
    go_wp2_with fail
    refine (len_any _ (Nat.gcd x y) _ (Sb.out.at (.agg #[.slice ag ng cg]) (Nat.gcd x y)) MG.out.1.fits).mono ?_
    rintro e wc ⟨rfl, hb⟩
    have hbl : ((bitLen (Nat.gcd x y) : Nat) : Int) ≠ 0 := by
      have := bitLen_pos HP.out
      omega
    have hbl' : (((bitLen (Nat.gcd x y) : Nat) : Int) == 0) = false := by simpa using hbl
    have hbl2 : (bitLen (Nat.gcd x y) == 0) = false := by simpa using hbl
    have Sc : Hid _ := Sb.out.go hb
    clear hb Sb c0 c1 c3 hl0 hl1 hl3 Ub hbl
    have c0 := Sc.out.cell (wa.heap.size + 1) (.slice ara nra cra)
    have c1 := Sc.out.cell (wb.heap.size + 1) (.slice arb nrb crb)
    go_wp2_with fail
    refine (len_any _ 0 _ (Sc.out.at (.agg #[.slice ara nra cra]) 0) (tx_word (by omega)).fits).mono ?_
    rintro e wd ⟨rfl, hb⟩
    rw [bitLen_zero]
    have Sd : Hid _ := Sc.out.go hb
    clear hb Sc c0 c1
    have c1 := Sd.out.cell (wb.heap.size + 1) (.slice arb nrb crb)
    go_wp2_with fail
    refine (len_any _ 0 _ (Sd.out.at (.agg #[.slice arb nrb crb]) 0) (tx_word (by omega)).fits).mono ?_
    rintro e we ⟨rfl, hb⟩
    rw [bitLen_zero]
    have Se : Hid _ := Sd.out.go hb
    clear hb Sd c1
    go_wp2_with fail
    refine (started_true _).mono ?_
    rintro e wf ⟨rfl, hb⟩
    have Sf : Hid _ := Se.out.go hb
    clear hb Se
    go_wp2_with fail
    go_ret
    exact ⟨rfl, Sf.out.bel⟩
end Go.Proofs.YtcemholflikecaaDoor

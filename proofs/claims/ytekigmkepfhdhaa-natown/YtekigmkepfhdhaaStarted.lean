/- started: the document's examples. -/
import Derived.Test.YtekigmkepfhdhaaEq
namespace Go.Proofs.Ytekigmkepfhdhaa
open Go.RowKit
set_option maxRecDepth 100000
set_option linter.unusedVariables false
theorem tx_word {x : Nat} (h : x ≤ 18446744073709551616) : Tx x := ⟨Nat.lt_of_le_of_lt h (by decide +kernel)⟩
theorem decLen_big : DecLen 18446744073709551616 20 := ⟨by decide, by decide, .inr (by decide)⟩
theorem decLen_seven : DecLen 7 1 := ⟨by decide, by decide, .inl rfl⟩
theorem dec_big : decText 18446744073709551616 20 = ⟨#[49, 56, 52, 52, 54, 55, 52, 52, 48, 55, 51, 55, 48, 57, 53, 53, 49, 54, 49, 54]⟩ := by decide +kernel
theorem dec_seven : decText 7 1 = ⟨#[55]⟩ := by decide +kernel
theorem digits_007 : Digits ⟨#[48, 48, 55]⟩ 3 := by
  intro i hi
  match i, hi with
  | 0, _ => decide
  | 1, _ => decide
  | 2, _ => decide
theorem byte_256 : byteText 256 = ⟨#[1, 0]⟩ := by decide +kernel
theorem bitLen_big : bitLen 18446744073709551616 = 65 := by decide +kernel
set_option maxHeartbeats 4000000 in
theorem started_true (w : World) : Calls Try.prog 19 #[] w fun e w' => e = .returned (.bool true) ∧ Below w.heap.size w w' := by
  go_enter Try.func19, Try.ntmps19
  go_wp2_with fail
  refine (of_any 18446744073709551615 _ (by omega)).mono ?_
  rintro e w1 ⟨v1, rfl, hv1, hb1⟩
  have B1 : Hid (Below w.heap.size w w1) := hb1
  have X1 : Hid (IsNat w1 v1 18446744073709551615) := hv1
  clear hv1 hb1
  go_wp2_with fail
  refine (of_any 1 _ (by omega)).mono ?_
  rintro e w2 ⟨v2, rfl, hv2, hb2⟩
  have X2 : Hid (IsNat w2 v1 18446744073709551615 ∧ IsNat w2 v2 1 ∧ Below w.heap.size w w2) := ⟨X1.out.mono hb2, hv2, bel_go B1.out hb2⟩
  clear hv2 hb2 B1 X1
  go_wp2_with fail
  refine (add_any _ _ 18446744073709551615 1 _ X2.out.1 X2.out.2.1 (tx_word (by omega)).fits (tx_word (by omega)).fits).mono ?_
  rintro e w3 ⟨v3, rfl, hv3, hb3⟩
  have X3 : Hid (IsNat w3 v3 18446744073709551616 ∧ Below w.heap.size w w3) := ⟨hv3, bel_go X2.out.2.2 hb3⟩
  obtain ⟨a3, n3, c3, rfl⟩ := hv3.isAgg
  clear hv3 hb3 X2
  go_wp2_with fail
  refine (of_any 17 _ (by omega)).mono ?_
  rintro e w4 ⟨v4, rfl, hv4, hb4⟩
  have X4 : Hid (IsNat w4 (.agg #[.slice a3 n3 c3]) 18446744073709551616 ∧ IsNat w4 v4 17 ∧ Below w.heap.size w w4) := ⟨X3.out.1.mono hb4, hv4, bel_go X3.out.2 hb4⟩
  obtain ⟨a4, n4, c4, rfl⟩ := hv4.isAgg
  clear hv4 hb4 X3
  go_wp2_with fail
  have ba := bel_alloc2 w4 (Obj.cells #[Value.slice a3 n3 c3] 27) (Obj.cells #[Value.slice a4 n4 c4] 27)
  have d0 : ((w4.alloc (Obj.cells #[Value.slice a3 n3 c3] 27)).alloc (Obj.cells #[Value.slice a4 n4 c4] 27)).cell? ⟨w4.heap.size, 0, none⟩ = some (.slice a3 n3 c3) := by simp [go_sem]
  have d1 : ((w4.alloc (Obj.cells #[Value.slice a3 n3 c3] 27)).alloc (Obj.cells #[Value.slice a4 n4 c4] 27)).cell? ⟨w4.heap.size + 1, 0, none⟩ = some (.slice a4 n4 c4) := by simp [go_sem]
  obtain ⟨w5, hw5⟩ : ∃ w5, w5 = (w4.alloc (Obj.cells #[Value.slice a3 n3 c3] 27)).alloc (Obj.cells #[Value.slice a4 n4 c4] 27) := ⟨_, rfl⟩
  rw [← hw5] at ba d0 d1 ⊢
  have X5 : Hid (IsNat w5 (.agg #[.slice a3 n3 c3]) 18446744073709551616 ∧ IsNat w5 (.agg #[.slice a4 n4 c4]) 17 ∧ Below w.heap.size w w5) := ⟨X4.out.1.mono ba, X4.out.2.1.mono ba, bel_go X4.out.2.2 ba⟩
  obtain ⟨b0, hb0⟩ : ∃ b0, b0 = w4.heap.size := ⟨_, rfl⟩
  rw [← hb0] at d0 d1 ⊢
  clear hw5 ba X4 hb0
  have hl0 : b0 < w5.heap.size := World.block_lt_of_cell? _ _ d0
  have hl1 : b0 + 1 < w5.heap.size := World.block_lt_of_cell? _ _ d1
  have hl2 : b0 < w5.heap.size + 1 := by omega
  have hl3 : b0 + 1 < w5.heap.size + 1 := by omega
  have hl4 : b0 < w5.heap.size + 1 + 1 := by omega
  have hl5 : b0 + 1 < w5.heap.size + 1 + 1 := by omega
  go_cut [3, 4, 5] (fun p q ok wx => TwoVars w5 wx (17 / 5) (17 % 5) p q ∧ ok = .bool true)
  case first =>
    go_region_held3 (fun w' => w'.cell? ⟨b0 + 1, 0, none⟩ = some (.slice a4 n4 c4)) (first | (simp [go_sem, *]; done) | (trace_state; fail))
      (first
        | (go_at_call 14; refine Calls.mono (of_any 5 _ (by omega)) ?_; rintro e w6 ⟨v6, rfl, hv6, hb6⟩; obtain ⟨a6, n6, c6, rfl⟩ := hv6.isAgg; (first | have ⟨p1, p2, p3, p4, p5, p6, p7, p8, p9⟩ := bel_rules_dr hb6 | have ⟨p1, p2, p3, p4, p5, p6, p7, p8, p9⟩ := bel_rules hb6); have X6 : Hid (IsNat w6 (.agg #[.slice a6 n6 c6]) 5) := hv6; (have B6 : Hid (Below w5.heap.size w5 w6) := bel_go (by repeat (first | exact Below.refl _ _ | refine bel_al ?_ | refine bel_dr ?_)) hb6); have z6 := B6.out.size; have g0 := Nat.lt_of_lt_of_le hl0 z6; have g1 := Nat.lt_of_lt_of_le hl1 z6; (first | have e0 : w5.heap.size < w6.heap.size := lt_al p3 | (have e0 : w5.heap.size < w6.heap.size := lt_al2 p3; have e1 : w5.heap.size + 1 < w6.heap.size := lt_al3 p3) | skip); clear hv6 hb6 z6)
        | (go_at_call 24; refine Calls.mono (divMod_any _ _ 17 5 _ ?_ ?_ (tx_word (by omega)).small (tx_word (by omega)).small (by omega) (.inl (.inl (by decide)))) ?_; (refine IsNat.mono X5.out.2.1 ?_; repeat (first | exact Below.refl _ _ | exact B6.out | refine bel_al ?_ | refine bel_dr ?_)); (refine IsNat.mono X6.out ?_; repeat (first | exact Below.refl _ _ | refine bel_al ?_ | refine bel_dr ?_)); rintro e w7 ⟨v7, u7, rfl, hv7, hu7, hb7⟩; obtain ⟨a7, n7, c7, rfl⟩ := hv7.isAgg; obtain ⟨a8, n8, c8, rfl⟩ := hu7.isAgg; (first | have ⟨q1, q2, q3, q4, q5, q6, q7, q8, q9⟩ := bel_rules_dr hb7 | have ⟨q1, q2, q3, q4, q5, q6, q7, q8, q9⟩ := bel_rules hb7); have X7 : Hid (IsNat w7 (.agg #[.slice a7 n7 c7]) (17 / 5) ∧ IsNat w7 (.agg #[.slice a8 n8 c8]) (17 % 5)) := ⟨hv7, hu7⟩; (have B7 : Hid (Below w6.heap.size w6 w7) := bel_go (by repeat (first | exact Below.refl _ _ | refine bel_al ?_ | refine bel_dr ?_)) hb7); have z7 := B7.out.size; have g2 := Nat.lt_of_lt_of_le g0 z7; have g3 := Nat.lt_of_lt_of_le g1 z7; (try have e2 := Nat.lt_of_lt_of_le e0 z7); (try have e3 := Nat.lt_of_lt_of_le e1 z7); (first | have e4 : w6.heap.size < w7.heap.size := lt_al q3 | (have e4 : w6.heap.size < w7.heap.size := lt_al2 q3; have e5 : w6.heap.size + 1 < w7.heap.size := lt_al3 q3) | skip); clear hv7 hu7 hb7 z7))
    all_goals (have y3 := B6.out.size; have y4 := B7.out.size)
    all_goals go_wp2_with fail
    all_goals go_meet
    all_goals go_light
    all_goals clear d0 d1 X5 X6
    all_goals (have BB := bel_go B6.out B7.out)
    all_goals (have X8 := X7.out.1)
    all_goals (have X9 := X7.out.2)
    all_goals clear X7 B6 B7
    all_goals refine ⟨⟨_, _, a7, n7, c7, a8, n8, c8, rfl, rfl, ?_, ?_, ?_, ?_, ?_, ?_, ?_⟩, rfl⟩
    all_goals try (simp (config := { maxDischargeDepth := 9 }) [go_sem, *]; done)
    all_goals try (repeat (first | exact BB | refine bel_al ?_ | refine bel_st ?_ (Nat.le_trans ?_ (Nat.le_refl _))))
    all_goals try (repeat (first | exact X8 | exact X9 | refine IsNat.mono ?_ (bel_al (Below.refl _ _)) | refine IsNat.setCell ?_ (no_int_slice (a := none) (n := 0) (c := 0) ?_) _))
    all_goals try omega
    all_goals try (simp (config := { maxDischargeDepth := 9 }) [go_sem, *]; done)
    all_goals (dsimp only; omega)
  case rest =>
    obtain ⟨⟨bp, bq, a7, n7, c7, a8, n8, c8, rfl, rfl, k0, k1, hv7, hu7, hB, lp, lq⟩, rfl⟩ := hcut
    have m0 : wc.cell? ⟨b0, 0, none⟩ = some (.slice a3 n3 c3) := cell_later hB d0
    have X6 : Hid (IsNat wc (.agg #[.slice a7 n7 c7]) 3 ∧ IsNat wc (.agg #[.slice a8 n8 c8]) 2 ∧ IsNat wc (.agg #[.slice a3 n3 c3]) 18446744073709551616 ∧ Below w.heap.size w wc) := ⟨hv7, hu7, X5.out.1.mono hB, bel_go X5.out.2.2 hB⟩
    clear hv7 hu7 hB lp lq X5 d0 d1 hl0 hl1 hl2 hl3 hl4 hl5
    go_wp2_with fail
    refine (uint_yes _ 3 _ X6.out.1 (by omega)).mono ?_
    rintro e w8 ⟨rfl, hb8⟩
    have k2 := cell_later hb8 k1
    have m2 := cell_later hb8 m0
    have X8 : Hid (IsNat w8 (.agg #[.slice a8 n8 c8]) 2 ∧ IsNat w8 (.agg #[.slice a3 n3 c3]) 18446744073709551616 ∧ Below w.heap.size w w8) := ⟨X6.out.2.1.mono hb8, X6.out.2.2.1.mono hb8, bel_go X6.out.2.2.2 hb8⟩
    clear hb8 X6 k0 k1 m0
    go_wp2_with fail
    refine (uint_yes _ 2 _ X8.out.1 (by omega)).mono ?_
    rintro e w9 ⟨rfl, hb9⟩
    have m3 := cell_later hb9 m2
    have X9 : Hid (IsNat w9 (.agg #[.slice a3 n3 c3]) 18446744073709551616 ∧ Below w.heap.size w w9) := ⟨X8.out.2.1.mono hb9, bel_go X8.out.2.2 hb9⟩
    clear hb9 X8 k2 m2
    go_wp2_with fail
    refine (parse_digits ⟨#[48, 48, 55]⟩ 7 _ (by decide) (by decide) digits_007 (by decide)).mono ?_
    rintro e w10 ⟨v10, rfl, hv10, hb10⟩
    obtain ⟨az, nz, cz, rfl⟩ := hv10.isAgg
    have m4 := cell_later hb10 m3
    have X10 : Hid (IsNat w10 (.agg #[.slice az nz cz]) 7 ∧ IsNat w10 (.agg #[.slice a3 n3 c3]) 18446744073709551616 ∧ Below w.heap.size w w10) := ⟨hv10, X9.out.1.mono hb10, bel_go X9.out.2 hb10⟩
    clear hb10 X9 m3 hv10
    go_wp2_with fail
    have ba : Below w10.heap.size w10 (w10.alloc (Obj.cells #[Value.slice az nz cz] 27)) := (Below.refl _ _).alloc (Nat.le_refl _) _
    have z0 : (w10.alloc (Obj.cells #[Value.slice az nz cz] 27)).cell? ⟨w10.heap.size, 0, none⟩ = some (.slice az nz cz) := by simp [go_sem]
    refine (of_any 1 _ (by omega)).mono ?_
    rintro e w11 ⟨v11, rfl, hv11, hb11⟩
    have m5 := cell_later hb11 (cell_later ba m4)
    have z1 := cell_later hb11 z0
    have X11 : Hid (IsNat w11 v11 1 ∧ IsNat w11 (.agg #[.slice az nz cz]) 7 ∧ IsNat w11 (.agg #[.slice a3 n3 c3]) 18446744073709551616 ∧ Below w.heap.size w w11) := ⟨hv11, (X10.out.1.mono ba).mono hb11, (X10.out.2.1.mono ba).mono hb11, bel_go X10.out.2.2 (bel_go ba hb11)⟩
    obtain ⟨bz, hbz⟩ : ∃ bz, bz = w10.heap.size := ⟨_, rfl⟩
    rw [← hbz] at z1 ⊢
    clear hb11 hv11 ba z0 m4 X10 hbz
    go_wp2_with fail
    refine (left_far _ 1 16777217 _ X11.out.1 (tx_word (by omega)).fits (by omega) (by omega) (by omega)).mono ?_
    rintro e w12 ⟨v12, rfl, hv12, hb12⟩
    obtain ⟨af, nf, cf, rfl⟩ := hv12.isAgg
    have ba : Below w12.heap.size w12 (w12.alloc (Obj.cells #[Value.slice af nf cf] 27)) := (Below.refl _ _).alloc (Nat.le_refl _) _
    have m6 := cell_later ba (cell_later hb12 m5)
    have z2 := cell_later ba (cell_later hb12 z1)
    have X12 : Hid (IsNat (w12.alloc (Obj.cells #[Value.slice af nf cf] 27)) (.agg #[.slice az nz cz]) 7 ∧ IsNat (w12.alloc (Obj.cells #[Value.slice af nf cf] 27)) (.agg #[.slice a3 n3 c3]) 18446744073709551616 ∧ Below w.heap.size w (w12.alloc (Obj.cells #[Value.slice af nf cf] 27))) := ⟨(X11.out.2.1.mono hb12).mono ba, (X11.out.2.2.1.mono hb12).mono ba, bel_go X11.out.2.2.2 (bel_go hb12 ba)⟩
    clear hb12 hv12 ba m5 z1 X11
    go_wp2_with fail
    refine (text_any _ 18446744073709551616 _ X12.out.2.1 (tx_word (by omega))).mono ?_
    rintro e w13 ⟨k13, rfl, hk13, hb13⟩
    rw [hk13.unique decLen_big, dec_big]
    have m7 := cell_later hb13 m6
    have z3 := cell_later hb13 z2
    have X13 : Hid (IsNat w13 (.agg #[.slice az nz cz]) 7 ∧ IsNat w13 (.agg #[.slice a3 n3 c3]) 18446744073709551616 ∧ Below w.heap.size w w13) := ⟨X12.out.1.mono hb13, X12.out.2.1.mono hb13, bel_go X12.out.2.2 hb13⟩
    clear hb13 hk13 m6 z2 X12
    go_wp2_with fail
    refine (len_any _ 18446744073709551616 _ X13.out.2.1 (tx_word (by omega)).fits).mono ?_
    rintro e w14 ⟨rfl, hb14⟩
    rw [bitLen_big]
    have z4 := cell_later hb14 z3
    have X14 : Hid (IsNat w14 (.agg #[.slice az nz cz]) 7 ∧ Below w.heap.size w w14) := ⟨X13.out.1.mono hb14, bel_go X13.out.2.2 hb14⟩
    clear hb14 m7 z3 X13
    go_wp2_with fail
    refine (text_any _ 7 _ X14.out.1 (tx_word (by omega))).mono ?_
    rintro e w15 ⟨k15, rfl, hk15, hb15⟩
    rw [hk15.unique decLen_seven, dec_seven]
    have X15 : Hid (Below w.heap.size w w15) := bel_go X14.out.2 hb15
    clear hb15 hk15 z4 X14
    go_wp2_with fail
    refine (of_any 256 _ (by omega)).mono ?_
    rintro e w16 ⟨v16, rfl, hv16, hb16⟩
    have X16 : Hid (IsNat w16 v16 256 ∧ Below w.heap.size w w16) := ⟨hv16, bel_go X15.out hb16⟩
    clear hb16 hv16 X15
    go_wp2_with fail
    refine (bytes_any _ 256 _ X16.out.1 (tx_word (by omega)).fits).mono ?_
    rintro e w17 ⟨g17, rfl, hg17, hR17, hb17⟩
    have cv := conv_b hR17
    rw [byte_256] at cv
    have X17 : Hid (Below w.heap.size w w17) := bel_go X16.out.2 hb17
    clear hb17 hR17 hg17 X16
    go_wp2_with fail
    go_ret
    exact ⟨rfl, X17.out⟩
end Go.Proofs.Ytekigmkepfhdhaa

/- Contracts of the program's functions, part 12: own work, joined in build order. -/
import Derived.Test.YtkhdapmipcghoaaDoorJ11
namespace Go.Proofs.YtkhdapmipcghoaaDoor
open Go.RowKit
set_option maxRecDepth 100000
set_option linter.unusedVariables false
theorem cmp_is {x y : Nat} {z : Int} (h : cmpI x y = z) (hx : RFits x) (hy : RFits y) : ∀ v u w, RNat w v (x) → RNat w u (y) → Calls Tryd.prog 35 #[v, u] w fun e w' => e = .returned (.int .i64 z) ∧ Below w.heap.size w w' := fun v u w h1 h2 => by
  rw [← h]
  exact rcmp_any v u x y w h1 h2 hx hy
theorem cmpI_self (x : Nat) : cmpI x x = 0 := by unfold cmpI; rw [if_neg (Nat.lt_irrefl _), if_pos rfl]
theorem ceil_low {p q : Nat} (hq : 0 < q) (hg : Nat.gcd p q = 1) : ceilN p q = if q = 1 then p / q else p / q + 1 := by
  unfold ceilN
  by_cases h : q = 1
  · subst h
    rw [if_pos (Nat.mod_one p), if_pos rfl]
  · rw [if_neg h, if_neg]
    intro h0
    have := Nat.gcd_eq_right (Nat.dvd_of_mod_eq_zero h0)
    omega
theorem rs_mul_rfits {x y : Nat} (h : RS x) (k : RS y) : RFits (x * y) := rfits_P (h.mul k) (by omega)
theorem rs_succ {x : Nat} (h : x < P 89) : RS (x + 1) := ⟨by have h2 : P 89 < P 90 := P_lt (by omega); omega⟩
set_option maxHeartbeats 16000000 in
theorem ratForm_true (a0 : Option Addr) (l0 k0 : Nat) (D0 : Nat → Nat) (a9 : Option Addr) (l9 k9 : Nat) (D9 : Nat → Nat) (w : World) (hB0 : BSl w a0 l0 k0 D0) (hB9 : BSl w a9 l9 k9 D9) (hT : Tab w) :
    Calls Tryd.prog 5 #[.agg #[.slice a0 l0 k0, .slice a9 l9 k9]] w fun e w' => e = .returned (.bool true) ∧ Below w.heap.size w w' := by
  obtain ⟨m0, x, f0⟩ := fed_of hB0
  obtain ⟨m9, y, f9⟩ := fed_of hB9
  obtain ⟨Y, eY⟩ : ∃ Y, Y = orOne y := ⟨_, rfl⟩
  have hY15 : Y < P 15 := by rw [eY]; exact orOne_15 f9.rs
  have hY0 : 0 < Y := by rw [eY]; exact orOne_pos y
  obtain ⟨t1, t2, t3⟩ := low_terms x Y hY0
  have MD0 : ∀ w', Below w.heap.size w w' → Calls Tryd.prog 12 #[.agg #[.slice a0 l0 k0, .slice a9 l9 k9]] w' (MakesM w' (x / Nat.gcd x Y) (Y / Nat.gcd x Y)) := fun w' hb => by
    rw [eY]
    exact made_true a0 l0 k0 a9 l9 k9 m0 m9 x y w' (f0.go hb) (f9.go hb) (hT.go hb)
  have p15 : x / Nat.gcd x Y < P 15 := Nat.lt_of_le_of_lt (Nat.div_le_self _ _) f0.rs
  have q15 : Y / Nat.gcd x Y < P 15 := Nat.lt_of_le_of_lt (Nat.div_le_self _ _) hY15
  generalize x / Nat.gcd x Y = P2 at t1 t2 t3 MD0 p15
  generalize Y / Nat.gcd x Y = Q2 at t1 t2 t3 MD0 q15
  have MD : Hid _ := MD0
  have hP : RS P2 := rs15 p15
  have hQ : RS Q2 := rs15 q15
  have hL : P2 / Q2 < P 89 := Nat.lt_of_le_of_lt (Nat.div_le_self _ _) (Nat.lt_trans p15 (P_lt (by omega)))
  have hL1 : RS (P2 / Q2 + 1) := rs_succ hL
  have hL0 : RS (P2 / Q2) := hL1.le (by omega)
  have hce : ceilN P2 Q2 ≤ P2 / Q2 + 1 := by unfold ceilN; split <;> omega
  have hC : RS (ceilN P2 Q2) := hL1.le hce
  have hone : RS 1 := rs_word (by omega)
  have e3 : P2 / Q2 * Q2 ≤ P2 := Nat.div_mul_le_self _ _
  have e4 : P2 < (P2 / Q2 + 1) * Q2 := by rw [Nat.mul_comm]; exact Nat.lt_mul_div_succ _ t3
  have FF : Hid (Fed w a0 l0 k0 m0 x ∧ Fed w a9 l9 k9 m9 y ∧ Tab w) := ⟨f0, f9, hT⟩
  have MM : Hid (RS P2 ∧ RS Q2 ∧ 0 < Q2 ∧ RS x ∧ RS Y ∧ RS (P2 / Q2) ∧ RS (P2 / Q2 + 1) ∧ RS (ceilN P2 Q2) ∧ RS y) := ⟨hP, hQ, t3, rs15 f0.rs, rs15 hY15, hL0, hL1, hC, rs15 f9.rs⟩
  have BL : Hid (∀ z, RS z → byteLen z ≤ 1099511627776) := fun z hz => by have := byteLen_P hz.lt; omega
  have K1 : Hid (∀ v u w, RNat w v (Nat.gcd P2 Q2) → RNat w u (1) → Calls Tryd.prog 35 #[v, u] w fun e w' => e = .returned (.int .i64 0) ∧ Below w.heap.size w w') := cmp_is (by rw [t1]; exact cmpI_self 1) (by rw [t1]; exact hone.rfits) hone.rfits
  have K2 : Hid (∀ v u w, RNat w v (P2 * Y) → RNat w u (x * Q2) → Calls Tryd.prog 35 #[v, u] w fun e w' => e = .returned (.int .i64 0) ∧ Below w.heap.size w w') := cmp_is (by rw [t2]; exact cmpI_self _) (rs_mul_rfits hP (rs15 hY15)) (rs_mul_rfits (rs15 f0.rs) hQ)
  obtain ⟨k3, ek3⟩ : ∃ k3, k3 = cmpI (P2 / Q2 * Q2) P2 := ⟨_, rfl⟩
  have hk3 : k3 ≤ 0 := by
    rw [ek3]
    unfold cmpI
    split
    · omega
    · split <;> omega
  have K3 : Hid (∀ v u w, RNat w v (P2 / Q2 * Q2) → RNat w u (P2) → Calls Tryd.prog 35 #[v, u] w fun e w' => e = .returned (.int .i64 k3) ∧ Below w.heap.size w w') := cmp_is ek3.symm (rs_mul_rfits hL0 hQ) hP.rfits
  have K4 : Hid (∀ v u w, RNat w v ((P2 / Q2 + 1) * Q2) → RNat w u (P2) → Calls Tryd.prog 35 #[v, u] w fun e w' => e = .returned (.int .i64 1) ∧ Below w.heap.size w w') := cmp_is (by unfold cmpI; rw [if_neg (by omega), if_neg (by omega)]) (rs_mul_rfits hL1 hQ) hP.rfits
  have K6 : Hid (Q2 = 1 → ∀ v u w, RNat w v (P2 / Q2) → RNat w u (ceilN P2 Q2) → Calls Tryd.prog 35 #[v, u] w fun e w' => e = .returned (.int .i64 0) ∧ Below w.heap.size w w') := fun hq => cmp_is (by rw [ceil_low t3 t1, if_pos hq]; exact cmpI_self _) hL0.rfits hC.rfits
  have K7 : Hid (Q2 ≠ 1 → ∀ v u w, RNat w v (P2 / Q2 + 1) → RNat w u (ceilN P2 Q2) → Calls Tryd.prog 35 #[v, u] w fun e w' => e = .returned (.int .i64 0) ∧ Below w.heap.size w w') := fun hq => cmp_is (by rw [ceil_low t3 t1, if_neg hq]; exact cmpI_self _) hL1.rfits hC.rfits
  have EY : Hid (Y = orOne y) := eY
  have S0 : Hid _ := (sx_start w).box (.slice a0 l0 k0) (.slice a9 l9 k9) 24 _ rfl
  clear f0 f9 hT hB0 hB9 hY15 hY0 t1 t2 t3 MD0 p15 q15 hP hQ hL hL1 hL0 hce hC hone e3 e4 ek3 eY
  go_enter Tryd.func5, Tryd.ntmps5
  go_wp2_with fail
  obtain ⟨w0, hw0⟩ : ∃ w0, w0 = w.alloc (.cells #[.slice a0 l0 k0, .slice a9 l9 k9] 24) := ⟨_, rfl⟩
  obtain ⟨b0, hb0⟩ : ∃ b0, b0 = w.heap.size := ⟨_, rfl⟩
  rw [← hw0, ← hb0] at S0
  rw [← hw0, ← hb0]
  clear hw0 hb0
  refine (MD.out _ S0.out.bel).mono ?_
  rintro e v5w ⟨v5, v6, rfl, hv, hu, hb⟩
  obtain ⟨a5, n5, c5, d5, m5, g5, ev, _, _⟩ := hv.raw
  subst ev
  obtain ⟨a6, n6, c6, d6, m6, g6, ev, _, _⟩ := id hu
  subst ev
  have S5 : Hid _ := (((S0.out.go hb).addF hv).box (.slice a5 n5 c5) (.slice d5 m5 g5) 29 _ rfl).box (.slice a6 n6 c6) (.slice d6 m6 g6) 35 _ rfl
  clear hv hu hb S0
  simp only [World.size_alloc] at S5
  go_wp2_with fail
  obtain ⟨w5, hw⟩ : ∃ w5, w5 = (v5w.alloc (.cells #[.slice a5 n5 c5, .slice d5 m5 g5] 29)).alloc (.cells #[.slice a6 n6 c6, .slice d6 m6 g6] 35) := ⟨_, rfl⟩
  obtain ⟨b5, hb⟩ : ∃ b5, b5 = v5w.heap.size := ⟨_, rfl⟩
  rw [← hw, ← hb] at S5
  rw [← hw, ← hb]
  clear hw hb
  refine (parts_any _ P2 Q2 _ (S5.out.fr (.agg #[.slice a5 n5 c5, .slice d5 m5 g5]) P2 Q2) MM.out.2.1.fits).mono ?_
  rintro e v7w ⟨v7, v8, rfl, hv, hu, hb⟩
  obtain ⟨a7, n7, c7, rfl⟩ := hv.isAgg
  obtain ⟨a8, n8, c8, rfl⟩ := hu.isAgg
  have S7 : Hid _ := ((((S5.out.go hb).addN hv).addN hu).box1 (.slice a7 n7 c7) 27 _ rfl).box1 (.slice a8 n8 c8) 27 _ rfl
  clear hv hu hb S5
  simp only [World.size_alloc] at S7
  go_wp2_with fail
  obtain ⟨w7, hw⟩ : ∃ w7, w7 = (v7w.alloc (.cells #[.slice a7 n7 c7] 27)).alloc (.cells #[.slice a8 n8 c8] 27) := ⟨_, rfl⟩
  obtain ⟨b7, hb⟩ : ∃ b7, b7 = v7w.heap.size := ⟨_, rfl⟩
  rw [← hw, ← hb] at S7
  rw [← hw, ← hb]
  clear hw hb
  obtain ⟨b8, hb⟩ : ∃ b8, b8 = b7 + 1 := ⟨_, rfl⟩
  rw [← hb] at S7
  rw [← hb]
  clear hb
  refine wp_region_inv (JB w7 [sNat (P2), sBy (P2), sR (P2), sNat (Q2), sBy (Q2), sR (Q2), sAny, sAny, sAny, sAny] [(6, 8, 2), (7, 9, 5)]) 101 (by kernel_rfl) rfl (by kernel_rfl) (JB.start _ _ _) (fun HG HN => ⟨?_, ?_, ?_, ?_, ?_, ?_, ?_, ?_, ?_, ?_, trivial⟩) ?_
  · intro L vs a w' hJ hF hP hL
    have q5 : (a.tmps[5]?).getD undef = .pointer (some ⟨b7, 0, none⟩) := hF.old 5 rfl
    have cb := cell_later hJ.bel (S7.out.cell (b7) (.slice a7 n7 c7))
    exact run_val (v := .agg #[.slice a7 n7 c7]) rfl (by simp [execOp, go_sem, q5, cb]) ⟨_, rfl, hJ.step hL rfl (Below.refl _ _) (by exact ((S7.out.at (.agg #[.slice a7 n7 c7]) (P2)).mono hJ.bel))⟩
  · intro L vs a w' hJ hF hP hL
    have p0 : L 0 = true := hP ⟨0, .data⟩ (by simp) rfl
    have s0 : IsNat w' (vs 0) (P2) := hJ.sp 0 p0
    have q25 := hF.slot 0 25 rfl p0
    refine run_call (f := 32) (args := #[vs 0]) rfl (by simp [go_sem, q25]) (bytes_any _ P2 _ s0 MM.out.1.fits) ?_
    rintro e w2 ⟨gb, rfl, hg, hR, hb⟩
    exact ⟨_, rfl, _, rfl, hJ.step hL rfl hb (by exact ⟨gb, rfl, fun i hi => hR.cell hi⟩)⟩
  · intro L vs a w' hJ hF hP hL
    have p1 : L 1 = true := hP ⟨1, .data⟩ (by simp) rfl
    have s1 : ByIs w' (vs 1) (P2) := hJ.sp 1 p1
    have q26 := hF.slot 1 26 rfl p1
    refine run_call (f := 17) (args := #[vs 1]) rfl (by simp [go_sem, q26]) (rfrom_by _ P2 _ s1 (BL.out _ MM.out.1)) ?_
    rintro e w2 ⟨v, rfl, hv, hb⟩
    exact ⟨_, rfl, _, rfl, hJ.step hL rfl hb (by exact hv)⟩
  · intro L vs a w' hJ hF hP hL
    have q6 : (a.tmps[6]?).getD undef = .pointer (some ⟨b8, 0, none⟩) := hF.old 6 rfl
    have cb := cell_later hJ.bel (S7.out.cell (b8) (.slice a8 n8 c8))
    exact run_val (v := .agg #[.slice a8 n8 c8]) rfl (by simp [execOp, go_sem, q6, cb]) ⟨_, rfl, hJ.step hL rfl (Below.refl _ _) (by exact ((S7.out.at (.agg #[.slice a8 n8 c8]) (Q2)).mono hJ.bel))⟩
  · intro L vs a w' hJ hF hP hL
    have p3 : L 3 = true := hP ⟨3, .data⟩ (by simp) rfl
    have s3 : IsNat w' (vs 3) (Q2) := hJ.sp 3 p3
    have q28 := hF.slot 3 28 rfl p3
    refine run_call (f := 32) (args := #[vs 3]) rfl (by simp [go_sem, q28]) (bytes_any _ Q2 _ s3 MM.out.2.1.fits) ?_
    rintro e w2 ⟨gb, rfl, hg, hR, hb⟩
    exact ⟨_, rfl, _, rfl, hJ.step hL rfl hb (by exact ⟨gb, rfl, fun i hi => hR.cell hi⟩)⟩
  · intro L vs a w' hJ hF hP hL
    have p4 : L 4 = true := hP ⟨4, .data⟩ (by simp) rfl
    have s4 : ByIs w' (vs 4) (Q2) := hJ.sp 4 p4
    have q29 := hF.slot 4 29 rfl p4
    refine run_call (f := 17) (args := #[vs 4]) rfl (by simp [go_sem, q29]) (rfrom_by _ Q2 _ s4 (BL.out _ MM.out.2.1)) ?_
    rintro e w2 ⟨v, rfl, hv, hb⟩
    exact ⟨_, rfl, _, rfl, hJ.step hL rfl hb (by exact hv)⟩
  · intro L vs a w' hJ hF hP hL
    exact run_val (v := .pointer (some ⟨w'.heap.size, 0, none⟩)) (w' := w'.alloc (.cells #[.slice none 0 0] 33)) rfl (by simp [execOp, go_sem]) ⟨_, rfl, hJ.alloc hL rfl rfl _⟩
  · intro L vs a w' hJ hF hP hL
    exact run_val (v := .pointer (some ⟨w'.heap.size, 0, none⟩)) (w' := w'.alloc (.cells #[.slice none 0 0] 33)) rfl (by simp [execOp, go_sem]) ⟨_, rfl, hJ.alloc hL rfl rfl _⟩
  · intro L vs a w' hJ hF hP hL
    have p6 : L 6 = true := hP ⟨6, .data⟩ (by simp) rfl
    have q7 := hF.slot 6 7 rfl p6
    have p2 : L 2 = true := hP ⟨2, .data⟩ (by simp) rfl
    have s2 : RNat w' (vs 2) (P2) := hJ.sp 2 p2
    have q27 := hF.slot 2 27 rfl p2
    obtain ⟨bk, e1, e2, e3, e4, e5, e6⟩ := hJ.bx (6, 8, 2) (by simp) p6
    have e7 := e5 hL
    obtain ⟨aa, nn, cc, e8⟩ := s2.isAgg
    exact run_unit (w' := w'.setCell ⟨bk, 0, none⟩ (.slice aa nn cc)) rfl (by simp [execOp, go_sem, q7, q27, e1, e8, e7, e4]) ⟨undef, rfl, hJ.store (b := (6, 8, 2)) (by simp) hL p6 p2 (by decide) rfl e1 e8⟩
  · intro L vs a w' hJ hF hP hL
    have p7 : L 7 = true := hP ⟨7, .data⟩ (by simp) rfl
    have q8 := hF.slot 7 8 rfl p7
    have p5 : L 5 = true := hP ⟨5, .data⟩ (by simp) rfl
    have s5 : RNat w' (vs 5) (Q2) := hJ.sp 5 p5
    have q30 := hF.slot 5 30 rfl p5
    obtain ⟨bk, e1, e2, e3, e4, e5, e6⟩ := hJ.bx (7, 9, 5) (by simp) p7
    have e7 := e5 hL
    obtain ⟨aa, nn, cc, e8⟩ := s5.isAgg
    exact run_unit (w' := w'.setCell ⟨bk, 0, none⟩ (.slice aa nn cc)) rfl (by simp [execOp, go_sem, q8, q30, e1, e8, e7, e4]) ⟨undef, rfl, hJ.store (b := (7, 9, 5)) (by simp) hL p7 p5 (by decide) rfl e1 e8⟩
  intro L vs w' hA hJ
  have s2 : RNat w' (vs 2) (P2) := hJ.sp 2 (hA 2 (by simp))
  have s5 : RNat w' (vs 5) (Q2) := hJ.sp 5 (hA 5 (by simp))
  obtain ⟨bk6, eb6, ge6, lt6, fz6, _, e6⟩ := hJ.bx (6, 8, 2) (by simp) (hA 6 (by simp))
  obtain ⟨_, u6, eu6, ce6⟩ := e6 (hA 8 (by simp))
  clear e6
  obtain ⟨bk7, eb7, ge7, lt7, fz7, _, e6⟩ := hJ.bx (7, 9, 5) (by simp) (hA 7 (by simp))
  obtain ⟨_, u7, eu7, ce7⟩ := e6 (hA 9 (by simp))
  clear e6
  simp only [putL, Act.put, List.setIfInBounds_toArray, List.set_cons_zero, List.set_cons_succ, Nat.reduceAdd]
  obtain ⟨a10, n10, c10, q1⟩ := s2.isAgg
  obtain ⟨a11, n11, c11, q2⟩ := s5.isAgg
  rw [q1] at s2 eu6
  rw [q2] at s5 eu7
  obtain rfl : u6 = .slice a10 n10 c10 := by simpa using eu6.symm
  obtain rfl : u7 = .slice a11 n11 c11 := by simpa using eu7.symm
  simp only [eb6, eb7]
  obtain ⟨w10, ew⟩ : ∃ w10, w10 = w' := ⟨_, rfl⟩
  obtain ⟨b10, e1⟩ : ∃ b10, b10 = bk6 := ⟨_, rfl⟩
  obtain ⟨b11, e2⟩ : ∃ b11, b11 = bk7 := ⟨_, rfl⟩
  have S10 : Hid _ := (((((S7.out.go hJ.bel).addM s2).addM s5).addC ce6).addC ce7)
  rw [← ew, ← e1, ← e2] at S10
  rw [← ew, ← e1, ← e2]
  clear ew e1 e2 q1 q2 s2 s5 eu6 eu7 eb6 eb7 ce6 ce7 ge6 ge7 lt6 lt7 fz6 fz7 hJ hA S7
  go_wp2_with fail
  refine wp_region_inv (JB w10 [sEq (.pointer (some ⟨b0, 0, none⟩)), sEq (.slice a0 l0 k0), sEq (.slice a0 m0 k0), sR (x), sEq (.pointer (some ⟨b0, 1, none⟩)), sEq (.slice a9 l9 k9), sEq (.slice a9 m9 k9), sR (y), sAny, sAny, sAny, sAny] [(8, 10, 3), (9, 11, 7)]) 101 (by kernel_rfl) rfl (by kernel_rfl) (JB.start _ _ _) (fun HG HN => ⟨?_, ?_, ?_, ?_, ?_, ?_, ?_, ?_, ?_, ?_, ?_, ?_, trivial⟩) ?_
  · intro L vs a w' hJ hF hP hL
    have q1 : (a.tmps[1]?).getD undef = .pointer (some ⟨b0, 0, none⟩) := hF.old 1 rfl
    exact run_val (v := .pointer (some ⟨b0, 0, none⟩)) rfl (by simp [execOp, go_sem, q1]) ⟨_, rfl, hJ.step hL rfl (Below.refl _ _) (by exact rfl)⟩
  · intro L vs a w' hJ hF hP hL
    have p0 : L 0 = true := hP ⟨0, .data⟩ (by simp) rfl
    have s0 : vs 0 = .pointer (some ⟨b0, 0, none⟩) := hJ.sp 0 p0
    have q31 := hF.slot 0 31 rfl p0
    have cb := cell_later hJ.bel (S10.out.cel (b0) 0 (.slice a0 l0 k0))
    exact run_val (v := .slice a0 l0 k0) rfl (by simp [execOp, go_sem, q31, s0, cb]) ⟨_, rfl, hJ.step hL rfl (Below.refl _ _) (by exact rfl)⟩
  · intro L vs a w' hJ hF hP hL
    have p1 : L 1 = true := hP ⟨1, .data⟩ (by simp) rfl
    have s1 : vs 1 = .slice a0 l0 k0 := hJ.sp 1 p1
    have q32 := hF.slot 1 32 rfl p1
    refine run_call (f := 15) (args := #[.slice a0 l0 k0]) rfl (by simp [go_sem, q32, s1]) (FF.out.1.cut _ (bel_go S10.out.bel hJ.bel)) ?_
    rintro e w2 ⟨rfl, hb⟩
    exact ⟨_, rfl, _, rfl, hJ.step hL rfl hb (by exact rfl)⟩
  · intro L vs a w' hJ hF hP hL
    have p2 : L 2 = true := hP ⟨2, .data⟩ (by simp) rfl
    have s2 : vs 2 = .slice a0 m0 k0 := hJ.sp 2 p2
    have q33 := hF.slot 2 33 rfl p2
    refine run_call (f := 17) (args := #[.slice a0 m0 k0]) rfl (by simp [go_sem, q33, s2]) (FF.out.1.ref _ (bel_go S10.out.bel hJ.bel)) ?_
    rintro e w2 ⟨v, rfl, hv, hb⟩
    exact ⟨_, rfl, _, rfl, hJ.step hL rfl hb (by exact hv)⟩
  · intro L vs a w' hJ hF hP hL
    have q1 : (a.tmps[1]?).getD undef = .pointer (some ⟨b0, 0, none⟩) := hF.old 1 rfl
    exact run_val (v := .pointer (some ⟨b0, 1, none⟩)) rfl (by simp [execOp, go_sem, q1]) ⟨_, rfl, hJ.step hL rfl (Below.refl _ _) (by exact rfl)⟩
  · intro L vs a w' hJ hF hP hL
    have p4 : L 4 = true := hP ⟨4, .data⟩ (by simp) rfl
    have s4 : vs 4 = .pointer (some ⟨b0, 1, none⟩) := hJ.sp 4 p4
    have q35 := hF.slot 4 35 rfl p4
    have cb := cell_later hJ.bel (S10.out.cel (b0) 1 (.slice a9 l9 k9))
    exact run_val (v := .slice a9 l9 k9) rfl (by simp [execOp, go_sem, q35, s4, cb]) ⟨_, rfl, hJ.step hL rfl (Below.refl _ _) (by exact rfl)⟩
  · intro L vs a w' hJ hF hP hL
    have p5 : L 5 = true := hP ⟨5, .data⟩ (by simp) rfl
    have s5 : vs 5 = .slice a9 l9 k9 := hJ.sp 5 p5
    have q36 := hF.slot 5 36 rfl p5
    refine run_call (f := 15) (args := #[.slice a9 l9 k9]) rfl (by simp [go_sem, q36, s5]) (FF.out.2.1.cut _ (bel_go S10.out.bel hJ.bel)) ?_
    rintro e w2 ⟨rfl, hb⟩
    exact ⟨_, rfl, _, rfl, hJ.step hL rfl hb (by exact rfl)⟩
  · intro L vs a w' hJ hF hP hL
    have p6 : L 6 = true := hP ⟨6, .data⟩ (by simp) rfl
    have s6 : vs 6 = .slice a9 m9 k9 := hJ.sp 6 p6
    have q37 := hF.slot 6 37 rfl p6
    refine run_call (f := 17) (args := #[.slice a9 m9 k9]) rfl (by simp [go_sem, q37, s6]) (FF.out.2.1.ref _ (bel_go S10.out.bel hJ.bel)) ?_
    rintro e w2 ⟨v, rfl, hv, hb⟩
    exact ⟨_, rfl, _, rfl, hJ.step hL rfl hb (by exact hv)⟩
  · intro L vs a w' hJ hF hP hL
    exact run_val (v := .pointer (some ⟨w'.heap.size, 0, none⟩)) (w' := w'.alloc (.cells #[.slice none 0 0] 33)) rfl (by simp [execOp, go_sem]) ⟨_, rfl, hJ.alloc hL rfl rfl _⟩
  · intro L vs a w' hJ hF hP hL
    exact run_val (v := .pointer (some ⟨w'.heap.size, 0, none⟩)) (w' := w'.alloc (.cells #[.slice none 0 0] 33)) rfl (by simp [execOp, go_sem]) ⟨_, rfl, hJ.alloc hL rfl rfl _⟩
  · intro L vs a w' hJ hF hP hL
    have p8 : L 8 = true := hP ⟨8, .data⟩ (by simp) rfl
    have q9 := hF.slot 8 9 rfl p8
    have p3 : L 3 = true := hP ⟨3, .data⟩ (by simp) rfl
    have s3 : RNat w' (vs 3) (x) := hJ.sp 3 p3
    have q34 := hF.slot 3 34 rfl p3
    obtain ⟨bk, e1, e2, e3, e4, e5, e6⟩ := hJ.bx (8, 10, 3) (by simp) p8
    have e7 := e5 hL
    obtain ⟨aa, nn, cc, e8⟩ := s3.isAgg
    exact run_unit (w' := w'.setCell ⟨bk, 0, none⟩ (.slice aa nn cc)) rfl (by simp [execOp, go_sem, q9, q34, e1, e8, e7, e4]) ⟨undef, rfl, hJ.store (b := (8, 10, 3)) (by simp) hL p8 p3 (by decide) rfl e1 e8⟩
  · intro L vs a w' hJ hF hP hL
    have p9 : L 9 = true := hP ⟨9, .data⟩ (by simp) rfl
    have q10 := hF.slot 9 10 rfl p9
    have p7 : L 7 = true := hP ⟨7, .data⟩ (by simp) rfl
    have s7 : RNat w' (vs 7) (y) := hJ.sp 7 p7
    have q38 := hF.slot 7 38 rfl p7
    obtain ⟨bk, e1, e2, e3, e4, e5, e6⟩ := hJ.bx (9, 11, 7) (by simp) p9
    have e7 := e5 hL
    obtain ⟨aa, nn, cc, e8⟩ := s7.isAgg
    exact run_unit (w' := w'.setCell ⟨bk, 0, none⟩ (.slice aa nn cc)) rfl (by simp [execOp, go_sem, q10, q38, e1, e8, e7, e4]) ⟨undef, rfl, hJ.store (b := (9, 11, 7)) (by simp) hL p9 p7 (by decide) rfl e1 e8⟩
  intro L vs w' hA hJ
  have s3 : RNat w' (vs 3) (x) := hJ.sp 3 (hA 3 (by simp))
  have s7 : RNat w' (vs 7) (y) := hJ.sp 7 (hA 7 (by simp))
  obtain ⟨bk8, eb8, ge8, lt8, fz8, _, e6⟩ := hJ.bx (8, 10, 3) (by simp) (hA 8 (by simp))
  obtain ⟨_, u8, eu8, ce8⟩ := e6 (hA 10 (by simp))
  clear e6
  obtain ⟨bk9, eb9, ge9, lt9, fz9, _, e6⟩ := hJ.bx (9, 11, 7) (by simp) (hA 9 (by simp))
  obtain ⟨_, u9, eu9, ce9⟩ := e6 (hA 11 (by simp))
  clear e6
  simp only [putL, Act.put, List.setIfInBounds_toArray, List.set_cons_zero, List.set_cons_succ, Nat.reduceAdd]
  obtain ⟨a12, n12, c12, q1⟩ := s3.isAgg
  obtain ⟨a13, n13, c13, q2⟩ := s7.isAgg
  rw [q1] at s3 eu8
  rw [q2] at s7 eu9
  obtain rfl : u8 = .slice a12 n12 c12 := by simpa using eu8.symm
  obtain rfl : u9 = .slice a13 n13 c13 := by simpa using eu9.symm
  simp only [eb8, eb9]
  have NE : Hid (b5 ≠ bk9 ∧ b10 ≠ bk9 ∧ b11 ≠ bk9 ∧ bk8 ≠ bk9 ∧ w.heap.size ≤ bk9) := by
    have l5 := World.block_lt_of_cell? _ _ (S10.out.cel b5 0 (.slice a5 n5 c5))
    have l10 := World.block_lt_of_cell? _ _ (S10.out.cel b10 0 (.slice a10 n10 c10))
    have l11 := World.block_lt_of_cell? _ _ (S10.out.cel b11 0 (.slice a11 n11 c11))
    have nd : bk8 ≠ bk9 := fun e => hJ.dj (8, 10, 3) (by simp) (9, 11, 7) (by simp) (hA 8 (by simp)) (hA 9 (by simp)) (by decide) (by rw [eb8, eb9, e])
    have := S10.out.bel.size
    exact ⟨by simp at l5; omega, by simp at l10; omega, by simp at l11; omega, nd, by omega⟩
  have FZ : Hid (w'.frozen? ⟨bk9, 0, none⟩ = false) := fz9
  obtain ⟨w13, ew⟩ : ∃ w13, w13 = w' := ⟨_, rfl⟩
  obtain ⟨b12, e1⟩ : ∃ b12, b12 = bk8 := ⟨_, rfl⟩
  obtain ⟨b13, e2⟩ : ∃ b13, b13 = bk9 := ⟨_, rfl⟩
  have S13 : Hid _ := (((((S10.out.go hJ.bel).addM s3).addM s7).addC ce8).addC ce9)
  rw [← ew, ← e1, ← e2] at S13
  rw [← e1, ← e2] at NE
  rw [← ew, ← e2] at FZ
  rw [← ew, ← e1, ← e2]
  clear ew e1 e2 q1 q2 s3 s7 eu8 eu9 eb8 eb9 ce8 ce9 ge8 ge9 lt8 lt9 fz8 fz9 hJ hA S10
  have z13 := S13.out.cell b13 (.slice a13 n13 c13)
  go_wp2_with fail
  refine (rzero_any _ y _ (S13.out.rat (.agg #[.slice a13 n13 c13]) y) MM.out.2.2.2.2.2.2.2.2.rfits).mono ?_
  rintro e w14 ⟨rfl, hb⟩
  have FY : Hid (w14.frozen? ⟨b13, 0, none⟩ = false) := (hb.frozen (World.block_lt_of_cell? _ _ z13)).trans FZ.out
  have S14 : Hid _ := S13.out.go hb
  clear hb z13 FZ S13
  by_cases hy : y = 0
  · have d1 : decide (y = 0) = true := decide_eq_true hy
    have e1 : Hid (Y = 1) := by
      show Y = 1
      rw [EY.out]
      unfold orOne
      rw [if_pos hy]
    clear hy
    go_wp2_with fail
    refine (rof_any 1 _ (by omega)).mono ?_
    rintro e w1 ⟨v1, rfl, hv, hb⟩
    obtain ⟨a14, n14, c14, rfl⟩ := hv.isAgg
    have T1 : Hid _ := (S14.out.go hb).addM (x := Y) (by rw [e1.out]; exact hv)
    have k13 := T1.out.cell b13 (.slice a13 n13 c13)
    have fz := (hb.frozen (World.block_lt_of_cell? _ _ (S14.out.cell b13 (.slice a13 n13 c13)))).trans FY.out
    have T2 : Hid _ := (T1.out.set (b := b13) (i := 0) k13 NE.out.2.2.2.2 [(b5, 0, .slice a5 n5 c5), (b5, 1, .slice d5 m5 g5), (b10, 0, .slice a10 n10 c10), (b11, 0, .slice a11 n11 c11), (b12, 0, .slice a12 n12 c12)] (fun p hp => by
      simp only [List.mem_cons, List.not_mem_nil, or_false] at hp
      obtain ⟨n1, n2, n3, n4, _⟩ := NE.out
      rcases hp with rfl | rfl | rfl | rfl | rfl <;> exact ⟨by simp, by assumption⟩) (.slice a14 n14 c14)).addC (b := b13) (i := 0) (v := .slice a14 n14 c14) (by simp [go_sem, k13])
    clear hv hb S14 T1 FY
    go_wp2_with fail
    obtain ⟨w2, hw2⟩ : ∃ w2, w2 = w1.setCell ⟨b13, 0, none⟩ (.slice a14 n14 c14) := ⟨_, rfl⟩
    rw [← hw2] at T2
    rw [← hw2]
    clear hw2 k13 fz d1 e1
    refine (rof_any 1 _ (by omega)).mono ?_
    rintro e v15w ⟨v15, rfl, hv, hb⟩
    obtain ⟨a15, n15, c15, rfl⟩ := hv.isAgg
    have S15 : Hid _ := ((T2.out.go hb).addM hv).box1 (.slice a15 n15 c15) 33 _ rfl
    clear hv hb T2
    go_wp2_with fail
    obtain ⟨w15, hw⟩ : ∃ w15, w15 = v15w.alloc (.cells #[.slice a15 n15 c15] 33) := ⟨_, rfl⟩
    obtain ⟨b15, hb⟩ : ∃ b15, b15 = v15w.heap.size := ⟨_, rfl⟩
    rw [← hw, ← hb] at S15
    rw [← hw, ← hb]
    clear hw hb
    refine wp_region_inv (JB w15 [sEq (.bool true), sEq (.bool false), sEq (.bool false), sR (P2), sR (Q2), sR (Nat.gcd P2 Q2), sR (1), sEq (.int .i64 0), sEq (.bool false), sEq (.bool false), sEq (.bool false), sR (P2), sR (Y), sR (P2 * Y), sR (x), sR (Q2), sR (x * Q2), sEq (.int .i64 0), sEq (.bool false), sEq (.bool false)] []) 101 (by kernel_rfl) rfl (by kernel_rfl) (JB.start _ _ _) (fun HG HN => ⟨?_, ?_, ?_, ?_, ?_, ?_, ?_, ?_, ?_, ?_, ?_, ?_, ?_, ?_, ?_, ?_, ?_, ?_, ?_, ?_, trivial⟩) ?_
    · intro L vs a w' hJ hF hP hL
      refine run_call (f := 10) (args := #[]) rfl (by simp [go_sem]) (rtold_true _ (FF.out.2.2.go (bel_go S15.out.bel hJ.bel))) ?_
      rintro e w2 ⟨rfl, hb⟩
      exact ⟨_, rfl, _, rfl, hJ.step hL rfl hb (by exact rfl)⟩
    · intro L vs a w' hJ hF hP hL
      have p0 : L 0 = true := hP ⟨0, .data⟩ (by simp) rfl
      have s0 : vs 0 = .bool true := hJ.sp 0 p0
      have q43 := hF.slot 0 43 rfl p0
      exact run_val (v := .bool false) rfl (by simp [execOp, go_sem, q43, s0]) ⟨_, rfl, hJ.step hL rfl (Below.refl _ _) (by exact rfl)⟩
    · intro L vs a w' hJ hF hP hL
      have p1 : L 1 = true := hP ⟨1, .data⟩ (by simp) rfl
      have s1 : vs 1 = .bool false := hJ.sp 1 p1
      have q44 := hF.slot 1 44 rfl p1
      exact run_val (v := .bool false) rfl (by simp [execOp, go_sem, q44, s1]) ⟨_, rfl, hJ.step hL rfl (Below.refl _ _) (by exact rfl)⟩
    · intro L vs a w' hJ hF hP hL
      have q7 : (a.tmps[7]?).getD undef = .pointer (some ⟨b10, 0, none⟩) := hF.old 7 rfl
      have cb := cell_later hJ.bel (S15.out.cell (b10) (.slice a10 n10 c10))
      exact run_val (v := .agg #[.slice a10 n10 c10]) (hF.wants 101 HN HG _ 2 false false rfl rfl (hP ⟨2, .guard⟩ (by simp) rfl) (hJ.sp 2 (hP ⟨2, .guard⟩ (by simp) rfl))) (by simp [execOp, go_sem, q7, cb]) ⟨_, rfl, hJ.step hL rfl (Below.refl _ _) (by exact ((S15.out.rat (.agg #[.slice a10 n10 c10]) (P2)).mono hJ.bel))⟩
    · intro L vs a w' hJ hF hP hL
      have q8 : (a.tmps[8]?).getD undef = .pointer (some ⟨b11, 0, none⟩) := hF.old 8 rfl
      have cb := cell_later hJ.bel (S15.out.cell (b11) (.slice a11 n11 c11))
      exact run_val (v := .agg #[.slice a11 n11 c11]) (hF.wants 101 HN HG _ 2 false false rfl rfl (hP ⟨2, .guard⟩ (by simp) rfl) (hJ.sp 2 (hP ⟨2, .guard⟩ (by simp) rfl))) (by simp [execOp, go_sem, q8, cb]) ⟨_, rfl, hJ.step hL rfl (Below.refl _ _) (by exact ((S15.out.rat (.agg #[.slice a11 n11 c11]) (Q2)).mono hJ.bel))⟩
    · intro L vs a w' hJ hF hP hL
      have p3 : L 3 = true := hP ⟨3, .data⟩ (by simp) rfl
      have s3 : RNat w' (vs 3) (P2) := hJ.sp 3 p3
      have q46 := hF.slot 3 46 rfl p3
      have p4 : L 4 = true := hP ⟨4, .data⟩ (by simp) rfl
      have s4 : RNat w' (vs 4) (Q2) := hJ.sp 4 p4
      have q47 := hF.slot 4 47 rfl p4
      refine run_call (f := 36) (args := #[vs 3, vs 4]) (hF.wants 101 HN HG _ 2 false false rfl rfl (hP ⟨2, .guard⟩ (by simp) rfl) (hJ.sp 2 (hP ⟨2, .guard⟩ (by simp) rfl))) (by simp [go_sem, q46, q47]) (rgcd_any _ _ P2 Q2 _ s3 s4 MM.out.1.rsome MM.out.2.1.rsome) ?_
      rintro e w2 ⟨v, rfl, hv, hb⟩
      exact ⟨_, rfl, _, rfl, hJ.step hL rfl hb (by exact hv)⟩
    · intro L vs a w' hJ hF hP hL
      have q11 : (a.tmps[11]?).getD undef = .pointer (some ⟨b15, 0, none⟩) := hF.old 11 rfl
      have cb := cell_later hJ.bel (S15.out.cell (b15) (.slice a15 n15 c15))
      exact run_val (v := .agg #[.slice a15 n15 c15]) (hF.wants 101 HN HG _ 2 false false rfl rfl (hP ⟨2, .guard⟩ (by simp) rfl) (hJ.sp 2 (hP ⟨2, .guard⟩ (by simp) rfl))) (by simp [execOp, go_sem, q11, cb]) ⟨_, rfl, hJ.step hL rfl (Below.refl _ _) (by exact ((S15.out.rat (.agg #[.slice a15 n15 c15]) (1)).mono hJ.bel))⟩
    · intro L vs a w' hJ hF hP hL
      have p5 : L 5 = true := hP ⟨5, .data⟩ (by simp) rfl
      have s5 : RNat w' (vs 5) (Nat.gcd P2 Q2) := hJ.sp 5 p5
      have q48 := hF.slot 5 48 rfl p5
      have p6 : L 6 = true := hP ⟨6, .data⟩ (by simp) rfl
      have s6 : RNat w' (vs 6) (1) := hJ.sp 6 p6
      have q49 := hF.slot 6 49 rfl p6
      refine run_call (f := 35) (args := #[vs 5, vs 6]) (hF.wants 101 HN HG _ 2 false false rfl rfl (hP ⟨2, .guard⟩ (by simp) rfl) (hJ.sp 2 (hP ⟨2, .guard⟩ (by simp) rfl))) (by simp [go_sem, q48, q49]) (K1.out _ _ _ s5 s6) ?_
      rintro e w2 ⟨rfl, hb⟩
      exact ⟨_, rfl, _, rfl, hJ.step hL rfl hb (by exact rfl)⟩
    · intro L vs a w' hJ hF hP hL
      have p7 : L 7 = true := hP ⟨7, .data⟩ (by simp) rfl
      have s7 : vs 7 = .int .i64 0 := hJ.sp 7 p7
      have q50 := hF.slot 7 50 rfl p7
      exact run_val (v := .bool false) (hF.wants 101 HN HG _ 2 false false rfl rfl (hP ⟨2, .guard⟩ (by simp) rfl) (hJ.sp 2 (hP ⟨2, .guard⟩ (by simp) rfl))) (by simp [execOp, go_sem, q50, s7]) ⟨_, rfl, hJ.step hL rfl (Below.refl _ _) (by exact rfl)⟩
    · intro L vs a w' hJ hF hP hL
      have p2 : L 2 = true := hP ⟨2, .data⟩ (by simp) rfl
      have s2 : vs 2 = .bool false := hJ.sp 2 p2
      have q45 := hF.slot 2 45 rfl p2
      have p8 : L 8 = true := hP ⟨8, .data⟩ (by simp) rfl
      have s8 : vs 8 = .bool false := hJ.sp 8 p8
      have q51 := hF.slot 8 51 rfl p8
      exact run_val (v := .bool false) rfl (by simp [execOp, go_sem, q45, s2, q51, s8]) ⟨_, rfl, hJ.step hL rfl (Below.refl _ _) (by exact rfl)⟩
    · intro L vs a w' hJ hF hP hL
      have p9 : L 9 = true := hP ⟨9, .data⟩ (by simp) rfl
      have s9 : vs 9 = .bool false := hJ.sp 9 p9
      have q52 := hF.slot 9 52 rfl p9
      exact run_val (v := .bool false) rfl (by simp [execOp, go_sem, q52, s9]) ⟨_, rfl, hJ.step hL rfl (Below.refl _ _) (by exact rfl)⟩
    · intro L vs a w' hJ hF hP hL
      have q7 : (a.tmps[7]?).getD undef = .pointer (some ⟨b10, 0, none⟩) := hF.old 7 rfl
      have cb := cell_later hJ.bel (S15.out.cell (b10) (.slice a10 n10 c10))
      exact run_val (v := .agg #[.slice a10 n10 c10]) (hF.wants 101 HN HG _ 10 false false rfl rfl (hP ⟨10, .guard⟩ (by simp) rfl) (hJ.sp 10 (hP ⟨10, .guard⟩ (by simp) rfl))) (by simp [execOp, go_sem, q7, cb]) ⟨_, rfl, hJ.step hL rfl (Below.refl _ _) (by exact ((S15.out.rat (.agg #[.slice a10 n10 c10]) (P2)).mono hJ.bel))⟩
    · intro L vs a w' hJ hF hP hL
      have q10 : (a.tmps[10]?).getD undef = .pointer (some ⟨b13, 0, none⟩) := hF.old 10 rfl
      have cb := cell_later hJ.bel (S15.out.cell (b13) (.slice a14 n14 c14))
      exact run_val (v := .agg #[.slice a14 n14 c14]) (hF.wants 101 HN HG _ 10 false false rfl rfl (hP ⟨10, .guard⟩ (by simp) rfl) (hJ.sp 10 (hP ⟨10, .guard⟩ (by simp) rfl))) (by simp [execOp, go_sem, q10, cb]) ⟨_, rfl, hJ.step hL rfl (Below.refl _ _) (by exact ((S15.out.rat (.agg #[.slice a14 n14 c14]) (Y)).mono hJ.bel))⟩
    · intro L vs a w' hJ hF hP hL
      have p11 : L 11 = true := hP ⟨11, .data⟩ (by simp) rfl
      have s11 : RNat w' (vs 11) (P2) := hJ.sp 11 p11
      have q54 := hF.slot 11 54 rfl p11
      have p12 : L 12 = true := hP ⟨12, .data⟩ (by simp) rfl
      have s12 : RNat w' (vs 12) (Y) := hJ.sp 12 p12
      have q55 := hF.slot 12 55 rfl p12
      refine run_call (f := 37) (args := #[vs 11, vs 12]) (hF.wants 101 HN HG _ 10 false false rfl rfl (hP ⟨10, .guard⟩ (by simp) rfl) (hJ.sp 10 (hP ⟨10, .guard⟩ (by simp) rfl))) (by simp [go_sem, q54, q55]) (rtimes_any _ _ P2 Y _ s11 s12 MM.out.1.rfits MM.out.2.2.2.2.1.rfits) ?_
      rintro e w2 ⟨v, rfl, hv, hb⟩
      exact ⟨_, rfl, _, rfl, hJ.step hL rfl hb (by exact hv)⟩
    · intro L vs a w' hJ hF hP hL
      have q9 : (a.tmps[9]?).getD undef = .pointer (some ⟨b12, 0, none⟩) := hF.old 9 rfl
      have cb := cell_later hJ.bel (S15.out.cell (b12) (.slice a12 n12 c12))
      exact run_val (v := .agg #[.slice a12 n12 c12]) (hF.wants 101 HN HG _ 10 false false rfl rfl (hP ⟨10, .guard⟩ (by simp) rfl) (hJ.sp 10 (hP ⟨10, .guard⟩ (by simp) rfl))) (by simp [execOp, go_sem, q9, cb]) ⟨_, rfl, hJ.step hL rfl (Below.refl _ _) (by exact ((S15.out.rat (.agg #[.slice a12 n12 c12]) (x)).mono hJ.bel))⟩
    · intro L vs a w' hJ hF hP hL
      have q8 : (a.tmps[8]?).getD undef = .pointer (some ⟨b11, 0, none⟩) := hF.old 8 rfl
      have cb := cell_later hJ.bel (S15.out.cell (b11) (.slice a11 n11 c11))
      exact run_val (v := .agg #[.slice a11 n11 c11]) (hF.wants 101 HN HG _ 10 false false rfl rfl (hP ⟨10, .guard⟩ (by simp) rfl) (hJ.sp 10 (hP ⟨10, .guard⟩ (by simp) rfl))) (by simp [execOp, go_sem, q8, cb]) ⟨_, rfl, hJ.step hL rfl (Below.refl _ _) (by exact ((S15.out.rat (.agg #[.slice a11 n11 c11]) (Q2)).mono hJ.bel))⟩
    · intro L vs a w' hJ hF hP hL
      have p14 : L 14 = true := hP ⟨14, .data⟩ (by simp) rfl
      have s14 : RNat w' (vs 14) (x) := hJ.sp 14 p14
      have q57 := hF.slot 14 57 rfl p14
      have p15 : L 15 = true := hP ⟨15, .data⟩ (by simp) rfl
      have s15 : RNat w' (vs 15) (Q2) := hJ.sp 15 p15
      have q58 := hF.slot 15 58 rfl p15
      refine run_call (f := 37) (args := #[vs 14, vs 15]) (hF.wants 101 HN HG _ 10 false false rfl rfl (hP ⟨10, .guard⟩ (by simp) rfl) (hJ.sp 10 (hP ⟨10, .guard⟩ (by simp) rfl))) (by simp [go_sem, q57, q58]) (rtimes_any _ _ x Q2 _ s14 s15 MM.out.2.2.2.1.rfits MM.out.2.1.rfits) ?_
      rintro e w2 ⟨v, rfl, hv, hb⟩
      exact ⟨_, rfl, _, rfl, hJ.step hL rfl hb (by exact hv)⟩
    · intro L vs a w' hJ hF hP hL
      have p13 : L 13 = true := hP ⟨13, .data⟩ (by simp) rfl
      have s13 : RNat w' (vs 13) (P2 * Y) := hJ.sp 13 p13
      have q56 := hF.slot 13 56 rfl p13
      have p16 : L 16 = true := hP ⟨16, .data⟩ (by simp) rfl
      have s16 : RNat w' (vs 16) (x * Q2) := hJ.sp 16 p16
      have q59 := hF.slot 16 59 rfl p16
      refine run_call (f := 35) (args := #[vs 13, vs 16]) (hF.wants 101 HN HG _ 10 false false rfl rfl (hP ⟨10, .guard⟩ (by simp) rfl) (hJ.sp 10 (hP ⟨10, .guard⟩ (by simp) rfl))) (by simp [go_sem, q56, q59]) (K2.out _ _ _ s13 s16) ?_
      rintro e w2 ⟨rfl, hb⟩
      exact ⟨_, rfl, _, rfl, hJ.step hL rfl hb (by exact rfl)⟩
    · intro L vs a w' hJ hF hP hL
      have p17 : L 17 = true := hP ⟨17, .data⟩ (by simp) rfl
      have s17 : vs 17 = .int .i64 0 := hJ.sp 17 p17
      have q60 := hF.slot 17 60 rfl p17
      exact run_val (v := .bool false) (hF.wants 101 HN HG _ 10 false false rfl rfl (hP ⟨10, .guard⟩ (by simp) rfl) (hJ.sp 10 (hP ⟨10, .guard⟩ (by simp) rfl))) (by simp [execOp, go_sem, q60, s17]) ⟨_, rfl, hJ.step hL rfl (Below.refl _ _) (by exact rfl)⟩
    · intro L vs a w' hJ hF hP hL
      have p10 : L 10 = true := hP ⟨10, .data⟩ (by simp) rfl
      have s10 : vs 10 = .bool false := hJ.sp 10 p10
      have q53 := hF.slot 10 53 rfl p10
      have p18 : L 18 = true := hP ⟨18, .data⟩ (by simp) rfl
      have s18 : vs 18 = .bool false := hJ.sp 18 p18
      have q61 := hF.slot 18 61 rfl p18
      exact run_val (v := .bool false) rfl (by simp [execOp, go_sem, q53, s10, q61, s18]) ⟨_, rfl, hJ.step hL rfl (Below.refl _ _) (by exact rfl)⟩
    intro L vs w' hA hJ
    have s19 : vs 19 = .bool false := hJ.sp 19 (hA 19 (by simp))
    simp only [putL, Act.put, List.setIfInBounds_toArray, List.set_cons_zero, List.set_cons_succ, Nat.reduceAdd]
    simp only [s19]
    obtain ⟨w16, ew⟩ : ∃ w16, w16 = w' := ⟨_, rfl⟩
    have S16 : Hid _ := S15.out.go hJ.bel
    rw [← ew] at S16
    rw [← ew]
    clear ew s19 hJ hA S15
    go_wp2_with fail
    refine wp_region_inv (JB w16 [sRt (P2) (Q2), sNat (P2 / Q2), sBy (P2 / Q2), sR (P2 / Q2), sRt (P2) (Q2), sNat (ceilN P2 Q2), sBy (ceilN P2 Q2), sR (ceilN P2 Q2), sAny, sAny, sAny, sAny] [(8, 10, 3), (9, 11, 7)]) 101 (by kernel_rfl) rfl (by kernel_rfl) (JB.start _ _ _) (fun HG HN => ⟨?_, ?_, ?_, ?_, ?_, ?_, ?_, ?_, ?_, ?_, ?_, ?_, trivial⟩) ?_
    · intro L vs a w' hJ hF hP hL
      have q3 : (a.tmps[3]?).getD undef = .pointer (some ⟨b5, 0, none⟩) := hF.old 3 rfl
      have cb := cell_later hJ.bel (S16.out.cel (b5) 0 (.slice a5 n5 c5))
      have cc := cell_later hJ.bel (S16.out.cel (b5) 1 (.slice d5 m5 g5))
      exact run_val (v := .agg #[.slice a5 n5 c5, .slice d5 m5 g5]) rfl (by simp [execOp, go_sem, q3, cb, cc]) ⟨_, rfl, hJ.step hL rfl (Below.refl _ _) (by exact ((S16.out.fr (.agg #[.slice a5 n5 c5, .slice d5 m5 g5]) (P2) (Q2)).mono hJ.bel))⟩
    · intro L vs a w' hJ hF hP hL
      have p0 : L 0 = true := hP ⟨0, .data⟩ (by simp) rfl
      have s0 : Rt w' (vs 0) (P2) (Q2) := hJ.sp 0 p0
      have q63 := hF.slot 0 63 rfl p0
      refine run_call (f := 21) (args := #[vs 0]) rfl (by simp [go_sem, q63]) (floor_any _ P2 Q2 _ s0 MM.out.1 MM.out.2.1) ?_
      rintro e w2 ⟨v, rfl, hv, hb⟩
      exact ⟨_, rfl, _, rfl, hJ.step hL rfl hb (by exact hv)⟩
    · intro L vs a w' hJ hF hP hL
      have p1 : L 1 = true := hP ⟨1, .data⟩ (by simp) rfl
      have s1 : IsNat w' (vs 1) (P2 / Q2) := hJ.sp 1 p1
      have q64 := hF.slot 1 64 rfl p1
      refine run_call (f := 32) (args := #[vs 1]) rfl (by simp [go_sem, q64]) (bytes_any _ (P2 / Q2) _ s1 MM.out.2.2.2.2.2.1.fits) ?_
      rintro e w2 ⟨gb, rfl, hg, hR, hb⟩
      exact ⟨_, rfl, _, rfl, hJ.step hL rfl hb (by exact ⟨gb, rfl, fun i hi => hR.cell hi⟩)⟩
    · intro L vs a w' hJ hF hP hL
      have p2 : L 2 = true := hP ⟨2, .data⟩ (by simp) rfl
      have s2 : ByIs w' (vs 2) (P2 / Q2) := hJ.sp 2 p2
      have q65 := hF.slot 2 65 rfl p2
      refine run_call (f := 17) (args := #[vs 2]) rfl (by simp [go_sem, q65]) (rfrom_by _ (P2 / Q2) _ s2 (BL.out _ MM.out.2.2.2.2.2.1)) ?_
      rintro e w2 ⟨v, rfl, hv, hb⟩
      exact ⟨_, rfl, _, rfl, hJ.step hL rfl hb (by exact hv)⟩
    · intro L vs a w' hJ hF hP hL
      have q3 : (a.tmps[3]?).getD undef = .pointer (some ⟨b5, 0, none⟩) := hF.old 3 rfl
      have cb := cell_later hJ.bel (S16.out.cel (b5) 0 (.slice a5 n5 c5))
      have cc := cell_later hJ.bel (S16.out.cel (b5) 1 (.slice d5 m5 g5))
      exact run_val (v := .agg #[.slice a5 n5 c5, .slice d5 m5 g5]) rfl (by simp [execOp, go_sem, q3, cb, cc]) ⟨_, rfl, hJ.step hL rfl (Below.refl _ _) (by exact ((S16.out.fr (.agg #[.slice a5 n5 c5, .slice d5 m5 g5]) (P2) (Q2)).mono hJ.bel))⟩
    · intro L vs a w' hJ hF hP hL
      have p4 : L 4 = true := hP ⟨4, .data⟩ (by simp) rfl
      have s4 : Rt w' (vs 4) (P2) (Q2) := hJ.sp 4 p4
      have q67 := hF.slot 4 67 rfl p4
      refine run_call (f := 23) (args := #[vs 4]) rfl (by simp [go_sem, q67]) (ceil_any _ P2 Q2 _ s4 MM.out.1 MM.out.2.1) ?_
      rintro e w2 ⟨v, rfl, hv, hb⟩
      exact ⟨_, rfl, _, rfl, hJ.step hL rfl hb (by exact hv)⟩
    · intro L vs a w' hJ hF hP hL
      have p5 : L 5 = true := hP ⟨5, .data⟩ (by simp) rfl
      have s5 : IsNat w' (vs 5) (ceilN P2 Q2) := hJ.sp 5 p5
      have q68 := hF.slot 5 68 rfl p5
      refine run_call (f := 32) (args := #[vs 5]) rfl (by simp [go_sem, q68]) (bytes_any _ (ceilN P2 Q2) _ s5 MM.out.2.2.2.2.2.2.2.1.fits) ?_
      rintro e w2 ⟨gb, rfl, hg, hR, hb⟩
      exact ⟨_, rfl, _, rfl, hJ.step hL rfl hb (by exact ⟨gb, rfl, fun i hi => hR.cell hi⟩)⟩
    · intro L vs a w' hJ hF hP hL
      have p6 : L 6 = true := hP ⟨6, .data⟩ (by simp) rfl
      have s6 : ByIs w' (vs 6) (ceilN P2 Q2) := hJ.sp 6 p6
      have q69 := hF.slot 6 69 rfl p6
      refine run_call (f := 17) (args := #[vs 6]) rfl (by simp [go_sem, q69]) (rfrom_by _ (ceilN P2 Q2) _ s6 (BL.out _ MM.out.2.2.2.2.2.2.2.1)) ?_
      rintro e w2 ⟨v, rfl, hv, hb⟩
      exact ⟨_, rfl, _, rfl, hJ.step hL rfl hb (by exact hv)⟩
    · intro L vs a w' hJ hF hP hL
      exact run_val (v := .pointer (some ⟨w'.heap.size, 0, none⟩)) (w' := w'.alloc (.cells #[.slice none 0 0] 33)) rfl (by simp [execOp, go_sem]) ⟨_, rfl, hJ.alloc hL rfl rfl _⟩
    · intro L vs a w' hJ hF hP hL
      exact run_val (v := .pointer (some ⟨w'.heap.size, 0, none⟩)) (w' := w'.alloc (.cells #[.slice none 0 0] 33)) rfl (by simp [execOp, go_sem]) ⟨_, rfl, hJ.alloc hL rfl rfl _⟩
    · intro L vs a w' hJ hF hP hL
      have p8 : L 8 = true := hP ⟨8, .data⟩ (by simp) rfl
      have q12 := hF.slot 8 12 rfl p8
      have p3 : L 3 = true := hP ⟨3, .data⟩ (by simp) rfl
      have s3 : RNat w' (vs 3) (P2 / Q2) := hJ.sp 3 p3
      have q66 := hF.slot 3 66 rfl p3
      obtain ⟨bk, e1, e2, e3, e4, e5, e6⟩ := hJ.bx (8, 10, 3) (by simp) p8
      have e7 := e5 hL
      obtain ⟨aa, nn, cc, e8⟩ := s3.isAgg
      exact run_unit (w' := w'.setCell ⟨bk, 0, none⟩ (.slice aa nn cc)) rfl (by simp [execOp, go_sem, q12, q66, e1, e8, e7, e4]) ⟨undef, rfl, hJ.store (b := (8, 10, 3)) (by simp) hL p8 p3 (by decide) rfl e1 e8⟩
    · intro L vs a w' hJ hF hP hL
      have p9 : L 9 = true := hP ⟨9, .data⟩ (by simp) rfl
      have q13 := hF.slot 9 13 rfl p9
      have p7 : L 7 = true := hP ⟨7, .data⟩ (by simp) rfl
      have s7 : RNat w' (vs 7) (ceilN P2 Q2) := hJ.sp 7 p7
      have q70 := hF.slot 7 70 rfl p7
      obtain ⟨bk, e1, e2, e3, e4, e5, e6⟩ := hJ.bx (9, 11, 7) (by simp) p9
      have e7 := e5 hL
      obtain ⟨aa, nn, cc, e8⟩ := s7.isAgg
      exact run_unit (w' := w'.setCell ⟨bk, 0, none⟩ (.slice aa nn cc)) rfl (by simp [execOp, go_sem, q13, q70, e1, e8, e7, e4]) ⟨undef, rfl, hJ.store (b := (9, 11, 7)) (by simp) hL p9 p7 (by decide) rfl e1 e8⟩
    intro L vs w' hA hJ
    have s3 : RNat w' (vs 3) (P2 / Q2) := hJ.sp 3 (hA 3 (by simp))
    have s7 : RNat w' (vs 7) (ceilN P2 Q2) := hJ.sp 7 (hA 7 (by simp))
    obtain ⟨bk8, eb8, ge8, lt8, fz8, _, e6⟩ := hJ.bx (8, 10, 3) (by simp) (hA 8 (by simp))
    obtain ⟨_, u8, eu8, ce8⟩ := e6 (hA 10 (by simp))
    clear e6
    obtain ⟨bk9, eb9, ge9, lt9, fz9, _, e6⟩ := hJ.bx (9, 11, 7) (by simp) (hA 9 (by simp))
    obtain ⟨_, u9, eu9, ce9⟩ := e6 (hA 11 (by simp))
    clear e6
    simp only [putL, Act.put, List.setIfInBounds_toArray, List.set_cons_zero, List.set_cons_succ, Nat.reduceAdd]
    obtain ⟨a17, n17, c17, q1⟩ := s3.isAgg
    obtain ⟨a18, n18, c18, q2⟩ := s7.isAgg
    rw [q1] at s3 eu8
    rw [q2] at s7 eu9
    obtain rfl : u8 = .slice a17 n17 c17 := by simpa using eu8.symm
    obtain rfl : u9 = .slice a18 n18 c18 := by simpa using eu9.symm
    simp only [eb8, eb9]
    have ND : Hid (bk9 ≠ bk8 ∧ w.heap.size ≤ bk8) := by
      have nd : bk8 ≠ bk9 := fun e => hJ.dj (8, 10, 3) (by simp) (9, 11, 7) (by simp) (hA 8 (by simp)) (hA 9 (by simp)) (by decide) (by rw [eb8, eb9, e])
      have := S16.out.bel.size
      exact ⟨nd.symm, by omega⟩
    have FX : Hid (w'.frozen? ⟨bk8, 0, none⟩ = false) := fz8
    obtain ⟨w18, ew⟩ : ∃ w18, w18 = w' := ⟨_, rfl⟩
    obtain ⟨b17, e1⟩ : ∃ b17, b17 = bk8 := ⟨_, rfl⟩
    obtain ⟨b18, e2⟩ : ∃ b18, b18 = bk9 := ⟨_, rfl⟩
    have S18 : Hid _ := (((((S16.out.go hJ.bel).addM s3).addM s7).addC ce8).addC ce9)
    rw [← ew, ← e1, ← e2] at S18
    rw [← e1, ← e2] at ND
    rw [← ew, ← e1] at FX
    rw [← ew, ← e1, ← e2]
    clear ew e1 e2 q1 q2 s3 s7 eu8 eu9 eb8 eb9 ce8 ce9 ge8 ge9 lt8 lt9 fz8 fz9 hJ hA S16
    go_wp2_with fail
    refine wp_region_inv (JB w18 [sR (P2 / Q2), sR (Q2), sR (P2 / Q2 * Q2), sR (P2), sEq (.int .i64 k3), sEq (.bool true), sEq (.bool true), sR (P2 / Q2), sR (1), sR (P2 / Q2 + 1), sR (Q2), sR ((P2 / Q2 + 1) * Q2), sR (P2), sEq (.int .i64 1), sEq (.bool true), sEq (.bool true), sEq (.bool true)] []) 101 (by kernel_rfl) rfl (by kernel_rfl) (JB.start _ _ _) (fun HG HN => ⟨?_, ?_, ?_, ?_, ?_, ?_, ?_, ?_, ?_, ?_, ?_, ?_, ?_, ?_, ?_, ?_, ?_, trivial⟩) ?_
    · intro L vs a w' hJ hF hP hL
      have q12 : (a.tmps[12]?).getD undef = .pointer (some ⟨b17, 0, none⟩) := hF.old 12 rfl
      have cb := cell_later hJ.bel (S18.out.cell (b17) (.slice a17 n17 c17))
      exact run_val (v := .agg #[.slice a17 n17 c17]) rfl (by simp [execOp, go_sem, q12, cb]) ⟨_, rfl, hJ.step hL rfl (Below.refl _ _) (by exact ((S18.out.rat (.agg #[.slice a17 n17 c17]) (P2 / Q2)).mono hJ.bel))⟩
    · intro L vs a w' hJ hF hP hL
      have q8 : (a.tmps[8]?).getD undef = .pointer (some ⟨b11, 0, none⟩) := hF.old 8 rfl
      have cb := cell_later hJ.bel (S18.out.cell (b11) (.slice a11 n11 c11))
      exact run_val (v := .agg #[.slice a11 n11 c11]) rfl (by simp [execOp, go_sem, q8, cb]) ⟨_, rfl, hJ.step hL rfl (Below.refl _ _) (by exact ((S18.out.rat (.agg #[.slice a11 n11 c11]) (Q2)).mono hJ.bel))⟩
    · intro L vs a w' hJ hF hP hL
      have p0 : L 0 = true := hP ⟨0, .data⟩ (by simp) rfl
      have s0 : RNat w' (vs 0) (P2 / Q2) := hJ.sp 0 p0
      have q71 := hF.slot 0 71 rfl p0
      have p1 : L 1 = true := hP ⟨1, .data⟩ (by simp) rfl
      have s1 : RNat w' (vs 1) (Q2) := hJ.sp 1 p1
      have q72 := hF.slot 1 72 rfl p1
      refine run_call (f := 37) (args := #[vs 0, vs 1]) rfl (by simp [go_sem, q71, q72]) (rtimes_any _ _ (P2 / Q2) Q2 _ s0 s1 MM.out.2.2.2.2.2.1.rfits MM.out.2.1.rfits) ?_
      rintro e w2 ⟨v, rfl, hv, hb⟩
      exact ⟨_, rfl, _, rfl, hJ.step hL rfl hb (by exact hv)⟩
    · intro L vs a w' hJ hF hP hL
      have q7 : (a.tmps[7]?).getD undef = .pointer (some ⟨b10, 0, none⟩) := hF.old 7 rfl
      have cb := cell_later hJ.bel (S18.out.cell (b10) (.slice a10 n10 c10))
      exact run_val (v := .agg #[.slice a10 n10 c10]) rfl (by simp [execOp, go_sem, q7, cb]) ⟨_, rfl, hJ.step hL rfl (Below.refl _ _) (by exact ((S18.out.rat (.agg #[.slice a10 n10 c10]) (P2)).mono hJ.bel))⟩
    · intro L vs a w' hJ hF hP hL
      have p2 : L 2 = true := hP ⟨2, .data⟩ (by simp) rfl
      have s2 : RNat w' (vs 2) (P2 / Q2 * Q2) := hJ.sp 2 p2
      have q73 := hF.slot 2 73 rfl p2
      have p3 : L 3 = true := hP ⟨3, .data⟩ (by simp) rfl
      have s3 : RNat w' (vs 3) (P2) := hJ.sp 3 p3
      have q74 := hF.slot 3 74 rfl p3
      refine run_call (f := 35) (args := #[vs 2, vs 3]) rfl (by simp [go_sem, q73, q74]) (K3.out _ _ _ s2 s3) ?_
      rintro e w2 ⟨rfl, hb⟩
      exact ⟨_, rfl, _, rfl, hJ.step hL rfl hb (by exact rfl)⟩
    · intro L vs a w' hJ hF hP hL
      have p4 : L 4 = true := hP ⟨4, .data⟩ (by simp) rfl
      have s4 : vs 4 = .int .i64 k3 := hJ.sp 4 p4
      have q75 := hF.slot 4 75 rfl p4
      exact run_val (v := .bool true) rfl (by simp [execOp, go_sem, q75, s4, hk3]) ⟨_, rfl, hJ.step hL rfl (Below.refl _ _) (by exact rfl)⟩
    · intro L vs a w' hJ hF hP hL
      have p5 : L 5 = true := hP ⟨5, .data⟩ (by simp) rfl
      have s5 : vs 5 = .bool true := hJ.sp 5 p5
      have q76 := hF.slot 5 76 rfl p5
      exact run_val (v := .bool true) rfl (by simp [execOp, go_sem, q76, s5]) ⟨_, rfl, hJ.step hL rfl (Below.refl _ _) (by exact rfl)⟩
    · intro L vs a w' hJ hF hP hL
      have q12 : (a.tmps[12]?).getD undef = .pointer (some ⟨b17, 0, none⟩) := hF.old 12 rfl
      have cb := cell_later hJ.bel (S18.out.cell (b17) (.slice a17 n17 c17))
      exact run_val (v := .agg #[.slice a17 n17 c17]) (hF.wants 101 HN HG _ 6 true true rfl rfl (hP ⟨6, .guard⟩ (by simp) rfl) (hJ.sp 6 (hP ⟨6, .guard⟩ (by simp) rfl))) (by simp [execOp, go_sem, q12, cb]) ⟨_, rfl, hJ.step hL rfl (Below.refl _ _) (by exact ((S18.out.rat (.agg #[.slice a17 n17 c17]) (P2 / Q2)).mono hJ.bel))⟩
    · intro L vs a w' hJ hF hP hL
      have q11 : (a.tmps[11]?).getD undef = .pointer (some ⟨b15, 0, none⟩) := hF.old 11 rfl
      have cb := cell_later hJ.bel (S18.out.cell (b15) (.slice a15 n15 c15))
      exact run_val (v := .agg #[.slice a15 n15 c15]) (hF.wants 101 HN HG _ 6 true true rfl rfl (hP ⟨6, .guard⟩ (by simp) rfl) (hJ.sp 6 (hP ⟨6, .guard⟩ (by simp) rfl))) (by simp [execOp, go_sem, q11, cb]) ⟨_, rfl, hJ.step hL rfl (Below.refl _ _) (by exact ((S18.out.rat (.agg #[.slice a15 n15 c15]) (1)).mono hJ.bel))⟩
    · intro L vs a w' hJ hF hP hL
      have p7 : L 7 = true := hP ⟨7, .data⟩ (by simp) rfl
      have s7 : RNat w' (vs 7) (P2 / Q2) := hJ.sp 7 p7
      have q78 := hF.slot 7 78 rfl p7
      have p8 : L 8 = true := hP ⟨8, .data⟩ (by simp) rfl
      have s8 : RNat w' (vs 8) (1) := hJ.sp 8 p8
      have q79 := hF.slot 8 79 rfl p8
      refine run_call (f := 38) (args := #[vs 7, vs 8]) (hF.wants 101 HN HG _ 6 true true rfl rfl (hP ⟨6, .guard⟩ (by simp) rfl) (hJ.sp 6 (hP ⟨6, .guard⟩ (by simp) rfl))) (by simp [go_sem, q78, q79]) (rplus_any _ _ (P2 / Q2) 1 _ s7 s8 MM.out.2.2.2.2.2.1.rfits (rs_word (by omega)).rfits) ?_
      rintro e w2 ⟨v, rfl, hv, hb⟩
      exact ⟨_, rfl, _, rfl, hJ.step hL rfl hb (by exact hv)⟩
    · intro L vs a w' hJ hF hP hL
      have q8 : (a.tmps[8]?).getD undef = .pointer (some ⟨b11, 0, none⟩) := hF.old 8 rfl
      have cb := cell_later hJ.bel (S18.out.cell (b11) (.slice a11 n11 c11))
      exact run_val (v := .agg #[.slice a11 n11 c11]) (hF.wants 101 HN HG _ 6 true true rfl rfl (hP ⟨6, .guard⟩ (by simp) rfl) (hJ.sp 6 (hP ⟨6, .guard⟩ (by simp) rfl))) (by simp [execOp, go_sem, q8, cb]) ⟨_, rfl, hJ.step hL rfl (Below.refl _ _) (by exact ((S18.out.rat (.agg #[.slice a11 n11 c11]) (Q2)).mono hJ.bel))⟩
    · intro L vs a w' hJ hF hP hL
      have p9 : L 9 = true := hP ⟨9, .data⟩ (by simp) rfl
      have s9 : RNat w' (vs 9) (P2 / Q2 + 1) := hJ.sp 9 p9
      have q80 := hF.slot 9 80 rfl p9
      have p10 : L 10 = true := hP ⟨10, .data⟩ (by simp) rfl
      have s10 : RNat w' (vs 10) (Q2) := hJ.sp 10 p10
      have q81 := hF.slot 10 81 rfl p10
      refine run_call (f := 37) (args := #[vs 9, vs 10]) (hF.wants 101 HN HG _ 6 true true rfl rfl (hP ⟨6, .guard⟩ (by simp) rfl) (hJ.sp 6 (hP ⟨6, .guard⟩ (by simp) rfl))) (by simp [go_sem, q80, q81]) (rtimes_any _ _ (P2 / Q2 + 1) Q2 _ s9 s10 MM.out.2.2.2.2.2.2.1.rfits MM.out.2.1.rfits) ?_
      rintro e w2 ⟨v, rfl, hv, hb⟩
      exact ⟨_, rfl, _, rfl, hJ.step hL rfl hb (by exact hv)⟩
    · intro L vs a w' hJ hF hP hL
      have q7 : (a.tmps[7]?).getD undef = .pointer (some ⟨b10, 0, none⟩) := hF.old 7 rfl
      have cb := cell_later hJ.bel (S18.out.cell (b10) (.slice a10 n10 c10))
      exact run_val (v := .agg #[.slice a10 n10 c10]) (hF.wants 101 HN HG _ 6 true true rfl rfl (hP ⟨6, .guard⟩ (by simp) rfl) (hJ.sp 6 (hP ⟨6, .guard⟩ (by simp) rfl))) (by simp [execOp, go_sem, q7, cb]) ⟨_, rfl, hJ.step hL rfl (Below.refl _ _) (by exact ((S18.out.rat (.agg #[.slice a10 n10 c10]) (P2)).mono hJ.bel))⟩
    · intro L vs a w' hJ hF hP hL
      have p11 : L 11 = true := hP ⟨11, .data⟩ (by simp) rfl
      have s11 : RNat w' (vs 11) ((P2 / Q2 + 1) * Q2) := hJ.sp 11 p11
      have q82 := hF.slot 11 82 rfl p11
      have p12 : L 12 = true := hP ⟨12, .data⟩ (by simp) rfl
      have s12 : RNat w' (vs 12) (P2) := hJ.sp 12 p12
      have q83 := hF.slot 12 83 rfl p12
      refine run_call (f := 35) (args := #[vs 11, vs 12]) (hF.wants 101 HN HG _ 6 true true rfl rfl (hP ⟨6, .guard⟩ (by simp) rfl) (hJ.sp 6 (hP ⟨6, .guard⟩ (by simp) rfl))) (by simp [go_sem, q82, q83]) (K4.out _ _ _ s11 s12) ?_
      rintro e w2 ⟨rfl, hb⟩
      exact ⟨_, rfl, _, rfl, hJ.step hL rfl hb (by exact rfl)⟩
    · intro L vs a w' hJ hF hP hL
      have p13 : L 13 = true := hP ⟨13, .data⟩ (by simp) rfl
      have s13 : vs 13 = .int .i64 1 := hJ.sp 13 p13
      have q84 := hF.slot 13 84 rfl p13
      exact run_val (v := .bool true) (hF.wants 101 HN HG _ 6 true true rfl rfl (hP ⟨6, .guard⟩ (by simp) rfl) (hJ.sp 6 (hP ⟨6, .guard⟩ (by simp) rfl))) (by simp [execOp, go_sem, q84, s13]) ⟨_, rfl, hJ.step hL rfl (Below.refl _ _) (by exact rfl)⟩
    · intro L vs a w' hJ hF hP hL
      have p6 : L 6 = true := hP ⟨6, .data⟩ (by simp) rfl
      have s6 : vs 6 = .bool true := hJ.sp 6 p6
      have q77 := hF.slot 6 77 rfl p6
      have p14 : L 14 = true := hP ⟨14, .data⟩ (by simp) rfl
      have s14 : vs 14 = .bool true := hJ.sp 14 p14
      have q85 := hF.slot 14 85 rfl p14
      exact run_val (v := .bool true) rfl (by simp [execOp, go_sem, q77, s6, q85, s14]) ⟨_, rfl, hJ.step hL rfl (Below.refl _ _) (by exact rfl)⟩
    · intro L vs a w' hJ hF hP hL
      have p15 : L 15 = true := hP ⟨15, .data⟩ (by simp) rfl
      have s15 : vs 15 = .bool true := hJ.sp 15 p15
      have q86 := hF.slot 15 86 rfl p15
      exact run_val (v := .bool true) rfl (by simp [execOp, go_sem, q86, s15]) ⟨_, rfl, hJ.step hL rfl (Below.refl _ _) (by exact rfl)⟩
    intro L vs w' hA hJ
    have s16 : vs 16 = .bool true := hJ.sp 16 (hA 16 (by simp))
    simp only [putL, Act.put, List.setIfInBounds_toArray, List.set_cons_zero, List.set_cons_succ, Nat.reduceAdd]
    simp only [s16]
    obtain ⟨w19, ew⟩ : ∃ w19, w19 = w' := ⟨_, rfl⟩
    have FX : Hid (w'.frozen? ⟨b17, 0, none⟩ = false) := (hJ.bel.frozen (World.block_lt_of_cell? _ _ (S18.out.cell b17 (.slice a17 n17 c17)))).trans FX.out
    have S19 : Hid _ := S18.out.go hJ.bel
    rw [← ew] at S19 FX
    rw [← ew]
    clear ew s16 hJ hA S18
    have z11 := S19.out.cell b11 (.slice a11 n11 c11)
    have z15 := S19.out.cell b15 (.slice a15 n15 c15)
    go_wp2_with fail
    refine (rcmp_any _ _ Q2 1 _ (S19.out.rat (.agg #[.slice a11 n11 c11]) Q2) (S19.out.rat (.agg #[.slice a15 n15 c15]) 1) MM.out.2.1.rfits (rs_word (by omega)).rfits).mono ?_
    rintro e w20 ⟨rfl, hb⟩
    have FX : Hid (w20.frozen? ⟨b17, 0, none⟩ = false) := (hb.frozen (World.block_lt_of_cell? _ _ (S19.out.cell b17 (.slice a17 n17 c17)))).trans FX.out
    have S20 : Hid _ := S19.out.go hb
    clear hb z11 z15 S19
    by_cases hq : Q2 = 1
    · have ec : cmpI Q2 1 = 0 := by rw [hq]; exact cmpI_self 1
      have KK : Hid _ := K6.out hq
      rw [ec]
      clear hq ec K6 K7
      have z17 := S20.out.cell b17 (.slice a17 n17 c17)
      have z18 := S20.out.cell b18 (.slice a18 n18 c18)
      go_wp2_with fail
      refine (KK.out _ _ _ (S20.out.rat (.agg #[.slice a17 n17 c17]) (P2 / Q2)) (S20.out.rat (.agg #[.slice a18 n18 c18]) (ceilN P2 Q2))).mono ?_
      rintro e w21 ⟨rfl, hb⟩
      have B : Hid _ := (S20.out.go hb).bel
      clear hb z17 z18 S20
      go_wp2_with fail
      go_ret
      exact ⟨rfl, B.out⟩
    · have ec : cmpI Q2 1 = 1 := by
        have := MM.out.2.2.1
        unfold cmpI
        rw [if_neg (by omega), if_neg hq]
      have KK : Hid _ := K7.out hq
      rw [ec]
      clear hq ec K6 K7
      have z17 := S20.out.cell b17 (.slice a17 n17 c17)
      have z15 := S20.out.cell b15 (.slice a15 n15 c15)
      go_wp2_with fail
      refine (rplus_any _ _ (P2 / Q2) 1 _ (S20.out.rat (.agg #[.slice a17 n17 c17]) (P2 / Q2)) (S20.out.rat (.agg #[.slice a15 n15 c15]) 1) MM.out.2.2.2.2.2.1.rfits (rs_word (by omega)).rfits).mono ?_
      rintro e w21 ⟨v21, rfl, hv, hb⟩
      obtain ⟨a21, n21, c21, rfl⟩ := hv.isAgg
      have fz := (hb.frozen (World.block_lt_of_cell? _ _ z17)).trans FX.out
      have S21 : Hid _ := (S20.out.go hb).addM hv
      clear hv hb z17 z15 S20
      have z17 := S21.out.cell b17 (.slice a17 n17 c17)
      have z18 := S21.out.cell b18 (.slice a18 n18 c18)
      have S22 : Hid _ := (S21.out.set (b := b17) (i := 0) z17 ND.out.2 [(b18, 0, .slice a18 n18 c18)] (fun p hp => by
        simp only [List.mem_cons, List.not_mem_nil, or_false] at hp
        subst hp
        exact ⟨by simp, ND.out.1⟩) (.slice a21 n21 c21))
      have s17 : (w21.setCell ⟨b17, 0, none⟩ (.slice a21 n21 c21)).cell? ⟨b17, 0, none⟩ = some (.slice a21 n21 c21) := by simp [go_sem, z17]
      have s18 : (w21.setCell ⟨b17, 0, none⟩ (.slice a21 n21 c21)).cell? ⟨b18, 0, none⟩ = some (.slice a18 n18 c18) := S22.out.cell b18 (.slice a18 n18 c18)
      clear S21
      go_wp2_with fail
      refine (KK.out _ _ _ (S22.out.rat (.agg #[.slice a21 n21 c21]) (P2 / Q2 + 1)) (S22.out.rat (.agg #[.slice a18 n18 c18]) (ceilN P2 Q2))).mono ?_
      rintro e w23 ⟨rfl, hb⟩
      have B : Hid _ := (S22.out.go hb).bel
      clear hb z17 z18 s17 s18 S22
      go_wp2_with fail
      go_ret
      exact ⟨rfl, B.out⟩
  · have d1 : decide (y = 0) = false := decide_eq_false hy
    have e1 : Hid (Y = y) := by
      show Y = y
      rw [EY.out]
      unfold orOne
      rw [if_neg hy]
    have T2 : Hid _ := S14.out.addM (v := .agg #[.slice a13 n13 c13]) (x := Y) (by rw [e1.out]; exact S14.out.rat (.agg #[.slice a13 n13 c13]) y)
    clear hy S14 FY
    go_wp2_with fail
    clear d1 e1
    refine (rof_any 1 _ (by omega)).mono ?_
    rintro e v15w ⟨v15, rfl, hv, hb⟩
    obtain ⟨a15, n15, c15, rfl⟩ := hv.isAgg
    have S15 : Hid _ := ((T2.out.go hb).addM hv).box1 (.slice a15 n15 c15) 33 _ rfl
    clear hv hb T2
    go_wp2_with fail
    obtain ⟨w15, hw⟩ : ∃ w15, w15 = v15w.alloc (.cells #[.slice a15 n15 c15] 33) := ⟨_, rfl⟩
    obtain ⟨b15, hb⟩ : ∃ b15, b15 = v15w.heap.size := ⟨_, rfl⟩
    rw [← hw, ← hb] at S15
    rw [← hw, ← hb]
    clear hw hb
    refine wp_region_inv (JB w15 [sEq (.bool true), sEq (.bool false), sEq (.bool false), sR (P2), sR (Q2), sR (Nat.gcd P2 Q2), sR (1), sEq (.int .i64 0), sEq (.bool false), sEq (.bool false), sEq (.bool false), sR (P2), sR (Y), sR (P2 * Y), sR (x), sR (Q2), sR (x * Q2), sEq (.int .i64 0), sEq (.bool false), sEq (.bool false)] []) 101 (by kernel_rfl) rfl (by kernel_rfl) (JB.start _ _ _) (fun HG HN => ⟨?_, ?_, ?_, ?_, ?_, ?_, ?_, ?_, ?_, ?_, ?_, ?_, ?_, ?_, ?_, ?_, ?_, ?_, ?_, ?_, trivial⟩) ?_
    · intro L vs a w' hJ hF hP hL
      refine run_call (f := 10) (args := #[]) rfl (by simp [go_sem]) (rtold_true _ (FF.out.2.2.go (bel_go S15.out.bel hJ.bel))) ?_
      rintro e w2 ⟨rfl, hb⟩
      exact ⟨_, rfl, _, rfl, hJ.step hL rfl hb (by exact rfl)⟩
    · intro L vs a w' hJ hF hP hL
      have p0 : L 0 = true := hP ⟨0, .data⟩ (by simp) rfl
      have s0 : vs 0 = .bool true := hJ.sp 0 p0
      have q43 := hF.slot 0 43 rfl p0
      exact run_val (v := .bool false) rfl (by simp [execOp, go_sem, q43, s0]) ⟨_, rfl, hJ.step hL rfl (Below.refl _ _) (by exact rfl)⟩
    · intro L vs a w' hJ hF hP hL
      have p1 : L 1 = true := hP ⟨1, .data⟩ (by simp) rfl
      have s1 : vs 1 = .bool false := hJ.sp 1 p1
      have q44 := hF.slot 1 44 rfl p1
      exact run_val (v := .bool false) rfl (by simp [execOp, go_sem, q44, s1]) ⟨_, rfl, hJ.step hL rfl (Below.refl _ _) (by exact rfl)⟩
    · intro L vs a w' hJ hF hP hL
      have q7 : (a.tmps[7]?).getD undef = .pointer (some ⟨b10, 0, none⟩) := hF.old 7 rfl
      have cb := cell_later hJ.bel (S15.out.cell (b10) (.slice a10 n10 c10))
      exact run_val (v := .agg #[.slice a10 n10 c10]) (hF.wants 101 HN HG _ 2 false false rfl rfl (hP ⟨2, .guard⟩ (by simp) rfl) (hJ.sp 2 (hP ⟨2, .guard⟩ (by simp) rfl))) (by simp [execOp, go_sem, q7, cb]) ⟨_, rfl, hJ.step hL rfl (Below.refl _ _) (by exact ((S15.out.rat (.agg #[.slice a10 n10 c10]) (P2)).mono hJ.bel))⟩
    · intro L vs a w' hJ hF hP hL
      have q8 : (a.tmps[8]?).getD undef = .pointer (some ⟨b11, 0, none⟩) := hF.old 8 rfl
      have cb := cell_later hJ.bel (S15.out.cell (b11) (.slice a11 n11 c11))
      exact run_val (v := .agg #[.slice a11 n11 c11]) (hF.wants 101 HN HG _ 2 false false rfl rfl (hP ⟨2, .guard⟩ (by simp) rfl) (hJ.sp 2 (hP ⟨2, .guard⟩ (by simp) rfl))) (by simp [execOp, go_sem, q8, cb]) ⟨_, rfl, hJ.step hL rfl (Below.refl _ _) (by exact ((S15.out.rat (.agg #[.slice a11 n11 c11]) (Q2)).mono hJ.bel))⟩
    · intro L vs a w' hJ hF hP hL
      have p3 : L 3 = true := hP ⟨3, .data⟩ (by simp) rfl
      have s3 : RNat w' (vs 3) (P2) := hJ.sp 3 p3
      have q46 := hF.slot 3 46 rfl p3
      have p4 : L 4 = true := hP ⟨4, .data⟩ (by simp) rfl
      have s4 : RNat w' (vs 4) (Q2) := hJ.sp 4 p4
      have q47 := hF.slot 4 47 rfl p4
      refine run_call (f := 36) (args := #[vs 3, vs 4]) (hF.wants 101 HN HG _ 2 false false rfl rfl (hP ⟨2, .guard⟩ (by simp) rfl) (hJ.sp 2 (hP ⟨2, .guard⟩ (by simp) rfl))) (by simp [go_sem, q46, q47]) (rgcd_any _ _ P2 Q2 _ s3 s4 MM.out.1.rsome MM.out.2.1.rsome) ?_
      rintro e w2 ⟨v, rfl, hv, hb⟩
      exact ⟨_, rfl, _, rfl, hJ.step hL rfl hb (by exact hv)⟩
    · intro L vs a w' hJ hF hP hL
      have q11 : (a.tmps[11]?).getD undef = .pointer (some ⟨b15, 0, none⟩) := hF.old 11 rfl
      have cb := cell_later hJ.bel (S15.out.cell (b15) (.slice a15 n15 c15))
      exact run_val (v := .agg #[.slice a15 n15 c15]) (hF.wants 101 HN HG _ 2 false false rfl rfl (hP ⟨2, .guard⟩ (by simp) rfl) (hJ.sp 2 (hP ⟨2, .guard⟩ (by simp) rfl))) (by simp [execOp, go_sem, q11, cb]) ⟨_, rfl, hJ.step hL rfl (Below.refl _ _) (by exact ((S15.out.rat (.agg #[.slice a15 n15 c15]) (1)).mono hJ.bel))⟩
    · intro L vs a w' hJ hF hP hL
      have p5 : L 5 = true := hP ⟨5, .data⟩ (by simp) rfl
      have s5 : RNat w' (vs 5) (Nat.gcd P2 Q2) := hJ.sp 5 p5
      have q48 := hF.slot 5 48 rfl p5
      have p6 : L 6 = true := hP ⟨6, .data⟩ (by simp) rfl
      have s6 : RNat w' (vs 6) (1) := hJ.sp 6 p6
      have q49 := hF.slot 6 49 rfl p6
      refine run_call (f := 35) (args := #[vs 5, vs 6]) (hF.wants 101 HN HG _ 2 false false rfl rfl (hP ⟨2, .guard⟩ (by simp) rfl) (hJ.sp 2 (hP ⟨2, .guard⟩ (by simp) rfl))) (by simp [go_sem, q48, q49]) (K1.out _ _ _ s5 s6) ?_
      rintro e w2 ⟨rfl, hb⟩
      exact ⟨_, rfl, _, rfl, hJ.step hL rfl hb (by exact rfl)⟩
    · intro L vs a w' hJ hF hP hL
      have p7 : L 7 = true := hP ⟨7, .data⟩ (by simp) rfl
      have s7 : vs 7 = .int .i64 0 := hJ.sp 7 p7
      have q50 := hF.slot 7 50 rfl p7
      exact run_val (v := .bool false) (hF.wants 101 HN HG _ 2 false false rfl rfl (hP ⟨2, .guard⟩ (by simp) rfl) (hJ.sp 2 (hP ⟨2, .guard⟩ (by simp) rfl))) (by simp [execOp, go_sem, q50, s7]) ⟨_, rfl, hJ.step hL rfl (Below.refl _ _) (by exact rfl)⟩
    · intro L vs a w' hJ hF hP hL
      have p2 : L 2 = true := hP ⟨2, .data⟩ (by simp) rfl
      have s2 : vs 2 = .bool false := hJ.sp 2 p2
      have q45 := hF.slot 2 45 rfl p2
      have p8 : L 8 = true := hP ⟨8, .data⟩ (by simp) rfl
      have s8 : vs 8 = .bool false := hJ.sp 8 p8
      have q51 := hF.slot 8 51 rfl p8
      exact run_val (v := .bool false) rfl (by simp [execOp, go_sem, q45, s2, q51, s8]) ⟨_, rfl, hJ.step hL rfl (Below.refl _ _) (by exact rfl)⟩
    · intro L vs a w' hJ hF hP hL
      have p9 : L 9 = true := hP ⟨9, .data⟩ (by simp) rfl
      have s9 : vs 9 = .bool false := hJ.sp 9 p9
      have q52 := hF.slot 9 52 rfl p9
      exact run_val (v := .bool false) rfl (by simp [execOp, go_sem, q52, s9]) ⟨_, rfl, hJ.step hL rfl (Below.refl _ _) (by exact rfl)⟩
    · intro L vs a w' hJ hF hP hL
      have q7 : (a.tmps[7]?).getD undef = .pointer (some ⟨b10, 0, none⟩) := hF.old 7 rfl
      have cb := cell_later hJ.bel (S15.out.cell (b10) (.slice a10 n10 c10))
      exact run_val (v := .agg #[.slice a10 n10 c10]) (hF.wants 101 HN HG _ 10 false false rfl rfl (hP ⟨10, .guard⟩ (by simp) rfl) (hJ.sp 10 (hP ⟨10, .guard⟩ (by simp) rfl))) (by simp [execOp, go_sem, q7, cb]) ⟨_, rfl, hJ.step hL rfl (Below.refl _ _) (by exact ((S15.out.rat (.agg #[.slice a10 n10 c10]) (P2)).mono hJ.bel))⟩
    · intro L vs a w' hJ hF hP hL
      have q10 : (a.tmps[10]?).getD undef = .pointer (some ⟨b13, 0, none⟩) := hF.old 10 rfl
      have cb := cell_later hJ.bel (S15.out.cell (b13) (.slice a13 n13 c13))
      exact run_val (v := .agg #[.slice a13 n13 c13]) (hF.wants 101 HN HG _ 10 false false rfl rfl (hP ⟨10, .guard⟩ (by simp) rfl) (hJ.sp 10 (hP ⟨10, .guard⟩ (by simp) rfl))) (by simp [execOp, go_sem, q10, cb]) ⟨_, rfl, hJ.step hL rfl (Below.refl _ _) (by exact ((S15.out.rat (.agg #[.slice a13 n13 c13]) (Y)).mono hJ.bel))⟩
    · intro L vs a w' hJ hF hP hL
      have p11 : L 11 = true := hP ⟨11, .data⟩ (by simp) rfl
      have s11 : RNat w' (vs 11) (P2) := hJ.sp 11 p11
      have q54 := hF.slot 11 54 rfl p11
      have p12 : L 12 = true := hP ⟨12, .data⟩ (by simp) rfl
      have s12 : RNat w' (vs 12) (Y) := hJ.sp 12 p12
      have q55 := hF.slot 12 55 rfl p12
      refine run_call (f := 37) (args := #[vs 11, vs 12]) (hF.wants 101 HN HG _ 10 false false rfl rfl (hP ⟨10, .guard⟩ (by simp) rfl) (hJ.sp 10 (hP ⟨10, .guard⟩ (by simp) rfl))) (by simp [go_sem, q54, q55]) (rtimes_any _ _ P2 Y _ s11 s12 MM.out.1.rfits MM.out.2.2.2.2.1.rfits) ?_
      rintro e w2 ⟨v, rfl, hv, hb⟩
      exact ⟨_, rfl, _, rfl, hJ.step hL rfl hb (by exact hv)⟩
    · intro L vs a w' hJ hF hP hL
      have q9 : (a.tmps[9]?).getD undef = .pointer (some ⟨b12, 0, none⟩) := hF.old 9 rfl
      have cb := cell_later hJ.bel (S15.out.cell (b12) (.slice a12 n12 c12))
      exact run_val (v := .agg #[.slice a12 n12 c12]) (hF.wants 101 HN HG _ 10 false false rfl rfl (hP ⟨10, .guard⟩ (by simp) rfl) (hJ.sp 10 (hP ⟨10, .guard⟩ (by simp) rfl))) (by simp [execOp, go_sem, q9, cb]) ⟨_, rfl, hJ.step hL rfl (Below.refl _ _) (by exact ((S15.out.rat (.agg #[.slice a12 n12 c12]) (x)).mono hJ.bel))⟩
    · intro L vs a w' hJ hF hP hL
      have q8 : (a.tmps[8]?).getD undef = .pointer (some ⟨b11, 0, none⟩) := hF.old 8 rfl
      have cb := cell_later hJ.bel (S15.out.cell (b11) (.slice a11 n11 c11))
      exact run_val (v := .agg #[.slice a11 n11 c11]) (hF.wants 101 HN HG _ 10 false false rfl rfl (hP ⟨10, .guard⟩ (by simp) rfl) (hJ.sp 10 (hP ⟨10, .guard⟩ (by simp) rfl))) (by simp [execOp, go_sem, q8, cb]) ⟨_, rfl, hJ.step hL rfl (Below.refl _ _) (by exact ((S15.out.rat (.agg #[.slice a11 n11 c11]) (Q2)).mono hJ.bel))⟩
    · intro L vs a w' hJ hF hP hL
      have p14 : L 14 = true := hP ⟨14, .data⟩ (by simp) rfl
      have s14 : RNat w' (vs 14) (x) := hJ.sp 14 p14
      have q57 := hF.slot 14 57 rfl p14
      have p15 : L 15 = true := hP ⟨15, .data⟩ (by simp) rfl
      have s15 : RNat w' (vs 15) (Q2) := hJ.sp 15 p15
      have q58 := hF.slot 15 58 rfl p15
      refine run_call (f := 37) (args := #[vs 14, vs 15]) (hF.wants 101 HN HG _ 10 false false rfl rfl (hP ⟨10, .guard⟩ (by simp) rfl) (hJ.sp 10 (hP ⟨10, .guard⟩ (by simp) rfl))) (by simp [go_sem, q57, q58]) (rtimes_any _ _ x Q2 _ s14 s15 MM.out.2.2.2.1.rfits MM.out.2.1.rfits) ?_
      rintro e w2 ⟨v, rfl, hv, hb⟩
      exact ⟨_, rfl, _, rfl, hJ.step hL rfl hb (by exact hv)⟩
    · intro L vs a w' hJ hF hP hL
      have p13 : L 13 = true := hP ⟨13, .data⟩ (by simp) rfl
      have s13 : RNat w' (vs 13) (P2 * Y) := hJ.sp 13 p13
      have q56 := hF.slot 13 56 rfl p13
      have p16 : L 16 = true := hP ⟨16, .data⟩ (by simp) rfl
      have s16 : RNat w' (vs 16) (x * Q2) := hJ.sp 16 p16
      have q59 := hF.slot 16 59 rfl p16
      refine run_call (f := 35) (args := #[vs 13, vs 16]) (hF.wants 101 HN HG _ 10 false false rfl rfl (hP ⟨10, .guard⟩ (by simp) rfl) (hJ.sp 10 (hP ⟨10, .guard⟩ (by simp) rfl))) (by simp [go_sem, q56, q59]) (K2.out _ _ _ s13 s16) ?_
      rintro e w2 ⟨rfl, hb⟩
      exact ⟨_, rfl, _, rfl, hJ.step hL rfl hb (by exact rfl)⟩
    · intro L vs a w' hJ hF hP hL
      have p17 : L 17 = true := hP ⟨17, .data⟩ (by simp) rfl
      have s17 : vs 17 = .int .i64 0 := hJ.sp 17 p17
      have q60 := hF.slot 17 60 rfl p17
      exact run_val (v := .bool false) (hF.wants 101 HN HG _ 10 false false rfl rfl (hP ⟨10, .guard⟩ (by simp) rfl) (hJ.sp 10 (hP ⟨10, .guard⟩ (by simp) rfl))) (by simp [execOp, go_sem, q60, s17]) ⟨_, rfl, hJ.step hL rfl (Below.refl _ _) (by exact rfl)⟩
    · intro L vs a w' hJ hF hP hL
      have p10 : L 10 = true := hP ⟨10, .data⟩ (by simp) rfl
      have s10 : vs 10 = .bool false := hJ.sp 10 p10
      have q53 := hF.slot 10 53 rfl p10
      have p18 : L 18 = true := hP ⟨18, .data⟩ (by simp) rfl
      have s18 : vs 18 = .bool false := hJ.sp 18 p18
      have q61 := hF.slot 18 61 rfl p18
      exact run_val (v := .bool false) rfl (by simp [execOp, go_sem, q53, s10, q61, s18]) ⟨_, rfl, hJ.step hL rfl (Below.refl _ _) (by exact rfl)⟩
    intro L vs w' hA hJ
    have s19 : vs 19 = .bool false := hJ.sp 19 (hA 19 (by simp))
    simp only [putL, Act.put, List.setIfInBounds_toArray, List.set_cons_zero, List.set_cons_succ, Nat.reduceAdd]
    simp only [s19]
    obtain ⟨w16, ew⟩ : ∃ w16, w16 = w' := ⟨_, rfl⟩
    have S16 : Hid _ := S15.out.go hJ.bel
    rw [← ew] at S16
    rw [← ew]
    clear ew s19 hJ hA S15
    go_wp2_with fail
    refine wp_region_inv (JB w16 [sRt (P2) (Q2), sNat (P2 / Q2), sBy (P2 / Q2), sR (P2 / Q2), sRt (P2) (Q2), sNat (ceilN P2 Q2), sBy (ceilN P2 Q2), sR (ceilN P2 Q2), sAny, sAny, sAny, sAny] [(8, 10, 3), (9, 11, 7)]) 101 (by kernel_rfl) rfl (by kernel_rfl) (JB.start _ _ _) (fun HG HN => ⟨?_, ?_, ?_, ?_, ?_, ?_, ?_, ?_, ?_, ?_, ?_, ?_, trivial⟩) ?_
    · intro L vs a w' hJ hF hP hL
      have q3 : (a.tmps[3]?).getD undef = .pointer (some ⟨b5, 0, none⟩) := hF.old 3 rfl
      have cb := cell_later hJ.bel (S16.out.cel (b5) 0 (.slice a5 n5 c5))
      have cc := cell_later hJ.bel (S16.out.cel (b5) 1 (.slice d5 m5 g5))
      exact run_val (v := .agg #[.slice a5 n5 c5, .slice d5 m5 g5]) rfl (by simp [execOp, go_sem, q3, cb, cc]) ⟨_, rfl, hJ.step hL rfl (Below.refl _ _) (by exact ((S16.out.fr (.agg #[.slice a5 n5 c5, .slice d5 m5 g5]) (P2) (Q2)).mono hJ.bel))⟩
    · intro L vs a w' hJ hF hP hL
      have p0 : L 0 = true := hP ⟨0, .data⟩ (by simp) rfl
      have s0 : Rt w' (vs 0) (P2) (Q2) := hJ.sp 0 p0
      have q63 := hF.slot 0 63 rfl p0
      refine run_call (f := 21) (args := #[vs 0]) rfl (by simp [go_sem, q63]) (floor_any _ P2 Q2 _ s0 MM.out.1 MM.out.2.1) ?_
      rintro e w2 ⟨v, rfl, hv, hb⟩
      exact ⟨_, rfl, _, rfl, hJ.step hL rfl hb (by exact hv)⟩
    · intro L vs a w' hJ hF hP hL
      have p1 : L 1 = true := hP ⟨1, .data⟩ (by simp) rfl
      have s1 : IsNat w' (vs 1) (P2 / Q2) := hJ.sp 1 p1
      have q64 := hF.slot 1 64 rfl p1
      refine run_call (f := 32) (args := #[vs 1]) rfl (by simp [go_sem, q64]) (bytes_any _ (P2 / Q2) _ s1 MM.out.2.2.2.2.2.1.fits) ?_
      rintro e w2 ⟨gb, rfl, hg, hR, hb⟩
      exact ⟨_, rfl, _, rfl, hJ.step hL rfl hb (by exact ⟨gb, rfl, fun i hi => hR.cell hi⟩)⟩
    · intro L vs a w' hJ hF hP hL
      have p2 : L 2 = true := hP ⟨2, .data⟩ (by simp) rfl
      have s2 : ByIs w' (vs 2) (P2 / Q2) := hJ.sp 2 p2
      have q65 := hF.slot 2 65 rfl p2
      refine run_call (f := 17) (args := #[vs 2]) rfl (by simp [go_sem, q65]) (rfrom_by _ (P2 / Q2) _ s2 (BL.out _ MM.out.2.2.2.2.2.1)) ?_
      rintro e w2 ⟨v, rfl, hv, hb⟩
      exact ⟨_, rfl, _, rfl, hJ.step hL rfl hb (by exact hv)⟩
    · intro L vs a w' hJ hF hP hL
      have q3 : (a.tmps[3]?).getD undef = .pointer (some ⟨b5, 0, none⟩) := hF.old 3 rfl
      have cb := cell_later hJ.bel (S16.out.cel (b5) 0 (.slice a5 n5 c5))
      have cc := cell_later hJ.bel (S16.out.cel (b5) 1 (.slice d5 m5 g5))
      exact run_val (v := .agg #[.slice a5 n5 c5, .slice d5 m5 g5]) rfl (by simp [execOp, go_sem, q3, cb, cc]) ⟨_, rfl, hJ.step hL rfl (Below.refl _ _) (by exact ((S16.out.fr (.agg #[.slice a5 n5 c5, .slice d5 m5 g5]) (P2) (Q2)).mono hJ.bel))⟩
    · intro L vs a w' hJ hF hP hL
      have p4 : L 4 = true := hP ⟨4, .data⟩ (by simp) rfl
      have s4 : Rt w' (vs 4) (P2) (Q2) := hJ.sp 4 p4
      have q67 := hF.slot 4 67 rfl p4
      refine run_call (f := 23) (args := #[vs 4]) rfl (by simp [go_sem, q67]) (ceil_any _ P2 Q2 _ s4 MM.out.1 MM.out.2.1) ?_
      rintro e w2 ⟨v, rfl, hv, hb⟩
      exact ⟨_, rfl, _, rfl, hJ.step hL rfl hb (by exact hv)⟩
    · intro L vs a w' hJ hF hP hL
      have p5 : L 5 = true := hP ⟨5, .data⟩ (by simp) rfl
      have s5 : IsNat w' (vs 5) (ceilN P2 Q2) := hJ.sp 5 p5
      have q68 := hF.slot 5 68 rfl p5
      refine run_call (f := 32) (args := #[vs 5]) rfl (by simp [go_sem, q68]) (bytes_any _ (ceilN P2 Q2) _ s5 MM.out.2.2.2.2.2.2.2.1.fits) ?_
      rintro e w2 ⟨gb, rfl, hg, hR, hb⟩
      exact ⟨_, rfl, _, rfl, hJ.step hL rfl hb (by exact ⟨gb, rfl, fun i hi => hR.cell hi⟩)⟩
    · intro L vs a w' hJ hF hP hL
      have p6 : L 6 = true := hP ⟨6, .data⟩ (by simp) rfl
      have s6 : ByIs w' (vs 6) (ceilN P2 Q2) := hJ.sp 6 p6
      have q69 := hF.slot 6 69 rfl p6
      refine run_call (f := 17) (args := #[vs 6]) rfl (by simp [go_sem, q69]) (rfrom_by _ (ceilN P2 Q2) _ s6 (BL.out _ MM.out.2.2.2.2.2.2.2.1)) ?_
      rintro e w2 ⟨v, rfl, hv, hb⟩
      exact ⟨_, rfl, _, rfl, hJ.step hL rfl hb (by exact hv)⟩
    · intro L vs a w' hJ hF hP hL
      exact run_val (v := .pointer (some ⟨w'.heap.size, 0, none⟩)) (w' := w'.alloc (.cells #[.slice none 0 0] 33)) rfl (by simp [execOp, go_sem]) ⟨_, rfl, hJ.alloc hL rfl rfl _⟩
    · intro L vs a w' hJ hF hP hL
      exact run_val (v := .pointer (some ⟨w'.heap.size, 0, none⟩)) (w' := w'.alloc (.cells #[.slice none 0 0] 33)) rfl (by simp [execOp, go_sem]) ⟨_, rfl, hJ.alloc hL rfl rfl _⟩
    · intro L vs a w' hJ hF hP hL
      have p8 : L 8 = true := hP ⟨8, .data⟩ (by simp) rfl
      have q12 := hF.slot 8 12 rfl p8
      have p3 : L 3 = true := hP ⟨3, .data⟩ (by simp) rfl
      have s3 : RNat w' (vs 3) (P2 / Q2) := hJ.sp 3 p3
      have q66 := hF.slot 3 66 rfl p3
      obtain ⟨bk, e1, e2, e3, e4, e5, e6⟩ := hJ.bx (8, 10, 3) (by simp) p8
      have e7 := e5 hL
      obtain ⟨aa, nn, cc, e8⟩ := s3.isAgg
      exact run_unit (w' := w'.setCell ⟨bk, 0, none⟩ (.slice aa nn cc)) rfl (by simp [execOp, go_sem, q12, q66, e1, e8, e7, e4]) ⟨undef, rfl, hJ.store (b := (8, 10, 3)) (by simp) hL p8 p3 (by decide) rfl e1 e8⟩
    · intro L vs a w' hJ hF hP hL
      have p9 : L 9 = true := hP ⟨9, .data⟩ (by simp) rfl
      have q13 := hF.slot 9 13 rfl p9
      have p7 : L 7 = true := hP ⟨7, .data⟩ (by simp) rfl
      have s7 : RNat w' (vs 7) (ceilN P2 Q2) := hJ.sp 7 p7
      have q70 := hF.slot 7 70 rfl p7
      obtain ⟨bk, e1, e2, e3, e4, e5, e6⟩ := hJ.bx (9, 11, 7) (by simp) p9
      have e7 := e5 hL
      obtain ⟨aa, nn, cc, e8⟩ := s7.isAgg
      exact run_unit (w' := w'.setCell ⟨bk, 0, none⟩ (.slice aa nn cc)) rfl (by simp [execOp, go_sem, q13, q70, e1, e8, e7, e4]) ⟨undef, rfl, hJ.store (b := (9, 11, 7)) (by simp) hL p9 p7 (by decide) rfl e1 e8⟩
    intro L vs w' hA hJ
    have s3 : RNat w' (vs 3) (P2 / Q2) := hJ.sp 3 (hA 3 (by simp))
    have s7 : RNat w' (vs 7) (ceilN P2 Q2) := hJ.sp 7 (hA 7 (by simp))
    obtain ⟨bk8, eb8, ge8, lt8, fz8, _, e6⟩ := hJ.bx (8, 10, 3) (by simp) (hA 8 (by simp))
    obtain ⟨_, u8, eu8, ce8⟩ := e6 (hA 10 (by simp))
    clear e6
    obtain ⟨bk9, eb9, ge9, lt9, fz9, _, e6⟩ := hJ.bx (9, 11, 7) (by simp) (hA 9 (by simp))
    obtain ⟨_, u9, eu9, ce9⟩ := e6 (hA 11 (by simp))
    clear e6
    simp only [putL, Act.put, List.setIfInBounds_toArray, List.set_cons_zero, List.set_cons_succ, Nat.reduceAdd]
    obtain ⟨a17, n17, c17, q1⟩ := s3.isAgg
    obtain ⟨a18, n18, c18, q2⟩ := s7.isAgg
    rw [q1] at s3 eu8
    rw [q2] at s7 eu9
    obtain rfl : u8 = .slice a17 n17 c17 := by simpa using eu8.symm
    obtain rfl : u9 = .slice a18 n18 c18 := by simpa using eu9.symm
    simp only [eb8, eb9]
    have ND : Hid (bk9 ≠ bk8 ∧ w.heap.size ≤ bk8) := by
      have nd : bk8 ≠ bk9 := fun e => hJ.dj (8, 10, 3) (by simp) (9, 11, 7) (by simp) (hA 8 (by simp)) (hA 9 (by simp)) (by decide) (by rw [eb8, eb9, e])
      have := S16.out.bel.size
      exact ⟨nd.symm, by omega⟩
    have FX : Hid (w'.frozen? ⟨bk8, 0, none⟩ = false) := fz8
    obtain ⟨w18, ew⟩ : ∃ w18, w18 = w' := ⟨_, rfl⟩
    obtain ⟨b17, e1⟩ : ∃ b17, b17 = bk8 := ⟨_, rfl⟩
    obtain ⟨b18, e2⟩ : ∃ b18, b18 = bk9 := ⟨_, rfl⟩
    have S18 : Hid _ := (((((S16.out.go hJ.bel).addM s3).addM s7).addC ce8).addC ce9)
    rw [← ew, ← e1, ← e2] at S18
    rw [← e1, ← e2] at ND
    rw [← ew, ← e1] at FX
    rw [← ew, ← e1, ← e2]
    clear ew e1 e2 q1 q2 s3 s7 eu8 eu9 eb8 eb9 ce8 ce9 ge8 ge9 lt8 lt9 fz8 fz9 hJ hA S16
    go_wp2_with fail
    refine wp_region_inv (JB w18 [sR (P2 / Q2), sR (Q2), sR (P2 / Q2 * Q2), sR (P2), sEq (.int .i64 k3), sEq (.bool true), sEq (.bool true), sR (P2 / Q2), sR (1), sR (P2 / Q2 + 1), sR (Q2), sR ((P2 / Q2 + 1) * Q2), sR (P2), sEq (.int .i64 1), sEq (.bool true), sEq (.bool true), sEq (.bool true)] []) 101 (by kernel_rfl) rfl (by kernel_rfl) (JB.start _ _ _) (fun HG HN => ⟨?_, ?_, ?_, ?_, ?_, ?_, ?_, ?_, ?_, ?_, ?_, ?_, ?_, ?_, ?_, ?_, ?_, trivial⟩) ?_
    · intro L vs a w' hJ hF hP hL
      have q12 : (a.tmps[12]?).getD undef = .pointer (some ⟨b17, 0, none⟩) := hF.old 12 rfl
      have cb := cell_later hJ.bel (S18.out.cell (b17) (.slice a17 n17 c17))
      exact run_val (v := .agg #[.slice a17 n17 c17]) rfl (by simp [execOp, go_sem, q12, cb]) ⟨_, rfl, hJ.step hL rfl (Below.refl _ _) (by exact ((S18.out.rat (.agg #[.slice a17 n17 c17]) (P2 / Q2)).mono hJ.bel))⟩
    · intro L vs a w' hJ hF hP hL
      have q8 : (a.tmps[8]?).getD undef = .pointer (some ⟨b11, 0, none⟩) := hF.old 8 rfl
      have cb := cell_later hJ.bel (S18.out.cell (b11) (.slice a11 n11 c11))
      exact run_val (v := .agg #[.slice a11 n11 c11]) rfl (by simp [execOp, go_sem, q8, cb]) ⟨_, rfl, hJ.step hL rfl (Below.refl _ _) (by exact ((S18.out.rat (.agg #[.slice a11 n11 c11]) (Q2)).mono hJ.bel))⟩
    · intro L vs a w' hJ hF hP hL
      have p0 : L 0 = true := hP ⟨0, .data⟩ (by simp) rfl
      have s0 : RNat w' (vs 0) (P2 / Q2) := hJ.sp 0 p0
      have q71 := hF.slot 0 71 rfl p0
      have p1 : L 1 = true := hP ⟨1, .data⟩ (by simp) rfl
      have s1 : RNat w' (vs 1) (Q2) := hJ.sp 1 p1
      have q72 := hF.slot 1 72 rfl p1
      refine run_call (f := 37) (args := #[vs 0, vs 1]) rfl (by simp [go_sem, q71, q72]) (rtimes_any _ _ (P2 / Q2) Q2 _ s0 s1 MM.out.2.2.2.2.2.1.rfits MM.out.2.1.rfits) ?_
      rintro e w2 ⟨v, rfl, hv, hb⟩
      exact ⟨_, rfl, _, rfl, hJ.step hL rfl hb (by exact hv)⟩
    · intro L vs a w' hJ hF hP hL
      have q7 : (a.tmps[7]?).getD undef = .pointer (some ⟨b10, 0, none⟩) := hF.old 7 rfl
      have cb := cell_later hJ.bel (S18.out.cell (b10) (.slice a10 n10 c10))
      exact run_val (v := .agg #[.slice a10 n10 c10]) rfl (by simp [execOp, go_sem, q7, cb]) ⟨_, rfl, hJ.step hL rfl (Below.refl _ _) (by exact ((S18.out.rat (.agg #[.slice a10 n10 c10]) (P2)).mono hJ.bel))⟩
    · intro L vs a w' hJ hF hP hL
      have p2 : L 2 = true := hP ⟨2, .data⟩ (by simp) rfl
      have s2 : RNat w' (vs 2) (P2 / Q2 * Q2) := hJ.sp 2 p2
      have q73 := hF.slot 2 73 rfl p2
      have p3 : L 3 = true := hP ⟨3, .data⟩ (by simp) rfl
      have s3 : RNat w' (vs 3) (P2) := hJ.sp 3 p3
      have q74 := hF.slot 3 74 rfl p3
      refine run_call (f := 35) (args := #[vs 2, vs 3]) rfl (by simp [go_sem, q73, q74]) (K3.out _ _ _ s2 s3) ?_
      rintro e w2 ⟨rfl, hb⟩
      exact ⟨_, rfl, _, rfl, hJ.step hL rfl hb (by exact rfl)⟩
    · intro L vs a w' hJ hF hP hL
      have p4 : L 4 = true := hP ⟨4, .data⟩ (by simp) rfl
      have s4 : vs 4 = .int .i64 k3 := hJ.sp 4 p4
      have q75 := hF.slot 4 75 rfl p4
      exact run_val (v := .bool true) rfl (by simp [execOp, go_sem, q75, s4, hk3]) ⟨_, rfl, hJ.step hL rfl (Below.refl _ _) (by exact rfl)⟩
    · intro L vs a w' hJ hF hP hL
      have p5 : L 5 = true := hP ⟨5, .data⟩ (by simp) rfl
      have s5 : vs 5 = .bool true := hJ.sp 5 p5
      have q76 := hF.slot 5 76 rfl p5
      exact run_val (v := .bool true) rfl (by simp [execOp, go_sem, q76, s5]) ⟨_, rfl, hJ.step hL rfl (Below.refl _ _) (by exact rfl)⟩
    · intro L vs a w' hJ hF hP hL
      have q12 : (a.tmps[12]?).getD undef = .pointer (some ⟨b17, 0, none⟩) := hF.old 12 rfl
      have cb := cell_later hJ.bel (S18.out.cell (b17) (.slice a17 n17 c17))
      exact run_val (v := .agg #[.slice a17 n17 c17]) (hF.wants 101 HN HG _ 6 true true rfl rfl (hP ⟨6, .guard⟩ (by simp) rfl) (hJ.sp 6 (hP ⟨6, .guard⟩ (by simp) rfl))) (by simp [execOp, go_sem, q12, cb]) ⟨_, rfl, hJ.step hL rfl (Below.refl _ _) (by exact ((S18.out.rat (.agg #[.slice a17 n17 c17]) (P2 / Q2)).mono hJ.bel))⟩
    · intro L vs a w' hJ hF hP hL
      have q11 : (a.tmps[11]?).getD undef = .pointer (some ⟨b15, 0, none⟩) := hF.old 11 rfl
      have cb := cell_later hJ.bel (S18.out.cell (b15) (.slice a15 n15 c15))
      exact run_val (v := .agg #[.slice a15 n15 c15]) (hF.wants 101 HN HG _ 6 true true rfl rfl (hP ⟨6, .guard⟩ (by simp) rfl) (hJ.sp 6 (hP ⟨6, .guard⟩ (by simp) rfl))) (by simp [execOp, go_sem, q11, cb]) ⟨_, rfl, hJ.step hL rfl (Below.refl _ _) (by exact ((S18.out.rat (.agg #[.slice a15 n15 c15]) (1)).mono hJ.bel))⟩
    · intro L vs a w' hJ hF hP hL
      have p7 : L 7 = true := hP ⟨7, .data⟩ (by simp) rfl
      have s7 : RNat w' (vs 7) (P2 / Q2) := hJ.sp 7 p7
      have q78 := hF.slot 7 78 rfl p7
      have p8 : L 8 = true := hP ⟨8, .data⟩ (by simp) rfl
      have s8 : RNat w' (vs 8) (1) := hJ.sp 8 p8
      have q79 := hF.slot 8 79 rfl p8
      refine run_call (f := 38) (args := #[vs 7, vs 8]) (hF.wants 101 HN HG _ 6 true true rfl rfl (hP ⟨6, .guard⟩ (by simp) rfl) (hJ.sp 6 (hP ⟨6, .guard⟩ (by simp) rfl))) (by simp [go_sem, q78, q79]) (rplus_any _ _ (P2 / Q2) 1 _ s7 s8 MM.out.2.2.2.2.2.1.rfits (rs_word (by omega)).rfits) ?_
      rintro e w2 ⟨v, rfl, hv, hb⟩
      exact ⟨_, rfl, _, rfl, hJ.step hL rfl hb (by exact hv)⟩
    · intro L vs a w' hJ hF hP hL
      have q8 : (a.tmps[8]?).getD undef = .pointer (some ⟨b11, 0, none⟩) := hF.old 8 rfl
      have cb := cell_later hJ.bel (S18.out.cell (b11) (.slice a11 n11 c11))
      exact run_val (v := .agg #[.slice a11 n11 c11]) (hF.wants 101 HN HG _ 6 true true rfl rfl (hP ⟨6, .guard⟩ (by simp) rfl) (hJ.sp 6 (hP ⟨6, .guard⟩ (by simp) rfl))) (by simp [execOp, go_sem, q8, cb]) ⟨_, rfl, hJ.step hL rfl (Below.refl _ _) (by exact ((S18.out.rat (.agg #[.slice a11 n11 c11]) (Q2)).mono hJ.bel))⟩
    · intro L vs a w' hJ hF hP hL
      have p9 : L 9 = true := hP ⟨9, .data⟩ (by simp) rfl
      have s9 : RNat w' (vs 9) (P2 / Q2 + 1) := hJ.sp 9 p9
      have q80 := hF.slot 9 80 rfl p9
      have p10 : L 10 = true := hP ⟨10, .data⟩ (by simp) rfl
      have s10 : RNat w' (vs 10) (Q2) := hJ.sp 10 p10
      have q81 := hF.slot 10 81 rfl p10
      refine run_call (f := 37) (args := #[vs 9, vs 10]) (hF.wants 101 HN HG _ 6 true true rfl rfl (hP ⟨6, .guard⟩ (by simp) rfl) (hJ.sp 6 (hP ⟨6, .guard⟩ (by simp) rfl))) (by simp [go_sem, q80, q81]) (rtimes_any _ _ (P2 / Q2 + 1) Q2 _ s9 s10 MM.out.2.2.2.2.2.2.1.rfits MM.out.2.1.rfits) ?_
      rintro e w2 ⟨v, rfl, hv, hb⟩
      exact ⟨_, rfl, _, rfl, hJ.step hL rfl hb (by exact hv)⟩
    · intro L vs a w' hJ hF hP hL
      have q7 : (a.tmps[7]?).getD undef = .pointer (some ⟨b10, 0, none⟩) := hF.old 7 rfl
      have cb := cell_later hJ.bel (S18.out.cell (b10) (.slice a10 n10 c10))
      exact run_val (v := .agg #[.slice a10 n10 c10]) (hF.wants 101 HN HG _ 6 true true rfl rfl (hP ⟨6, .guard⟩ (by simp) rfl) (hJ.sp 6 (hP ⟨6, .guard⟩ (by simp) rfl))) (by simp [execOp, go_sem, q7, cb]) ⟨_, rfl, hJ.step hL rfl (Below.refl _ _) (by exact ((S18.out.rat (.agg #[.slice a10 n10 c10]) (P2)).mono hJ.bel))⟩
    · intro L vs a w' hJ hF hP hL
      have p11 : L 11 = true := hP ⟨11, .data⟩ (by simp) rfl
      have s11 : RNat w' (vs 11) ((P2 / Q2 + 1) * Q2) := hJ.sp 11 p11
      have q82 := hF.slot 11 82 rfl p11
      have p12 : L 12 = true := hP ⟨12, .data⟩ (by simp) rfl
      have s12 : RNat w' (vs 12) (P2) := hJ.sp 12 p12
      have q83 := hF.slot 12 83 rfl p12
      refine run_call (f := 35) (args := #[vs 11, vs 12]) (hF.wants 101 HN HG _ 6 true true rfl rfl (hP ⟨6, .guard⟩ (by simp) rfl) (hJ.sp 6 (hP ⟨6, .guard⟩ (by simp) rfl))) (by simp [go_sem, q82, q83]) (K4.out _ _ _ s11 s12) ?_
      rintro e w2 ⟨rfl, hb⟩
      exact ⟨_, rfl, _, rfl, hJ.step hL rfl hb (by exact rfl)⟩
    · intro L vs a w' hJ hF hP hL
      have p13 : L 13 = true := hP ⟨13, .data⟩ (by simp) rfl
      have s13 : vs 13 = .int .i64 1 := hJ.sp 13 p13
      have q84 := hF.slot 13 84 rfl p13
      exact run_val (v := .bool true) (hF.wants 101 HN HG _ 6 true true rfl rfl (hP ⟨6, .guard⟩ (by simp) rfl) (hJ.sp 6 (hP ⟨6, .guard⟩ (by simp) rfl))) (by simp [execOp, go_sem, q84, s13]) ⟨_, rfl, hJ.step hL rfl (Below.refl _ _) (by exact rfl)⟩
    · intro L vs a w' hJ hF hP hL
      have p6 : L 6 = true := hP ⟨6, .data⟩ (by simp) rfl
      have s6 : vs 6 = .bool true := hJ.sp 6 p6
      have q77 := hF.slot 6 77 rfl p6
      have p14 : L 14 = true := hP ⟨14, .data⟩ (by simp) rfl
      have s14 : vs 14 = .bool true := hJ.sp 14 p14
      have q85 := hF.slot 14 85 rfl p14
      exact run_val (v := .bool true) rfl (by simp [execOp, go_sem, q77, s6, q85, s14]) ⟨_, rfl, hJ.step hL rfl (Below.refl _ _) (by exact rfl)⟩
    · intro L vs a w' hJ hF hP hL
      have p15 : L 15 = true := hP ⟨15, .data⟩ (by simp) rfl
      have s15 : vs 15 = .bool true := hJ.sp 15 p15
      have q86 := hF.slot 15 86 rfl p15
      exact run_val (v := .bool true) rfl (by simp [execOp, go_sem, q86, s15]) ⟨_, rfl, hJ.step hL rfl (Below.refl _ _) (by exact rfl)⟩
    intro L vs w' hA hJ
    have s16 : vs 16 = .bool true := hJ.sp 16 (hA 16 (by simp))
    simp only [putL, Act.put, List.setIfInBounds_toArray, List.set_cons_zero, List.set_cons_succ, Nat.reduceAdd]
    simp only [s16]
    obtain ⟨w19, ew⟩ : ∃ w19, w19 = w' := ⟨_, rfl⟩
    have FX : Hid (w'.frozen? ⟨b17, 0, none⟩ = false) := (hJ.bel.frozen (World.block_lt_of_cell? _ _ (S18.out.cell b17 (.slice a17 n17 c17)))).trans FX.out
    have S19 : Hid _ := S18.out.go hJ.bel
    rw [← ew] at S19 FX
    rw [← ew]
    clear ew s16 hJ hA S18
    have z11 := S19.out.cell b11 (.slice a11 n11 c11)
    have z15 := S19.out.cell b15 (.slice a15 n15 c15)
    go_wp2_with fail
    refine (rcmp_any _ _ Q2 1 _ (S19.out.rat (.agg #[.slice a11 n11 c11]) Q2) (S19.out.rat (.agg #[.slice a15 n15 c15]) 1) MM.out.2.1.rfits (rs_word (by omega)).rfits).mono ?_
    rintro e w20 ⟨rfl, hb⟩
    have FX : Hid (w20.frozen? ⟨b17, 0, none⟩ = false) := (hb.frozen (World.block_lt_of_cell? _ _ (S19.out.cell b17 (.slice a17 n17 c17)))).trans FX.out
    have S20 : Hid _ := S19.out.go hb
    clear hb z11 z15 S19
    by_cases hq : Q2 = 1
    · have ec : cmpI Q2 1 = 0 := by rw [hq]; exact cmpI_self 1
      have KK : Hid _ := K6.out hq
      rw [ec]
      clear hq ec K6 K7
      have z17 := S20.out.cell b17 (.slice a17 n17 c17)
      have z18 := S20.out.cell b18 (.slice a18 n18 c18)
      go_wp2_with fail
      refine (KK.out _ _ _ (S20.out.rat (.agg #[.slice a17 n17 c17]) (P2 / Q2)) (S20.out.rat (.agg #[.slice a18 n18 c18]) (ceilN P2 Q2))).mono ?_
      rintro e w21 ⟨rfl, hb⟩
      have B : Hid _ := (S20.out.go hb).bel
      clear hb z17 z18 S20
      go_wp2_with fail
      go_ret
      exact ⟨rfl, B.out⟩
    · have ec : cmpI Q2 1 = 1 := by
        have := MM.out.2.2.1
        unfold cmpI
        rw [if_neg (by omega), if_neg hq]
      have KK : Hid _ := K7.out hq
      rw [ec]
      clear hq ec K6 K7
      have z17 := S20.out.cell b17 (.slice a17 n17 c17)
      have z15 := S20.out.cell b15 (.slice a15 n15 c15)
      go_wp2_with fail
      refine (rplus_any _ _ (P2 / Q2) 1 _ (S20.out.rat (.agg #[.slice a17 n17 c17]) (P2 / Q2)) (S20.out.rat (.agg #[.slice a15 n15 c15]) 1) MM.out.2.2.2.2.2.1.rfits (rs_word (by omega)).rfits).mono ?_
      rintro e w21 ⟨v21, rfl, hv, hb⟩
      obtain ⟨a21, n21, c21, rfl⟩ := hv.isAgg
      have fz := (hb.frozen (World.block_lt_of_cell? _ _ z17)).trans FX.out
      have S21 : Hid _ := (S20.out.go hb).addM hv
      clear hv hb z17 z15 S20
      have z17 := S21.out.cell b17 (.slice a17 n17 c17)
      have z18 := S21.out.cell b18 (.slice a18 n18 c18)
      have S22 : Hid _ := (S21.out.set (b := b17) (i := 0) z17 ND.out.2 [(b18, 0, .slice a18 n18 c18)] (fun p hp => by
        simp only [List.mem_cons, List.not_mem_nil, or_false] at hp
        subst hp
        exact ⟨by simp, ND.out.1⟩) (.slice a21 n21 c21))
      have s17 : (w21.setCell ⟨b17, 0, none⟩ (.slice a21 n21 c21)).cell? ⟨b17, 0, none⟩ = some (.slice a21 n21 c21) := by simp [go_sem, z17]
      have s18 : (w21.setCell ⟨b17, 0, none⟩ (.slice a21 n21 c21)).cell? ⟨b18, 0, none⟩ = some (.slice a18 n18 c18) := S22.out.cell b18 (.slice a18 n18 c18)
      clear S21
      go_wp2_with fail
      refine (KK.out _ _ _ (S22.out.rat (.agg #[.slice a21 n21 c21]) (P2 / Q2 + 1)) (S22.out.rat (.agg #[.slice a18 n18 c18]) (ceilN P2 Q2))).mono ?_
      rintro e w23 ⟨rfl, hb⟩
      have B : Hid _ := (S22.out.go hb).bel
      clear hb z17 z18 s17 s18 S22
      go_wp2_with fail
      go_ret
      exact ⟨rfl, B.out⟩
end Go.Proofs.YtkhdapmipcghoaaDoor

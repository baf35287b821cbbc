/- Contracts of the program's functions, part 14: own work, joined in build order. -/
import Derived.Test.YtkhdapmipcghoaaDoorJ13
namespace Go.Proofs.YtkhdapmipcghoaaDoor
open Go.RowKit
set_option maxRecDepth 100000
set_option linter.unusedVariables false
theorem wrap_neg1 : IntKind.i64.wrap (-1) = -1 := by rw [IntKind.wrap_i64]; rfl
theorem back_sub (a b q s : Nat) : (a * s + b * q) * s - b * (q * s) = a * s * s := by
  have : (a * s + b * q) * s = a * s * s + b * (q * s) := by grind
  rw [this, Nat.add_sub_cancel]
theorem fore_sub {a b q s : Nat} (h : b * q ≤ a * s) : (a * s - b * q) * s + b * (q * s) = a * s * s := by
  obtain ⟨t, ht⟩ : ∃ t, a * s = t + b * q := ⟨a * s - b * q, by omega⟩
  rw [ht, Nat.add_sub_cancel]
  grind
set_option maxHeartbeats 32000000 in
theorem ratLaws_true (a0 : Option Addr) (l0 k0 : Nat) (D0 : Nat → Nat) (a1 : Option Addr) (l1 k1 : Nat) (D1 : Nat → Nat) (a2 : Option Addr) (l2 k2 : Nat) (D2 : Nat → Nat) (a3 : Option Addr) (l3 k3 : Nat) (D3 : Nat → Nat) (a4 : Option Addr) (l4 k4 : Nat) (D4 : Nat → Nat) (a5 : Option Addr) (l5 k5 : Nat) (D5 : Nat → Nat) (w : World) (hB0 : BSl w a0 l0 k0 D0) (hB1 : BSl w a1 l1 k1 D1) (hB2 : BSl w a2 l2 k2 D2) (hB3 : BSl w a3 l3 k3 D3) (hB4 : BSl w a4 l4 k4 D4) (hB5 : BSl w a5 l5 k5 D5) (hT : Tab w) :
    Calls Tryd.prog 4 #[.agg #[.slice a0 l0 k0, .slice a1 l1 k1], .agg #[.slice a2 l2 k2, .slice a3 l3 k3], .agg #[.slice a4 l4 k4, .slice a5 l5 k5]] w fun e w' => e = .returned (.bool true) ∧ Below w.heap.size w w' := by
  obtain ⟨m0, x0, h0⟩ := fed_of hB0
  obtain ⟨m1, x1, h1⟩ := fed_of hB1
  obtain ⟨m2, x2, h2⟩ := fed_of hB2
  obtain ⟨m3, x3, h3⟩ := fed_of hB3
  obtain ⟨m4, x4, h4⟩ := fed_of hB4
  obtain ⟨m5, x5, h5⟩ := fed_of hB5
  obtain ⟨tA, jA, uA⟩ := low_terms x0 (orOne x1) (orOne_pos x1)
  have MA0 : ∀ w', Below w.heap.size w w' → Calls Tryd.prog 12 #[.agg #[.slice a0 l0 k0, .slice a1 l1 k1]] w' (MakesM w' (x0 / Nat.gcd x0 (orOne x1)) (orOne x1 / Nat.gcd x0 (orOne x1))) := fun w' hb => made_true _ _ _ _ _ _ m0 m1 x0 x1 w' (h0.go hb) (h1.go hb) (hT.go hb)
  have pA : x0 / Nat.gcd x0 (orOne x1) < P 15 := Nat.lt_of_le_of_lt (Nat.div_le_self _ _) h0.rs
  have qA : orOne x1 / Nat.gcd x0 (orOne x1) < P 15 := Nat.lt_of_le_of_lt (Nat.div_le_self _ _) (orOne_15 h1.rs)
  generalize x0 / Nat.gcd x0 (orOne x1) = PA at MA0 pA tA
  generalize orOne x1 / Nat.gcd x0 (orOne x1) = QA at MA0 qA tA uA
  have fA : Fc PA QA PA QA 15 := Fc.own tA uA pA qA
  have MA : Hid _ := MA0
  clear MA0 pA qA tA jA uA
  obtain ⟨tB, jB, uB⟩ := low_terms x2 (orOne x3) (orOne_pos x3)
  have MB0 : ∀ w', Below w.heap.size w w' → Calls Tryd.prog 12 #[.agg #[.slice a2 l2 k2, .slice a3 l3 k3]] w' (MakesM w' (x2 / Nat.gcd x2 (orOne x3)) (orOne x3 / Nat.gcd x2 (orOne x3))) := fun w' hb => made_true _ _ _ _ _ _ m2 m3 x2 x3 w' (h2.go hb) (h3.go hb) (hT.go hb)
  have pB : x2 / Nat.gcd x2 (orOne x3) < P 15 := Nat.lt_of_le_of_lt (Nat.div_le_self _ _) h2.rs
  have qB : orOne x3 / Nat.gcd x2 (orOne x3) < P 15 := Nat.lt_of_le_of_lt (Nat.div_le_self _ _) (orOne_15 h3.rs)
  generalize x2 / Nat.gcd x2 (orOne x3) = PB at MB0 pB tB
  generalize orOne x3 / Nat.gcd x2 (orOne x3) = QB at MB0 qB tB uB
  have fB : Fc PB QB PB QB 15 := Fc.own tB uB pB qB
  have MB : Hid _ := MB0
  clear MB0 pB qB tB jB uB
  obtain ⟨tC, jC, uC⟩ := low_terms x4 (orOne x5) (orOne_pos x5)
  have MC0 : ∀ w', Below w.heap.size w w' → Calls Tryd.prog 12 #[.agg #[.slice a4 l4 k4, .slice a5 l5 k5]] w' (MakesM w' (x4 / Nat.gcd x4 (orOne x5)) (orOne x5 / Nat.gcd x4 (orOne x5))) := fun w' hb => made_true _ _ _ _ _ _ m4 m5 x4 x5 w' (h4.go hb) (h5.go hb) (hT.go hb)
  have pC : x4 / Nat.gcd x4 (orOne x5) < P 15 := Nat.lt_of_le_of_lt (Nat.div_le_self _ _) h4.rs
  have qC : orOne x5 / Nat.gcd x4 (orOne x5) < P 15 := Nat.lt_of_le_of_lt (Nat.div_le_self _ _) (orOne_15 h5.rs)
  generalize x4 / Nat.gcd x4 (orOne x5) = PC at MC0 pC tC
  generalize orOne x5 / Nat.gcd x4 (orOne x5) = QC at MC0 qC tC uC
  have fC : Fc PC QC PC QC 15 := Fc.own tC uC pC qC
  have MC : Hid _ := MC0
  clear MC0 pC qC tC jC uC
  clear h0 hB0 h1 hB1 h2 hB2 h3 hB3 h4 hB4 h5 hB5
  obtain ⟨P1, Q1, f1, i1, c1⟩ := fA.add fB (by omega) (by omega)
  have C1 : Hid _ := c1
  clear c1 i1
  obtain ⟨P3, Q3, f3, i3, c3⟩ := fB.add fA (by omega) (by omega)
  have C3 : Hid _ := c3
  clear c3 i3
  obtain ⟨P4, Q4, f4, c4⟩ := fA.mul fB (by omega) (by omega)
  have C4 : Hid _ := c4
  clear c4
  obtain ⟨P5, Q5, f5, c5⟩ := fB.mul fA (by omega) (by omega)
  have C5 : Hid _ := c5
  clear c5
  obtain ⟨P6, Q6, f6, i6, c6⟩ := f1.add fC (by omega) (by omega)
  have C6 : Hid _ := c6
  clear c6 i6
  obtain ⟨P7, Q7, f7, i7, c7⟩ := fB.add fC (by omega) (by omega)
  have C7 : Hid _ := c7
  clear c7 i7
  obtain ⟨P8, Q8, f8, i8, c8⟩ := fA.add f7 (by omega) (by omega)
  have C8 : Hid _ := c8
  clear c8 i8
  obtain ⟨P9, Q9, f9, c9⟩ := f4.mul fC (by omega) (by omega)
  have C9 : Hid _ := c9
  clear c9
  obtain ⟨P10, Q10, f10, c10⟩ := fB.mul fC (by omega) (by omega)
  have C10 : Hid _ := c10
  clear c10
  obtain ⟨P11, Q11, f11, c11⟩ := fA.mul f10 (by omega) (by omega)
  have C11 : Hid _ := c11
  clear c11
  obtain ⟨P12, Q12, f12, c12⟩ := fA.mul f7 (by omega) (by omega)
  have C12 : Hid _ := c12
  clear c12
  obtain ⟨P13, Q13, f13, c13⟩ := fA.mul fC (by omega) (by omega)
  have C13 : Hid _ := c13
  clear c13
  obtain ⟨P14, Q14, f14, i14, c14⟩ := f4.add f13 (by omega) (by omega)
  have C14 : Hid _ := c14
  clear c14 i14
  obtain ⟨P15, Q15, f15, i15, c15⟩ := fC.add f3 (by omega) (by omega)
  have C15 : Hid _ := c15
  clear c15 i15
  obtain ⟨P2, Q2, f2, c2⟩ := f1.sub fB (by omega) (by omega) (by
    have : (PA * QB + PB * QA) * QB = PA * QB * QB + PB * (QA * QB) := by grind
    rw [this]
    exact Nat.le_add_left _ _)
  have C2 : Hid _ := c2
  obtain ⟨PS, QS, fS, cS⟩ := fA.sum fB fC (by omega)
  have CS : Hid _ := cS
  clear c2 cS
  have E1 : Hid _ := f2.cmp fA (by omega) (by omega) (z := 0) (cmpI_same (by rw [back_sub]; grind))
  have E2 : Hid _ := f1.cmp f3 (by omega) (by omega) (z := 0) (cmpI_same (by grind))
  have E3 : Hid _ := f4.cmp f5 (by omega) (by omega) (z := 0) (cmpI_same (by grind))
  have E4 : Hid _ := f6.cmp f8 (by omega) (by omega) (z := 0) (cmpI_same (by grind))
  have E5 : Hid _ := f9.cmp f11 (by omega) (by omega) (z := 0) (cmpI_same (by grind))
  have E6 : Hid _ := f12.cmp f14 (by omega) (by omega) (z := 0) (cmpI_same (by grind))
  have E7 : Hid _ := fS.cmp f15 (by omega) (by omega) (z := 0) (cmpI_same (by grind))
  have fz : Fc 0 1 0 1 1 := ⟨by simp, by omega, by omega, rfl, by rw [P_one]; omega, by rw [P_one]; omega⟩
  have FF : Hid (Tab w) := hT
  have GG : Hid (Fc PA QA PA QA 15 ∧ Fc PB QB PB QB 15 ∧ Fc P4 Q4 (PA * PB) (QA * QB) (15 + 15) ∧ Fc 0 1 0 1 1) := ⟨fA, fB, f4, fz⟩
  have S0 : Hid _ := (((sx_start w).box (.slice a0 l0 k0) (.slice a1 l1 k1) 24 _ rfl).box (.slice a2 l2 k2) (.slice a3 l3 k3) 24 _ rfl).box (.slice a4 l4 k4) (.slice a5 l5 k5) 24 _ rfl
  simp only [World.size_alloc] at S0
  clear hT fA fB fC fz fS f2 f1 f3 f4 f5 f6 f7 f8 f9 f10 f11 f12 f13 f14 f15
  go_enter Tryd.func4, Tryd.ntmps4
  go_wp2_with fail
  obtain ⟨w0, hw⟩ : ∃ w0, w0 = ((w.alloc (.cells #[.slice a0 l0 k0, .slice a1 l1 k1] 24)).alloc (.cells #[.slice a2 l2 k2, .slice a3 l3 k3] 24)).alloc (.cells #[.slice a4 l4 k4, .slice a5 l5 k5] 24) := ⟨_, rfl⟩
  obtain ⟨b0, hb⟩ : ∃ b0, b0 = w.heap.size := ⟨_, rfl⟩
  rw [← hw, ← hb] at S0
  rw [← hw, ← hb]
  clear hw hb
  refine (MA.out _ S0.out.bel).mono ?_
  rintro e v11w ⟨v11, v12, rfl, hv, hu, hb⟩
  obtain ⟨a11, n11, c11, d11, m11, g11, ev, _, _⟩ := hv.raw
  subst ev
  obtain ⟨a12, n12, c12, d12, m12, g12, ev, _, _⟩ := id hu
  subst ev
  have S1 : Hid _ := ((((S0.out.go hb).addF hv).addG hu).box (.slice a11 n11 c11) (.slice d11 m11 g11) 29 _ rfl).box (.slice a12 n12 c12) (.slice d12 m12 g12) 35 _ rfl
  clear hv hu hb S0
  simp only [World.size_alloc] at S1
  have y0 := S1.out.cel (b0 + 1) 0 (.slice a2 l2 k2)
  have y1 := S1.out.cel (b0 + 1) 1 (.slice a3 l3 k3)
  go_wp2_with fail
  clear y0 y1
  obtain ⟨w11, hw⟩ : ∃ w11, w11 = (v11w.alloc (.cells #[.slice a11 n11 c11, .slice d11 m11 g11] 29)).alloc (.cells #[.slice a12 n12 c12, .slice d12 m12 g12] 35) := ⟨_, rfl⟩
  obtain ⟨b11, hb⟩ : ∃ b11, b11 = v11w.heap.size := ⟨_, rfl⟩
  rw [← hw, ← hb] at S1
  rw [← hw, ← hb]
  clear hw hb
  obtain ⟨b12, hb⟩ : ∃ b12, b12 = b11 + 1 := ⟨_, rfl⟩
  rw [← hb] at S1
  rw [← hb]
  clear hb
  refine (MB.out _ S1.out.bel).mono ?_
  rintro e v13w ⟨v13, v14, rfl, hv, hu, hb⟩
  obtain ⟨a13, n13, c13, d13, m13, g13, ev, _, _⟩ := hv.raw
  subst ev
  obtain ⟨a14, n14, c14, d14, m14, g14, ev, _, _⟩ := id hu
  subst ev
  have S2 : Hid _ := ((((S1.out.go hb).addF hv).addG hu).box (.slice a13 n13 c13) (.slice d13 m13 g13) 29 _ rfl).box (.slice a14 n14 c14) (.slice d14 m14 g14) 35 _ rfl
  clear hv hu hb S1
  simp only [World.size_alloc] at S2
  have y0 := S2.out.cel (b0 + 1 + 1) 0 (.slice a4 l4 k4)
  have y1 := S2.out.cel (b0 + 1 + 1) 1 (.slice a5 l5 k5)
  go_wp2_with fail
  clear y0 y1
  obtain ⟨w13, hw⟩ : ∃ w13, w13 = (v13w.alloc (.cells #[.slice a13 n13 c13, .slice d13 m13 g13] 29)).alloc (.cells #[.slice a14 n14 c14, .slice d14 m14 g14] 35) := ⟨_, rfl⟩
  obtain ⟨b13, hb⟩ : ∃ b13, b13 = v13w.heap.size := ⟨_, rfl⟩
  rw [← hw, ← hb] at S2
  rw [← hw, ← hb]
  clear hw hb
  obtain ⟨b14, hb⟩ : ∃ b14, b14 = b13 + 1 := ⟨_, rfl⟩
  rw [← hb] at S2
  rw [← hb]
  clear hb
  refine (MC.out _ S2.out.bel).mono ?_
  rintro e v15w ⟨v15, v16, rfl, hv, hu, hb⟩
  obtain ⟨a15, n15, c15, d15, m15, g15, ev, _, _⟩ := hv.raw
  subst ev
  obtain ⟨a16, n16, c16, d16, m16, g16, ev, _, _⟩ := id hu
  subst ev
  have S3 : Hid _ := ((((S2.out.go hb).addF hv).addG hu).box (.slice a15 n15 c15) (.slice d15 m15 g15) 29 _ rfl).box (.slice a16 n16 c16) (.slice d16 m16 g16) 35 _ rfl
  clear hv hu hb S2
  simp only [World.size_alloc] at S3
  go_wp2_with fail
  obtain ⟨w15, hw⟩ : ∃ w15, w15 = (v15w.alloc (.cells #[.slice a15 n15 c15, .slice d15 m15 g15] 29)).alloc (.cells #[.slice a16 n16 c16, .slice d16 m16 g16] 35) := ⟨_, rfl⟩
  obtain ⟨b15, hb⟩ : ∃ b15, b15 = v15w.heap.size := ⟨_, rfl⟩
  rw [← hw, ← hb] at S3
  rw [← hw, ← hb]
  clear hw hb
  obtain ⟨b16, hb⟩ : ∃ b16, b16 = b15 + 1 := ⟨_, rfl⟩
  rw [← hb] at S3
  rw [← hb]
  clear hb
  clear MA MB MC
  refine wp_region_inv (JC w15 [sRt (PA) (QA), sRt (PB) (QB), sRt (P1) (Q1), sRt (PB) (QB), sRtB (P2) (Q2) true, sRtB (P2) (Q2) true, sRt (P2) (Q2), sEq (.bool true), sAny, sAny, sEq (.bool true)] (8, 9, 6)) 188 (by kernel_rfl) rfl (by kernel_rfl) (JC.start _ _ _) (fun HG HN => ⟨?_, ?_, ?_, ?_, ?_, ?_, ?_, ?_, ?_, ?_, ?_, trivial⟩) ?_
  · intro L vs a w' hJ hF hP hL
    have q7 : (a.tmps[7]?).getD undef = .pointer (some ⟨b11, 0, none⟩) := hF.old 7 rfl
    have cb := cell_later hJ.bel (S3.out.cel (b11) 0 (.slice a11 n11 c11))
    have cc := cell_later hJ.bel (S3.out.cel (b11) 1 (.slice d11 m11 g11))
    exact run_val (v := .agg #[.slice a11 n11 c11, .slice d11 m11 g11]) rfl (by simp [execOp, go_sem, q7, cb, cc]) ⟨_, rfl, hJ.step hL rfl (Below.refl _ _) (by exact ((S3.out.fr (.agg #[.slice a11 n11 c11, .slice d11 m11 g11]) (PA) (QA)).mono hJ.bel))⟩
  · intro L vs a w' hJ hF hP hL
    have q9 : (a.tmps[9]?).getD undef = .pointer (some ⟨b13, 0, none⟩) := hF.old 9 rfl
    have cb := cell_later hJ.bel (S3.out.cel (b13) 0 (.slice a13 n13 c13))
    have cc := cell_later hJ.bel (S3.out.cel (b13) 1 (.slice d13 m13 g13))
    exact run_val (v := .agg #[.slice a13 n13 c13, .slice d13 m13 g13]) rfl (by simp [execOp, go_sem, q9, cb, cc]) ⟨_, rfl, hJ.step hL rfl (Below.refl _ _) (by exact ((S3.out.fr (.agg #[.slice a13 n13 c13, .slice d13 m13 g13]) (PB) (QB)).mono hJ.bel))⟩
  · intro L vs a w' hJ hF hP hL
    have p0 : L 0 = true := hP ⟨0, .data⟩ (by simp) rfl
    have s0 : Rt w' (vs 0) (PA) (QA) := hJ.sp 0 p0
    have q36 := hF.slot 0 36 rfl p0
    have p1 : L 1 = true := hP ⟨1, .data⟩ (by simp) rfl
    have s1 : Rt w' (vs 1) (PB) (QB) := hJ.sp 1 p1
    have q37 := hF.slot 1 37 rfl p1
    refine run_call (f := 25) (args := #[vs 0, vs 1]) rfl (by simp [go_sem, q36, q37]) (C1.out _ _ _ s0 s1 (FF.out.go (bel_go S3.out.bel hJ.bel))) ?_
    rintro e w2 ⟨v, rfl, hv, hb⟩
    exact ⟨_, rfl, _, rfl, hJ.step hL rfl hb (by exact hv)⟩
  · intro L vs a w' hJ hF hP hL
    have q9 : (a.tmps[9]?).getD undef = .pointer (some ⟨b13, 0, none⟩) := hF.old 9 rfl
    have cb := cell_later hJ.bel (S3.out.cel (b13) 0 (.slice a13 n13 c13))
    have cc := cell_later hJ.bel (S3.out.cel (b13) 1 (.slice d13 m13 g13))
    exact run_val (v := .agg #[.slice a13 n13 c13, .slice d13 m13 g13]) rfl (by simp [execOp, go_sem, q9, cb, cc]) ⟨_, rfl, hJ.step hL rfl (Below.refl _ _) (by exact ((S3.out.fr (.agg #[.slice a13 n13 c13, .slice d13 m13 g13]) (PB) (QB)).mono hJ.bel))⟩
  · intro L vs a w' hJ hF hP hL
    have p2 : L 2 = true := hP ⟨2, .data⟩ (by simp) rfl
    have s2 : Rt w' (vs 2) (P1) (Q1) := hJ.sp 2 p2
    have q38 := hF.slot 2 38 rfl p2
    have p3 : L 3 = true := hP ⟨3, .data⟩ (by simp) rfl
    have s3 : Rt w' (vs 3) (PB) (QB) := hJ.sp 3 p3
    have q39 := hF.slot 3 39 rfl p3
    refine run_call (f := 26) (args := #[vs 2, vs 3]) rfl (by simp [go_sem, q38, q39]) (C2.out _ _ _ s2 s3 (FF.out.go (bel_go S3.out.bel hJ.bel))) ?_
    rintro e w2 ⟨v1, rfl, h1, hb⟩
    exact ⟨_, rfl, _, rfl, hJ.step hL rfl hb (by exact ⟨v1, rfl, h1⟩)⟩
  · intro L vs a w' hJ hF hP hL
    have p4 : L 4 = true := hP ⟨4, .data⟩ (by simp) rfl
    have s4 : ∃ p, vs 4 = .tuple #[p, .bool true] ∧ Rt w' p (P2) (Q2) := hJ.sp 4 p4
    have q40 := hF.slot 4 40 rfl p4
    exact run_val (v := vs 4) rfl (by simp [execOp, go_sem, q40]) ⟨_, rfl, hJ.step hL rfl (Below.refl _ _) (by exact s4)⟩
  · intro L vs a w' hJ hF hP hL
    have p5 : L 5 = true := hP ⟨5, .data⟩ (by simp) rfl
    have s5 : ∃ p, vs 5 = .tuple #[p, .bool true] ∧ Rt w' p (P2) (Q2) := hJ.sp 5 p5
    have q35 := hF.slot 5 35 rfl p5
    obtain ⟨vp, e1, e2⟩ := s5
    exact run_val (v := vp) rfl (by simp [execOp, go_sem, q35, e1]) ⟨_, rfl, hJ.step hL rfl (Below.refl _ _) (by exact e2)⟩
  · intro L vs a w' hJ hF hP hL
    have p5 : L 5 = true := hP ⟨5, .data⟩ (by simp) rfl
    have s5 : ∃ p, vs 5 = .tuple #[p, .bool true] ∧ Rt w' p (P2) (Q2) := hJ.sp 5 p5
    have q35 := hF.slot 5 35 rfl p5
    obtain ⟨vp, e1, e2⟩ := s5
    exact run_val (v := .bool true) rfl (by simp [execOp, go_sem, q35, e1]) ⟨_, rfl, hJ.step hL rfl (Below.refl _ _) (by exact rfl)⟩
  · intro L vs a w' hJ hF hP hL
    exact run_val (v := .pointer (some ⟨w'.heap.size, 0, none⟩)) (w' := w'.alloc (.cells #[.slice none 0 0, .slice none 0 0] 29)) rfl (by simp [execOp, go_sem]) ⟨_, rfl, hJ.alloc hL rfl (by decide) rfl _⟩
  · intro L vs a w' hJ hF hP hL
    have p8 : L 8 = true := hP ⟨8, .data⟩ (by simp) rfl
    have q13 := hF.slot 8 13 rfl p8
    have p6 : L 6 = true := hP ⟨6, .data⟩ (by simp) rfl
    have s6 : Rt w' (vs 6) (P2) (Q2) := hJ.sp 6 p6
    have q41 := hF.slot 6 41 rfl p6
    obtain ⟨bk, e1, e2, e3, e4, e4', e5, e6⟩ := hJ.bx p8
    obtain ⟨e7, e7'⟩ := e5 hL
    obtain ⟨aa, nn, cc, a2, n2, c2, e8, _, _⟩ := s6.raw
    exact run_unit (w' := (w'.setCell ⟨bk, 0, none⟩ (.slice aa nn cc)).setCell ⟨bk, 1, none⟩ (.slice a2 n2 c2)) rfl (by simp [execOp, go_sem, q13, q41, e1, e8, e7, e4, e7', e4']) ⟨undef, rfl, hJ.store hL p8 p6 (by decide) rfl e1 e8⟩
  · intro L vs a w' hJ hF hP hL
    have p7 : L 7 = true := hP ⟨7, .data⟩ (by simp) rfl
    have s7 : vs 7 = .bool true := hJ.sp 7 p7
    have q42 := hF.slot 7 42 rfl p7
    exact run_val (v := .bool true) rfl (by simp [execOp, go_sem, q42, s7]) ⟨_, rfl, hJ.step hL rfl (Below.refl _ _) (by exact rfl)⟩
  intro L vs w' hA hJ
  have s6 : Rt w' (vs 6) (P2) (Q2) := hJ.sp 6 (hA 6 (by simp))
  have s10 : vs 10 = .bool true := hJ.sp 10 (hA 10 (by simp))
  obtain ⟨bk8, eb8, ge8, lt8, fz8, fz8', _, e6⟩ := hJ.bx (hA 8 (by simp))
  obtain ⟨_, u8, u8', eu8, ce8, ce8'⟩ := e6 (hA 9 (by simp))
  clear e6
  simp only [putL, Act.put, List.setIfInBounds_toArray, List.set_cons_zero, List.set_cons_succ, Nat.reduceAdd]
  obtain ⟨a21, n21, c21, d21, m21, g21, ev, _, _⟩ := s6.raw
  rw [ev] at s6 eu8
  obtain ⟨rfl, rfl⟩ : u8 = .slice a21 n21 c21 ∧ u8' = .slice d21 m21 g21 := by simpa [eq_comm] using eu8
  simp only [eb8, s10]
  have S4 : Hid _ := (((S3.out.go hJ.bel).addF s6).addC ce8').addC ce8
  obtain ⟨w21, ew⟩ : ∃ w21, w21 = w' := ⟨_, rfl⟩
  obtain ⟨b21, eb⟩ : ∃ b21, b21 = bk8 := ⟨_, rfl⟩
  rw [← ew, ← eb] at S4
  rw [← ew, ← eb]
  clear ew eb ev s6 s10 eu8 eb8 ce8 ce8' ge8 lt8 fz8 fz8' hJ hA S3
  go_wp2_with fail
  refine wp_region_inv (JB w21 [sEq (.bool true), sEq (.bool false), sEq (.bool false), sEq (.bool true), sEq (.bool false), sEq (.bool false), sEq (.bool false), sRt (P2) (Q2), sRt (PA) (QA), sEq (.int .i64 0), sEq (.bool false), sEq (.bool false), sEq (.bool false), sRt (PA) (QA), sRt (PB) (QB), sRt (P1) (Q1), sRt (PB) (QB), sRt (PA) (QA), sRt (P3) (Q3), sEq (.int .i64 0), sEq (.bool false), sEq (.bool false), sEq (.bool false), sRt (PA) (QA), sRt (PB) (QB), sRt (P4) (Q4), sRt (PB) (QB), sRt (PA) (QA), sRt (P5) (Q5), sEq (.int .i64 0), sEq (.bool false), sEq (.bool false)] []) 188 (by kernel_rfl) rfl (by kernel_rfl) (JB.start _ _ _) (fun HG HN => ⟨?_, ?_, ?_, ?_, ?_, ?_, ?_, ?_, ?_, ?_, ?_, ?_, ?_, ?_, ?_, ?_, ?_, ?_, ?_, ?_, ?_, ?_, ?_, ?_, ?_, ?_, ?_, ?_, ?_, ?_, ?_, ?_, trivial⟩) ?_
  · intro L vs a w' hJ hF hP hL
    refine run_call (f := 10) (args := #[]) rfl (by simp [go_sem]) (rtold_true _ (FF.out.go (bel_go S4.out.bel hJ.bel))) ?_
    rintro e w2 ⟨rfl, hb⟩
    exact ⟨_, rfl, _, rfl, hJ.step hL rfl hb (by exact rfl)⟩
  · intro L vs a w' hJ hF hP hL
    have p0 : L 0 = true := hP ⟨0, .data⟩ (by simp) rfl
    have s0 : vs 0 = .bool true := hJ.sp 0 p0
    have q43 := hF.slot 0 43 rfl p0
    exact run_val (v := .bool false) rfl (by simp [execOp, go_sem, q43, s0]) ⟨_, rfl, hJ.step hL rfl (Below.refl _ _) (by exact rfl)⟩
  · intro L vs a w' hJ hF hP hL
    have p1 : L 1 = true := hP ⟨1, .data⟩ (by simp) rfl
    have s1 : vs 1 = .bool false := hJ.sp 1 p1
    have q44 := hF.slot 1 44 rfl p1
    exact run_val (v := .bool false) rfl (by simp [execOp, go_sem, q44, s1]) ⟨_, rfl, hJ.step hL rfl (Below.refl _ _) (by exact rfl)⟩
  · intro L vs a w' hJ hF hP hL
    have q14 : (a.tmps[14]?).getD undef = .bool true := hF.old 14 rfl
    exact run_val (v := .bool true) (hF.wants 188 HN HG _ 2 false false rfl rfl (hP ⟨2, .guard⟩ (by simp) rfl) (hJ.sp 2 (hP ⟨2, .guard⟩ (by simp) rfl))) (by simp [execOp, go_sem, q14]) ⟨_, rfl, hJ.step hL rfl (Below.refl _ _) (by exact rfl)⟩
  · intro L vs a w' hJ hF hP hL
    have p3 : L 3 = true := hP ⟨3, .data⟩ (by simp) rfl
    have s3 : vs 3 = .bool true := hJ.sp 3 p3
    have q46 := hF.slot 3 46 rfl p3
    exact run_val (v := .bool false) (hF.wants 188 HN HG _ 2 false false rfl rfl (hP ⟨2, .guard⟩ (by simp) rfl) (hJ.sp 2 (hP ⟨2, .guard⟩ (by simp) rfl))) (by simp [execOp, go_sem, q46, s3]) ⟨_, rfl, hJ.step hL rfl (Below.refl _ _) (by exact rfl)⟩
  · intro L vs a w' hJ hF hP hL
    have p2 : L 2 = true := hP ⟨2, .data⟩ (by simp) rfl
    have s2 : vs 2 = .bool false := hJ.sp 2 p2
    have q45 := hF.slot 2 45 rfl p2
    have p4 : L 4 = true := hP ⟨4, .data⟩ (by simp) rfl
    have s4 : vs 4 = .bool false := hJ.sp 4 p4
    have q47 := hF.slot 4 47 rfl p4
    exact run_val (v := .bool false) rfl (by simp [execOp, go_sem, q45, s2, q47, s4]) ⟨_, rfl, hJ.step hL rfl (Below.refl _ _) (by exact rfl)⟩
  · intro L vs a w' hJ hF hP hL
    have p5 : L 5 = true := hP ⟨5, .data⟩ (by simp) rfl
    have s5 : vs 5 = .bool false := hJ.sp 5 p5
    have q48 := hF.slot 5 48 rfl p5
    exact run_val (v := .bool false) rfl (by simp [execOp, go_sem, q48, s5]) ⟨_, rfl, hJ.step hL rfl (Below.refl _ _) (by exact rfl)⟩
  · intro L vs a w' hJ hF hP hL
    have q13 : (a.tmps[13]?).getD undef = .pointer (some ⟨b21, 0, none⟩) := hF.old 13 rfl
    have cb := cell_later hJ.bel (S4.out.cel (b21) 0 (.slice a21 n21 c21))
    have cc := cell_later hJ.bel (S4.out.cel (b21) 1 (.slice d21 m21 g21))
    exact run_val (v := .agg #[.slice a21 n21 c21, .slice d21 m21 g21]) (hF.wants 188 HN HG _ 6 false false rfl rfl (hP ⟨6, .guard⟩ (by simp) rfl) (hJ.sp 6 (hP ⟨6, .guard⟩ (by simp) rfl))) (by simp [execOp, go_sem, q13, cb, cc]) ⟨_, rfl, hJ.step hL rfl (Below.refl _ _) (by exact ((S4.out.fr (.agg #[.slice a21 n21 c21, .slice d21 m21 g21]) (P2) (Q2)).mono hJ.bel))⟩
  · intro L vs a w' hJ hF hP hL
    have q7 : (a.tmps[7]?).getD undef = .pointer (some ⟨b11, 0, none⟩) := hF.old 7 rfl
    have cb := cell_later hJ.bel (S4.out.cel (b11) 0 (.slice a11 n11 c11))
    have cc := cell_later hJ.bel (S4.out.cel (b11) 1 (.slice d11 m11 g11))
    exact run_val (v := .agg #[.slice a11 n11 c11, .slice d11 m11 g11]) (hF.wants 188 HN HG _ 6 false false rfl rfl (hP ⟨6, .guard⟩ (by simp) rfl) (hJ.sp 6 (hP ⟨6, .guard⟩ (by simp) rfl))) (by simp [execOp, go_sem, q7, cb, cc]) ⟨_, rfl, hJ.step hL rfl (Below.refl _ _) (by exact ((S4.out.fr (.agg #[.slice a11 n11 c11, .slice d11 m11 g11]) (PA) (QA)).mono hJ.bel))⟩
  · intro L vs a w' hJ hF hP hL
    have p7 : L 7 = true := hP ⟨7, .data⟩ (by simp) rfl
    have s7 : Rt w' (vs 7) (P2) (Q2) := hJ.sp 7 p7
    have q50 := hF.slot 7 50 rfl p7
    have p8 : L 8 = true := hP ⟨8, .data⟩ (by simp) rfl
    have s8 : Rt w' (vs 8) (PA) (QA) := hJ.sp 8 p8
    have q51 := hF.slot 8 51 rfl p8
    refine run_call (f := 27) (args := #[vs 7, vs 8]) (hF.wants 188 HN HG _ 6 false false rfl rfl (hP ⟨6, .guard⟩ (by simp) rfl) (hJ.sp 6 (hP ⟨6, .guard⟩ (by simp) rfl))) (by simp [go_sem, q50, q51]) (E1.out _ _ _ s7 s8) ?_
    rintro e w2 ⟨rfl, hb⟩
    exact ⟨_, rfl, _, rfl, hJ.step hL rfl hb (by exact rfl)⟩
  · intro L vs a w' hJ hF hP hL
    have p9 : L 9 = true := hP ⟨9, .data⟩ (by simp) rfl
    have s9 : vs 9 = .int .i64 0 := hJ.sp 9 p9
    have q52 := hF.slot 9 52 rfl p9
    exact run_val (v := .bool false) (hF.wants 188 HN HG _ 6 false false rfl rfl (hP ⟨6, .guard⟩ (by simp) rfl) (hJ.sp 6 (hP ⟨6, .guard⟩ (by simp) rfl))) (by simp [execOp, go_sem, q52, s9]) ⟨_, rfl, hJ.step hL rfl (Below.refl _ _) (by exact rfl)⟩
  · intro L vs a w' hJ hF hP hL
    have p6 : L 6 = true := hP ⟨6, .data⟩ (by simp) rfl
    have s6 : vs 6 = .bool false := hJ.sp 6 p6
    have q49 := hF.slot 6 49 rfl p6
    have p10 : L 10 = true := hP ⟨10, .data⟩ (by simp) rfl
    have s10 : vs 10 = .bool false := hJ.sp 10 p10
    have q53 := hF.slot 10 53 rfl p10
    exact run_val (v := .bool false) rfl (by simp [execOp, go_sem, q49, s6, q53, s10]) ⟨_, rfl, hJ.step hL rfl (Below.refl _ _) (by exact rfl)⟩
  · intro L vs a w' hJ hF hP hL
    have p11 : L 11 = true := hP ⟨11, .data⟩ (by simp) rfl
    have s11 : vs 11 = .bool false := hJ.sp 11 p11
    have q54 := hF.slot 11 54 rfl p11
    exact run_val (v := .bool false) rfl (by simp [execOp, go_sem, q54, s11]) ⟨_, rfl, hJ.step hL rfl (Below.refl _ _) (by exact rfl)⟩
  · intro L vs a w' hJ hF hP hL
    have q7 : (a.tmps[7]?).getD undef = .pointer (some ⟨b11, 0, none⟩) := hF.old 7 rfl
    have cb := cell_later hJ.bel (S4.out.cel (b11) 0 (.slice a11 n11 c11))
    have cc := cell_later hJ.bel (S4.out.cel (b11) 1 (.slice d11 m11 g11))
    exact run_val (v := .agg #[.slice a11 n11 c11, .slice d11 m11 g11]) (hF.wants 188 HN HG _ 12 false false rfl rfl (hP ⟨12, .guard⟩ (by simp) rfl) (hJ.sp 12 (hP ⟨12, .guard⟩ (by simp) rfl))) (by simp [execOp, go_sem, q7, cb, cc]) ⟨_, rfl, hJ.step hL rfl (Below.refl _ _) (by exact ((S4.out.fr (.agg #[.slice a11 n11 c11, .slice d11 m11 g11]) (PA) (QA)).mono hJ.bel))⟩
  · intro L vs a w' hJ hF hP hL
    have q9 : (a.tmps[9]?).getD undef = .pointer (some ⟨b13, 0, none⟩) := hF.old 9 rfl
    have cb := cell_later hJ.bel (S4.out.cel (b13) 0 (.slice a13 n13 c13))
    have cc := cell_later hJ.bel (S4.out.cel (b13) 1 (.slice d13 m13 g13))
    exact run_val (v := .agg #[.slice a13 n13 c13, .slice d13 m13 g13]) (hF.wants 188 HN HG _ 12 false false rfl rfl (hP ⟨12, .guard⟩ (by simp) rfl) (hJ.sp 12 (hP ⟨12, .guard⟩ (by simp) rfl))) (by simp [execOp, go_sem, q9, cb, cc]) ⟨_, rfl, hJ.step hL rfl (Below.refl _ _) (by exact ((S4.out.fr (.agg #[.slice a13 n13 c13, .slice d13 m13 g13]) (PB) (QB)).mono hJ.bel))⟩
  · intro L vs a w' hJ hF hP hL
    have p13 : L 13 = true := hP ⟨13, .data⟩ (by simp) rfl
    have s13 : Rt w' (vs 13) (PA) (QA) := hJ.sp 13 p13
    have q56 := hF.slot 13 56 rfl p13
    have p14 : L 14 = true := hP ⟨14, .data⟩ (by simp) rfl
    have s14 : Rt w' (vs 14) (PB) (QB) := hJ.sp 14 p14
    have q57 := hF.slot 14 57 rfl p14
    refine run_call (f := 25) (args := #[vs 13, vs 14]) (hF.wants 188 HN HG _ 12 false false rfl rfl (hP ⟨12, .guard⟩ (by simp) rfl) (hJ.sp 12 (hP ⟨12, .guard⟩ (by simp) rfl))) (by simp [go_sem, q56, q57]) (C1.out _ _ _ s13 s14 (FF.out.go (bel_go S4.out.bel hJ.bel))) ?_
    rintro e w2 ⟨v, rfl, hv, hb⟩
    exact ⟨_, rfl, _, rfl, hJ.step hL rfl hb (by exact hv)⟩
  · intro L vs a w' hJ hF hP hL
    have q9 : (a.tmps[9]?).getD undef = .pointer (some ⟨b13, 0, none⟩) := hF.old 9 rfl
    have cb := cell_later hJ.bel (S4.out.cel (b13) 0 (.slice a13 n13 c13))
    have cc := cell_later hJ.bel (S4.out.cel (b13) 1 (.slice d13 m13 g13))
    exact run_val (v := .agg #[.slice a13 n13 c13, .slice d13 m13 g13]) (hF.wants 188 HN HG _ 12 false false rfl rfl (hP ⟨12, .guard⟩ (by simp) rfl) (hJ.sp 12 (hP ⟨12, .guard⟩ (by simp) rfl))) (by simp [execOp, go_sem, q9, cb, cc]) ⟨_, rfl, hJ.step hL rfl (Below.refl _ _) (by exact ((S4.out.fr (.agg #[.slice a13 n13 c13, .slice d13 m13 g13]) (PB) (QB)).mono hJ.bel))⟩
  · intro L vs a w' hJ hF hP hL
    have q7 : (a.tmps[7]?).getD undef = .pointer (some ⟨b11, 0, none⟩) := hF.old 7 rfl
    have cb := cell_later hJ.bel (S4.out.cel (b11) 0 (.slice a11 n11 c11))
    have cc := cell_later hJ.bel (S4.out.cel (b11) 1 (.slice d11 m11 g11))
    exact run_val (v := .agg #[.slice a11 n11 c11, .slice d11 m11 g11]) (hF.wants 188 HN HG _ 12 false false rfl rfl (hP ⟨12, .guard⟩ (by simp) rfl) (hJ.sp 12 (hP ⟨12, .guard⟩ (by simp) rfl))) (by simp [execOp, go_sem, q7, cb, cc]) ⟨_, rfl, hJ.step hL rfl (Below.refl _ _) (by exact ((S4.out.fr (.agg #[.slice a11 n11 c11, .slice d11 m11 g11]) (PA) (QA)).mono hJ.bel))⟩
  · intro L vs a w' hJ hF hP hL
    have p16 : L 16 = true := hP ⟨16, .data⟩ (by simp) rfl
    have s16 : Rt w' (vs 16) (PB) (QB) := hJ.sp 16 p16
    have q59 := hF.slot 16 59 rfl p16
    have p17 : L 17 = true := hP ⟨17, .data⟩ (by simp) rfl
    have s17 : Rt w' (vs 17) (PA) (QA) := hJ.sp 17 p17
    have q60 := hF.slot 17 60 rfl p17
    refine run_call (f := 25) (args := #[vs 16, vs 17]) (hF.wants 188 HN HG _ 12 false false rfl rfl (hP ⟨12, .guard⟩ (by simp) rfl) (hJ.sp 12 (hP ⟨12, .guard⟩ (by simp) rfl))) (by simp [go_sem, q59, q60]) (C3.out _ _ _ s16 s17 (FF.out.go (bel_go S4.out.bel hJ.bel))) ?_
    rintro e w2 ⟨v, rfl, hv, hb⟩
    exact ⟨_, rfl, _, rfl, hJ.step hL rfl hb (by exact hv)⟩
  · intro L vs a w' hJ hF hP hL
    have p15 : L 15 = true := hP ⟨15, .data⟩ (by simp) rfl
    have s15 : Rt w' (vs 15) (P1) (Q1) := hJ.sp 15 p15
    have q58 := hF.slot 15 58 rfl p15
    have p18 : L 18 = true := hP ⟨18, .data⟩ (by simp) rfl
    have s18 : Rt w' (vs 18) (P3) (Q3) := hJ.sp 18 p18
    have q61 := hF.slot 18 61 rfl p18
    refine run_call (f := 27) (args := #[vs 15, vs 18]) (hF.wants 188 HN HG _ 12 false false rfl rfl (hP ⟨12, .guard⟩ (by simp) rfl) (hJ.sp 12 (hP ⟨12, .guard⟩ (by simp) rfl))) (by simp [go_sem, q58, q61]) (E2.out _ _ _ s15 s18) ?_
    rintro e w2 ⟨rfl, hb⟩
    exact ⟨_, rfl, _, rfl, hJ.step hL rfl hb (by exact rfl)⟩
  · intro L vs a w' hJ hF hP hL
    have p19 : L 19 = true := hP ⟨19, .data⟩ (by simp) rfl
    have s19 : vs 19 = .int .i64 0 := hJ.sp 19 p19
    have q62 := hF.slot 19 62 rfl p19
    exact run_val (v := .bool false) (hF.wants 188 HN HG _ 12 false false rfl rfl (hP ⟨12, .guard⟩ (by simp) rfl) (hJ.sp 12 (hP ⟨12, .guard⟩ (by simp) rfl))) (by simp [execOp, go_sem, q62, s19]) ⟨_, rfl, hJ.step hL rfl (Below.refl _ _) (by exact rfl)⟩
  · intro L vs a w' hJ hF hP hL
    have p12 : L 12 = true := hP ⟨12, .data⟩ (by simp) rfl
    have s12 : vs 12 = .bool false := hJ.sp 12 p12
    have q55 := hF.slot 12 55 rfl p12
    have p20 : L 20 = true := hP ⟨20, .data⟩ (by simp) rfl
    have s20 : vs 20 = .bool false := hJ.sp 20 p20
    have q63 := hF.slot 20 63 rfl p20
    exact run_val (v := .bool false) rfl (by simp [execOp, go_sem, q55, s12, q63, s20]) ⟨_, rfl, hJ.step hL rfl (Below.refl _ _) (by exact rfl)⟩
  · intro L vs a w' hJ hF hP hL
    have p21 : L 21 = true := hP ⟨21, .data⟩ (by simp) rfl
    have s21 : vs 21 = .bool false := hJ.sp 21 p21
    have q64 := hF.slot 21 64 rfl p21
    exact run_val (v := .bool false) rfl (by simp [execOp, go_sem, q64, s21]) ⟨_, rfl, hJ.step hL rfl (Below.refl _ _) (by exact rfl)⟩
  · intro L vs a w' hJ hF hP hL
    have q7 : (a.tmps[7]?).getD undef = .pointer (some ⟨b11, 0, none⟩) := hF.old 7 rfl
    have cb := cell_later hJ.bel (S4.out.cel (b11) 0 (.slice a11 n11 c11))
    have cc := cell_later hJ.bel (S4.out.cel (b11) 1 (.slice d11 m11 g11))
    exact run_val (v := .agg #[.slice a11 n11 c11, .slice d11 m11 g11]) (hF.wants 188 HN HG _ 22 false false rfl rfl (hP ⟨22, .guard⟩ (by simp) rfl) (hJ.sp 22 (hP ⟨22, .guard⟩ (by simp) rfl))) (by simp [execOp, go_sem, q7, cb, cc]) ⟨_, rfl, hJ.step hL rfl (Below.refl _ _) (by exact ((S4.out.fr (.agg #[.slice a11 n11 c11, .slice d11 m11 g11]) (PA) (QA)).mono hJ.bel))⟩
  · intro L vs a w' hJ hF hP hL
    have q9 : (a.tmps[9]?).getD undef = .pointer (some ⟨b13, 0, none⟩) := hF.old 9 rfl
    have cb := cell_later hJ.bel (S4.out.cel (b13) 0 (.slice a13 n13 c13))
    have cc := cell_later hJ.bel (S4.out.cel (b13) 1 (.slice d13 m13 g13))
    exact run_val (v := .agg #[.slice a13 n13 c13, .slice d13 m13 g13]) (hF.wants 188 HN HG _ 22 false false rfl rfl (hP ⟨22, .guard⟩ (by simp) rfl) (hJ.sp 22 (hP ⟨22, .guard⟩ (by simp) rfl))) (by simp [execOp, go_sem, q9, cb, cc]) ⟨_, rfl, hJ.step hL rfl (Below.refl _ _) (by exact ((S4.out.fr (.agg #[.slice a13 n13 c13, .slice d13 m13 g13]) (PB) (QB)).mono hJ.bel))⟩
  · intro L vs a w' hJ hF hP hL
    have p23 : L 23 = true := hP ⟨23, .data⟩ (by simp) rfl
    have s23 : Rt w' (vs 23) (PA) (QA) := hJ.sp 23 p23
    have q66 := hF.slot 23 66 rfl p23
    have p24 : L 24 = true := hP ⟨24, .data⟩ (by simp) rfl
    have s24 : Rt w' (vs 24) (PB) (QB) := hJ.sp 24 p24
    have q67 := hF.slot 24 67 rfl p24
    refine run_call (f := 28) (args := #[vs 23, vs 24]) (hF.wants 188 HN HG _ 22 false false rfl rfl (hP ⟨22, .guard⟩ (by simp) rfl) (hJ.sp 22 (hP ⟨22, .guard⟩ (by simp) rfl))) (by simp [go_sem, q66, q67]) (C4.out _ _ _ s23 s24 (FF.out.go (bel_go S4.out.bel hJ.bel))) ?_
    rintro e w2 ⟨v, rfl, hv, hb⟩
    exact ⟨_, rfl, _, rfl, hJ.step hL rfl hb (by exact hv)⟩
  · intro L vs a w' hJ hF hP hL
    have q9 : (a.tmps[9]?).getD undef = .pointer (some ⟨b13, 0, none⟩) := hF.old 9 rfl
    have cb := cell_later hJ.bel (S4.out.cel (b13) 0 (.slice a13 n13 c13))
    have cc := cell_later hJ.bel (S4.out.cel (b13) 1 (.slice d13 m13 g13))
    exact run_val (v := .agg #[.slice a13 n13 c13, .slice d13 m13 g13]) (hF.wants 188 HN HG _ 22 false false rfl rfl (hP ⟨22, .guard⟩ (by simp) rfl) (hJ.sp 22 (hP ⟨22, .guard⟩ (by simp) rfl))) (by simp [execOp, go_sem, q9, cb, cc]) ⟨_, rfl, hJ.step hL rfl (Below.refl _ _) (by exact ((S4.out.fr (.agg #[.slice a13 n13 c13, .slice d13 m13 g13]) (PB) (QB)).mono hJ.bel))⟩
  · intro L vs a w' hJ hF hP hL
    have q7 : (a.tmps[7]?).getD undef = .pointer (some ⟨b11, 0, none⟩) := hF.old 7 rfl
    have cb := cell_later hJ.bel (S4.out.cel (b11) 0 (.slice a11 n11 c11))
    have cc := cell_later hJ.bel (S4.out.cel (b11) 1 (.slice d11 m11 g11))
    exact run_val (v := .agg #[.slice a11 n11 c11, .slice d11 m11 g11]) (hF.wants 188 HN HG _ 22 false false rfl rfl (hP ⟨22, .guard⟩ (by simp) rfl) (hJ.sp 22 (hP ⟨22, .guard⟩ (by simp) rfl))) (by simp [execOp, go_sem, q7, cb, cc]) ⟨_, rfl, hJ.step hL rfl (Below.refl _ _) (by exact ((S4.out.fr (.agg #[.slice a11 n11 c11, .slice d11 m11 g11]) (PA) (QA)).mono hJ.bel))⟩
  · intro L vs a w' hJ hF hP hL
    have p26 : L 26 = true := hP ⟨26, .data⟩ (by simp) rfl
    have s26 : Rt w' (vs 26) (PB) (QB) := hJ.sp 26 p26
    have q69 := hF.slot 26 69 rfl p26
    have p27 : L 27 = true := hP ⟨27, .data⟩ (by simp) rfl
    have s27 : Rt w' (vs 27) (PA) (QA) := hJ.sp 27 p27
    have q70 := hF.slot 27 70 rfl p27
    refine run_call (f := 28) (args := #[vs 26, vs 27]) (hF.wants 188 HN HG _ 22 false false rfl rfl (hP ⟨22, .guard⟩ (by simp) rfl) (hJ.sp 22 (hP ⟨22, .guard⟩ (by simp) rfl))) (by simp [go_sem, q69, q70]) (C5.out _ _ _ s26 s27 (FF.out.go (bel_go S4.out.bel hJ.bel))) ?_
    rintro e w2 ⟨v, rfl, hv, hb⟩
    exact ⟨_, rfl, _, rfl, hJ.step hL rfl hb (by exact hv)⟩
  · intro L vs a w' hJ hF hP hL
    have p25 : L 25 = true := hP ⟨25, .data⟩ (by simp) rfl
    have s25 : Rt w' (vs 25) (P4) (Q4) := hJ.sp 25 p25
    have q68 := hF.slot 25 68 rfl p25
    have p28 : L 28 = true := hP ⟨28, .data⟩ (by simp) rfl
    have s28 : Rt w' (vs 28) (P5) (Q5) := hJ.sp 28 p28
    have q71 := hF.slot 28 71 rfl p28
    refine run_call (f := 27) (args := #[vs 25, vs 28]) (hF.wants 188 HN HG _ 22 false false rfl rfl (hP ⟨22, .guard⟩ (by simp) rfl) (hJ.sp 22 (hP ⟨22, .guard⟩ (by simp) rfl))) (by simp [go_sem, q68, q71]) (E3.out _ _ _ s25 s28) ?_
    rintro e w2 ⟨rfl, hb⟩
    exact ⟨_, rfl, _, rfl, hJ.step hL rfl hb (by exact rfl)⟩
  · intro L vs a w' hJ hF hP hL
    have p29 : L 29 = true := hP ⟨29, .data⟩ (by simp) rfl
    have s29 : vs 29 = .int .i64 0 := hJ.sp 29 p29
    have q72 := hF.slot 29 72 rfl p29
    exact run_val (v := .bool false) (hF.wants 188 HN HG _ 22 false false rfl rfl (hP ⟨22, .guard⟩ (by simp) rfl) (hJ.sp 22 (hP ⟨22, .guard⟩ (by simp) rfl))) (by simp [execOp, go_sem, q72, s29]) ⟨_, rfl, hJ.step hL rfl (Below.refl _ _) (by exact rfl)⟩
  · intro L vs a w' hJ hF hP hL
    have p22 : L 22 = true := hP ⟨22, .data⟩ (by simp) rfl
    have s22 : vs 22 = .bool false := hJ.sp 22 p22
    have q65 := hF.slot 22 65 rfl p22
    have p30 : L 30 = true := hP ⟨30, .data⟩ (by simp) rfl
    have s30 : vs 30 = .bool false := hJ.sp 30 p30
    have q73 := hF.slot 30 73 rfl p30
    exact run_val (v := .bool false) rfl (by simp [execOp, go_sem, q65, s22, q73, s30]) ⟨_, rfl, hJ.step hL rfl (Below.refl _ _) (by exact rfl)⟩
  intro L vs w' hA hJ
  have s31 : vs 31 = .bool false := hJ.sp 31 (hA 31 (by simp))
  simp only [putL, Act.put, List.setIfInBounds_toArray, List.set_cons_zero, List.set_cons_succ, Nat.reduceAdd]
  simp only [s31]
  obtain ⟨w22, ew⟩ : ∃ w22, w22 = w' := ⟨_, rfl⟩
  have S5 : Hid _ := S4.out.go hJ.bel
  rw [← ew] at S5
  rw [← ew]
  clear ew s31 hJ hA S4
  go_wp2_with fail
  refine wp_region_inv (JB w22 [sRt (PA) (QA), sRt (PB) (QB), sRt (P1) (Q1), sRt (PC) (QC), sRt (P6) (Q6), sRt (PA) (QA), sRt (PB) (QB), sRt (PC) (QC), sRt (P7) (Q7), sRt (P8) (Q8), sEq (.int .i64 0), sEq (.bool false), sEq (.bool false), sRt (PA) (QA), sRt (PB) (QB), sRt (P4) (Q4), sRt (PC) (QC), sRt (P9) (Q9), sRt (PA) (QA), sRt (PB) (QB), sRt (PC) (QC), sRt (P10) (Q10), sRt (P11) (Q11), sEq (.int .i64 0), sEq (.bool false), sEq (.bool false), sEq (.bool false), sRt (PA) (QA), sRt (PB) (QB), sRt (PC) (QC), sRt (P7) (Q7), sRt (P12) (Q12), sRt (PA) (QA), sRt (PB) (QB), sRt (P4) (Q4), sRt (PA) (QA), sRt (PC) (QC), sRt (P13) (Q13), sRt (P14) (Q14), sEq (.int .i64 0), sEq (.bool false), sEq (.bool false)] []) 188 (by kernel_rfl) rfl (by kernel_rfl) (JB.start _ _ _) (fun HG HN => ⟨?_, ?_, ?_, ?_, ?_, ?_, ?_, ?_, ?_, ?_, ?_, ?_, ?_, ?_, ?_, ?_, ?_, ?_, ?_, ?_, ?_, ?_, ?_, ?_, ?_, ?_, ?_, ?_, ?_, ?_, ?_, ?_, ?_, ?_, ?_, ?_, ?_, ?_, ?_, ?_, ?_, ?_, trivial⟩) ?_
  · intro L vs a w' hJ hF hP hL
    have q7 : (a.tmps[7]?).getD undef = .pointer (some ⟨b11, 0, none⟩) := hF.old 7 rfl
    have cb := cell_later hJ.bel (S5.out.cel (b11) 0 (.slice a11 n11 c11))
    have cc := cell_later hJ.bel (S5.out.cel (b11) 1 (.slice d11 m11 g11))
    exact run_val (v := .agg #[.slice a11 n11 c11, .slice d11 m11 g11]) rfl (by simp [execOp, go_sem, q7, cb, cc]) ⟨_, rfl, hJ.step hL rfl (Below.refl _ _) (by exact ((S5.out.fr (.agg #[.slice a11 n11 c11, .slice d11 m11 g11]) (PA) (QA)).mono hJ.bel))⟩
  · intro L vs a w' hJ hF hP hL
    have q9 : (a.tmps[9]?).getD undef = .pointer (some ⟨b13, 0, none⟩) := hF.old 9 rfl
    have cb := cell_later hJ.bel (S5.out.cel (b13) 0 (.slice a13 n13 c13))
    have cc := cell_later hJ.bel (S5.out.cel (b13) 1 (.slice d13 m13 g13))
    exact run_val (v := .agg #[.slice a13 n13 c13, .slice d13 m13 g13]) rfl (by simp [execOp, go_sem, q9, cb, cc]) ⟨_, rfl, hJ.step hL rfl (Below.refl _ _) (by exact ((S5.out.fr (.agg #[.slice a13 n13 c13, .slice d13 m13 g13]) (PB) (QB)).mono hJ.bel))⟩
  · intro L vs a w' hJ hF hP hL
    have p0 : L 0 = true := hP ⟨0, .data⟩ (by simp) rfl
    have s0 : Rt w' (vs 0) (PA) (QA) := hJ.sp 0 p0
    have q75 := hF.slot 0 75 rfl p0
    have p1 : L 1 = true := hP ⟨1, .data⟩ (by simp) rfl
    have s1 : Rt w' (vs 1) (PB) (QB) := hJ.sp 1 p1
    have q76 := hF.slot 1 76 rfl p1
    refine run_call (f := 25) (args := #[vs 0, vs 1]) rfl (by simp [go_sem, q75, q76]) (C1.out _ _ _ s0 s1 (FF.out.go (bel_go S5.out.bel hJ.bel))) ?_
    rintro e w2 ⟨v, rfl, hv, hb⟩
    exact ⟨_, rfl, _, rfl, hJ.step hL rfl hb (by exact hv)⟩
  · intro L vs a w' hJ hF hP hL
    have q11 : (a.tmps[11]?).getD undef = .pointer (some ⟨b15, 0, none⟩) := hF.old 11 rfl
    have cb := cell_later hJ.bel (S5.out.cel (b15) 0 (.slice a15 n15 c15))
    have cc := cell_later hJ.bel (S5.out.cel (b15) 1 (.slice d15 m15 g15))
    exact run_val (v := .agg #[.slice a15 n15 c15, .slice d15 m15 g15]) rfl (by simp [execOp, go_sem, q11, cb, cc]) ⟨_, rfl, hJ.step hL rfl (Below.refl _ _) (by exact ((S5.out.fr (.agg #[.slice a15 n15 c15, .slice d15 m15 g15]) (PC) (QC)).mono hJ.bel))⟩
  · intro L vs a w' hJ hF hP hL
    have p2 : L 2 = true := hP ⟨2, .data⟩ (by simp) rfl
    have s2 : Rt w' (vs 2) (P1) (Q1) := hJ.sp 2 p2
    have q77 := hF.slot 2 77 rfl p2
    have p3 : L 3 = true := hP ⟨3, .data⟩ (by simp) rfl
    have s3 : Rt w' (vs 3) (PC) (QC) := hJ.sp 3 p3
    have q78 := hF.slot 3 78 rfl p3
    refine run_call (f := 25) (args := #[vs 2, vs 3]) rfl (by simp [go_sem, q77, q78]) (C6.out _ _ _ s2 s3 (FF.out.go (bel_go S5.out.bel hJ.bel))) ?_
    rintro e w2 ⟨v, rfl, hv, hb⟩
    exact ⟨_, rfl, _, rfl, hJ.step hL rfl hb (by exact hv)⟩
  · intro L vs a w' hJ hF hP hL
    have q7 : (a.tmps[7]?).getD undef = .pointer (some ⟨b11, 0, none⟩) := hF.old 7 rfl
    have cb := cell_later hJ.bel (S5.out.cel (b11) 0 (.slice a11 n11 c11))
    have cc := cell_later hJ.bel (S5.out.cel (b11) 1 (.slice d11 m11 g11))
    exact run_val (v := .agg #[.slice a11 n11 c11, .slice d11 m11 g11]) rfl (by simp [execOp, go_sem, q7, cb, cc]) ⟨_, rfl, hJ.step hL rfl (Below.refl _ _) (by exact ((S5.out.fr (.agg #[.slice a11 n11 c11, .slice d11 m11 g11]) (PA) (QA)).mono hJ.bel))⟩
  · intro L vs a w' hJ hF hP hL
    have q9 : (a.tmps[9]?).getD undef = .pointer (some ⟨b13, 0, none⟩) := hF.old 9 rfl
    have cb := cell_later hJ.bel (S5.out.cel (b13) 0 (.slice a13 n13 c13))
    have cc := cell_later hJ.bel (S5.out.cel (b13) 1 (.slice d13 m13 g13))
    exact run_val (v := .agg #[.slice a13 n13 c13, .slice d13 m13 g13]) rfl (by simp [execOp, go_sem, q9, cb, cc]) ⟨_, rfl, hJ.step hL rfl (Below.refl _ _) (by exact ((S5.out.fr (.agg #[.slice a13 n13 c13, .slice d13 m13 g13]) (PB) (QB)).mono hJ.bel))⟩
  · intro L vs a w' hJ hF hP hL
    have q11 : (a.tmps[11]?).getD undef = .pointer (some ⟨b15, 0, none⟩) := hF.old 11 rfl
    have cb := cell_later hJ.bel (S5.out.cel (b15) 0 (.slice a15 n15 c15))
    have cc := cell_later hJ.bel (S5.out.cel (b15) 1 (.slice d15 m15 g15))
    exact run_val (v := .agg #[.slice a15 n15 c15, .slice d15 m15 g15]) rfl (by simp [execOp, go_sem, q11, cb, cc]) ⟨_, rfl, hJ.step hL rfl (Below.refl _ _) (by exact ((S5.out.fr (.agg #[.slice a15 n15 c15, .slice d15 m15 g15]) (PC) (QC)).mono hJ.bel))⟩
  · intro L vs a w' hJ hF hP hL
    have p6 : L 6 = true := hP ⟨6, .data⟩ (by simp) rfl
    have s6 : Rt w' (vs 6) (PB) (QB) := hJ.sp 6 p6
    have q81 := hF.slot 6 81 rfl p6
    have p7 : L 7 = true := hP ⟨7, .data⟩ (by simp) rfl
    have s7 : Rt w' (vs 7) (PC) (QC) := hJ.sp 7 p7
    have q82 := hF.slot 7 82 rfl p7
    refine run_call (f := 25) (args := #[vs 6, vs 7]) rfl (by simp [go_sem, q81, q82]) (C7.out _ _ _ s6 s7 (FF.out.go (bel_go S5.out.bel hJ.bel))) ?_
    rintro e w2 ⟨v, rfl, hv, hb⟩
    exact ⟨_, rfl, _, rfl, hJ.step hL rfl hb (by exact hv)⟩
  · intro L vs a w' hJ hF hP hL
    have p5 : L 5 = true := hP ⟨5, .data⟩ (by simp) rfl
    have s5 : Rt w' (vs 5) (PA) (QA) := hJ.sp 5 p5
    have q80 := hF.slot 5 80 rfl p5
    have p8 : L 8 = true := hP ⟨8, .data⟩ (by simp) rfl
    have s8 : Rt w' (vs 8) (P7) (Q7) := hJ.sp 8 p8
    have q83 := hF.slot 8 83 rfl p8
    refine run_call (f := 25) (args := #[vs 5, vs 8]) rfl (by simp [go_sem, q80, q83]) (C8.out _ _ _ s5 s8 (FF.out.go (bel_go S5.out.bel hJ.bel))) ?_
    rintro e w2 ⟨v, rfl, hv, hb⟩
    exact ⟨_, rfl, _, rfl, hJ.step hL rfl hb (by exact hv)⟩
  · intro L vs a w' hJ hF hP hL
    have p4 : L 4 = true := hP ⟨4, .data⟩ (by simp) rfl
    have s4 : Rt w' (vs 4) (P6) (Q6) := hJ.sp 4 p4
    have q79 := hF.slot 4 79 rfl p4
    have p9 : L 9 = true := hP ⟨9, .data⟩ (by simp) rfl
    have s9 : Rt w' (vs 9) (P8) (Q8) := hJ.sp 9 p9
    have q84 := hF.slot 9 84 rfl p9
    refine run_call (f := 27) (args := #[vs 4, vs 9]) rfl (by simp [go_sem, q79, q84]) (E4.out _ _ _ s4 s9) ?_
    rintro e w2 ⟨rfl, hb⟩
    exact ⟨_, rfl, _, rfl, hJ.step hL rfl hb (by exact rfl)⟩
  · intro L vs a w' hJ hF hP hL
    have p10 : L 10 = true := hP ⟨10, .data⟩ (by simp) rfl
    have s10 : vs 10 = .int .i64 0 := hJ.sp 10 p10
    have q85 := hF.slot 10 85 rfl p10
    exact run_val (v := .bool false) rfl (by simp [execOp, go_sem, q85, s10]) ⟨_, rfl, hJ.step hL rfl (Below.refl _ _) (by exact rfl)⟩
  · intro L vs a w' hJ hF hP hL
    have p11 : L 11 = true := hP ⟨11, .data⟩ (by simp) rfl
    have s11 : vs 11 = .bool false := hJ.sp 11 p11
    have q86 := hF.slot 11 86 rfl p11
    exact run_val (v := .bool false) rfl (by simp [execOp, go_sem, q86, s11]) ⟨_, rfl, hJ.step hL rfl (Below.refl _ _) (by exact rfl)⟩
  · intro L vs a w' hJ hF hP hL
    have q7 : (a.tmps[7]?).getD undef = .pointer (some ⟨b11, 0, none⟩) := hF.old 7 rfl
    have cb := cell_later hJ.bel (S5.out.cel (b11) 0 (.slice a11 n11 c11))
    have cc := cell_later hJ.bel (S5.out.cel (b11) 1 (.slice d11 m11 g11))
    exact run_val (v := .agg #[.slice a11 n11 c11, .slice d11 m11 g11]) (hF.wants 188 HN HG _ 12 false false rfl rfl (hP ⟨12, .guard⟩ (by simp) rfl) (hJ.sp 12 (hP ⟨12, .guard⟩ (by simp) rfl))) (by simp [execOp, go_sem, q7, cb, cc]) ⟨_, rfl, hJ.step hL rfl (Below.refl _ _) (by exact ((S5.out.fr (.agg #[.slice a11 n11 c11, .slice d11 m11 g11]) (PA) (QA)).mono hJ.bel))⟩
  · intro L vs a w' hJ hF hP hL
    have q9 : (a.tmps[9]?).getD undef = .pointer (some ⟨b13, 0, none⟩) := hF.old 9 rfl
    have cb := cell_later hJ.bel (S5.out.cel (b13) 0 (.slice a13 n13 c13))
    have cc := cell_later hJ.bel (S5.out.cel (b13) 1 (.slice d13 m13 g13))
    exact run_val (v := .agg #[.slice a13 n13 c13, .slice d13 m13 g13]) (hF.wants 188 HN HG _ 12 false false rfl rfl (hP ⟨12, .guard⟩ (by simp) rfl) (hJ.sp 12 (hP ⟨12, .guard⟩ (by simp) rfl))) (by simp [execOp, go_sem, q9, cb, cc]) ⟨_, rfl, hJ.step hL rfl (Below.refl _ _) (by exact ((S5.out.fr (.agg #[.slice a13 n13 c13, .slice d13 m13 g13]) (PB) (QB)).mono hJ.bel))⟩
  · intro L vs a w' hJ hF hP hL
    have p13 : L 13 = true := hP ⟨13, .data⟩ (by simp) rfl
    have s13 : Rt w' (vs 13) (PA) (QA) := hJ.sp 13 p13
    have q88 := hF.slot 13 88 rfl p13
    have p14 : L 14 = true := hP ⟨14, .data⟩ (by simp) rfl
    have s14 : Rt w' (vs 14) (PB) (QB) := hJ.sp 14 p14
    have q89 := hF.slot 14 89 rfl p14
    refine run_call (f := 28) (args := #[vs 13, vs 14]) (hF.wants 188 HN HG _ 12 false false rfl rfl (hP ⟨12, .guard⟩ (by simp) rfl) (hJ.sp 12 (hP ⟨12, .guard⟩ (by simp) rfl))) (by simp [go_sem, q88, q89]) (C4.out _ _ _ s13 s14 (FF.out.go (bel_go S5.out.bel hJ.bel))) ?_
    rintro e w2 ⟨v, rfl, hv, hb⟩
    exact ⟨_, rfl, _, rfl, hJ.step hL rfl hb (by exact hv)⟩
  · intro L vs a w' hJ hF hP hL
    have q11 : (a.tmps[11]?).getD undef = .pointer (some ⟨b15, 0, none⟩) := hF.old 11 rfl
    have cb := cell_later hJ.bel (S5.out.cel (b15) 0 (.slice a15 n15 c15))
    have cc := cell_later hJ.bel (S5.out.cel (b15) 1 (.slice d15 m15 g15))
    exact run_val (v := .agg #[.slice a15 n15 c15, .slice d15 m15 g15]) (hF.wants 188 HN HG _ 12 false false rfl rfl (hP ⟨12, .guard⟩ (by simp) rfl) (hJ.sp 12 (hP ⟨12, .guard⟩ (by simp) rfl))) (by simp [execOp, go_sem, q11, cb, cc]) ⟨_, rfl, hJ.step hL rfl (Below.refl _ _) (by exact ((S5.out.fr (.agg #[.slice a15 n15 c15, .slice d15 m15 g15]) (PC) (QC)).mono hJ.bel))⟩
  · intro L vs a w' hJ hF hP hL
    have p15 : L 15 = true := hP ⟨15, .data⟩ (by simp) rfl
    have s15 : Rt w' (vs 15) (P4) (Q4) := hJ.sp 15 p15
    have q90 := hF.slot 15 90 rfl p15
    have p16 : L 16 = true := hP ⟨16, .data⟩ (by simp) rfl
    have s16 : Rt w' (vs 16) (PC) (QC) := hJ.sp 16 p16
    have q91 := hF.slot 16 91 rfl p16
    refine run_call (f := 28) (args := #[vs 15, vs 16]) (hF.wants 188 HN HG _ 12 false false rfl rfl (hP ⟨12, .guard⟩ (by simp) rfl) (hJ.sp 12 (hP ⟨12, .guard⟩ (by simp) rfl))) (by simp [go_sem, q90, q91]) (C9.out _ _ _ s15 s16 (FF.out.go (bel_go S5.out.bel hJ.bel))) ?_
    rintro e w2 ⟨v, rfl, hv, hb⟩
    exact ⟨_, rfl, _, rfl, hJ.step hL rfl hb (by exact hv)⟩
  · intro L vs a w' hJ hF hP hL
    have q7 : (a.tmps[7]?).getD undef = .pointer (some ⟨b11, 0, none⟩) := hF.old 7 rfl
    have cb := cell_later hJ.bel (S5.out.cel (b11) 0 (.slice a11 n11 c11))
    have cc := cell_later hJ.bel (S5.out.cel (b11) 1 (.slice d11 m11 g11))
    exact run_val (v := .agg #[.slice a11 n11 c11, .slice d11 m11 g11]) (hF.wants 188 HN HG _ 12 false false rfl rfl (hP ⟨12, .guard⟩ (by simp) rfl) (hJ.sp 12 (hP ⟨12, .guard⟩ (by simp) rfl))) (by simp [execOp, go_sem, q7, cb, cc]) ⟨_, rfl, hJ.step hL rfl (Below.refl _ _) (by exact ((S5.out.fr (.agg #[.slice a11 n11 c11, .slice d11 m11 g11]) (PA) (QA)).mono hJ.bel))⟩
  · intro L vs a w' hJ hF hP hL
    have q9 : (a.tmps[9]?).getD undef = .pointer (some ⟨b13, 0, none⟩) := hF.old 9 rfl
    have cb := cell_later hJ.bel (S5.out.cel (b13) 0 (.slice a13 n13 c13))
    have cc := cell_later hJ.bel (S5.out.cel (b13) 1 (.slice d13 m13 g13))
    exact run_val (v := .agg #[.slice a13 n13 c13, .slice d13 m13 g13]) (hF.wants 188 HN HG _ 12 false false rfl rfl (hP ⟨12, .guard⟩ (by simp) rfl) (hJ.sp 12 (hP ⟨12, .guard⟩ (by simp) rfl))) (by simp [execOp, go_sem, q9, cb, cc]) ⟨_, rfl, hJ.step hL rfl (Below.refl _ _) (by exact ((S5.out.fr (.agg #[.slice a13 n13 c13, .slice d13 m13 g13]) (PB) (QB)).mono hJ.bel))⟩
  · intro L vs a w' hJ hF hP hL
    have q11 : (a.tmps[11]?).getD undef = .pointer (some ⟨b15, 0, none⟩) := hF.old 11 rfl
    have cb := cell_later hJ.bel (S5.out.cel (b15) 0 (.slice a15 n15 c15))
    have cc := cell_later hJ.bel (S5.out.cel (b15) 1 (.slice d15 m15 g15))
    exact run_val (v := .agg #[.slice a15 n15 c15, .slice d15 m15 g15]) (hF.wants 188 HN HG _ 12 false false rfl rfl (hP ⟨12, .guard⟩ (by simp) rfl) (hJ.sp 12 (hP ⟨12, .guard⟩ (by simp) rfl))) (by simp [execOp, go_sem, q11, cb, cc]) ⟨_, rfl, hJ.step hL rfl (Below.refl _ _) (by exact ((S5.out.fr (.agg #[.slice a15 n15 c15, .slice d15 m15 g15]) (PC) (QC)).mono hJ.bel))⟩
  · intro L vs a w' hJ hF hP hL
    have p19 : L 19 = true := hP ⟨19, .data⟩ (by simp) rfl
    have s19 : Rt w' (vs 19) (PB) (QB) := hJ.sp 19 p19
    have q94 := hF.slot 19 94 rfl p19
    have p20 : L 20 = true := hP ⟨20, .data⟩ (by simp) rfl
    have s20 : Rt w' (vs 20) (PC) (QC) := hJ.sp 20 p20
    have q95 := hF.slot 20 95 rfl p20
    refine run_call (f := 28) (args := #[vs 19, vs 20]) (hF.wants 188 HN HG _ 12 false false rfl rfl (hP ⟨12, .guard⟩ (by simp) rfl) (hJ.sp 12 (hP ⟨12, .guard⟩ (by simp) rfl))) (by simp [go_sem, q94, q95]) (C10.out _ _ _ s19 s20 (FF.out.go (bel_go S5.out.bel hJ.bel))) ?_
    rintro e w2 ⟨v, rfl, hv, hb⟩
    exact ⟨_, rfl, _, rfl, hJ.step hL rfl hb (by exact hv)⟩
  · intro L vs a w' hJ hF hP hL
    have p18 : L 18 = true := hP ⟨18, .data⟩ (by simp) rfl
    have s18 : Rt w' (vs 18) (PA) (QA) := hJ.sp 18 p18
    have q93 := hF.slot 18 93 rfl p18
    have p21 : L 21 = true := hP ⟨21, .data⟩ (by simp) rfl
    have s21 : Rt w' (vs 21) (P10) (Q10) := hJ.sp 21 p21
    have q96 := hF.slot 21 96 rfl p21
    refine run_call (f := 28) (args := #[vs 18, vs 21]) (hF.wants 188 HN HG _ 12 false false rfl rfl (hP ⟨12, .guard⟩ (by simp) rfl) (hJ.sp 12 (hP ⟨12, .guard⟩ (by simp) rfl))) (by simp [go_sem, q93, q96]) (C11.out _ _ _ s18 s21 (FF.out.go (bel_go S5.out.bel hJ.bel))) ?_
    rintro e w2 ⟨v, rfl, hv, hb⟩
    exact ⟨_, rfl, _, rfl, hJ.step hL rfl hb (by exact hv)⟩
  · intro L vs a w' hJ hF hP hL
    have p17 : L 17 = true := hP ⟨17, .data⟩ (by simp) rfl
    have s17 : Rt w' (vs 17) (P9) (Q9) := hJ.sp 17 p17
    have q92 := hF.slot 17 92 rfl p17
    have p22 : L 22 = true := hP ⟨22, .data⟩ (by simp) rfl
    have s22 : Rt w' (vs 22) (P11) (Q11) := hJ.sp 22 p22
    have q97 := hF.slot 22 97 rfl p22
    refine run_call (f := 27) (args := #[vs 17, vs 22]) (hF.wants 188 HN HG _ 12 false false rfl rfl (hP ⟨12, .guard⟩ (by simp) rfl) (hJ.sp 12 (hP ⟨12, .guard⟩ (by simp) rfl))) (by simp [go_sem, q92, q97]) (E5.out _ _ _ s17 s22) ?_
    rintro e w2 ⟨rfl, hb⟩
    exact ⟨_, rfl, _, rfl, hJ.step hL rfl hb (by exact rfl)⟩
  · intro L vs a w' hJ hF hP hL
    have p23 : L 23 = true := hP ⟨23, .data⟩ (by simp) rfl
    have s23 : vs 23 = .int .i64 0 := hJ.sp 23 p23
    have q98 := hF.slot 23 98 rfl p23
    exact run_val (v := .bool false) (hF.wants 188 HN HG _ 12 false false rfl rfl (hP ⟨12, .guard⟩ (by simp) rfl) (hJ.sp 12 (hP ⟨12, .guard⟩ (by simp) rfl))) (by simp [execOp, go_sem, q98, s23]) ⟨_, rfl, hJ.step hL rfl (Below.refl _ _) (by exact rfl)⟩
  · intro L vs a w' hJ hF hP hL
    have p12 : L 12 = true := hP ⟨12, .data⟩ (by simp) rfl
    have s12 : vs 12 = .bool false := hJ.sp 12 p12
    have q87 := hF.slot 12 87 rfl p12
    have p24 : L 24 = true := hP ⟨24, .data⟩ (by simp) rfl
    have s24 : vs 24 = .bool false := hJ.sp 24 p24
    have q99 := hF.slot 24 99 rfl p24
    exact run_val (v := .bool false) rfl (by simp [execOp, go_sem, q87, s12, q99, s24]) ⟨_, rfl, hJ.step hL rfl (Below.refl _ _) (by exact rfl)⟩
  · intro L vs a w' hJ hF hP hL
    have p25 : L 25 = true := hP ⟨25, .data⟩ (by simp) rfl
    have s25 : vs 25 = .bool false := hJ.sp 25 p25
    have q100 := hF.slot 25 100 rfl p25
    exact run_val (v := .bool false) rfl (by simp [execOp, go_sem, q100, s25]) ⟨_, rfl, hJ.step hL rfl (Below.refl _ _) (by exact rfl)⟩
  · intro L vs a w' hJ hF hP hL
    have q7 : (a.tmps[7]?).getD undef = .pointer (some ⟨b11, 0, none⟩) := hF.old 7 rfl
    have cb := cell_later hJ.bel (S5.out.cel (b11) 0 (.slice a11 n11 c11))
    have cc := cell_later hJ.bel (S5.out.cel (b11) 1 (.slice d11 m11 g11))
    exact run_val (v := .agg #[.slice a11 n11 c11, .slice d11 m11 g11]) (hF.wants 188 HN HG _ 26 false false rfl rfl (hP ⟨26, .guard⟩ (by simp) rfl) (hJ.sp 26 (hP ⟨26, .guard⟩ (by simp) rfl))) (by simp [execOp, go_sem, q7, cb, cc]) ⟨_, rfl, hJ.step hL rfl (Below.refl _ _) (by exact ((S5.out.fr (.agg #[.slice a11 n11 c11, .slice d11 m11 g11]) (PA) (QA)).mono hJ.bel))⟩
  · intro L vs a w' hJ hF hP hL
    have q9 : (a.tmps[9]?).getD undef = .pointer (some ⟨b13, 0, none⟩) := hF.old 9 rfl
    have cb := cell_later hJ.bel (S5.out.cel (b13) 0 (.slice a13 n13 c13))
    have cc := cell_later hJ.bel (S5.out.cel (b13) 1 (.slice d13 m13 g13))
    exact run_val (v := .agg #[.slice a13 n13 c13, .slice d13 m13 g13]) (hF.wants 188 HN HG _ 26 false false rfl rfl (hP ⟨26, .guard⟩ (by simp) rfl) (hJ.sp 26 (hP ⟨26, .guard⟩ (by simp) rfl))) (by simp [execOp, go_sem, q9, cb, cc]) ⟨_, rfl, hJ.step hL rfl (Below.refl _ _) (by exact ((S5.out.fr (.agg #[.slice a13 n13 c13, .slice d13 m13 g13]) (PB) (QB)).mono hJ.bel))⟩
  · intro L vs a w' hJ hF hP hL
    have q11 : (a.tmps[11]?).getD undef = .pointer (some ⟨b15, 0, none⟩) := hF.old 11 rfl
    have cb := cell_later hJ.bel (S5.out.cel (b15) 0 (.slice a15 n15 c15))
    have cc := cell_later hJ.bel (S5.out.cel (b15) 1 (.slice d15 m15 g15))
    exact run_val (v := .agg #[.slice a15 n15 c15, .slice d15 m15 g15]) (hF.wants 188 HN HG _ 26 false false rfl rfl (hP ⟨26, .guard⟩ (by simp) rfl) (hJ.sp 26 (hP ⟨26, .guard⟩ (by simp) rfl))) (by simp [execOp, go_sem, q11, cb, cc]) ⟨_, rfl, hJ.step hL rfl (Below.refl _ _) (by exact ((S5.out.fr (.agg #[.slice a15 n15 c15, .slice d15 m15 g15]) (PC) (QC)).mono hJ.bel))⟩
  · intro L vs a w' hJ hF hP hL
    have p28 : L 28 = true := hP ⟨28, .data⟩ (by simp) rfl
    have s28 : Rt w' (vs 28) (PB) (QB) := hJ.sp 28 p28
    have q103 := hF.slot 28 103 rfl p28
    have p29 : L 29 = true := hP ⟨29, .data⟩ (by simp) rfl
    have s29 : Rt w' (vs 29) (PC) (QC) := hJ.sp 29 p29
    have q104 := hF.slot 29 104 rfl p29
    refine run_call (f := 25) (args := #[vs 28, vs 29]) (hF.wants 188 HN HG _ 26 false false rfl rfl (hP ⟨26, .guard⟩ (by simp) rfl) (hJ.sp 26 (hP ⟨26, .guard⟩ (by simp) rfl))) (by simp [go_sem, q103, q104]) (C7.out _ _ _ s28 s29 (FF.out.go (bel_go S5.out.bel hJ.bel))) ?_
    rintro e w2 ⟨v, rfl, hv, hb⟩
    exact ⟨_, rfl, _, rfl, hJ.step hL rfl hb (by exact hv)⟩
  · intro L vs a w' hJ hF hP hL
    have p27 : L 27 = true := hP ⟨27, .data⟩ (by simp) rfl
    have s27 : Rt w' (vs 27) (PA) (QA) := hJ.sp 27 p27
    have q102 := hF.slot 27 102 rfl p27
    have p30 : L 30 = true := hP ⟨30, .data⟩ (by simp) rfl
    have s30 : Rt w' (vs 30) (P7) (Q7) := hJ.sp 30 p30
    have q105 := hF.slot 30 105 rfl p30
    refine run_call (f := 28) (args := #[vs 27, vs 30]) (hF.wants 188 HN HG _ 26 false false rfl rfl (hP ⟨26, .guard⟩ (by simp) rfl) (hJ.sp 26 (hP ⟨26, .guard⟩ (by simp) rfl))) (by simp [go_sem, q102, q105]) (C12.out _ _ _ s27 s30 (FF.out.go (bel_go S5.out.bel hJ.bel))) ?_
    rintro e w2 ⟨v, rfl, hv, hb⟩
    exact ⟨_, rfl, _, rfl, hJ.step hL rfl hb (by exact hv)⟩
  · intro L vs a w' hJ hF hP hL
    have q7 : (a.tmps[7]?).getD undef = .pointer (some ⟨b11, 0, none⟩) := hF.old 7 rfl
    have cb := cell_later hJ.bel (S5.out.cel (b11) 0 (.slice a11 n11 c11))
    have cc := cell_later hJ.bel (S5.out.cel (b11) 1 (.slice d11 m11 g11))
    exact run_val (v := .agg #[.slice a11 n11 c11, .slice d11 m11 g11]) (hF.wants 188 HN HG _ 26 false false rfl rfl (hP ⟨26, .guard⟩ (by simp) rfl) (hJ.sp 26 (hP ⟨26, .guard⟩ (by simp) rfl))) (by simp [execOp, go_sem, q7, cb, cc]) ⟨_, rfl, hJ.step hL rfl (Below.refl _ _) (by exact ((S5.out.fr (.agg #[.slice a11 n11 c11, .slice d11 m11 g11]) (PA) (QA)).mono hJ.bel))⟩
  · intro L vs a w' hJ hF hP hL
    have q9 : (a.tmps[9]?).getD undef = .pointer (some ⟨b13, 0, none⟩) := hF.old 9 rfl
    have cb := cell_later hJ.bel (S5.out.cel (b13) 0 (.slice a13 n13 c13))
    have cc := cell_later hJ.bel (S5.out.cel (b13) 1 (.slice d13 m13 g13))
    exact run_val (v := .agg #[.slice a13 n13 c13, .slice d13 m13 g13]) (hF.wants 188 HN HG _ 26 false false rfl rfl (hP ⟨26, .guard⟩ (by simp) rfl) (hJ.sp 26 (hP ⟨26, .guard⟩ (by simp) rfl))) (by simp [execOp, go_sem, q9, cb, cc]) ⟨_, rfl, hJ.step hL rfl (Below.refl _ _) (by exact ((S5.out.fr (.agg #[.slice a13 n13 c13, .slice d13 m13 g13]) (PB) (QB)).mono hJ.bel))⟩
  · intro L vs a w' hJ hF hP hL
    have p32 : L 32 = true := hP ⟨32, .data⟩ (by simp) rfl
    have s32 : Rt w' (vs 32) (PA) (QA) := hJ.sp 32 p32
    have q107 := hF.slot 32 107 rfl p32
    have p33 : L 33 = true := hP ⟨33, .data⟩ (by simp) rfl
    have s33 : Rt w' (vs 33) (PB) (QB) := hJ.sp 33 p33
    have q108 := hF.slot 33 108 rfl p33
    refine run_call (f := 28) (args := #[vs 32, vs 33]) (hF.wants 188 HN HG _ 26 false false rfl rfl (hP ⟨26, .guard⟩ (by simp) rfl) (hJ.sp 26 (hP ⟨26, .guard⟩ (by simp) rfl))) (by simp [go_sem, q107, q108]) (C4.out _ _ _ s32 s33 (FF.out.go (bel_go S5.out.bel hJ.bel))) ?_
    rintro e w2 ⟨v, rfl, hv, hb⟩
    exact ⟨_, rfl, _, rfl, hJ.step hL rfl hb (by exact hv)⟩
  · intro L vs a w' hJ hF hP hL
    have q7 : (a.tmps[7]?).getD undef = .pointer (some ⟨b11, 0, none⟩) := hF.old 7 rfl
    have cb := cell_later hJ.bel (S5.out.cel (b11) 0 (.slice a11 n11 c11))
    have cc := cell_later hJ.bel (S5.out.cel (b11) 1 (.slice d11 m11 g11))
    exact run_val (v := .agg #[.slice a11 n11 c11, .slice d11 m11 g11]) (hF.wants 188 HN HG _ 26 false false rfl rfl (hP ⟨26, .guard⟩ (by simp) rfl) (hJ.sp 26 (hP ⟨26, .guard⟩ (by simp) rfl))) (by simp [execOp, go_sem, q7, cb, cc]) ⟨_, rfl, hJ.step hL rfl (Below.refl _ _) (by exact ((S5.out.fr (.agg #[.slice a11 n11 c11, .slice d11 m11 g11]) (PA) (QA)).mono hJ.bel))⟩
  · intro L vs a w' hJ hF hP hL
    have q11 : (a.tmps[11]?).getD undef = .pointer (some ⟨b15, 0, none⟩) := hF.old 11 rfl
    have cb := cell_later hJ.bel (S5.out.cel (b15) 0 (.slice a15 n15 c15))
    have cc := cell_later hJ.bel (S5.out.cel (b15) 1 (.slice d15 m15 g15))
    exact run_val (v := .agg #[.slice a15 n15 c15, .slice d15 m15 g15]) (hF.wants 188 HN HG _ 26 false false rfl rfl (hP ⟨26, .guard⟩ (by simp) rfl) (hJ.sp 26 (hP ⟨26, .guard⟩ (by simp) rfl))) (by simp [execOp, go_sem, q11, cb, cc]) ⟨_, rfl, hJ.step hL rfl (Below.refl _ _) (by exact ((S5.out.fr (.agg #[.slice a15 n15 c15, .slice d15 m15 g15]) (PC) (QC)).mono hJ.bel))⟩
  · intro L vs a w' hJ hF hP hL
    have p35 : L 35 = true := hP ⟨35, .data⟩ (by simp) rfl
    have s35 : Rt w' (vs 35) (PA) (QA) := hJ.sp 35 p35
    have q110 := hF.slot 35 110 rfl p35
    have p36 : L 36 = true := hP ⟨36, .data⟩ (by simp) rfl
    have s36 : Rt w' (vs 36) (PC) (QC) := hJ.sp 36 p36
    have q111 := hF.slot 36 111 rfl p36
    refine run_call (f := 28) (args := #[vs 35, vs 36]) (hF.wants 188 HN HG _ 26 false false rfl rfl (hP ⟨26, .guard⟩ (by simp) rfl) (hJ.sp 26 (hP ⟨26, .guard⟩ (by simp) rfl))) (by simp [go_sem, q110, q111]) (C13.out _ _ _ s35 s36 (FF.out.go (bel_go S5.out.bel hJ.bel))) ?_
    rintro e w2 ⟨v, rfl, hv, hb⟩
    exact ⟨_, rfl, _, rfl, hJ.step hL rfl hb (by exact hv)⟩
  · intro L vs a w' hJ hF hP hL
    have p34 : L 34 = true := hP ⟨34, .data⟩ (by simp) rfl
    have s34 : Rt w' (vs 34) (P4) (Q4) := hJ.sp 34 p34
    have q109 := hF.slot 34 109 rfl p34
    have p37 : L 37 = true := hP ⟨37, .data⟩ (by simp) rfl
    have s37 : Rt w' (vs 37) (P13) (Q13) := hJ.sp 37 p37
    have q112 := hF.slot 37 112 rfl p37
    refine run_call (f := 25) (args := #[vs 34, vs 37]) (hF.wants 188 HN HG _ 26 false false rfl rfl (hP ⟨26, .guard⟩ (by simp) rfl) (hJ.sp 26 (hP ⟨26, .guard⟩ (by simp) rfl))) (by simp [go_sem, q109, q112]) (C14.out _ _ _ s34 s37 (FF.out.go (bel_go S5.out.bel hJ.bel))) ?_
    rintro e w2 ⟨v, rfl, hv, hb⟩
    exact ⟨_, rfl, _, rfl, hJ.step hL rfl hb (by exact hv)⟩
  · intro L vs a w' hJ hF hP hL
    have p31 : L 31 = true := hP ⟨31, .data⟩ (by simp) rfl
    have s31 : Rt w' (vs 31) (P12) (Q12) := hJ.sp 31 p31
    have q106 := hF.slot 31 106 rfl p31
    have p38 : L 38 = true := hP ⟨38, .data⟩ (by simp) rfl
    have s38 : Rt w' (vs 38) (P14) (Q14) := hJ.sp 38 p38
    have q113 := hF.slot 38 113 rfl p38
    refine run_call (f := 27) (args := #[vs 31, vs 38]) (hF.wants 188 HN HG _ 26 false false rfl rfl (hP ⟨26, .guard⟩ (by simp) rfl) (hJ.sp 26 (hP ⟨26, .guard⟩ (by simp) rfl))) (by simp [go_sem, q106, q113]) (E6.out _ _ _ s31 s38) ?_
    rintro e w2 ⟨rfl, hb⟩
    exact ⟨_, rfl, _, rfl, hJ.step hL rfl hb (by exact rfl)⟩
  · intro L vs a w' hJ hF hP hL
    have p39 : L 39 = true := hP ⟨39, .data⟩ (by simp) rfl
    have s39 : vs 39 = .int .i64 0 := hJ.sp 39 p39
    have q114 := hF.slot 39 114 rfl p39
    exact run_val (v := .bool false) (hF.wants 188 HN HG _ 26 false false rfl rfl (hP ⟨26, .guard⟩ (by simp) rfl) (hJ.sp 26 (hP ⟨26, .guard⟩ (by simp) rfl))) (by simp [execOp, go_sem, q114, s39]) ⟨_, rfl, hJ.step hL rfl (Below.refl _ _) (by exact rfl)⟩
  · intro L vs a w' hJ hF hP hL
    have p26 : L 26 = true := hP ⟨26, .data⟩ (by simp) rfl
    have s26 : vs 26 = .bool false := hJ.sp 26 p26
    have q101 := hF.slot 26 101 rfl p26
    have p40 : L 40 = true := hP ⟨40, .data⟩ (by simp) rfl
    have s40 : vs 40 = .bool false := hJ.sp 40 p40
    have q115 := hF.slot 40 115 rfl p40
    exact run_val (v := .bool false) rfl (by simp [execOp, go_sem, q101, s26, q115, s40]) ⟨_, rfl, hJ.step hL rfl (Below.refl _ _) (by exact rfl)⟩
  intro L vs w' hA hJ
  have s41 : vs 41 = .bool false := hJ.sp 41 (hA 41 (by simp))
  simp only [putL, Act.put, List.setIfInBounds_toArray, List.set_cons_zero, List.set_cons_succ, Nat.reduceAdd]
  simp only [s41]
  obtain ⟨w23, ew⟩ : ∃ w23, w23 = w' := ⟨_, rfl⟩
  have S6 : Hid _ := S5.out.go hJ.bel
  rw [← ew] at S6
  rw [← ew]
  clear ew s41 hJ hA S5
  have S7 : Hid _ := (S6.out.box (.slice none 0 0) (.slice none 0 0) 29 _ rfl).addF (v := .agg #[.slice none 0 0, .slice none 0 0]) (x := 0) (y := 1) (rt_zero _)
  clear S6
  go_wp2_with fail
  obtain ⟨w24, hw⟩ : ∃ w24, w24 = w23.alloc (.cells #[.slice none 0 0, .slice none 0 0] 29) := ⟨_, rfl⟩
  obtain ⟨b24, hb⟩ : ∃ b24, b24 = w23.heap.size := ⟨_, rfl⟩
  rw [← hw, ← hb] at S7
  rw [← hw, ← hb]
  clear hw hb
  by_cases hPB : 0 < PB
  · obtain ⟨P16, Q16, f16, c16⟩ := GG.out.2.2.1.div GG.out.2.1 (by omega) (by omega) hPB
    have C16 : Hid _ := c16
    have E8 : Hid _ := f16.cmp GG.out.1 (by omega) (by omega) (z := 0) (cmpI_same (by grind))
    have EZ : Hid _ := GG.out.2.1.cmp GG.out.2.2.2 (by omega) (by omega) (z := 1) (by unfold cmpI; rw [if_neg (by omega), if_neg (by omega)])
    clear f16 c16 hPB
    refine wp_region_inv (JC w24 [sRt (PA) (QA), sRt (PB) (QB), sRt (P4) (Q4), sRt (PB) (QB), sRtB (P16) (Q16) true, sRtB (P16) (Q16) true, sRt (P16) (Q16), sEq (.bool true), sAny, sAny, sEq (.bool true)] (8, 9, 6)) 188 (by kernel_rfl) rfl (by kernel_rfl) (JC.start _ _ _) (fun HG HN => ⟨?_, ?_, ?_, ?_, ?_, ?_, ?_, ?_, ?_, ?_, ?_, trivial⟩) ?_
    · intro L vs a w' hJ hF hP hL
      have q7 : (a.tmps[7]?).getD undef = .pointer (some ⟨b11, 0, none⟩) := hF.old 7 rfl
      have cb := cell_later hJ.bel (S7.out.cel (b11) 0 (.slice a11 n11 c11))
      have cc := cell_later hJ.bel (S7.out.cel (b11) 1 (.slice d11 m11 g11))
      exact run_val (v := .agg #[.slice a11 n11 c11, .slice d11 m11 g11]) rfl (by simp [execOp, go_sem, q7, cb, cc]) ⟨_, rfl, hJ.step hL rfl (Below.refl _ _) (by exact ((S7.out.fr (.agg #[.slice a11 n11 c11, .slice d11 m11 g11]) (PA) (QA)).mono hJ.bel))⟩
    · intro L vs a w' hJ hF hP hL
      have q9 : (a.tmps[9]?).getD undef = .pointer (some ⟨b13, 0, none⟩) := hF.old 9 rfl
      have cb := cell_later hJ.bel (S7.out.cel (b13) 0 (.slice a13 n13 c13))
      have cc := cell_later hJ.bel (S7.out.cel (b13) 1 (.slice d13 m13 g13))
      exact run_val (v := .agg #[.slice a13 n13 c13, .slice d13 m13 g13]) rfl (by simp [execOp, go_sem, q9, cb, cc]) ⟨_, rfl, hJ.step hL rfl (Below.refl _ _) (by exact ((S7.out.fr (.agg #[.slice a13 n13 c13, .slice d13 m13 g13]) (PB) (QB)).mono hJ.bel))⟩
    · intro L vs a w' hJ hF hP hL
      have p0 : L 0 = true := hP ⟨0, .data⟩ (by simp) rfl
      have s0 : Rt w' (vs 0) (PA) (QA) := hJ.sp 0 p0
      have q118 := hF.slot 0 118 rfl p0
      have p1 : L 1 = true := hP ⟨1, .data⟩ (by simp) rfl
      have s1 : Rt w' (vs 1) (PB) (QB) := hJ.sp 1 p1
      have q119 := hF.slot 1 119 rfl p1
      refine run_call (f := 28) (args := #[vs 0, vs 1]) rfl (by simp [go_sem, q118, q119]) (C4.out _ _ _ s0 s1 (FF.out.go (bel_go S7.out.bel hJ.bel))) ?_
      rintro e w2 ⟨v, rfl, hv, hb⟩
      exact ⟨_, rfl, _, rfl, hJ.step hL rfl hb (by exact hv)⟩
    · intro L vs a w' hJ hF hP hL
      have q9 : (a.tmps[9]?).getD undef = .pointer (some ⟨b13, 0, none⟩) := hF.old 9 rfl
      have cb := cell_later hJ.bel (S7.out.cel (b13) 0 (.slice a13 n13 c13))
      have cc := cell_later hJ.bel (S7.out.cel (b13) 1 (.slice d13 m13 g13))
      exact run_val (v := .agg #[.slice a13 n13 c13, .slice d13 m13 g13]) rfl (by simp [execOp, go_sem, q9, cb, cc]) ⟨_, rfl, hJ.step hL rfl (Below.refl _ _) (by exact ((S7.out.fr (.agg #[.slice a13 n13 c13, .slice d13 m13 g13]) (PB) (QB)).mono hJ.bel))⟩
    · intro L vs a w' hJ hF hP hL
      have p2 : L 2 = true := hP ⟨2, .data⟩ (by simp) rfl
      have s2 : Rt w' (vs 2) (P4) (Q4) := hJ.sp 2 p2
      have q120 := hF.slot 2 120 rfl p2
      have p3 : L 3 = true := hP ⟨3, .data⟩ (by simp) rfl
      have s3 : Rt w' (vs 3) (PB) (QB) := hJ.sp 3 p3
      have q121 := hF.slot 3 121 rfl p3
      refine run_call (f := 29) (args := #[vs 2, vs 3]) rfl (by simp [go_sem, q120, q121]) (C16.out _ _ _ s2 s3 (FF.out.go (bel_go S7.out.bel hJ.bel))) ?_
      rintro e w2 ⟨v1, rfl, h1, hb⟩
      exact ⟨_, rfl, _, rfl, hJ.step hL rfl hb (by exact ⟨v1, rfl, h1⟩)⟩
    · intro L vs a w' hJ hF hP hL
      have p4 : L 4 = true := hP ⟨4, .data⟩ (by simp) rfl
      have s4 : ∃ p, vs 4 = .tuple #[p, .bool true] ∧ Rt w' p (P16) (Q16) := hJ.sp 4 p4
      have q122 := hF.slot 4 122 rfl p4
      exact run_val (v := vs 4) rfl (by simp [execOp, go_sem, q122]) ⟨_, rfl, hJ.step hL rfl (Below.refl _ _) (by exact s4)⟩
    · intro L vs a w' hJ hF hP hL
      have p5 : L 5 = true := hP ⟨5, .data⟩ (by simp) rfl
      have s5 : ∃ p, vs 5 = .tuple #[p, .bool true] ∧ Rt w' p (P16) (Q16) := hJ.sp 5 p5
      have q117 := hF.slot 5 117 rfl p5
      obtain ⟨vp, e1, e2⟩ := s5
      exact run_val (v := vp) rfl (by simp [execOp, go_sem, q117, e1]) ⟨_, rfl, hJ.step hL rfl (Below.refl _ _) (by exact e2)⟩
    · intro L vs a w' hJ hF hP hL
      have p5 : L 5 = true := hP ⟨5, .data⟩ (by simp) rfl
      have s5 : ∃ p, vs 5 = .tuple #[p, .bool true] ∧ Rt w' p (P16) (Q16) := hJ.sp 5 p5
      have q117 := hF.slot 5 117 rfl p5
      obtain ⟨vp, e1, e2⟩ := s5
      exact run_val (v := .bool true) rfl (by simp [execOp, go_sem, q117, e1]) ⟨_, rfl, hJ.step hL rfl (Below.refl _ _) (by exact rfl)⟩
    · intro L vs a w' hJ hF hP hL
      exact run_val (v := .pointer (some ⟨w'.heap.size, 0, none⟩)) (w' := w'.alloc (.cells #[.slice none 0 0, .slice none 0 0] 29)) rfl (by simp [execOp, go_sem]) ⟨_, rfl, hJ.alloc hL rfl (by decide) rfl _⟩
    · intro L vs a w' hJ hF hP hL
      have p8 : L 8 = true := hP ⟨8, .data⟩ (by simp) rfl
      have q16 := hF.slot 8 16 rfl p8
      have p6 : L 6 = true := hP ⟨6, .data⟩ (by simp) rfl
      have s6 : Rt w' (vs 6) (P16) (Q16) := hJ.sp 6 p6
      have q123 := hF.slot 6 123 rfl p6
      obtain ⟨bk, e1, e2, e3, e4, e4', e5, e6⟩ := hJ.bx p8
      obtain ⟨e7, e7'⟩ := e5 hL
      obtain ⟨aa, nn, cc, a2, n2, c2, e8, _, _⟩ := s6.raw
      exact run_unit (w' := (w'.setCell ⟨bk, 0, none⟩ (.slice aa nn cc)).setCell ⟨bk, 1, none⟩ (.slice a2 n2 c2)) rfl (by simp [execOp, go_sem, q16, q123, e1, e8, e7, e4, e7', e4']) ⟨undef, rfl, hJ.store hL p8 p6 (by decide) rfl e1 e8⟩
    · intro L vs a w' hJ hF hP hL
      have p7 : L 7 = true := hP ⟨7, .data⟩ (by simp) rfl
      have s7 : vs 7 = .bool true := hJ.sp 7 p7
      have q124 := hF.slot 7 124 rfl p7
      exact run_val (v := .bool true) rfl (by simp [execOp, go_sem, q124, s7]) ⟨_, rfl, hJ.step hL rfl (Below.refl _ _) (by exact rfl)⟩
    intro L vs w' hA hJ
    have s6 : Rt w' (vs 6) (P16) (Q16) := hJ.sp 6 (hA 6 (by simp))
    have s10 : vs 10 = .bool true := hJ.sp 10 (hA 10 (by simp))
    obtain ⟨bk8, eb8, ge8, lt8, fz8, fz8', _, e6⟩ := hJ.bx (hA 8 (by simp))
    obtain ⟨_, u8, u8', eu8, ce8, ce8'⟩ := e6 (hA 9 (by simp))
    clear e6
    simp only [putL, Act.put, List.setIfInBounds_toArray, List.set_cons_zero, List.set_cons_succ, Nat.reduceAdd]
    obtain ⟨a25, n25, c25, d25, m25, g25, ev, _, _⟩ := s6.raw
    rw [ev] at s6 eu8
    obtain ⟨rfl, rfl⟩ : u8 = .slice a25 n25 c25 ∧ u8' = .slice d25 m25 g25 := by simpa [eq_comm] using eu8
    simp only [eb8, s10]
    have S8 : Hid _ := (((S7.out.go hJ.bel).addF s6).addC ce8').addC ce8
    obtain ⟨w25, ew⟩ : ∃ w25, w25 = w' := ⟨_, rfl⟩
    obtain ⟨b25, eb⟩ : ∃ b25, b25 = bk8 := ⟨_, rfl⟩
    rw [← ew, ← eb] at S8
    rw [← ew, ← eb]
    clear ew eb ev s6 s10 eu8 eb8 ce8 ce8' ge8 lt8 fz8 fz8' hJ hA S7
    have y13 := S8.out.cel b13 0 (.slice a13 n13 c13)
    have z13 := S8.out.cel b13 1 (.slice d13 m13 g13)
    have y24 := S8.out.cel b24 0 (.slice none 0 0)
    have z24 := S8.out.cel b24 1 (.slice none 0 0)
    go_wp2_with fail
    refine (EZ.out _ _ _ (S8.out.fr (.agg #[.slice a13 n13 c13, .slice d13 m13 g13]) PB QB) (S8.out.fr (.agg #[.slice none 0 0, .slice none 0 0]) 0 1)).mono ?_
    rintro e w27 ⟨rfl, hb⟩
    have SA : Hid _ := S8.out.go hb
    clear hb S8 y13 z13 y24 z24
    have y25 := SA.out.cel b25 0 (.slice a25 n25 c25)
    have z25 := SA.out.cel b25 1 (.slice d25 m25 g25)
    have y11 := SA.out.cel b11 0 (.slice a11 n11 c11)
    have z11 := SA.out.cel b11 1 (.slice d11 m11 g11)
    go_wp2_with fail
    refine (E8.out _ _ _ (SA.out.fr (.agg #[.slice a25 n25 c25, .slice d25 m25 g25]) P16 Q16) (SA.out.fr (.agg #[.slice a11 n11 c11, .slice d11 m11 g11]) PA QA)).mono ?_
    rintro e w28 ⟨rfl, hb⟩
    have SB : Hid _ := SA.out.go hb
    clear hb SA y25 z25 y11 z11
    by_cases hle : PB * QA ≤ PA * QB
    · have y11 := SB.out.cel b11 0 (.slice a11 n11 c11)
      have z11 := SB.out.cel b11 1 (.slice d11 m11 g11)
      have y13 := SB.out.cel b13 0 (.slice a13 n13 c13)
      have z13 := SB.out.cel b13 1 (.slice d13 m13 g13)
      go_wp2_with fail
      obtain ⟨P17, Q17, f17, c17⟩ := GG.out.1.sub GG.out.2.1 (by omega) (by omega) hle
      obtain ⟨P18, Q18, f18, i18, c18⟩ := f17.add GG.out.2.1 (by omega) (by omega)
      have C17 : Hid _ := c17
      have C18 : Hid _ := c18
      have E9 : Hid _ := f18.cmp GG.out.1 (by omega) (by omega) (z := 0) (cmpI_same (by rw [fore_sub hle]; grind))
      obtain ⟨kk, hkk⟩ : ∃ kk, kk = cmpI (PA * QB) (PB * QA) := ⟨_, rfl⟩
      have hk : 0 ≤ kk := by
        rw [hkk]
        unfold cmpI
        rw [if_neg (by omega)]
        split <;> omega
      have hk1 : kk ≤ 1 := by
        rw [hkk]
        unfold cmpI
        rw [if_neg (by omega)]
        split <;> omega
      have hw : IntKind.i64.wrap kk = kk := by rw [IntKind.wrap_i64]; omega
      have EA : Hid _ := GG.out.1.cmp GG.out.2.1 (by omega) (by omega) (z := kk) hkk.symm
      have EB : Hid _ := GG.out.2.1.cmp GG.out.1 (by omega) (by omega) (z := -kk) (by rw [cmpI_neg, hkk])
      clear f17 f18 c17 c18 i18 hkk hk1 hle
      refine (C17.out _ _ _ (SB.out.fr (.agg #[.slice a11 n11 c11, .slice d11 m11 g11]) PA QA) (SB.out.fr (.agg #[.slice a13 n13 c13, .slice d13 m13 g13]) PB QB) (FF.out.go SB.out.bel)).mono ?_
      rintro e v26w ⟨v26, rfl, hv, hb⟩
      obtain ⟨a26, n26, c26, d26, m26, g26, ev, _, _⟩ := hv.raw
      subst ev
      have SC : Hid _ := ((SB.out.go hb).addF hv).box (.slice a26 n26 c26) (.slice d26 m26 g26) 29 _ rfl
      clear hv hb SB y11 z11 y13 z13
      go_wp2_with fail
      obtain ⟨w26, hw⟩ : ∃ w26, w26 = v26w.alloc (.cells #[.slice a26 n26 c26, .slice d26 m26 g26] 29) := ⟨_, rfl⟩
      obtain ⟨b26, hb⟩ : ∃ b26, b26 = v26w.heap.size := ⟨_, rfl⟩
      rw [← hw, ← hb] at SC
      rw [← hw, ← hb]
      clear hw hb
      refine wp_region_inv (JM w26 [(sEq (.bool true)).m, (sRt (PA) (QA)).m, (sRt (PB) (QB)).m, (sEq (.int .i64 kk)).m, (sEq (.bool true)).m, (sEq (.bool true)).m, (sEq (.bool true)).m, (sRt (PA) (QA)).m, (sRt (PB) (QB)).m, (sEq (.int .i64 kk)).m, (sRt (PB) (QB)).m, (sRt (PA) (QA)).m, (sEq (.int .i64 (-kk))).m, (sEq (.int .i64 kk)).m, (sEq (.bool true)).m, (sEq (.bool true)).m, (sEq (.bool true)).m, (sEq (.bool true)).m, (sEq (.bool false)).m, (sEq (.bool false)).m, (sRt (P17) (Q17)).m, (sRt (PB) (QB)).m, (sRt (P18) (Q18)).m, (sRt (PA) (QA)).m, (sEq (.int .i64 0)).m, (sEq (.bool true)).m, (sEq (.bool true)).m, (sEq (.bool true)).m, (sEq (.bool true)).m, (sRt (PA) (QA)).m, (sRt (PB) (QB)).m, (sRt (PC) (QC)).m, mThree (tri PA PB PC) (tri QA QB QC), (sRt (PS) (QS)).m, (sRt (PC) (QC)).m, (sRt (PB) (QB)).m, (sRt (PA) (QA)).m, (sRt (P3) (Q3)).m, (sRt (P15) (Q15)).m, (sEq (.int .i64 0)).m, (sEq (.bool true)).m, (sEq (.bool true)).m, (sEq (.bool true)).m]) 188 (by kernel_rfl) rfl (by kernel_rfl) (JM.start _ _) (fun HG HN => ⟨?_, ?_, ?_, ?_, ?_, ?_, ?_, ?_, ?_, ?_, ?_, ?_, ?_, ?_, ?_, ?_, ?_, ?_, ?_, ?_, ?_, ?_, ?_, ?_, ?_, ?_, ?_, ?_, ?_, ?_, ?_, ?_, ?_, ?_, ?_, ?_, ?_, ?_, ?_, ?_, ?_, ?_, ?_, trivial⟩) ?_
      · intro L vs a w' hJ hF hP hL
        have q19 : (a.tmps[19]?).getD undef = .bool true := hF.old 19 rfl
        exact run_val (v := .bool true) rfl (by simp [execOp, go_sem, q19]) ⟨_, rfl, hJ.step hL rfl (Below.refl _ _) (by exact rfl)⟩
      · intro L vs a w' hJ hF hP hL
        have q7 : (a.tmps[7]?).getD undef = .pointer (some ⟨b11, 0, none⟩) := hF.old 7 rfl
        have cb := cell_later hJ.bel (SC.out.cel (b11) 0 (.slice a11 n11 c11))
        have cc := cell_later hJ.bel (SC.out.cel (b11) 1 (.slice d11 m11 g11))
        exact run_val (v := .agg #[.slice a11 n11 c11, .slice d11 m11 g11]) rfl (by simp [execOp, go_sem, q7, cb, cc]) ⟨_, rfl, hJ.step hL rfl (Below.refl _ _) (by exact ((SC.out.fr (.agg #[.slice a11 n11 c11, .slice d11 m11 g11]) (PA) (QA)).mono hJ.bel))⟩
      · intro L vs a w' hJ hF hP hL
        have q9 : (a.tmps[9]?).getD undef = .pointer (some ⟨b13, 0, none⟩) := hF.old 9 rfl
        have cb := cell_later hJ.bel (SC.out.cel (b13) 0 (.slice a13 n13 c13))
        have cc := cell_later hJ.bel (SC.out.cel (b13) 1 (.slice d13 m13 g13))
        exact run_val (v := .agg #[.slice a13 n13 c13, .slice d13 m13 g13]) rfl (by simp [execOp, go_sem, q9, cb, cc]) ⟨_, rfl, hJ.step hL rfl (Below.refl _ _) (by exact ((SC.out.fr (.agg #[.slice a13 n13 c13, .slice d13 m13 g13]) (PB) (QB)).mono hJ.bel))⟩
      · intro L vs a w' hJ hF hP hL
        have p1 : L 1 = true := hP ⟨1, .data⟩ (by simp) rfl
        have s1 : Rt w' (vs 1) (PA) (QA) := hJ.sp 1 p1
        have q147 := hF.slot 1 147 rfl p1
        have p2 : L 2 = true := hP ⟨2, .data⟩ (by simp) rfl
        have s2 : Rt w' (vs 2) (PB) (QB) := hJ.sp 2 p2
        have q148 := hF.slot 2 148 rfl p2
        refine run_call (f := 27) (args := #[vs 1, vs 2]) rfl (by simp [go_sem, q147, q148]) (EA.out _ _ _ s1 s2) ?_
        rintro e w2 ⟨rfl, hb⟩
        exact ⟨_, rfl, _, rfl, hJ.step hL rfl hb (by exact rfl)⟩
      · intro L vs a w' hJ hF hP hL
        have p3 : L 3 = true := hP ⟨3, .data⟩ (by simp) rfl
        have s3 : vs 3 = .int .i64 kk := hJ.sp 3 p3
        have q149 := hF.slot 3 149 rfl p3
        exact run_val (v := .bool true) rfl (by simp [execOp, go_sem, q149, s3, hk]) ⟨_, rfl, hJ.step hL rfl (Below.refl _ _) (by exact rfl)⟩
      · intro L vs a w' hJ hF hP hL
        have p0 : L 0 = true := hP ⟨0, .data⟩ (by simp) rfl
        have s0 : vs 0 = .bool true := hJ.sp 0 p0
        have q146 := hF.slot 0 146 rfl p0
        have p4 : L 4 = true := hP ⟨4, .data⟩ (by simp) rfl
        have s4 : vs 4 = .bool true := hJ.sp 4 p4
        have q150 := hF.slot 4 150 rfl p4
        exact run_val (v := .bool true) rfl (by simp [execOp, go_sem, q146, s0, q150, s4]) ⟨_, rfl, hJ.step hL rfl (Below.refl _ _) (by exact rfl)⟩
      · intro L vs a w' hJ hF hP hL
        have p5 : L 5 = true := hP ⟨5, .data⟩ (by simp) rfl
        have s5 : vs 5 = .bool true := hJ.sp 5 p5
        have q151 := hF.slot 5 151 rfl p5
        exact run_val (v := .bool true) rfl (by simp [execOp, go_sem, q151, s5]) ⟨_, rfl, hJ.step hL rfl (Below.refl _ _) (by exact rfl)⟩
      · intro L vs a w' hJ hF hP hL
        have q7 : (a.tmps[7]?).getD undef = .pointer (some ⟨b11, 0, none⟩) := hF.old 7 rfl
        have cb := cell_later hJ.bel (SC.out.cel (b11) 0 (.slice a11 n11 c11))
        have cc := cell_later hJ.bel (SC.out.cel (b11) 1 (.slice d11 m11 g11))
        exact run_val (v := .agg #[.slice a11 n11 c11, .slice d11 m11 g11]) (hF.wants 188 HN HG _ 6 true true rfl rfl (hP ⟨6, .guard⟩ (by simp) rfl) (hJ.sp 6 (hP ⟨6, .guard⟩ (by simp) rfl))) (by simp [execOp, go_sem, q7, cb, cc]) ⟨_, rfl, hJ.step hL rfl (Below.refl _ _) (by exact ((SC.out.fr (.agg #[.slice a11 n11 c11, .slice d11 m11 g11]) (PA) (QA)).mono hJ.bel))⟩
      · intro L vs a w' hJ hF hP hL
        have q9 : (a.tmps[9]?).getD undef = .pointer (some ⟨b13, 0, none⟩) := hF.old 9 rfl
        have cb := cell_later hJ.bel (SC.out.cel (b13) 0 (.slice a13 n13 c13))
        have cc := cell_later hJ.bel (SC.out.cel (b13) 1 (.slice d13 m13 g13))
        exact run_val (v := .agg #[.slice a13 n13 c13, .slice d13 m13 g13]) (hF.wants 188 HN HG _ 6 true true rfl rfl (hP ⟨6, .guard⟩ (by simp) rfl) (hJ.sp 6 (hP ⟨6, .guard⟩ (by simp) rfl))) (by simp [execOp, go_sem, q9, cb, cc]) ⟨_, rfl, hJ.step hL rfl (Below.refl _ _) (by exact ((SC.out.fr (.agg #[.slice a13 n13 c13, .slice d13 m13 g13]) (PB) (QB)).mono hJ.bel))⟩
      · intro L vs a w' hJ hF hP hL
        have p7 : L 7 = true := hP ⟨7, .data⟩ (by simp) rfl
        have s7 : Rt w' (vs 7) (PA) (QA) := hJ.sp 7 p7
        have q153 := hF.slot 7 153 rfl p7
        have p8 : L 8 = true := hP ⟨8, .data⟩ (by simp) rfl
        have s8 : Rt w' (vs 8) (PB) (QB) := hJ.sp 8 p8
        have q154 := hF.slot 8 154 rfl p8
        refine run_call (f := 27) (args := #[vs 7, vs 8]) (hF.wants 188 HN HG _ 6 true true rfl rfl (hP ⟨6, .guard⟩ (by simp) rfl) (hJ.sp 6 (hP ⟨6, .guard⟩ (by simp) rfl))) (by simp [go_sem, q153, q154]) (EA.out _ _ _ s7 s8) ?_
        rintro e w2 ⟨rfl, hb⟩
        exact ⟨_, rfl, _, rfl, hJ.step hL rfl hb (by exact rfl)⟩
      · intro L vs a w' hJ hF hP hL
        have q9 : (a.tmps[9]?).getD undef = .pointer (some ⟨b13, 0, none⟩) := hF.old 9 rfl
        have cb := cell_later hJ.bel (SC.out.cel (b13) 0 (.slice a13 n13 c13))
        have cc := cell_later hJ.bel (SC.out.cel (b13) 1 (.slice d13 m13 g13))
        exact run_val (v := .agg #[.slice a13 n13 c13, .slice d13 m13 g13]) (hF.wants 188 HN HG _ 6 true true rfl rfl (hP ⟨6, .guard⟩ (by simp) rfl) (hJ.sp 6 (hP ⟨6, .guard⟩ (by simp) rfl))) (by simp [execOp, go_sem, q9, cb, cc]) ⟨_, rfl, hJ.step hL rfl (Below.refl _ _) (by exact ((SC.out.fr (.agg #[.slice a13 n13 c13, .slice d13 m13 g13]) (PB) (QB)).mono hJ.bel))⟩
      · intro L vs a w' hJ hF hP hL
        have q7 : (a.tmps[7]?).getD undef = .pointer (some ⟨b11, 0, none⟩) := hF.old 7 rfl
        have cb := cell_later hJ.bel (SC.out.cel (b11) 0 (.slice a11 n11 c11))
        have cc := cell_later hJ.bel (SC.out.cel (b11) 1 (.slice d11 m11 g11))
        exact run_val (v := .agg #[.slice a11 n11 c11, .slice d11 m11 g11]) (hF.wants 188 HN HG _ 6 true true rfl rfl (hP ⟨6, .guard⟩ (by simp) rfl) (hJ.sp 6 (hP ⟨6, .guard⟩ (by simp) rfl))) (by simp [execOp, go_sem, q7, cb, cc]) ⟨_, rfl, hJ.step hL rfl (Below.refl _ _) (by exact ((SC.out.fr (.agg #[.slice a11 n11 c11, .slice d11 m11 g11]) (PA) (QA)).mono hJ.bel))⟩
      · intro L vs a w' hJ hF hP hL
        have p10 : L 10 = true := hP ⟨10, .data⟩ (by simp) rfl
        have s10 : Rt w' (vs 10) (PB) (QB) := hJ.sp 10 p10
        have q156 := hF.slot 10 156 rfl p10
        have p11 : L 11 = true := hP ⟨11, .data⟩ (by simp) rfl
        have s11 : Rt w' (vs 11) (PA) (QA) := hJ.sp 11 p11
        have q157 := hF.slot 11 157 rfl p11
        refine run_call (f := 27) (args := #[vs 10, vs 11]) (hF.wants 188 HN HG _ 6 true true rfl rfl (hP ⟨6, .guard⟩ (by simp) rfl) (hJ.sp 6 (hP ⟨6, .guard⟩ (by simp) rfl))) (by simp [go_sem, q156, q157]) (EB.out _ _ _ s10 s11) ?_
        rintro e w2 ⟨rfl, hb⟩
        exact ⟨_, rfl, _, rfl, hJ.step hL rfl hb (by exact rfl)⟩
      · intro L vs a w' hJ hF hP hL
        have p12 : L 12 = true := hP ⟨12, .data⟩ (by simp) rfl
        have s12 : vs 12 = .int .i64 (-kk) := hJ.sp 12 p12
        have q158 := hF.slot 12 158 rfl p12
        exact run_val (v := .int .i64 kk) (hF.wants 188 HN HG _ 6 true true rfl rfl (hP ⟨6, .guard⟩ (by simp) rfl) (hJ.sp 6 (hP ⟨6, .guard⟩ (by simp) rfl))) (by simp [execOp, go_sem, q158, s12, hw]) ⟨_, rfl, hJ.step hL rfl (Below.refl _ _) (by exact rfl)⟩
      · intro L vs a w' hJ hF hP hL
        have p9 : L 9 = true := hP ⟨9, .data⟩ (by simp) rfl
        have s9 : vs 9 = .int .i64 kk := hJ.sp 9 p9
        have q155 := hF.slot 9 155 rfl p9
        have p13 : L 13 = true := hP ⟨13, .data⟩ (by simp) rfl
        have s13 : vs 13 = .int .i64 kk := hJ.sp 13 p13
        have q159 := hF.slot 13 159 rfl p13
        exact run_val (v := .bool true) (hF.wants 188 HN HG _ 6 true true rfl rfl (hP ⟨6, .guard⟩ (by simp) rfl) (hJ.sp 6 (hP ⟨6, .guard⟩ (by simp) rfl))) (by simp [execOp, go_sem, q155, s9, q159, s13]) ⟨_, rfl, hJ.step hL rfl (Below.refl _ _) (by exact rfl)⟩
      · intro L vs a w' hJ hF hP hL
        have p6 : L 6 = true := hP ⟨6, .data⟩ (by simp) rfl
        have s6 : vs 6 = .bool true := hJ.sp 6 p6
        have q152 := hF.slot 6 152 rfl p6
        have p14 : L 14 = true := hP ⟨14, .data⟩ (by simp) rfl
        have s14 : vs 14 = .bool true := hJ.sp 14 p14
        have q160 := hF.slot 14 160 rfl p14
        exact run_val (v := .bool true) rfl (by simp [execOp, go_sem, q152, s6, q160, s14]) ⟨_, rfl, hJ.step hL rfl (Below.refl _ _) (by exact rfl)⟩
      · intro L vs a w' hJ hF hP hL
        have p15 : L 15 = true := hP ⟨15, .data⟩ (by simp) rfl
        have s15 : vs 15 = .bool true := hJ.sp 15 p15
        have q161 := hF.slot 15 161 rfl p15
        exact run_val (v := .bool true) rfl (by simp [execOp, go_sem, q161, s15]) ⟨_, rfl, hJ.step hL rfl (Below.refl _ _) (by exact rfl)⟩
      · intro L vs a w' hJ hF hP hL
        have q19 : (a.tmps[19]?).getD undef = .bool true := hF.old 19 rfl
        exact run_val (v := .bool true) (hF.wants 188 HN HG _ 16 true true rfl rfl (hP ⟨16, .guard⟩ (by simp) rfl) (hJ.sp 16 (hP ⟨16, .guard⟩ (by simp) rfl))) (by simp [execOp, go_sem, q19]) ⟨_, rfl, hJ.step hL rfl (Below.refl _ _) (by exact rfl)⟩
      · intro L vs a w' hJ hF hP hL
        have p17 : L 17 = true := hP ⟨17, .data⟩ (by simp) rfl
        have s17 : vs 17 = .bool true := hJ.sp 17 p17
        have q163 := hF.slot 17 163 rfl p17
        exact run_val (v := .bool false) (hF.wants 188 HN HG _ 16 true true rfl rfl (hP ⟨16, .guard⟩ (by simp) rfl) (hJ.sp 16 (hP ⟨16, .guard⟩ (by simp) rfl))) (by simp [execOp, go_sem, q163, s17]) ⟨_, rfl, hJ.step hL rfl (Below.refl _ _) (by exact rfl)⟩
      · intro L vs a w' hJ hF hP hL
        have p18 : L 18 = true := hP ⟨18, .data⟩ (by simp) rfl
        have s18 : vs 18 = .bool false := hJ.sp 18 p18
        have q164 := hF.slot 18 164 rfl p18
        exact run_val (v := .bool false) (hF.wants 188 HN HG _ 16 true true rfl rfl (hP ⟨16, .guard⟩ (by simp) rfl) (hJ.sp 16 (hP ⟨16, .guard⟩ (by simp) rfl))) (by simp [execOp, go_sem, q164, s18]) ⟨_, rfl, hJ.step hL rfl (Below.refl _ _) (by exact rfl)⟩
      · intro L vs a w' hJ hF hP hL
        have q18 : (a.tmps[18]?).getD undef = .pointer (some ⟨b26, 0, none⟩) := hF.old 18 rfl
        have cb := cell_later hJ.bel (SC.out.cel (b26) 0 (.slice a26 n26 c26))
        have cc := cell_later hJ.bel (SC.out.cel (b26) 1 (.slice d26 m26 g26))
        exact run_val (v := .agg #[.slice a26 n26 c26, .slice d26 m26 g26]) (hF.wants 188 HN HG _ 19 false false rfl rfl (hP ⟨19, .guard⟩ (by simp) rfl) (hJ.sp 19 (hP ⟨19, .guard⟩ (by simp) rfl))) (by simp [execOp, go_sem, q18, cb, cc]) ⟨_, rfl, hJ.step hL rfl (Below.refl _ _) (by exact ((SC.out.fr (.agg #[.slice a26 n26 c26, .slice d26 m26 g26]) (P17) (Q17)).mono hJ.bel))⟩
      · intro L vs a w' hJ hF hP hL
        have q9 : (a.tmps[9]?).getD undef = .pointer (some ⟨b13, 0, none⟩) := hF.old 9 rfl
        have cb := cell_later hJ.bel (SC.out.cel (b13) 0 (.slice a13 n13 c13))
        have cc := cell_later hJ.bel (SC.out.cel (b13) 1 (.slice d13 m13 g13))
        exact run_val (v := .agg #[.slice a13 n13 c13, .slice d13 m13 g13]) (hF.wants 188 HN HG _ 19 false false rfl rfl (hP ⟨19, .guard⟩ (by simp) rfl) (hJ.sp 19 (hP ⟨19, .guard⟩ (by simp) rfl))) (by simp [execOp, go_sem, q9, cb, cc]) ⟨_, rfl, hJ.step hL rfl (Below.refl _ _) (by exact ((SC.out.fr (.agg #[.slice a13 n13 c13, .slice d13 m13 g13]) (PB) (QB)).mono hJ.bel))⟩
      · intro L vs a w' hJ hF hP hL
        have p20 : L 20 = true := hP ⟨20, .data⟩ (by simp) rfl
        have s20 : Rt w' (vs 20) (P17) (Q17) := hJ.sp 20 p20
        have q166 := hF.slot 20 166 rfl p20
        have p21 : L 21 = true := hP ⟨21, .data⟩ (by simp) rfl
        have s21 : Rt w' (vs 21) (PB) (QB) := hJ.sp 21 p21
        have q167 := hF.slot 21 167 rfl p21
        refine run_call (f := 25) (args := #[vs 20, vs 21]) (hF.wants 188 HN HG _ 19 false false rfl rfl (hP ⟨19, .guard⟩ (by simp) rfl) (hJ.sp 19 (hP ⟨19, .guard⟩ (by simp) rfl))) (by simp [go_sem, q166, q167]) (C18.out _ _ _ s20 s21 (FF.out.go (bel_go SC.out.bel hJ.bel))) ?_
        rintro e w2 ⟨v, rfl, hv, hb⟩
        exact ⟨_, rfl, _, rfl, hJ.step hL rfl hb (by exact hv)⟩
      · intro L vs a w' hJ hF hP hL
        have q7 : (a.tmps[7]?).getD undef = .pointer (some ⟨b11, 0, none⟩) := hF.old 7 rfl
        have cb := cell_later hJ.bel (SC.out.cel (b11) 0 (.slice a11 n11 c11))
        have cc := cell_later hJ.bel (SC.out.cel (b11) 1 (.slice d11 m11 g11))
        exact run_val (v := .agg #[.slice a11 n11 c11, .slice d11 m11 g11]) (hF.wants 188 HN HG _ 19 false false rfl rfl (hP ⟨19, .guard⟩ (by simp) rfl) (hJ.sp 19 (hP ⟨19, .guard⟩ (by simp) rfl))) (by simp [execOp, go_sem, q7, cb, cc]) ⟨_, rfl, hJ.step hL rfl (Below.refl _ _) (by exact ((SC.out.fr (.agg #[.slice a11 n11 c11, .slice d11 m11 g11]) (PA) (QA)).mono hJ.bel))⟩
      · intro L vs a w' hJ hF hP hL
        have p22 : L 22 = true := hP ⟨22, .data⟩ (by simp) rfl
        have s22 : Rt w' (vs 22) (P18) (Q18) := hJ.sp 22 p22
        have q168 := hF.slot 22 168 rfl p22
        have p23 : L 23 = true := hP ⟨23, .data⟩ (by simp) rfl
        have s23 : Rt w' (vs 23) (PA) (QA) := hJ.sp 23 p23
        have q169 := hF.slot 23 169 rfl p23
        refine run_call (f := 27) (args := #[vs 22, vs 23]) (hF.wants 188 HN HG _ 19 false false rfl rfl (hP ⟨19, .guard⟩ (by simp) rfl) (hJ.sp 19 (hP ⟨19, .guard⟩ (by simp) rfl))) (by simp [go_sem, q168, q169]) (E9.out _ _ _ s22 s23) ?_
        rintro e w2 ⟨rfl, hb⟩
        exact ⟨_, rfl, _, rfl, hJ.step hL rfl hb (by exact rfl)⟩
      · intro L vs a w' hJ hF hP hL
        have p24 : L 24 = true := hP ⟨24, .data⟩ (by simp) rfl
        have s24 : vs 24 = .int .i64 0 := hJ.sp 24 p24
        have q170 := hF.slot 24 170 rfl p24
        exact run_val (v := .bool true) (hF.wants 188 HN HG _ 19 false false rfl rfl (hP ⟨19, .guard⟩ (by simp) rfl) (hJ.sp 19 (hP ⟨19, .guard⟩ (by simp) rfl))) (by simp [execOp, go_sem, q170, s24]) ⟨_, rfl, hJ.step hL rfl (Below.refl _ _) (by exact rfl)⟩
      · intro L vs a w' hJ hF hP hL
        have p19 : L 19 = true := hP ⟨19, .data⟩ (by simp) rfl
        have s19 : vs 19 = .bool false := hJ.sp 19 p19
        have q165 := hF.slot 19 165 rfl p19
        have p25 : L 25 = true := hP ⟨25, .data⟩ (by simp) rfl
        have s25 : vs 25 = .bool true := hJ.sp 25 p25
        have q171 := hF.slot 25 171 rfl p25
        exact run_val (v := .bool true) (hF.wants 188 HN HG _ 16 true true rfl rfl (hP ⟨16, .guard⟩ (by simp) rfl) (hJ.sp 16 (hP ⟨16, .guard⟩ (by simp) rfl))) (by simp [execOp, go_sem, q165, s19, q171, s25]) ⟨_, rfl, hJ.step hL rfl (Below.refl _ _) (by exact rfl)⟩
      · intro L vs a w' hJ hF hP hL
        have p16 : L 16 = true := hP ⟨16, .data⟩ (by simp) rfl
        have s16 : vs 16 = .bool true := hJ.sp 16 p16
        have q162 := hF.slot 16 162 rfl p16
        have p26 : L 26 = true := hP ⟨26, .data⟩ (by simp) rfl
        have s26 : vs 26 = .bool true := hJ.sp 26 p26
        have q172 := hF.slot 26 172 rfl p26
        exact run_val (v := .bool true) rfl (by simp [execOp, go_sem, q162, s16, q172, s26]) ⟨_, rfl, hJ.step hL rfl (Below.refl _ _) (by exact rfl)⟩
      · intro L vs a w' hJ hF hP hL
        have p27 : L 27 = true := hP ⟨27, .data⟩ (by simp) rfl
        have s27 : vs 27 = .bool true := hJ.sp 27 p27
        have q173 := hF.slot 27 173 rfl p27
        exact run_val (v := .bool true) rfl (by simp [execOp, go_sem, q173, s27]) ⟨_, rfl, hJ.step hL rfl (Below.refl _ _) (by exact rfl)⟩
      · intro L vs a w' hJ hF hP hL
        have q7 : (a.tmps[7]?).getD undef = .pointer (some ⟨b11, 0, none⟩) := hF.old 7 rfl
        have cb := cell_later hJ.bel (SC.out.cel (b11) 0 (.slice a11 n11 c11))
        have cc := cell_later hJ.bel (SC.out.cel (b11) 1 (.slice d11 m11 g11))
        exact run_val (v := .agg #[.slice a11 n11 c11, .slice d11 m11 g11]) (hF.wants 188 HN HG _ 28 true true rfl rfl (hP ⟨28, .guard⟩ (by simp) rfl) (hJ.sp 28 (hP ⟨28, .guard⟩ (by simp) rfl))) (by simp [execOp, go_sem, q7, cb, cc]) ⟨_, rfl, hJ.step hL rfl (Below.refl _ _) (by exact ((SC.out.fr (.agg #[.slice a11 n11 c11, .slice d11 m11 g11]) (PA) (QA)).mono hJ.bel))⟩
      · intro L vs a w' hJ hF hP hL
        have q9 : (a.tmps[9]?).getD undef = .pointer (some ⟨b13, 0, none⟩) := hF.old 9 rfl
        have cb := cell_later hJ.bel (SC.out.cel (b13) 0 (.slice a13 n13 c13))
        have cc := cell_later hJ.bel (SC.out.cel (b13) 1 (.slice d13 m13 g13))
        exact run_val (v := .agg #[.slice a13 n13 c13, .slice d13 m13 g13]) (hF.wants 188 HN HG _ 28 true true rfl rfl (hP ⟨28, .guard⟩ (by simp) rfl) (hJ.sp 28 (hP ⟨28, .guard⟩ (by simp) rfl))) (by simp [execOp, go_sem, q9, cb, cc]) ⟨_, rfl, hJ.step hL rfl (Below.refl _ _) (by exact ((SC.out.fr (.agg #[.slice a13 n13 c13, .slice d13 m13 g13]) (PB) (QB)).mono hJ.bel))⟩
      · intro L vs a w' hJ hF hP hL
        have q11 : (a.tmps[11]?).getD undef = .pointer (some ⟨b15, 0, none⟩) := hF.old 11 rfl
        have cb := cell_later hJ.bel (SC.out.cel (b15) 0 (.slice a15 n15 c15))
        have cc := cell_later hJ.bel (SC.out.cel (b15) 1 (.slice d15 m15 g15))
        exact run_val (v := .agg #[.slice a15 n15 c15, .slice d15 m15 g15]) (hF.wants 188 HN HG _ 28 true true rfl rfl (hP ⟨28, .guard⟩ (by simp) rfl) (hJ.sp 28 (hP ⟨28, .guard⟩ (by simp) rfl))) (by simp [execOp, go_sem, q11, cb, cc]) ⟨_, rfl, hJ.step hL rfl (Below.refl _ _) (by exact ((SC.out.fr (.agg #[.slice a15 n15 c15, .slice d15 m15 g15]) (PC) (QC)).mono hJ.bel))⟩
      · intro L vs a w' hJ hF hP hL
        have p29 : L 29 = true := hP ⟨29, .data⟩ (by simp) rfl
        have s29 : Rt w' (vs 29) (PA) (QA) := hJ.sp 29 p29
        have q175 := hF.slot 29 175 rfl p29
        have p30 : L 30 = true := hP ⟨30, .data⟩ (by simp) rfl
        have s30 : Rt w' (vs 30) (PB) (QB) := hJ.sp 30 p30
        have q176 := hF.slot 30 176 rfl p30
        have p31 : L 31 = true := hP ⟨31, .data⟩ (by simp) rfl
        have s31 : Rt w' (vs 31) (PC) (QC) := hJ.sp 31 p31
        have q177 := hF.slot 31 177 rfl p31
        obtain ⟨x1, y1, z1, u1, v1, r1, ea1, _, _⟩ := s29.raw
        obtain ⟨x2, y2, z2, u2, v2, r2, ea2, _, _⟩ := s30.raw
        obtain ⟨x3, y3, z3, u3, v3, r3, ea3, _, _⟩ := s31.raw
        exact run_val (v := .slice (some ⟨w'.heap.size, 0, none⟩) 3 3) (w' := w'.alloc (.cells #[.slice x1 y1 z1, .slice u1 v1 r1, .slice x2 y2 z2, .slice u2 v2 r2, .slice x3 y3 z3, .slice u3 v3 r3] 29)) (hF.wants 188 HN HG _ 28 true true rfl rfl (hP ⟨28, .guard⟩ (by simp) rfl) (hJ.sp 28 (hP ⟨28, .guard⟩ (by simp) rfl))) (by simp [execOp, go_sem, q175, q176, q177, ea1, ea2, ea3]) ⟨_, rfl, hJ.step hL rfl (bel_al (bel_refl _)) (by exact (three_new (ea1 ▸ s29) (ea2 ▸ s30) (ea3 ▸ s31) _))⟩
      · intro L vs a w' hJ hF hP hL
        have p32 : L 32 = true := hP ⟨32, .data⟩ (by simp) rfl
        have s32 : Three w' (vs 32) (tri PA PB PC) (tri QA QB QC) := hJ.sp 32 p32
        have q178 := hF.slot 32 178 rfl p32
        refine run_call (f := 30) (args := #[vs 32]) (hF.wants 188 HN HG _ 28 true true rfl rfl (hP ⟨28, .guard⟩ (by simp) rfl) (hJ.sp 28 (hP ⟨28, .guard⟩ (by simp) rfl))) (by simp [go_sem, q178]) (CS.out _ _ s32 (FF.out.go (bel_go SC.out.bel hJ.bel))) ?_
        rintro e w2 ⟨v, rfl, hv, hb⟩
        exact ⟨_, rfl, _, rfl, hJ.step hL rfl hb (by exact hv)⟩
      · intro L vs a w' hJ hF hP hL
        have q11 : (a.tmps[11]?).getD undef = .pointer (some ⟨b15, 0, none⟩) := hF.old 11 rfl
        have cb := cell_later hJ.bel (SC.out.cel (b15) 0 (.slice a15 n15 c15))
        have cc := cell_later hJ.bel (SC.out.cel (b15) 1 (.slice d15 m15 g15))
        exact run_val (v := .agg #[.slice a15 n15 c15, .slice d15 m15 g15]) (hF.wants 188 HN HG _ 28 true true rfl rfl (hP ⟨28, .guard⟩ (by simp) rfl) (hJ.sp 28 (hP ⟨28, .guard⟩ (by simp) rfl))) (by simp [execOp, go_sem, q11, cb, cc]) ⟨_, rfl, hJ.step hL rfl (Below.refl _ _) (by exact ((SC.out.fr (.agg #[.slice a15 n15 c15, .slice d15 m15 g15]) (PC) (QC)).mono hJ.bel))⟩
      · intro L vs a w' hJ hF hP hL
        have q9 : (a.tmps[9]?).getD undef = .pointer (some ⟨b13, 0, none⟩) := hF.old 9 rfl
        have cb := cell_later hJ.bel (SC.out.cel (b13) 0 (.slice a13 n13 c13))
        have cc := cell_later hJ.bel (SC.out.cel (b13) 1 (.slice d13 m13 g13))
        exact run_val (v := .agg #[.slice a13 n13 c13, .slice d13 m13 g13]) (hF.wants 188 HN HG _ 28 true true rfl rfl (hP ⟨28, .guard⟩ (by simp) rfl) (hJ.sp 28 (hP ⟨28, .guard⟩ (by simp) rfl))) (by simp [execOp, go_sem, q9, cb, cc]) ⟨_, rfl, hJ.step hL rfl (Below.refl _ _) (by exact ((SC.out.fr (.agg #[.slice a13 n13 c13, .slice d13 m13 g13]) (PB) (QB)).mono hJ.bel))⟩
      · intro L vs a w' hJ hF hP hL
        have q7 : (a.tmps[7]?).getD undef = .pointer (some ⟨b11, 0, none⟩) := hF.old 7 rfl
        have cb := cell_later hJ.bel (SC.out.cel (b11) 0 (.slice a11 n11 c11))
        have cc := cell_later hJ.bel (SC.out.cel (b11) 1 (.slice d11 m11 g11))
        exact run_val (v := .agg #[.slice a11 n11 c11, .slice d11 m11 g11]) (hF.wants 188 HN HG _ 28 true true rfl rfl (hP ⟨28, .guard⟩ (by simp) rfl) (hJ.sp 28 (hP ⟨28, .guard⟩ (by simp) rfl))) (by simp [execOp, go_sem, q7, cb, cc]) ⟨_, rfl, hJ.step hL rfl (Below.refl _ _) (by exact ((SC.out.fr (.agg #[.slice a11 n11 c11, .slice d11 m11 g11]) (PA) (QA)).mono hJ.bel))⟩
      · intro L vs a w' hJ hF hP hL
        have p35 : L 35 = true := hP ⟨35, .data⟩ (by simp) rfl
        have s35 : Rt w' (vs 35) (PB) (QB) := hJ.sp 35 p35
        have q181 := hF.slot 35 181 rfl p35
        have p36 : L 36 = true := hP ⟨36, .data⟩ (by simp) rfl
        have s36 : Rt w' (vs 36) (PA) (QA) := hJ.sp 36 p36
        have q182 := hF.slot 36 182 rfl p36
        refine run_call (f := 25) (args := #[vs 35, vs 36]) (hF.wants 188 HN HG _ 28 true true rfl rfl (hP ⟨28, .guard⟩ (by simp) rfl) (hJ.sp 28 (hP ⟨28, .guard⟩ (by simp) rfl))) (by simp [go_sem, q181, q182]) (C3.out _ _ _ s35 s36 (FF.out.go (bel_go SC.out.bel hJ.bel))) ?_
        rintro e w2 ⟨v, rfl, hv, hb⟩
        exact ⟨_, rfl, _, rfl, hJ.step hL rfl hb (by exact hv)⟩
      · intro L vs a w' hJ hF hP hL
        have p34 : L 34 = true := hP ⟨34, .data⟩ (by simp) rfl
        have s34 : Rt w' (vs 34) (PC) (QC) := hJ.sp 34 p34
        have q180 := hF.slot 34 180 rfl p34
        have p37 : L 37 = true := hP ⟨37, .data⟩ (by simp) rfl
        have s37 : Rt w' (vs 37) (P3) (Q3) := hJ.sp 37 p37
        have q183 := hF.slot 37 183 rfl p37
        refine run_call (f := 25) (args := #[vs 34, vs 37]) (hF.wants 188 HN HG _ 28 true true rfl rfl (hP ⟨28, .guard⟩ (by simp) rfl) (hJ.sp 28 (hP ⟨28, .guard⟩ (by simp) rfl))) (by simp [go_sem, q180, q183]) (C15.out _ _ _ s34 s37 (FF.out.go (bel_go SC.out.bel hJ.bel))) ?_
        rintro e w2 ⟨v, rfl, hv, hb⟩
        exact ⟨_, rfl, _, rfl, hJ.step hL rfl hb (by exact hv)⟩
      · intro L vs a w' hJ hF hP hL
        have p33 : L 33 = true := hP ⟨33, .data⟩ (by simp) rfl
        have s33 : Rt w' (vs 33) (PS) (QS) := hJ.sp 33 p33
        have q179 := hF.slot 33 179 rfl p33
        have p38 : L 38 = true := hP ⟨38, .data⟩ (by simp) rfl
        have s38 : Rt w' (vs 38) (P15) (Q15) := hJ.sp 38 p38
        have q184 := hF.slot 38 184 rfl p38
        refine run_call (f := 27) (args := #[vs 33, vs 38]) (hF.wants 188 HN HG _ 28 true true rfl rfl (hP ⟨28, .guard⟩ (by simp) rfl) (hJ.sp 28 (hP ⟨28, .guard⟩ (by simp) rfl))) (by simp [go_sem, q179, q184]) (E7.out _ _ _ s33 s38) ?_
        rintro e w2 ⟨rfl, hb⟩
        exact ⟨_, rfl, _, rfl, hJ.step hL rfl hb (by exact rfl)⟩
      · intro L vs a w' hJ hF hP hL
        have p39 : L 39 = true := hP ⟨39, .data⟩ (by simp) rfl
        have s39 : vs 39 = .int .i64 0 := hJ.sp 39 p39
        have q185 := hF.slot 39 185 rfl p39
        exact run_val (v := .bool true) (hF.wants 188 HN HG _ 28 true true rfl rfl (hP ⟨28, .guard⟩ (by simp) rfl) (hJ.sp 28 (hP ⟨28, .guard⟩ (by simp) rfl))) (by simp [execOp, go_sem, q185, s39]) ⟨_, rfl, hJ.step hL rfl (Below.refl _ _) (by exact rfl)⟩
      · intro L vs a w' hJ hF hP hL
        have p28 : L 28 = true := hP ⟨28, .data⟩ (by simp) rfl
        have s28 : vs 28 = .bool true := hJ.sp 28 p28
        have q174 := hF.slot 28 174 rfl p28
        have p40 : L 40 = true := hP ⟨40, .data⟩ (by simp) rfl
        have s40 : vs 40 = .bool true := hJ.sp 40 p40
        have q186 := hF.slot 40 186 rfl p40
        exact run_val (v := .bool true) rfl (by simp [execOp, go_sem, q174, s28, q186, s40]) ⟨_, rfl, hJ.step hL rfl (Below.refl _ _) (by exact rfl)⟩
      · intro L vs a w' hJ hF hP hL
        have p41 : L 41 = true := hP ⟨41, .data⟩ (by simp) rfl
        have s41 : vs 41 = .bool true := hJ.sp 41 p41
        have q187 := hF.slot 41 187 rfl p41
        exact run_val (v := .bool true) rfl (by simp [execOp, go_sem, q187, s41]) ⟨_, rfl, hJ.step hL rfl (Below.refl _ _) (by exact rfl)⟩
      intro L vs w' hA hJ
      have s42 : vs 42 = .bool true := hJ.sp 42 (hA 42 (by simp))
      simp only [putL, Act.put, List.setIfInBounds_toArray, List.set_cons_zero, List.set_cons_succ, Nat.reduceAdd]
      simp only [s42]
      have B : Hid _ := (SC.out.go hJ.bel).bel
      clear s42 hJ hA SC
      go_wp2_with fail
      go_ret
      exact ⟨rfl, B.out⟩
    · have y11 := SB.out.cel b11 0 (.slice a11 n11 c11)
      have z11 := SB.out.cel b11 1 (.slice d11 m11 g11)
      have y13 := SB.out.cel b13 0 (.slice a13 n13 c13)
      have z13 := SB.out.cel b13 1 (.slice d13 m13 g13)
      go_wp2_with fail
      have C17 : Hid _ := GG.out.1.sub_no GG.out.2.1 (by omega) (by omega) (Nat.lt_of_not_le hle)
      have EA : Hid _ := GG.out.1.cmp GG.out.2.1 (by omega) (by omega) (z := -1) (by unfold cmpI; rw [if_pos (by omega)])
      have EB : Hid _ := GG.out.2.1.cmp GG.out.1 (by omega) (by omega) (z := 1) (by unfold cmpI; rw [if_neg (by omega), if_neg (by omega)])
      clear hle
      refine (C17.out _ _ _ (SB.out.fr (.agg #[.slice a11 n11 c11, .slice d11 m11 g11]) PA QA) (SB.out.fr (.agg #[.slice a13 n13 c13, .slice d13 m13 g13]) PB QB) (FF.out.go SB.out.bel)).mono ?_
      rintro e v26w ⟨v26, rfl, hv, hb⟩
      obtain ⟨a26, n26, c26, d26, m26, g26, ev, _, _⟩ := hv.raw
      subst ev
      have SC : Hid _ := ((SB.out.go hb).addF hv).box (.slice a26 n26 c26) (.slice d26 m26 g26) 29 _ rfl
      clear hv hb SB y11 z11 y13 z13
      go_wp2_with fail
      obtain ⟨w26, hw⟩ : ∃ w26, w26 = v26w.alloc (.cells #[.slice a26 n26 c26, .slice d26 m26 g26] 29) := ⟨_, rfl⟩
      obtain ⟨b26, hb⟩ : ∃ b26, b26 = v26w.heap.size := ⟨_, rfl⟩
      rw [← hw, ← hb] at SC
      rw [← hw, ← hb]
      clear hw hb
      refine wp_region_inv (JM w26 [(sEq (.bool false)).m, (sRt (PA) (QA)).m, (sRt (PB) (QB)).m, (sEq (.int .i64 (-1))).m, (sEq (.bool false)).m, (sEq (.bool true)).m, (sEq (.bool true)).m, (sRt (PA) (QA)).m, (sRt (PB) (QB)).m, (sEq (.int .i64 (-1))).m, (sRt (PB) (QB)).m, (sRt (PA) (QA)).m, (sEq (.int .i64 1)).m, (sEq (.int .i64 (-1))).m, (sEq (.bool true)).m, (sEq (.bool true)).m, (sEq (.bool true)).m, (sEq (.bool false)).m, (sEq (.bool true)).m, (sEq (.bool true)).m, (sAny).m, (sAny).m, (sAny).m, (sAny).m, (sAny).m, (sAny).m, (sEq (.bool true)).m, (sEq (.bool true)).m, (sEq (.bool true)).m, (sRt (PA) (QA)).m, (sRt (PB) (QB)).m, (sRt (PC) (QC)).m, mThree (tri PA PB PC) (tri QA QB QC), (sRt (PS) (QS)).m, (sRt (PC) (QC)).m, (sRt (PB) (QB)).m, (sRt (PA) (QA)).m, (sRt (P3) (Q3)).m, (sRt (P15) (Q15)).m, (sEq (.int .i64 0)).m, (sEq (.bool true)).m, (sEq (.bool true)).m, (sEq (.bool true)).m]) 188 (by kernel_rfl) rfl (by kernel_rfl) (JM.start _ _) (fun HG HN => ⟨?_, ?_, ?_, ?_, ?_, ?_, ?_, ?_, ?_, ?_, ?_, ?_, ?_, ?_, ?_, ?_, ?_, ?_, ?_, ?_, ?_, ?_, ?_, ?_, ?_, ?_, ?_, ?_, ?_, ?_, ?_, ?_, ?_, ?_, ?_, ?_, ?_, ?_, ?_, ?_, ?_, ?_, ?_, trivial⟩) ?_
      · intro L vs a w' hJ hF hP hL
        have q19 : (a.tmps[19]?).getD undef = .bool false := hF.old 19 rfl
        exact run_val (v := .bool false) rfl (by simp [execOp, go_sem, q19]) ⟨_, rfl, hJ.step hL rfl (Below.refl _ _) (by exact rfl)⟩
      · intro L vs a w' hJ hF hP hL
        have q7 : (a.tmps[7]?).getD undef = .pointer (some ⟨b11, 0, none⟩) := hF.old 7 rfl
        have cb := cell_later hJ.bel (SC.out.cel (b11) 0 (.slice a11 n11 c11))
        have cc := cell_later hJ.bel (SC.out.cel (b11) 1 (.slice d11 m11 g11))
        exact run_val (v := .agg #[.slice a11 n11 c11, .slice d11 m11 g11]) rfl (by simp [execOp, go_sem, q7, cb, cc]) ⟨_, rfl, hJ.step hL rfl (Below.refl _ _) (by exact ((SC.out.fr (.agg #[.slice a11 n11 c11, .slice d11 m11 g11]) (PA) (QA)).mono hJ.bel))⟩
      · intro L vs a w' hJ hF hP hL
        have q9 : (a.tmps[9]?).getD undef = .pointer (some ⟨b13, 0, none⟩) := hF.old 9 rfl
        have cb := cell_later hJ.bel (SC.out.cel (b13) 0 (.slice a13 n13 c13))
        have cc := cell_later hJ.bel (SC.out.cel (b13) 1 (.slice d13 m13 g13))
        exact run_val (v := .agg #[.slice a13 n13 c13, .slice d13 m13 g13]) rfl (by simp [execOp, go_sem, q9, cb, cc]) ⟨_, rfl, hJ.step hL rfl (Below.refl _ _) (by exact ((SC.out.fr (.agg #[.slice a13 n13 c13, .slice d13 m13 g13]) (PB) (QB)).mono hJ.bel))⟩
      · intro L vs a w' hJ hF hP hL
        have p1 : L 1 = true := hP ⟨1, .data⟩ (by simp) rfl
        have s1 : Rt w' (vs 1) (PA) (QA) := hJ.sp 1 p1
        have q147 := hF.slot 1 147 rfl p1
        have p2 : L 2 = true := hP ⟨2, .data⟩ (by simp) rfl
        have s2 : Rt w' (vs 2) (PB) (QB) := hJ.sp 2 p2
        have q148 := hF.slot 2 148 rfl p2
        refine run_call (f := 27) (args := #[vs 1, vs 2]) rfl (by simp [go_sem, q147, q148]) (EA.out _ _ _ s1 s2) ?_
        rintro e w2 ⟨rfl, hb⟩
        exact ⟨_, rfl, _, rfl, hJ.step hL rfl hb (by exact rfl)⟩
      · intro L vs a w' hJ hF hP hL
        have p3 : L 3 = true := hP ⟨3, .data⟩ (by simp) rfl
        have s3 : vs 3 = .int .i64 (-1) := hJ.sp 3 p3
        have q149 := hF.slot 3 149 rfl p3
        exact run_val (v := .bool false) rfl (by simp [execOp, go_sem, q149, s3]) ⟨_, rfl, hJ.step hL rfl (Below.refl _ _) (by exact rfl)⟩
      · intro L vs a w' hJ hF hP hL
        have p0 : L 0 = true := hP ⟨0, .data⟩ (by simp) rfl
        have s0 : vs 0 = .bool false := hJ.sp 0 p0
        have q146 := hF.slot 0 146 rfl p0
        have p4 : L 4 = true := hP ⟨4, .data⟩ (by simp) rfl
        have s4 : vs 4 = .bool false := hJ.sp 4 p4
        have q150 := hF.slot 4 150 rfl p4
        exact run_val (v := .bool true) rfl (by simp [execOp, go_sem, q146, s0, q150, s4]) ⟨_, rfl, hJ.step hL rfl (Below.refl _ _) (by exact rfl)⟩
      · intro L vs a w' hJ hF hP hL
        have p5 : L 5 = true := hP ⟨5, .data⟩ (by simp) rfl
        have s5 : vs 5 = .bool true := hJ.sp 5 p5
        have q151 := hF.slot 5 151 rfl p5
        exact run_val (v := .bool true) rfl (by simp [execOp, go_sem, q151, s5]) ⟨_, rfl, hJ.step hL rfl (Below.refl _ _) (by exact rfl)⟩
      · intro L vs a w' hJ hF hP hL
        have q7 : (a.tmps[7]?).getD undef = .pointer (some ⟨b11, 0, none⟩) := hF.old 7 rfl
        have cb := cell_later hJ.bel (SC.out.cel (b11) 0 (.slice a11 n11 c11))
        have cc := cell_later hJ.bel (SC.out.cel (b11) 1 (.slice d11 m11 g11))
        exact run_val (v := .agg #[.slice a11 n11 c11, .slice d11 m11 g11]) (hF.wants 188 HN HG _ 6 true true rfl rfl (hP ⟨6, .guard⟩ (by simp) rfl) (hJ.sp 6 (hP ⟨6, .guard⟩ (by simp) rfl))) (by simp [execOp, go_sem, q7, cb, cc]) ⟨_, rfl, hJ.step hL rfl (Below.refl _ _) (by exact ((SC.out.fr (.agg #[.slice a11 n11 c11, .slice d11 m11 g11]) (PA) (QA)).mono hJ.bel))⟩
      · intro L vs a w' hJ hF hP hL
        have q9 : (a.tmps[9]?).getD undef = .pointer (some ⟨b13, 0, none⟩) := hF.old 9 rfl
        have cb := cell_later hJ.bel (SC.out.cel (b13) 0 (.slice a13 n13 c13))
        have cc := cell_later hJ.bel (SC.out.cel (b13) 1 (.slice d13 m13 g13))
        exact run_val (v := .agg #[.slice a13 n13 c13, .slice d13 m13 g13]) (hF.wants 188 HN HG _ 6 true true rfl rfl (hP ⟨6, .guard⟩ (by simp) rfl) (hJ.sp 6 (hP ⟨6, .guard⟩ (by simp) rfl))) (by simp [execOp, go_sem, q9, cb, cc]) ⟨_, rfl, hJ.step hL rfl (Below.refl _ _) (by exact ((SC.out.fr (.agg #[.slice a13 n13 c13, .slice d13 m13 g13]) (PB) (QB)).mono hJ.bel))⟩
      · intro L vs a w' hJ hF hP hL
        have p7 : L 7 = true := hP ⟨7, .data⟩ (by simp) rfl
        have s7 : Rt w' (vs 7) (PA) (QA) := hJ.sp 7 p7
        have q153 := hF.slot 7 153 rfl p7
        have p8 : L 8 = true := hP ⟨8, .data⟩ (by simp) rfl
        have s8 : Rt w' (vs 8) (PB) (QB) := hJ.sp 8 p8
        have q154 := hF.slot 8 154 rfl p8
        refine run_call (f := 27) (args := #[vs 7, vs 8]) (hF.wants 188 HN HG _ 6 true true rfl rfl (hP ⟨6, .guard⟩ (by simp) rfl) (hJ.sp 6 (hP ⟨6, .guard⟩ (by simp) rfl))) (by simp [go_sem, q153, q154]) (EA.out _ _ _ s7 s8) ?_
        rintro e w2 ⟨rfl, hb⟩
        exact ⟨_, rfl, _, rfl, hJ.step hL rfl hb (by exact rfl)⟩
      · intro L vs a w' hJ hF hP hL
        have q9 : (a.tmps[9]?).getD undef = .pointer (some ⟨b13, 0, none⟩) := hF.old 9 rfl
        have cb := cell_later hJ.bel (SC.out.cel (b13) 0 (.slice a13 n13 c13))
        have cc := cell_later hJ.bel (SC.out.cel (b13) 1 (.slice d13 m13 g13))
        exact run_val (v := .agg #[.slice a13 n13 c13, .slice d13 m13 g13]) (hF.wants 188 HN HG _ 6 true true rfl rfl (hP ⟨6, .guard⟩ (by simp) rfl) (hJ.sp 6 (hP ⟨6, .guard⟩ (by simp) rfl))) (by simp [execOp, go_sem, q9, cb, cc]) ⟨_, rfl, hJ.step hL rfl (Below.refl _ _) (by exact ((SC.out.fr (.agg #[.slice a13 n13 c13, .slice d13 m13 g13]) (PB) (QB)).mono hJ.bel))⟩
      · intro L vs a w' hJ hF hP hL
        have q7 : (a.tmps[7]?).getD undef = .pointer (some ⟨b11, 0, none⟩) := hF.old 7 rfl
        have cb := cell_later hJ.bel (SC.out.cel (b11) 0 (.slice a11 n11 c11))
        have cc := cell_later hJ.bel (SC.out.cel (b11) 1 (.slice d11 m11 g11))
        exact run_val (v := .agg #[.slice a11 n11 c11, .slice d11 m11 g11]) (hF.wants 188 HN HG _ 6 true true rfl rfl (hP ⟨6, .guard⟩ (by simp) rfl) (hJ.sp 6 (hP ⟨6, .guard⟩ (by simp) rfl))) (by simp [execOp, go_sem, q7, cb, cc]) ⟨_, rfl, hJ.step hL rfl (Below.refl _ _) (by exact ((SC.out.fr (.agg #[.slice a11 n11 c11, .slice d11 m11 g11]) (PA) (QA)).mono hJ.bel))⟩
      · intro L vs a w' hJ hF hP hL
        have p10 : L 10 = true := hP ⟨10, .data⟩ (by simp) rfl
        have s10 : Rt w' (vs 10) (PB) (QB) := hJ.sp 10 p10
        have q156 := hF.slot 10 156 rfl p10
        have p11 : L 11 = true := hP ⟨11, .data⟩ (by simp) rfl
        have s11 : Rt w' (vs 11) (PA) (QA) := hJ.sp 11 p11
        have q157 := hF.slot 11 157 rfl p11
        refine run_call (f := 27) (args := #[vs 10, vs 11]) (hF.wants 188 HN HG _ 6 true true rfl rfl (hP ⟨6, .guard⟩ (by simp) rfl) (hJ.sp 6 (hP ⟨6, .guard⟩ (by simp) rfl))) (by simp [go_sem, q156, q157]) (EB.out _ _ _ s10 s11) ?_
        rintro e w2 ⟨rfl, hb⟩
        exact ⟨_, rfl, _, rfl, hJ.step hL rfl hb (by exact rfl)⟩
      · intro L vs a w' hJ hF hP hL
        have p12 : L 12 = true := hP ⟨12, .data⟩ (by simp) rfl
        have s12 : vs 12 = .int .i64 1 := hJ.sp 12 p12
        have q158 := hF.slot 12 158 rfl p12
        exact run_val (v := .int .i64 (-1)) (hF.wants 188 HN HG _ 6 true true rfl rfl (hP ⟨6, .guard⟩ (by simp) rfl) (hJ.sp 6 (hP ⟨6, .guard⟩ (by simp) rfl))) (by simp [execOp, go_sem, q158, s12, wrap_neg1]) ⟨_, rfl, hJ.step hL rfl (Below.refl _ _) (by exact rfl)⟩
      · intro L vs a w' hJ hF hP hL
        have p9 : L 9 = true := hP ⟨9, .data⟩ (by simp) rfl
        have s9 : vs 9 = .int .i64 (-1) := hJ.sp 9 p9
        have q155 := hF.slot 9 155 rfl p9
        have p13 : L 13 = true := hP ⟨13, .data⟩ (by simp) rfl
        have s13 : vs 13 = .int .i64 (-1) := hJ.sp 13 p13
        have q159 := hF.slot 13 159 rfl p13
        exact run_val (v := .bool true) (hF.wants 188 HN HG _ 6 true true rfl rfl (hP ⟨6, .guard⟩ (by simp) rfl) (hJ.sp 6 (hP ⟨6, .guard⟩ (by simp) rfl))) (by simp [execOp, go_sem, q155, s9, q159, s13]) ⟨_, rfl, hJ.step hL rfl (Below.refl _ _) (by exact rfl)⟩
      · intro L vs a w' hJ hF hP hL
        have p6 : L 6 = true := hP ⟨6, .data⟩ (by simp) rfl
        have s6 : vs 6 = .bool true := hJ.sp 6 p6
        have q152 := hF.slot 6 152 rfl p6
        have p14 : L 14 = true := hP ⟨14, .data⟩ (by simp) rfl
        have s14 : vs 14 = .bool true := hJ.sp 14 p14
        have q160 := hF.slot 14 160 rfl p14
        exact run_val (v := .bool true) rfl (by simp [execOp, go_sem, q152, s6, q160, s14]) ⟨_, rfl, hJ.step hL rfl (Below.refl _ _) (by exact rfl)⟩
      · intro L vs a w' hJ hF hP hL
        have p15 : L 15 = true := hP ⟨15, .data⟩ (by simp) rfl
        have s15 : vs 15 = .bool true := hJ.sp 15 p15
        have q161 := hF.slot 15 161 rfl p15
        exact run_val (v := .bool true) rfl (by simp [execOp, go_sem, q161, s15]) ⟨_, rfl, hJ.step hL rfl (Below.refl _ _) (by exact rfl)⟩
      · intro L vs a w' hJ hF hP hL
        have q19 : (a.tmps[19]?).getD undef = .bool false := hF.old 19 rfl
        exact run_val (v := .bool false) (hF.wants 188 HN HG _ 16 true true rfl rfl (hP ⟨16, .guard⟩ (by simp) rfl) (hJ.sp 16 (hP ⟨16, .guard⟩ (by simp) rfl))) (by simp [execOp, go_sem, q19]) ⟨_, rfl, hJ.step hL rfl (Below.refl _ _) (by exact rfl)⟩
      · intro L vs a w' hJ hF hP hL
        have p17 : L 17 = true := hP ⟨17, .data⟩ (by simp) rfl
        have s17 : vs 17 = .bool false := hJ.sp 17 p17
        have q163 := hF.slot 17 163 rfl p17
        exact run_val (v := .bool true) (hF.wants 188 HN HG _ 16 true true rfl rfl (hP ⟨16, .guard⟩ (by simp) rfl) (hJ.sp 16 (hP ⟨16, .guard⟩ (by simp) rfl))) (by simp [execOp, go_sem, q163, s17]) ⟨_, rfl, hJ.step hL rfl (Below.refl _ _) (by exact rfl)⟩
      · intro L vs a w' hJ hF hP hL
        have p18 : L 18 = true := hP ⟨18, .data⟩ (by simp) rfl
        have s18 : vs 18 = .bool true := hJ.sp 18 p18
        have q164 := hF.slot 18 164 rfl p18
        exact run_val (v := .bool true) (hF.wants 188 HN HG _ 16 true true rfl rfl (hP ⟨16, .guard⟩ (by simp) rfl) (hJ.sp 16 (hP ⟨16, .guard⟩ (by simp) rfl))) (by simp [execOp, go_sem, q164, s18]) ⟨_, rfl, hJ.step hL rfl (Below.refl _ _) (by exact rfl)⟩
      · intro L vs a w' hJ hF hP hL
        exact run_skip (hF.wants 188 HN HG _ 19 false true rfl rfl (hP ⟨19, .guard⟩ (by simp) rfl) (hJ.sp 19 (hP ⟨19, .guard⟩ (by simp) rfl))) (hJ.step hL rfl (Below.refl _ _) trivial)
      · intro L vs a w' hJ hF hP hL
        exact run_skip (hF.wants 188 HN HG _ 19 false true rfl rfl (hP ⟨19, .guard⟩ (by simp) rfl) (hJ.sp 19 (hP ⟨19, .guard⟩ (by simp) rfl))) (hJ.step hL rfl (Below.refl _ _) trivial)
      · intro L vs a w' hJ hF hP hL
        exact run_skip (hF.wants 188 HN HG _ 19 false true rfl rfl (hP ⟨19, .guard⟩ (by simp) rfl) (hJ.sp 19 (hP ⟨19, .guard⟩ (by simp) rfl))) (hJ.step hL rfl (Below.refl _ _) trivial)
      · intro L vs a w' hJ hF hP hL
        exact run_skip (hF.wants 188 HN HG _ 19 false true rfl rfl (hP ⟨19, .guard⟩ (by simp) rfl) (hJ.sp 19 (hP ⟨19, .guard⟩ (by simp) rfl))) (hJ.step hL rfl (Below.refl _ _) trivial)
      · intro L vs a w' hJ hF hP hL
        exact run_skip (hF.wants 188 HN HG _ 19 false true rfl rfl (hP ⟨19, .guard⟩ (by simp) rfl) (hJ.sp 19 (hP ⟨19, .guard⟩ (by simp) rfl))) (hJ.step hL rfl (Below.refl _ _) trivial)
      · intro L vs a w' hJ hF hP hL
        exact run_skip (hF.wants 188 HN HG _ 19 false true rfl rfl (hP ⟨19, .guard⟩ (by simp) rfl) (hJ.sp 19 (hP ⟨19, .guard⟩ (by simp) rfl))) (hJ.step hL rfl (Below.refl _ _) trivial)
      · intro L vs a w' hJ hF hP hL
        have p19 : L 19 = true := hP ⟨19, .data⟩ (by simp) rfl
        have s19 : vs 19 = .bool true := hJ.sp 19 p19
        have q165 := hF.slot 19 165 rfl p19
        exact run_val (v := .bool true) (hF.wants 188 HN HG _ 16 true true rfl rfl (hP ⟨16, .guard⟩ (by simp) rfl) (hJ.sp 16 (hP ⟨16, .guard⟩ (by simp) rfl))) (by simp [execOp, go_sem, q165, s19]) ⟨_, rfl, hJ.step hL rfl (Below.refl _ _) (by exact rfl)⟩
      · intro L vs a w' hJ hF hP hL
        have p16 : L 16 = true := hP ⟨16, .data⟩ (by simp) rfl
        have s16 : vs 16 = .bool true := hJ.sp 16 p16
        have q162 := hF.slot 16 162 rfl p16
        have p26 : L 26 = true := hP ⟨26, .data⟩ (by simp) rfl
        have s26 : vs 26 = .bool true := hJ.sp 26 p26
        have q172 := hF.slot 26 172 rfl p26
        exact run_val (v := .bool true) rfl (by simp [execOp, go_sem, q162, s16, q172, s26]) ⟨_, rfl, hJ.step hL rfl (Below.refl _ _) (by exact rfl)⟩
      · intro L vs a w' hJ hF hP hL
        have p27 : L 27 = true := hP ⟨27, .data⟩ (by simp) rfl
        have s27 : vs 27 = .bool true := hJ.sp 27 p27
        have q173 := hF.slot 27 173 rfl p27
        exact run_val (v := .bool true) rfl (by simp [execOp, go_sem, q173, s27]) ⟨_, rfl, hJ.step hL rfl (Below.refl _ _) (by exact rfl)⟩
      · intro L vs a w' hJ hF hP hL
        have q7 : (a.tmps[7]?).getD undef = .pointer (some ⟨b11, 0, none⟩) := hF.old 7 rfl
        have cb := cell_later hJ.bel (SC.out.cel (b11) 0 (.slice a11 n11 c11))
        have cc := cell_later hJ.bel (SC.out.cel (b11) 1 (.slice d11 m11 g11))
        exact run_val (v := .agg #[.slice a11 n11 c11, .slice d11 m11 g11]) (hF.wants 188 HN HG _ 28 true true rfl rfl (hP ⟨28, .guard⟩ (by simp) rfl) (hJ.sp 28 (hP ⟨28, .guard⟩ (by simp) rfl))) (by simp [execOp, go_sem, q7, cb, cc]) ⟨_, rfl, hJ.step hL rfl (Below.refl _ _) (by exact ((SC.out.fr (.agg #[.slice a11 n11 c11, .slice d11 m11 g11]) (PA) (QA)).mono hJ.bel))⟩
      · intro L vs a w' hJ hF hP hL
        have q9 : (a.tmps[9]?).getD undef = .pointer (some ⟨b13, 0, none⟩) := hF.old 9 rfl
        have cb := cell_later hJ.bel (SC.out.cel (b13) 0 (.slice a13 n13 c13))
        have cc := cell_later hJ.bel (SC.out.cel (b13) 1 (.slice d13 m13 g13))
        exact run_val (v := .agg #[.slice a13 n13 c13, .slice d13 m13 g13]) (hF.wants 188 HN HG _ 28 true true rfl rfl (hP ⟨28, .guard⟩ (by simp) rfl) (hJ.sp 28 (hP ⟨28, .guard⟩ (by simp) rfl))) (by simp [execOp, go_sem, q9, cb, cc]) ⟨_, rfl, hJ.step hL rfl (Below.refl _ _) (by exact ((SC.out.fr (.agg #[.slice a13 n13 c13, .slice d13 m13 g13]) (PB) (QB)).mono hJ.bel))⟩
      · intro L vs a w' hJ hF hP hL
        have q11 : (a.tmps[11]?).getD undef = .pointer (some ⟨b15, 0, none⟩) := hF.old 11 rfl
        have cb := cell_later hJ.bel (SC.out.cel (b15) 0 (.slice a15 n15 c15))
        have cc := cell_later hJ.bel (SC.out.cel (b15) 1 (.slice d15 m15 g15))
        exact run_val (v := .agg #[.slice a15 n15 c15, .slice d15 m15 g15]) (hF.wants 188 HN HG _ 28 true true rfl rfl (hP ⟨28, .guard⟩ (by simp) rfl) (hJ.sp 28 (hP ⟨28, .guard⟩ (by simp) rfl))) (by simp [execOp, go_sem, q11, cb, cc]) ⟨_, rfl, hJ.step hL rfl (Below.refl _ _) (by exact ((SC.out.fr (.agg #[.slice a15 n15 c15, .slice d15 m15 g15]) (PC) (QC)).mono hJ.bel))⟩
      · intro L vs a w' hJ hF hP hL
        have p29 : L 29 = true := hP ⟨29, .data⟩ (by simp) rfl
        have s29 : Rt w' (vs 29) (PA) (QA) := hJ.sp 29 p29
        have q175 := hF.slot 29 175 rfl p29
        have p30 : L 30 = true := hP ⟨30, .data⟩ (by simp) rfl
        have s30 : Rt w' (vs 30) (PB) (QB) := hJ.sp 30 p30
        have q176 := hF.slot 30 176 rfl p30
        have p31 : L 31 = true := hP ⟨31, .data⟩ (by simp) rfl
        have s31 : Rt w' (vs 31) (PC) (QC) := hJ.sp 31 p31
        have q177 := hF.slot 31 177 rfl p31
        obtain ⟨x1, y1, z1, u1, v1, r1, ea1, _, _⟩ := s29.raw
        obtain ⟨x2, y2, z2, u2, v2, r2, ea2, _, _⟩ := s30.raw
        obtain ⟨x3, y3, z3, u3, v3, r3, ea3, _, _⟩ := s31.raw
        exact run_val (v := .slice (some ⟨w'.heap.size, 0, none⟩) 3 3) (w' := w'.alloc (.cells #[.slice x1 y1 z1, .slice u1 v1 r1, .slice x2 y2 z2, .slice u2 v2 r2, .slice x3 y3 z3, .slice u3 v3 r3] 29)) (hF.wants 188 HN HG _ 28 true true rfl rfl (hP ⟨28, .guard⟩ (by simp) rfl) (hJ.sp 28 (hP ⟨28, .guard⟩ (by simp) rfl))) (by simp [execOp, go_sem, q175, q176, q177, ea1, ea2, ea3]) ⟨_, rfl, hJ.step hL rfl (bel_al (bel_refl _)) (by exact (three_new (ea1 ▸ s29) (ea2 ▸ s30) (ea3 ▸ s31) _))⟩
      · intro L vs a w' hJ hF hP hL
        have p32 : L 32 = true := hP ⟨32, .data⟩ (by simp) rfl
        have s32 : Three w' (vs 32) (tri PA PB PC) (tri QA QB QC) := hJ.sp 32 p32
        have q178 := hF.slot 32 178 rfl p32
        refine run_call (f := 30) (args := #[vs 32]) (hF.wants 188 HN HG _ 28 true true rfl rfl (hP ⟨28, .guard⟩ (by simp) rfl) (hJ.sp 28 (hP ⟨28, .guard⟩ (by simp) rfl))) (by simp [go_sem, q178]) (CS.out _ _ s32 (FF.out.go (bel_go SC.out.bel hJ.bel))) ?_
        rintro e w2 ⟨v, rfl, hv, hb⟩
        exact ⟨_, rfl, _, rfl, hJ.step hL rfl hb (by exact hv)⟩
      · intro L vs a w' hJ hF hP hL
        have q11 : (a.tmps[11]?).getD undef = .pointer (some ⟨b15, 0, none⟩) := hF.old 11 rfl
        have cb := cell_later hJ.bel (SC.out.cel (b15) 0 (.slice a15 n15 c15))
        have cc := cell_later hJ.bel (SC.out.cel (b15) 1 (.slice d15 m15 g15))
        exact run_val (v := .agg #[.slice a15 n15 c15, .slice d15 m15 g15]) (hF.wants 188 HN HG _ 28 true true rfl rfl (hP ⟨28, .guard⟩ (by simp) rfl) (hJ.sp 28 (hP ⟨28, .guard⟩ (by simp) rfl))) (by simp [execOp, go_sem, q11, cb, cc]) ⟨_, rfl, hJ.step hL rfl (Below.refl _ _) (by exact ((SC.out.fr (.agg #[.slice a15 n15 c15, .slice d15 m15 g15]) (PC) (QC)).mono hJ.bel))⟩
      · intro L vs a w' hJ hF hP hL
        have q9 : (a.tmps[9]?).getD undef = .pointer (some ⟨b13, 0, none⟩) := hF.old 9 rfl
        have cb := cell_later hJ.bel (SC.out.cel (b13) 0 (.slice a13 n13 c13))
        have cc := cell_later hJ.bel (SC.out.cel (b13) 1 (.slice d13 m13 g13))
        exact run_val (v := .agg #[.slice a13 n13 c13, .slice d13 m13 g13]) (hF.wants 188 HN HG _ 28 true true rfl rfl (hP ⟨28, .guard⟩ (by simp) rfl) (hJ.sp 28 (hP ⟨28, .guard⟩ (by simp) rfl))) (by simp [execOp, go_sem, q9, cb, cc]) ⟨_, rfl, hJ.step hL rfl (Below.refl _ _) (by exact ((SC.out.fr (.agg #[.slice a13 n13 c13, .slice d13 m13 g13]) (PB) (QB)).mono hJ.bel))⟩
      · intro L vs a w' hJ hF hP hL
        have q7 : (a.tmps[7]?).getD undef = .pointer (some ⟨b11, 0, none⟩) := hF.old 7 rfl
        have cb := cell_later hJ.bel (SC.out.cel (b11) 0 (.slice a11 n11 c11))
        have cc := cell_later hJ.bel (SC.out.cel (b11) 1 (.slice d11 m11 g11))
        exact run_val (v := .agg #[.slice a11 n11 c11, .slice d11 m11 g11]) (hF.wants 188 HN HG _ 28 true true rfl rfl (hP ⟨28, .guard⟩ (by simp) rfl) (hJ.sp 28 (hP ⟨28, .guard⟩ (by simp) rfl))) (by simp [execOp, go_sem, q7, cb, cc]) ⟨_, rfl, hJ.step hL rfl (Below.refl _ _) (by exact ((SC.out.fr (.agg #[.slice a11 n11 c11, .slice d11 m11 g11]) (PA) (QA)).mono hJ.bel))⟩
      · intro L vs a w' hJ hF hP hL
        have p35 : L 35 = true := hP ⟨35, .data⟩ (by simp) rfl
        have s35 : Rt w' (vs 35) (PB) (QB) := hJ.sp 35 p35
        have q181 := hF.slot 35 181 rfl p35
        have p36 : L 36 = true := hP ⟨36, .data⟩ (by simp) rfl
        have s36 : Rt w' (vs 36) (PA) (QA) := hJ.sp 36 p36
        have q182 := hF.slot 36 182 rfl p36
        refine run_call (f := 25) (args := #[vs 35, vs 36]) (hF.wants 188 HN HG _ 28 true true rfl rfl (hP ⟨28, .guard⟩ (by simp) rfl) (hJ.sp 28 (hP ⟨28, .guard⟩ (by simp) rfl))) (by simp [go_sem, q181, q182]) (C3.out _ _ _ s35 s36 (FF.out.go (bel_go SC.out.bel hJ.bel))) ?_
        rintro e w2 ⟨v, rfl, hv, hb⟩
        exact ⟨_, rfl, _, rfl, hJ.step hL rfl hb (by exact hv)⟩
      · intro L vs a w' hJ hF hP hL
        have p34 : L 34 = true := hP ⟨34, .data⟩ (by simp) rfl
        have s34 : Rt w' (vs 34) (PC) (QC) := hJ.sp 34 p34
        have q180 := hF.slot 34 180 rfl p34
        have p37 : L 37 = true := hP ⟨37, .data⟩ (by simp) rfl
        have s37 : Rt w' (vs 37) (P3) (Q3) := hJ.sp 37 p37
        have q183 := hF.slot 37 183 rfl p37
        refine run_call (f := 25) (args := #[vs 34, vs 37]) (hF.wants 188 HN HG _ 28 true true rfl rfl (hP ⟨28, .guard⟩ (by simp) rfl) (hJ.sp 28 (hP ⟨28, .guard⟩ (by simp) rfl))) (by simp [go_sem, q180, q183]) (C15.out _ _ _ s34 s37 (FF.out.go (bel_go SC.out.bel hJ.bel))) ?_
        rintro e w2 ⟨v, rfl, hv, hb⟩
        exact ⟨_, rfl, _, rfl, hJ.step hL rfl hb (by exact hv)⟩
      · intro L vs a w' hJ hF hP hL
        have p33 : L 33 = true := hP ⟨33, .data⟩ (by simp) rfl
        have s33 : Rt w' (vs 33) (PS) (QS) := hJ.sp 33 p33
        have q179 := hF.slot 33 179 rfl p33
        have p38 : L 38 = true := hP ⟨38, .data⟩ (by simp) rfl
        have s38 : Rt w' (vs 38) (P15) (Q15) := hJ.sp 38 p38
        have q184 := hF.slot 38 184 rfl p38
        refine run_call (f := 27) (args := #[vs 33, vs 38]) (hF.wants 188 HN HG _ 28 true true rfl rfl (hP ⟨28, .guard⟩ (by simp) rfl) (hJ.sp 28 (hP ⟨28, .guard⟩ (by simp) rfl))) (by simp [go_sem, q179, q184]) (E7.out _ _ _ s33 s38) ?_
        rintro e w2 ⟨rfl, hb⟩
        exact ⟨_, rfl, _, rfl, hJ.step hL rfl hb (by exact rfl)⟩
      · intro L vs a w' hJ hF hP hL
        have p39 : L 39 = true := hP ⟨39, .data⟩ (by simp) rfl
        have s39 : vs 39 = .int .i64 0 := hJ.sp 39 p39
        have q185 := hF.slot 39 185 rfl p39
        exact run_val (v := .bool true) (hF.wants 188 HN HG _ 28 true true rfl rfl (hP ⟨28, .guard⟩ (by simp) rfl) (hJ.sp 28 (hP ⟨28, .guard⟩ (by simp) rfl))) (by simp [execOp, go_sem, q185, s39]) ⟨_, rfl, hJ.step hL rfl (Below.refl _ _) (by exact rfl)⟩
      · intro L vs a w' hJ hF hP hL
        have p28 : L 28 = true := hP ⟨28, .data⟩ (by simp) rfl
        have s28 : vs 28 = .bool true := hJ.sp 28 p28
        have q174 := hF.slot 28 174 rfl p28
        have p40 : L 40 = true := hP ⟨40, .data⟩ (by simp) rfl
        have s40 : vs 40 = .bool true := hJ.sp 40 p40
        have q186 := hF.slot 40 186 rfl p40
        exact run_val (v := .bool true) rfl (by simp [execOp, go_sem, q174, s28, q186, s40]) ⟨_, rfl, hJ.step hL rfl (Below.refl _ _) (by exact rfl)⟩
      · intro L vs a w' hJ hF hP hL
        have p41 : L 41 = true := hP ⟨41, .data⟩ (by simp) rfl
        have s41 : vs 41 = .bool true := hJ.sp 41 p41
        have q187 := hF.slot 41 187 rfl p41
        exact run_val (v := .bool true) rfl (by simp [execOp, go_sem, q187, s41]) ⟨_, rfl, hJ.step hL rfl (Below.refl _ _) (by exact rfl)⟩
      intro L vs w' hA hJ
      have s42 : vs 42 = .bool true := hJ.sp 42 (hA 42 (by simp))
      simp only [putL, Act.put, List.setIfInBounds_toArray, List.set_cons_zero, List.set_cons_succ, Nat.reduceAdd]
      simp only [s42]
      have B : Hid _ := (SC.out.go hJ.bel).bel
      clear s42 hJ hA SC
      go_wp2_with fail
      go_ret
      exact ⟨rfl, B.out⟩
  · have C16 : Hid (∀ v u w, Rt w v P4 Q4 → Rt w u PB QB → Tab w → Calls Tryd.prog 29 #[v, u] w (MakesRB w 0 1 false)) := fun v u w e1 e2 hT => ratDiv_no v u P4 Q4 PB QB w e1 e2 (GG.out.2.2.1.rs1 (by omega)) (GG.out.2.2.1.rs2 (by omega)) (GG.out.2.1.rs1 (by omega)) (GG.out.2.1.rs2 (by omega)) (by omega) hT
    have EZ : Hid _ := GG.out.2.1.cmp GG.out.2.2.2 (by omega) (by omega) (z := 0) (cmpI_same (by
      have : PB = 0 := by omega
      rw [this]
      simp))
    clear hPB
    refine wp_region_inv (JC w24 [sRt (PA) (QA), sRt (PB) (QB), sRt (P4) (Q4), sRt (PB) (QB), sRtB (0) (1) false, sRtB (0) (1) false, sRt (0) (1), sEq (.bool false), sAny, sAny, sEq (.bool false)] (8, 9, 6)) 188 (by kernel_rfl) rfl (by kernel_rfl) (JC.start _ _ _) (fun HG HN => ⟨?_, ?_, ?_, ?_, ?_, ?_, ?_, ?_, ?_, ?_, ?_, trivial⟩) ?_
    · intro L vs a w' hJ hF hP hL
      have q7 : (a.tmps[7]?).getD undef = .pointer (some ⟨b11, 0, none⟩) := hF.old 7 rfl
      have cb := cell_later hJ.bel (S7.out.cel (b11) 0 (.slice a11 n11 c11))
      have cc := cell_later hJ.bel (S7.out.cel (b11) 1 (.slice d11 m11 g11))
      exact run_val (v := .agg #[.slice a11 n11 c11, .slice d11 m11 g11]) rfl (by simp [execOp, go_sem, q7, cb, cc]) ⟨_, rfl, hJ.step hL rfl (Below.refl _ _) (by exact ((S7.out.fr (.agg #[.slice a11 n11 c11, .slice d11 m11 g11]) (PA) (QA)).mono hJ.bel))⟩
    · intro L vs a w' hJ hF hP hL
      have q9 : (a.tmps[9]?).getD undef = .pointer (some ⟨b13, 0, none⟩) := hF.old 9 rfl
      have cb := cell_later hJ.bel (S7.out.cel (b13) 0 (.slice a13 n13 c13))
      have cc := cell_later hJ.bel (S7.out.cel (b13) 1 (.slice d13 m13 g13))
      exact run_val (v := .agg #[.slice a13 n13 c13, .slice d13 m13 g13]) rfl (by simp [execOp, go_sem, q9, cb, cc]) ⟨_, rfl, hJ.step hL rfl (Below.refl _ _) (by exact ((S7.out.fr (.agg #[.slice a13 n13 c13, .slice d13 m13 g13]) (PB) (QB)).mono hJ.bel))⟩
    · intro L vs a w' hJ hF hP hL
      have p0 : L 0 = true := hP ⟨0, .data⟩ (by simp) rfl
      have s0 : Rt w' (vs 0) (PA) (QA) := hJ.sp 0 p0
      have q118 := hF.slot 0 118 rfl p0
      have p1 : L 1 = true := hP ⟨1, .data⟩ (by simp) rfl
      have s1 : Rt w' (vs 1) (PB) (QB) := hJ.sp 1 p1
      have q119 := hF.slot 1 119 rfl p1
      refine run_call (f := 28) (args := #[vs 0, vs 1]) rfl (by simp [go_sem, q118, q119]) (C4.out _ _ _ s0 s1 (FF.out.go (bel_go S7.out.bel hJ.bel))) ?_
      rintro e w2 ⟨v, rfl, hv, hb⟩
      exact ⟨_, rfl, _, rfl, hJ.step hL rfl hb (by exact hv)⟩
    · intro L vs a w' hJ hF hP hL
      have q9 : (a.tmps[9]?).getD undef = .pointer (some ⟨b13, 0, none⟩) := hF.old 9 rfl
      have cb := cell_later hJ.bel (S7.out.cel (b13) 0 (.slice a13 n13 c13))
      have cc := cell_later hJ.bel (S7.out.cel (b13) 1 (.slice d13 m13 g13))
      exact run_val (v := .agg #[.slice a13 n13 c13, .slice d13 m13 g13]) rfl (by simp [execOp, go_sem, q9, cb, cc]) ⟨_, rfl, hJ.step hL rfl (Below.refl _ _) (by exact ((S7.out.fr (.agg #[.slice a13 n13 c13, .slice d13 m13 g13]) (PB) (QB)).mono hJ.bel))⟩
    · intro L vs a w' hJ hF hP hL
      have p2 : L 2 = true := hP ⟨2, .data⟩ (by simp) rfl
      have s2 : Rt w' (vs 2) (P4) (Q4) := hJ.sp 2 p2
      have q120 := hF.slot 2 120 rfl p2
      have p3 : L 3 = true := hP ⟨3, .data⟩ (by simp) rfl
      have s3 : Rt w' (vs 3) (PB) (QB) := hJ.sp 3 p3
      have q121 := hF.slot 3 121 rfl p3
      refine run_call (f := 29) (args := #[vs 2, vs 3]) rfl (by simp [go_sem, q120, q121]) (C16.out _ _ _ s2 s3 (FF.out.go (bel_go S7.out.bel hJ.bel))) ?_
      rintro e w2 ⟨v1, rfl, h1, hb⟩
      exact ⟨_, rfl, _, rfl, hJ.step hL rfl hb (by exact ⟨v1, rfl, h1⟩)⟩
    · intro L vs a w' hJ hF hP hL
      have p4 : L 4 = true := hP ⟨4, .data⟩ (by simp) rfl
      have s4 : ∃ p, vs 4 = .tuple #[p, .bool false] ∧ Rt w' p (0) (1) := hJ.sp 4 p4
      have q122 := hF.slot 4 122 rfl p4
      exact run_val (v := vs 4) rfl (by simp [execOp, go_sem, q122]) ⟨_, rfl, hJ.step hL rfl (Below.refl _ _) (by exact s4)⟩
    · intro L vs a w' hJ hF hP hL
      have p5 : L 5 = true := hP ⟨5, .data⟩ (by simp) rfl
      have s5 : ∃ p, vs 5 = .tuple #[p, .bool false] ∧ Rt w' p (0) (1) := hJ.sp 5 p5
      have q117 := hF.slot 5 117 rfl p5
      obtain ⟨vp, e1, e2⟩ := s5
      exact run_val (v := vp) rfl (by simp [execOp, go_sem, q117, e1]) ⟨_, rfl, hJ.step hL rfl (Below.refl _ _) (by exact e2)⟩
    · intro L vs a w' hJ hF hP hL
      have p5 : L 5 = true := hP ⟨5, .data⟩ (by simp) rfl
      have s5 : ∃ p, vs 5 = .tuple #[p, .bool false] ∧ Rt w' p (0) (1) := hJ.sp 5 p5
      have q117 := hF.slot 5 117 rfl p5
      obtain ⟨vp, e1, e2⟩ := s5
      exact run_val (v := .bool false) rfl (by simp [execOp, go_sem, q117, e1]) ⟨_, rfl, hJ.step hL rfl (Below.refl _ _) (by exact rfl)⟩
    · intro L vs a w' hJ hF hP hL
      exact run_val (v := .pointer (some ⟨w'.heap.size, 0, none⟩)) (w' := w'.alloc (.cells #[.slice none 0 0, .slice none 0 0] 29)) rfl (by simp [execOp, go_sem]) ⟨_, rfl, hJ.alloc hL rfl (by decide) rfl _⟩
    · intro L vs a w' hJ hF hP hL
      have p8 : L 8 = true := hP ⟨8, .data⟩ (by simp) rfl
      have q16 := hF.slot 8 16 rfl p8
      have p6 : L 6 = true := hP ⟨6, .data⟩ (by simp) rfl
      have s6 : Rt w' (vs 6) (0) (1) := hJ.sp 6 p6
      have q123 := hF.slot 6 123 rfl p6
      obtain ⟨bk, e1, e2, e3, e4, e4', e5, e6⟩ := hJ.bx p8
      obtain ⟨e7, e7'⟩ := e5 hL
      obtain ⟨aa, nn, cc, a2, n2, c2, e8, _, _⟩ := s6.raw
      exact run_unit (w' := (w'.setCell ⟨bk, 0, none⟩ (.slice aa nn cc)).setCell ⟨bk, 1, none⟩ (.slice a2 n2 c2)) rfl (by simp [execOp, go_sem, q16, q123, e1, e8, e7, e4, e7', e4']) ⟨undef, rfl, hJ.store hL p8 p6 (by decide) rfl e1 e8⟩
    · intro L vs a w' hJ hF hP hL
      have p7 : L 7 = true := hP ⟨7, .data⟩ (by simp) rfl
      have s7 : vs 7 = .bool false := hJ.sp 7 p7
      have q124 := hF.slot 7 124 rfl p7
      exact run_val (v := .bool false) rfl (by simp [execOp, go_sem, q124, s7]) ⟨_, rfl, hJ.step hL rfl (Below.refl _ _) (by exact rfl)⟩
    intro L vs w' hA hJ
    have s6 : Rt w' (vs 6) (0) (1) := hJ.sp 6 (hA 6 (by simp))
    have s10 : vs 10 = .bool false := hJ.sp 10 (hA 10 (by simp))
    obtain ⟨bk8, eb8, ge8, lt8, fz8, fz8', _, e6⟩ := hJ.bx (hA 8 (by simp))
    obtain ⟨_, u8, u8', eu8, ce8, ce8'⟩ := e6 (hA 9 (by simp))
    clear e6
    simp only [putL, Act.put, List.setIfInBounds_toArray, List.set_cons_zero, List.set_cons_succ, Nat.reduceAdd]
    obtain ⟨a25, n25, c25, d25, m25, g25, ev, _, _⟩ := s6.raw
    rw [ev] at s6 eu8
    obtain ⟨rfl, rfl⟩ : u8 = .slice a25 n25 c25 ∧ u8' = .slice d25 m25 g25 := by simpa [eq_comm] using eu8
    simp only [eb8, s10]
    have S8 : Hid _ := (((S7.out.go hJ.bel).addF s6).addC ce8').addC ce8
    obtain ⟨w25, ew⟩ : ∃ w25, w25 = w' := ⟨_, rfl⟩
    obtain ⟨b25, eb⟩ : ∃ b25, b25 = bk8 := ⟨_, rfl⟩
    rw [← ew, ← eb] at S8
    rw [← ew, ← eb]
    clear ew eb ev s6 s10 eu8 eb8 ce8 ce8' ge8 lt8 fz8 fz8' hJ hA S7
    have y13 := S8.out.cel b13 0 (.slice a13 n13 c13)
    have z13 := S8.out.cel b13 1 (.slice d13 m13 g13)
    have y24 := S8.out.cel b24 0 (.slice none 0 0)
    have z24 := S8.out.cel b24 1 (.slice none 0 0)
    go_wp2_with fail
    refine (EZ.out _ _ _ (S8.out.fr (.agg #[.slice a13 n13 c13, .slice d13 m13 g13]) PB QB) (S8.out.fr (.agg #[.slice none 0 0, .slice none 0 0]) 0 1)).mono ?_
    rintro e w27 ⟨rfl, hb⟩
    have SA : Hid _ := S8.out.go hb
    clear hb S8 y13 z13 y24 z24
    have SB : Hid _ := SA.out
    clear SA
    by_cases hle : PB * QA ≤ PA * QB
    · have y11 := SB.out.cel b11 0 (.slice a11 n11 c11)
      have z11 := SB.out.cel b11 1 (.slice d11 m11 g11)
      have y13 := SB.out.cel b13 0 (.slice a13 n13 c13)
      have z13 := SB.out.cel b13 1 (.slice d13 m13 g13)
      go_wp2_with fail
      obtain ⟨P17, Q17, f17, c17⟩ := GG.out.1.sub GG.out.2.1 (by omega) (by omega) hle
      obtain ⟨P18, Q18, f18, i18, c18⟩ := f17.add GG.out.2.1 (by omega) (by omega)
      have C17 : Hid _ := c17
      have C18 : Hid _ := c18
      have E9 : Hid _ := f18.cmp GG.out.1 (by omega) (by omega) (z := 0) (cmpI_same (by rw [fore_sub hle]; grind))
      obtain ⟨kk, hkk⟩ : ∃ kk, kk = cmpI (PA * QB) (PB * QA) := ⟨_, rfl⟩
      have hk : 0 ≤ kk := by
        rw [hkk]
        unfold cmpI
        rw [if_neg (by omega)]
        split <;> omega
      have hk1 : kk ≤ 1 := by
        rw [hkk]
        unfold cmpI
        rw [if_neg (by omega)]
        split <;> omega
      have hw : IntKind.i64.wrap kk = kk := by rw [IntKind.wrap_i64]; omega
      have EA : Hid _ := GG.out.1.cmp GG.out.2.1 (by omega) (by omega) (z := kk) hkk.symm
      have EB : Hid _ := GG.out.2.1.cmp GG.out.1 (by omega) (by omega) (z := -kk) (by rw [cmpI_neg, hkk])
      clear f17 f18 c17 c18 i18 hkk hk1 hle
      refine (C17.out _ _ _ (SB.out.fr (.agg #[.slice a11 n11 c11, .slice d11 m11 g11]) PA QA) (SB.out.fr (.agg #[.slice a13 n13 c13, .slice d13 m13 g13]) PB QB) (FF.out.go SB.out.bel)).mono ?_
      rintro e v26w ⟨v26, rfl, hv, hb⟩
      obtain ⟨a26, n26, c26, d26, m26, g26, ev, _, _⟩ := hv.raw
      subst ev
      have SC : Hid _ := ((SB.out.go hb).addF hv).box (.slice a26 n26 c26) (.slice d26 m26 g26) 29 _ rfl
      clear hv hb SB y11 z11 y13 z13
      go_wp2_with fail
      obtain ⟨w26, hw⟩ : ∃ w26, w26 = v26w.alloc (.cells #[.slice a26 n26 c26, .slice d26 m26 g26] 29) := ⟨_, rfl⟩
      obtain ⟨b26, hb⟩ : ∃ b26, b26 = v26w.heap.size := ⟨_, rfl⟩
      rw [← hw, ← hb] at SC
      rw [← hw, ← hb]
      clear hw hb
      refine wp_region_inv (JM w26 [(sEq (.bool true)).m, (sRt (PA) (QA)).m, (sRt (PB) (QB)).m, (sEq (.int .i64 kk)).m, (sEq (.bool true)).m, (sEq (.bool true)).m, (sEq (.bool true)).m, (sRt (PA) (QA)).m, (sRt (PB) (QB)).m, (sEq (.int .i64 kk)).m, (sRt (PB) (QB)).m, (sRt (PA) (QA)).m, (sEq (.int .i64 (-kk))).m, (sEq (.int .i64 kk)).m, (sEq (.bool true)).m, (sEq (.bool true)).m, (sEq (.bool true)).m, (sEq (.bool true)).m, (sEq (.bool false)).m, (sEq (.bool false)).m, (sRt (P17) (Q17)).m, (sRt (PB) (QB)).m, (sRt (P18) (Q18)).m, (sRt (PA) (QA)).m, (sEq (.int .i64 0)).m, (sEq (.bool true)).m, (sEq (.bool true)).m, (sEq (.bool true)).m, (sEq (.bool true)).m, (sRt (PA) (QA)).m, (sRt (PB) (QB)).m, (sRt (PC) (QC)).m, mThree (tri PA PB PC) (tri QA QB QC), (sRt (PS) (QS)).m, (sRt (PC) (QC)).m, (sRt (PB) (QB)).m, (sRt (PA) (QA)).m, (sRt (P3) (Q3)).m, (sRt (P15) (Q15)).m, (sEq (.int .i64 0)).m, (sEq (.bool true)).m, (sEq (.bool true)).m, (sEq (.bool true)).m]) 188 (by kernel_rfl) rfl (by kernel_rfl) (JM.start _ _) (fun HG HN => ⟨?_, ?_, ?_, ?_, ?_, ?_, ?_, ?_, ?_, ?_, ?_, ?_, ?_, ?_, ?_, ?_, ?_, ?_, ?_, ?_, ?_, ?_, ?_, ?_, ?_, ?_, ?_, ?_, ?_, ?_, ?_, ?_, ?_, ?_, ?_, ?_, ?_, ?_, ?_, ?_, ?_, ?_, ?_, trivial⟩) ?_
      · intro L vs a w' hJ hF hP hL
        have q19 : (a.tmps[19]?).getD undef = .bool true := hF.old 19 rfl
        exact run_val (v := .bool true) rfl (by simp [execOp, go_sem, q19]) ⟨_, rfl, hJ.step hL rfl (Below.refl _ _) (by exact rfl)⟩
      · intro L vs a w' hJ hF hP hL
        have q7 : (a.tmps[7]?).getD undef = .pointer (some ⟨b11, 0, none⟩) := hF.old 7 rfl
        have cb := cell_later hJ.bel (SC.out.cel (b11) 0 (.slice a11 n11 c11))
        have cc := cell_later hJ.bel (SC.out.cel (b11) 1 (.slice d11 m11 g11))
        exact run_val (v := .agg #[.slice a11 n11 c11, .slice d11 m11 g11]) rfl (by simp [execOp, go_sem, q7, cb, cc]) ⟨_, rfl, hJ.step hL rfl (Below.refl _ _) (by exact ((SC.out.fr (.agg #[.slice a11 n11 c11, .slice d11 m11 g11]) (PA) (QA)).mono hJ.bel))⟩
      · intro L vs a w' hJ hF hP hL
        have q9 : (a.tmps[9]?).getD undef = .pointer (some ⟨b13, 0, none⟩) := hF.old 9 rfl
        have cb := cell_later hJ.bel (SC.out.cel (b13) 0 (.slice a13 n13 c13))
        have cc := cell_later hJ.bel (SC.out.cel (b13) 1 (.slice d13 m13 g13))
        exact run_val (v := .agg #[.slice a13 n13 c13, .slice d13 m13 g13]) rfl (by simp [execOp, go_sem, q9, cb, cc]) ⟨_, rfl, hJ.step hL rfl (Below.refl _ _) (by exact ((SC.out.fr (.agg #[.slice a13 n13 c13, .slice d13 m13 g13]) (PB) (QB)).mono hJ.bel))⟩
      · intro L vs a w' hJ hF hP hL
        have p1 : L 1 = true := hP ⟨1, .data⟩ (by simp) rfl
        have s1 : Rt w' (vs 1) (PA) (QA) := hJ.sp 1 p1
        have q147 := hF.slot 1 147 rfl p1
        have p2 : L 2 = true := hP ⟨2, .data⟩ (by simp) rfl
        have s2 : Rt w' (vs 2) (PB) (QB) := hJ.sp 2 p2
        have q148 := hF.slot 2 148 rfl p2
        refine run_call (f := 27) (args := #[vs 1, vs 2]) rfl (by simp [go_sem, q147, q148]) (EA.out _ _ _ s1 s2) ?_
        rintro e w2 ⟨rfl, hb⟩
        exact ⟨_, rfl, _, rfl, hJ.step hL rfl hb (by exact rfl)⟩
      · intro L vs a w' hJ hF hP hL
        have p3 : L 3 = true := hP ⟨3, .data⟩ (by simp) rfl
        have s3 : vs 3 = .int .i64 kk := hJ.sp 3 p3
        have q149 := hF.slot 3 149 rfl p3
        exact run_val (v := .bool true) rfl (by simp [execOp, go_sem, q149, s3, hk]) ⟨_, rfl, hJ.step hL rfl (Below.refl _ _) (by exact rfl)⟩
      · intro L vs a w' hJ hF hP hL
        have p0 : L 0 = true := hP ⟨0, .data⟩ (by simp) rfl
        have s0 : vs 0 = .bool true := hJ.sp 0 p0
        have q146 := hF.slot 0 146 rfl p0
        have p4 : L 4 = true := hP ⟨4, .data⟩ (by simp) rfl
        have s4 : vs 4 = .bool true := hJ.sp 4 p4
        have q150 := hF.slot 4 150 rfl p4
        exact run_val (v := .bool true) rfl (by simp [execOp, go_sem, q146, s0, q150, s4]) ⟨_, rfl, hJ.step hL rfl (Below.refl _ _) (by exact rfl)⟩
      · intro L vs a w' hJ hF hP hL
        have p5 : L 5 = true := hP ⟨5, .data⟩ (by simp) rfl
        have s5 : vs 5 = .bool true := hJ.sp 5 p5
        have q151 := hF.slot 5 151 rfl p5
        exact run_val (v := .bool true) rfl (by simp [execOp, go_sem, q151, s5]) ⟨_, rfl, hJ.step hL rfl (Below.refl _ _) (by exact rfl)⟩
      · intro L vs a w' hJ hF hP hL
        have q7 : (a.tmps[7]?).getD undef = .pointer (some ⟨b11, 0, none⟩) := hF.old 7 rfl
        have cb := cell_later hJ.bel (SC.out.cel (b11) 0 (.slice a11 n11 c11))
        have cc := cell_later hJ.bel (SC.out.cel (b11) 1 (.slice d11 m11 g11))
        exact run_val (v := .agg #[.slice a11 n11 c11, .slice d11 m11 g11]) (hF.wants 188 HN HG _ 6 true true rfl rfl (hP ⟨6, .guard⟩ (by simp) rfl) (hJ.sp 6 (hP ⟨6, .guard⟩ (by simp) rfl))) (by simp [execOp, go_sem, q7, cb, cc]) ⟨_, rfl, hJ.step hL rfl (Below.refl _ _) (by exact ((SC.out.fr (.agg #[.slice a11 n11 c11, .slice d11 m11 g11]) (PA) (QA)).mono hJ.bel))⟩
      · intro L vs a w' hJ hF hP hL
        have q9 : (a.tmps[9]?).getD undef = .pointer (some ⟨b13, 0, none⟩) := hF.old 9 rfl
        have cb := cell_later hJ.bel (SC.out.cel (b13) 0 (.slice a13 n13 c13))
        have cc := cell_later hJ.bel (SC.out.cel (b13) 1 (.slice d13 m13 g13))
        exact run_val (v := .agg #[.slice a13 n13 c13, .slice d13 m13 g13]) (hF.wants 188 HN HG _ 6 true true rfl rfl (hP ⟨6, .guard⟩ (by simp) rfl) (hJ.sp 6 (hP ⟨6, .guard⟩ (by simp) rfl))) (by simp [execOp, go_sem, q9, cb, cc]) ⟨_, rfl, hJ.step hL rfl (Below.refl _ _) (by exact ((SC.out.fr (.agg #[.slice a13 n13 c13, .slice d13 m13 g13]) (PB) (QB)).mono hJ.bel))⟩
      · intro L vs a w' hJ hF hP hL
        have p7 : L 7 = true := hP ⟨7, .data⟩ (by simp) rfl
        have s7 : Rt w' (vs 7) (PA) (QA) := hJ.sp 7 p7
        have q153 := hF.slot 7 153 rfl p7
        have p8 : L 8 = true := hP ⟨8, .data⟩ (by simp) rfl
        have s8 : Rt w' (vs 8) (PB) (QB) := hJ.sp 8 p8
        have q154 := hF.slot 8 154 rfl p8
        refine run_call (f := 27) (args := #[vs 7, vs 8]) (hF.wants 188 HN HG _ 6 true true rfl rfl (hP ⟨6, .guard⟩ (by simp) rfl) (hJ.sp 6 (hP ⟨6, .guard⟩ (by simp) rfl))) (by simp [go_sem, q153, q154]) (EA.out _ _ _ s7 s8) ?_
        rintro e w2 ⟨rfl, hb⟩
        exact ⟨_, rfl, _, rfl, hJ.step hL rfl hb (by exact rfl)⟩
      · intro L vs a w' hJ hF hP hL
        have q9 : (a.tmps[9]?).getD undef = .pointer (some ⟨b13, 0, none⟩) := hF.old 9 rfl
        have cb := cell_later hJ.bel (SC.out.cel (b13) 0 (.slice a13 n13 c13))
        have cc := cell_later hJ.bel (SC.out.cel (b13) 1 (.slice d13 m13 g13))
        exact run_val (v := .agg #[.slice a13 n13 c13, .slice d13 m13 g13]) (hF.wants 188 HN HG _ 6 true true rfl rfl (hP ⟨6, .guard⟩ (by simp) rfl) (hJ.sp 6 (hP ⟨6, .guard⟩ (by simp) rfl))) (by simp [execOp, go_sem, q9, cb, cc]) ⟨_, rfl, hJ.step hL rfl (Below.refl _ _) (by exact ((SC.out.fr (.agg #[.slice a13 n13 c13, .slice d13 m13 g13]) (PB) (QB)).mono hJ.bel))⟩
      · intro L vs a w' hJ hF hP hL
        have q7 : (a.tmps[7]?).getD undef = .pointer (some ⟨b11, 0, none⟩) := hF.old 7 rfl
        have cb := cell_later hJ.bel (SC.out.cel (b11) 0 (.slice a11 n11 c11))
        have cc := cell_later hJ.bel (SC.out.cel (b11) 1 (.slice d11 m11 g11))
        exact run_val (v := .agg #[.slice a11 n11 c11, .slice d11 m11 g11]) (hF.wants 188 HN HG _ 6 true true rfl rfl (hP ⟨6, .guard⟩ (by simp) rfl) (hJ.sp 6 (hP ⟨6, .guard⟩ (by simp) rfl))) (by simp [execOp, go_sem, q7, cb, cc]) ⟨_, rfl, hJ.step hL rfl (Below.refl _ _) (by exact ((SC.out.fr (.agg #[.slice a11 n11 c11, .slice d11 m11 g11]) (PA) (QA)).mono hJ.bel))⟩
      · intro L vs a w' hJ hF hP hL
        have p10 : L 10 = true := hP ⟨10, .data⟩ (by simp) rfl
        have s10 : Rt w' (vs 10) (PB) (QB) := hJ.sp 10 p10
        have q156 := hF.slot 10 156 rfl p10
        have p11 : L 11 = true := hP ⟨11, .data⟩ (by simp) rfl
        have s11 : Rt w' (vs 11) (PA) (QA) := hJ.sp 11 p11
        have q157 := hF.slot 11 157 rfl p11
        refine run_call (f := 27) (args := #[vs 10, vs 11]) (hF.wants 188 HN HG _ 6 true true rfl rfl (hP ⟨6, .guard⟩ (by simp) rfl) (hJ.sp 6 (hP ⟨6, .guard⟩ (by simp) rfl))) (by simp [go_sem, q156, q157]) (EB.out _ _ _ s10 s11) ?_
        rintro e w2 ⟨rfl, hb⟩
        exact ⟨_, rfl, _, rfl, hJ.step hL rfl hb (by exact rfl)⟩
      · intro L vs a w' hJ hF hP hL
        have p12 : L 12 = true := hP ⟨12, .data⟩ (by simp) rfl
        have s12 : vs 12 = .int .i64 (-kk) := hJ.sp 12 p12
        have q158 := hF.slot 12 158 rfl p12
        exact run_val (v := .int .i64 kk) (hF.wants 188 HN HG _ 6 true true rfl rfl (hP ⟨6, .guard⟩ (by simp) rfl) (hJ.sp 6 (hP ⟨6, .guard⟩ (by simp) rfl))) (by simp [execOp, go_sem, q158, s12, hw]) ⟨_, rfl, hJ.step hL rfl (Below.refl _ _) (by exact rfl)⟩
      · intro L vs a w' hJ hF hP hL
        have p9 : L 9 = true := hP ⟨9, .data⟩ (by simp) rfl
        have s9 : vs 9 = .int .i64 kk := hJ.sp 9 p9
        have q155 := hF.slot 9 155 rfl p9
        have p13 : L 13 = true := hP ⟨13, .data⟩ (by simp) rfl
        have s13 : vs 13 = .int .i64 kk := hJ.sp 13 p13
        have q159 := hF.slot 13 159 rfl p13
        exact run_val (v := .bool true) (hF.wants 188 HN HG _ 6 true true rfl rfl (hP ⟨6, .guard⟩ (by simp) rfl) (hJ.sp 6 (hP ⟨6, .guard⟩ (by simp) rfl))) (by simp [execOp, go_sem, q155, s9, q159, s13]) ⟨_, rfl, hJ.step hL rfl (Below.refl _ _) (by exact rfl)⟩
      · intro L vs a w' hJ hF hP hL
        have p6 : L 6 = true := hP ⟨6, .data⟩ (by simp) rfl
        have s6 : vs 6 = .bool true := hJ.sp 6 p6
        have q152 := hF.slot 6 152 rfl p6
        have p14 : L 14 = true := hP ⟨14, .data⟩ (by simp) rfl
        have s14 : vs 14 = .bool true := hJ.sp 14 p14
        have q160 := hF.slot 14 160 rfl p14
        exact run_val (v := .bool true) rfl (by simp [execOp, go_sem, q152, s6, q160, s14]) ⟨_, rfl, hJ.step hL rfl (Below.refl _ _) (by exact rfl)⟩
      · intro L vs a w' hJ hF hP hL
        have p15 : L 15 = true := hP ⟨15, .data⟩ (by simp) rfl
        have s15 : vs 15 = .bool true := hJ.sp 15 p15
        have q161 := hF.slot 15 161 rfl p15
        exact run_val (v := .bool true) rfl (by simp [execOp, go_sem, q161, s15]) ⟨_, rfl, hJ.step hL rfl (Below.refl _ _) (by exact rfl)⟩
      · intro L vs a w' hJ hF hP hL
        have q19 : (a.tmps[19]?).getD undef = .bool true := hF.old 19 rfl
        exact run_val (v := .bool true) (hF.wants 188 HN HG _ 16 true true rfl rfl (hP ⟨16, .guard⟩ (by simp) rfl) (hJ.sp 16 (hP ⟨16, .guard⟩ (by simp) rfl))) (by simp [execOp, go_sem, q19]) ⟨_, rfl, hJ.step hL rfl (Below.refl _ _) (by exact rfl)⟩
      · intro L vs a w' hJ hF hP hL
        have p17 : L 17 = true := hP ⟨17, .data⟩ (by simp) rfl
        have s17 : vs 17 = .bool true := hJ.sp 17 p17
        have q163 := hF.slot 17 163 rfl p17
        exact run_val (v := .bool false) (hF.wants 188 HN HG _ 16 true true rfl rfl (hP ⟨16, .guard⟩ (by simp) rfl) (hJ.sp 16 (hP ⟨16, .guard⟩ (by simp) rfl))) (by simp [execOp, go_sem, q163, s17]) ⟨_, rfl, hJ.step hL rfl (Below.refl _ _) (by exact rfl)⟩
      · intro L vs a w' hJ hF hP hL
        have p18 : L 18 = true := hP ⟨18, .data⟩ (by simp) rfl
        have s18 : vs 18 = .bool false := hJ.sp 18 p18
        have q164 := hF.slot 18 164 rfl p18
        exact run_val (v := .bool false) (hF.wants 188 HN HG _ 16 true true rfl rfl (hP ⟨16, .guard⟩ (by simp) rfl) (hJ.sp 16 (hP ⟨16, .guard⟩ (by simp) rfl))) (by simp [execOp, go_sem, q164, s18]) ⟨_, rfl, hJ.step hL rfl (Below.refl _ _) (by exact rfl)⟩
      · intro L vs a w' hJ hF hP hL
        have q18 : (a.tmps[18]?).getD undef = .pointer (some ⟨b26, 0, none⟩) := hF.old 18 rfl
        have cb := cell_later hJ.bel (SC.out.cel (b26) 0 (.slice a26 n26 c26))
        have cc := cell_later hJ.bel (SC.out.cel (b26) 1 (.slice d26 m26 g26))
        exact run_val (v := .agg #[.slice a26 n26 c26, .slice d26 m26 g26]) (hF.wants 188 HN HG _ 19 false false rfl rfl (hP ⟨19, .guard⟩ (by simp) rfl) (hJ.sp 19 (hP ⟨19, .guard⟩ (by simp) rfl))) (by simp [execOp, go_sem, q18, cb, cc]) ⟨_, rfl, hJ.step hL rfl (Below.refl _ _) (by exact ((SC.out.fr (.agg #[.slice a26 n26 c26, .slice d26 m26 g26]) (P17) (Q17)).mono hJ.bel))⟩
      · intro L vs a w' hJ hF hP hL
        have q9 : (a.tmps[9]?).getD undef = .pointer (some ⟨b13, 0, none⟩) := hF.old 9 rfl
        have cb := cell_later hJ.bel (SC.out.cel (b13) 0 (.slice a13 n13 c13))
        have cc := cell_later hJ.bel (SC.out.cel (b13) 1 (.slice d13 m13 g13))
        exact run_val (v := .agg #[.slice a13 n13 c13, .slice d13 m13 g13]) (hF.wants 188 HN HG _ 19 false false rfl rfl (hP ⟨19, .guard⟩ (by simp) rfl) (hJ.sp 19 (hP ⟨19, .guard⟩ (by simp) rfl))) (by simp [execOp, go_sem, q9, cb, cc]) ⟨_, rfl, hJ.step hL rfl (Below.refl _ _) (by exact ((SC.out.fr (.agg #[.slice a13 n13 c13, .slice d13 m13 g13]) (PB) (QB)).mono hJ.bel))⟩
      · intro L vs a w' hJ hF hP hL
        have p20 : L 20 = true := hP ⟨20, .data⟩ (by simp) rfl
        have s20 : Rt w' (vs 20) (P17) (Q17) := hJ.sp 20 p20
        have q166 := hF.slot 20 166 rfl p20
        have p21 : L 21 = true := hP ⟨21, .data⟩ (by simp) rfl
        have s21 : Rt w' (vs 21) (PB) (QB) := hJ.sp 21 p21
        have q167 := hF.slot 21 167 rfl p21
        refine run_call (f := 25) (args := #[vs 20, vs 21]) (hF.wants 188 HN HG _ 19 false false rfl rfl (hP ⟨19, .guard⟩ (by simp) rfl) (hJ.sp 19 (hP ⟨19, .guard⟩ (by simp) rfl))) (by simp [go_sem, q166, q167]) (C18.out _ _ _ s20 s21 (FF.out.go (bel_go SC.out.bel hJ.bel))) ?_
        rintro e w2 ⟨v, rfl, hv, hb⟩
        exact ⟨_, rfl, _, rfl, hJ.step hL rfl hb (by exact hv)⟩
      · intro L vs a w' hJ hF hP hL
        have q7 : (a.tmps[7]?).getD undef = .pointer (some ⟨b11, 0, none⟩) := hF.old 7 rfl
        have cb := cell_later hJ.bel (SC.out.cel (b11) 0 (.slice a11 n11 c11))
        have cc := cell_later hJ.bel (SC.out.cel (b11) 1 (.slice d11 m11 g11))
        exact run_val (v := .agg #[.slice a11 n11 c11, .slice d11 m11 g11]) (hF.wants 188 HN HG _ 19 false false rfl rfl (hP ⟨19, .guard⟩ (by simp) rfl) (hJ.sp 19 (hP ⟨19, .guard⟩ (by simp) rfl))) (by simp [execOp, go_sem, q7, cb, cc]) ⟨_, rfl, hJ.step hL rfl (Below.refl _ _) (by exact ((SC.out.fr (.agg #[.slice a11 n11 c11, .slice d11 m11 g11]) (PA) (QA)).mono hJ.bel))⟩
      · intro L vs a w' hJ hF hP hL
        have p22 : L 22 = true := hP ⟨22, .data⟩ (by simp) rfl
        have s22 : Rt w' (vs 22) (P18) (Q18) := hJ.sp 22 p22
        have q168 := hF.slot 22 168 rfl p22
        have p23 : L 23 = true := hP ⟨23, .data⟩ (by simp) rfl
        have s23 : Rt w' (vs 23) (PA) (QA) := hJ.sp 23 p23
        have q169 := hF.slot 23 169 rfl p23
        refine run_call (f := 27) (args := #[vs 22, vs 23]) (hF.wants 188 HN HG _ 19 false false rfl rfl (hP ⟨19, .guard⟩ (by simp) rfl) (hJ.sp 19 (hP ⟨19, .guard⟩ (by simp) rfl))) (by simp [go_sem, q168, q169]) (E9.out _ _ _ s22 s23) ?_
        rintro e w2 ⟨rfl, hb⟩
        exact ⟨_, rfl, _, rfl, hJ.step hL rfl hb (by exact rfl)⟩
      · intro L vs a w' hJ hF hP hL
        have p24 : L 24 = true := hP ⟨24, .data⟩ (by simp) rfl
        have s24 : vs 24 = .int .i64 0 := hJ.sp 24 p24
        have q170 := hF.slot 24 170 rfl p24
        exact run_val (v := .bool true) (hF.wants 188 HN HG _ 19 false false rfl rfl (hP ⟨19, .guard⟩ (by simp) rfl) (hJ.sp 19 (hP ⟨19, .guard⟩ (by simp) rfl))) (by simp [execOp, go_sem, q170, s24]) ⟨_, rfl, hJ.step hL rfl (Below.refl _ _) (by exact rfl)⟩
      · intro L vs a w' hJ hF hP hL
        have p19 : L 19 = true := hP ⟨19, .data⟩ (by simp) rfl
        have s19 : vs 19 = .bool false := hJ.sp 19 p19
        have q165 := hF.slot 19 165 rfl p19
        have p25 : L 25 = true := hP ⟨25, .data⟩ (by simp) rfl
        have s25 : vs 25 = .bool true := hJ.sp 25 p25
        have q171 := hF.slot 25 171 rfl p25
        exact run_val (v := .bool true) (hF.wants 188 HN HG _ 16 true true rfl rfl (hP ⟨16, .guard⟩ (by simp) rfl) (hJ.sp 16 (hP ⟨16, .guard⟩ (by simp) rfl))) (by simp [execOp, go_sem, q165, s19, q171, s25]) ⟨_, rfl, hJ.step hL rfl (Below.refl _ _) (by exact rfl)⟩
      · intro L vs a w' hJ hF hP hL
        have p16 : L 16 = true := hP ⟨16, .data⟩ (by simp) rfl
        have s16 : vs 16 = .bool true := hJ.sp 16 p16
        have q162 := hF.slot 16 162 rfl p16
        have p26 : L 26 = true := hP ⟨26, .data⟩ (by simp) rfl
        have s26 : vs 26 = .bool true := hJ.sp 26 p26
        have q172 := hF.slot 26 172 rfl p26
        exact run_val (v := .bool true) rfl (by simp [execOp, go_sem, q162, s16, q172, s26]) ⟨_, rfl, hJ.step hL rfl (Below.refl _ _) (by exact rfl)⟩
      · intro L vs a w' hJ hF hP hL
        have p27 : L 27 = true := hP ⟨27, .data⟩ (by simp) rfl
        have s27 : vs 27 = .bool true := hJ.sp 27 p27
        have q173 := hF.slot 27 173 rfl p27
        exact run_val (v := .bool true) rfl (by simp [execOp, go_sem, q173, s27]) ⟨_, rfl, hJ.step hL rfl (Below.refl _ _) (by exact rfl)⟩
      · intro L vs a w' hJ hF hP hL
        have q7 : (a.tmps[7]?).getD undef = .pointer (some ⟨b11, 0, none⟩) := hF.old 7 rfl
        have cb := cell_later hJ.bel (SC.out.cel (b11) 0 (.slice a11 n11 c11))
        have cc := cell_later hJ.bel (SC.out.cel (b11) 1 (.slice d11 m11 g11))
        exact run_val (v := .agg #[.slice a11 n11 c11, .slice d11 m11 g11]) (hF.wants 188 HN HG _ 28 true true rfl rfl (hP ⟨28, .guard⟩ (by simp) rfl) (hJ.sp 28 (hP ⟨28, .guard⟩ (by simp) rfl))) (by simp [execOp, go_sem, q7, cb, cc]) ⟨_, rfl, hJ.step hL rfl (Below.refl _ _) (by exact ((SC.out.fr (.agg #[.slice a11 n11 c11, .slice d11 m11 g11]) (PA) (QA)).mono hJ.bel))⟩
      · intro L vs a w' hJ hF hP hL
        have q9 : (a.tmps[9]?).getD undef = .pointer (some ⟨b13, 0, none⟩) := hF.old 9 rfl
        have cb := cell_later hJ.bel (SC.out.cel (b13) 0 (.slice a13 n13 c13))
        have cc := cell_later hJ.bel (SC.out.cel (b13) 1 (.slice d13 m13 g13))
        exact run_val (v := .agg #[.slice a13 n13 c13, .slice d13 m13 g13]) (hF.wants 188 HN HG _ 28 true true rfl rfl (hP ⟨28, .guard⟩ (by simp) rfl) (hJ.sp 28 (hP ⟨28, .guard⟩ (by simp) rfl))) (by simp [execOp, go_sem, q9, cb, cc]) ⟨_, rfl, hJ.step hL rfl (Below.refl _ _) (by exact ((SC.out.fr (.agg #[.slice a13 n13 c13, .slice d13 m13 g13]) (PB) (QB)).mono hJ.bel))⟩
      · intro L vs a w' hJ hF hP hL
        have q11 : (a.tmps[11]?).getD undef = .pointer (some ⟨b15, 0, none⟩) := hF.old 11 rfl
        have cb := cell_later hJ.bel (SC.out.cel (b15) 0 (.slice a15 n15 c15))
        have cc := cell_later hJ.bel (SC.out.cel (b15) 1 (.slice d15 m15 g15))
        exact run_val (v := .agg #[.slice a15 n15 c15, .slice d15 m15 g15]) (hF.wants 188 HN HG _ 28 true true rfl rfl (hP ⟨28, .guard⟩ (by simp) rfl) (hJ.sp 28 (hP ⟨28, .guard⟩ (by simp) rfl))) (by simp [execOp, go_sem, q11, cb, cc]) ⟨_, rfl, hJ.step hL rfl (Below.refl _ _) (by exact ((SC.out.fr (.agg #[.slice a15 n15 c15, .slice d15 m15 g15]) (PC) (QC)).mono hJ.bel))⟩
      · intro L vs a w' hJ hF hP hL
        have p29 : L 29 = true := hP ⟨29, .data⟩ (by simp) rfl
        have s29 : Rt w' (vs 29) (PA) (QA) := hJ.sp 29 p29
        have q175 := hF.slot 29 175 rfl p29
        have p30 : L 30 = true := hP ⟨30, .data⟩ (by simp) rfl
        have s30 : Rt w' (vs 30) (PB) (QB) := hJ.sp 30 p30
        have q176 := hF.slot 30 176 rfl p30
        have p31 : L 31 = true := hP ⟨31, .data⟩ (by simp) rfl
        have s31 : Rt w' (vs 31) (PC) (QC) := hJ.sp 31 p31
        have q177 := hF.slot 31 177 rfl p31
        obtain ⟨x1, y1, z1, u1, v1, r1, ea1, _, _⟩ := s29.raw
        obtain ⟨x2, y2, z2, u2, v2, r2, ea2, _, _⟩ := s30.raw
        obtain ⟨x3, y3, z3, u3, v3, r3, ea3, _, _⟩ := s31.raw
        exact run_val (v := .slice (some ⟨w'.heap.size, 0, none⟩) 3 3) (w' := w'.alloc (.cells #[.slice x1 y1 z1, .slice u1 v1 r1, .slice x2 y2 z2, .slice u2 v2 r2, .slice x3 y3 z3, .slice u3 v3 r3] 29)) (hF.wants 188 HN HG _ 28 true true rfl rfl (hP ⟨28, .guard⟩ (by simp) rfl) (hJ.sp 28 (hP ⟨28, .guard⟩ (by simp) rfl))) (by simp [execOp, go_sem, q175, q176, q177, ea1, ea2, ea3]) ⟨_, rfl, hJ.step hL rfl (bel_al (bel_refl _)) (by exact (three_new (ea1 ▸ s29) (ea2 ▸ s30) (ea3 ▸ s31) _))⟩
      · intro L vs a w' hJ hF hP hL
        have p32 : L 32 = true := hP ⟨32, .data⟩ (by simp) rfl
        have s32 : Three w' (vs 32) (tri PA PB PC) (tri QA QB QC) := hJ.sp 32 p32
        have q178 := hF.slot 32 178 rfl p32
        refine run_call (f := 30) (args := #[vs 32]) (hF.wants 188 HN HG _ 28 true true rfl rfl (hP ⟨28, .guard⟩ (by simp) rfl) (hJ.sp 28 (hP ⟨28, .guard⟩ (by simp) rfl))) (by simp [go_sem, q178]) (CS.out _ _ s32 (FF.out.go (bel_go SC.out.bel hJ.bel))) ?_
        rintro e w2 ⟨v, rfl, hv, hb⟩
        exact ⟨_, rfl, _, rfl, hJ.step hL rfl hb (by exact hv)⟩
      · intro L vs a w' hJ hF hP hL
        have q11 : (a.tmps[11]?).getD undef = .pointer (some ⟨b15, 0, none⟩) := hF.old 11 rfl
        have cb := cell_later hJ.bel (SC.out.cel (b15) 0 (.slice a15 n15 c15))
        have cc := cell_later hJ.bel (SC.out.cel (b15) 1 (.slice d15 m15 g15))
        exact run_val (v := .agg #[.slice a15 n15 c15, .slice d15 m15 g15]) (hF.wants 188 HN HG _ 28 true true rfl rfl (hP ⟨28, .guard⟩ (by simp) rfl) (hJ.sp 28 (hP ⟨28, .guard⟩ (by simp) rfl))) (by simp [execOp, go_sem, q11, cb, cc]) ⟨_, rfl, hJ.step hL rfl (Below.refl _ _) (by exact ((SC.out.fr (.agg #[.slice a15 n15 c15, .slice d15 m15 g15]) (PC) (QC)).mono hJ.bel))⟩
      · intro L vs a w' hJ hF hP hL
        have q9 : (a.tmps[9]?).getD undef = .pointer (some ⟨b13, 0, none⟩) := hF.old 9 rfl
        have cb := cell_later hJ.bel (SC.out.cel (b13) 0 (.slice a13 n13 c13))
        have cc := cell_later hJ.bel (SC.out.cel (b13) 1 (.slice d13 m13 g13))
        exact run_val (v := .agg #[.slice a13 n13 c13, .slice d13 m13 g13]) (hF.wants 188 HN HG _ 28 true true rfl rfl (hP ⟨28, .guard⟩ (by simp) rfl) (hJ.sp 28 (hP ⟨28, .guard⟩ (by simp) rfl))) (by simp [execOp, go_sem, q9, cb, cc]) ⟨_, rfl, hJ.step hL rfl (Below.refl _ _) (by exact ((SC.out.fr (.agg #[.slice a13 n13 c13, .slice d13 m13 g13]) (PB) (QB)).mono hJ.bel))⟩
      · intro L vs a w' hJ hF hP hL
        have q7 : (a.tmps[7]?).getD undef = .pointer (some ⟨b11, 0, none⟩) := hF.old 7 rfl
        have cb := cell_later hJ.bel (SC.out.cel (b11) 0 (.slice a11 n11 c11))
        have cc := cell_later hJ.bel (SC.out.cel (b11) 1 (.slice d11 m11 g11))
        exact run_val (v := .agg #[.slice a11 n11 c11, .slice d11 m11 g11]) (hF.wants 188 HN HG _ 28 true true rfl rfl (hP ⟨28, .guard⟩ (by simp) rfl) (hJ.sp 28 (hP ⟨28, .guard⟩ (by simp) rfl))) (by simp [execOp, go_sem, q7, cb, cc]) ⟨_, rfl, hJ.step hL rfl (Below.refl _ _) (by exact ((SC.out.fr (.agg #[.slice a11 n11 c11, .slice d11 m11 g11]) (PA) (QA)).mono hJ.bel))⟩
      · intro L vs a w' hJ hF hP hL
        have p35 : L 35 = true := hP ⟨35, .data⟩ (by simp) rfl
        have s35 : Rt w' (vs 35) (PB) (QB) := hJ.sp 35 p35
        have q181 := hF.slot 35 181 rfl p35
        have p36 : L 36 = true := hP ⟨36, .data⟩ (by simp) rfl
        have s36 : Rt w' (vs 36) (PA) (QA) := hJ.sp 36 p36
        have q182 := hF.slot 36 182 rfl p36
        refine run_call (f := 25) (args := #[vs 35, vs 36]) (hF.wants 188 HN HG _ 28 true true rfl rfl (hP ⟨28, .guard⟩ (by simp) rfl) (hJ.sp 28 (hP ⟨28, .guard⟩ (by simp) rfl))) (by simp [go_sem, q181, q182]) (C3.out _ _ _ s35 s36 (FF.out.go (bel_go SC.out.bel hJ.bel))) ?_
        rintro e w2 ⟨v, rfl, hv, hb⟩
        exact ⟨_, rfl, _, rfl, hJ.step hL rfl hb (by exact hv)⟩
      · intro L vs a w' hJ hF hP hL
        have p34 : L 34 = true := hP ⟨34, .data⟩ (by simp) rfl
        have s34 : Rt w' (vs 34) (PC) (QC) := hJ.sp 34 p34
        have q180 := hF.slot 34 180 rfl p34
        have p37 : L 37 = true := hP ⟨37, .data⟩ (by simp) rfl
        have s37 : Rt w' (vs 37) (P3) (Q3) := hJ.sp 37 p37
        have q183 := hF.slot 37 183 rfl p37
        refine run_call (f := 25) (args := #[vs 34, vs 37]) (hF.wants 188 HN HG _ 28 true true rfl rfl (hP ⟨28, .guard⟩ (by simp) rfl) (hJ.sp 28 (hP ⟨28, .guard⟩ (by simp) rfl))) (by simp [go_sem, q180, q183]) (C15.out _ _ _ s34 s37 (FF.out.go (bel_go SC.out.bel hJ.bel))) ?_
        rintro e w2 ⟨v, rfl, hv, hb⟩
        exact ⟨_, rfl, _, rfl, hJ.step hL rfl hb (by exact hv)⟩
      · intro L vs a w' hJ hF hP hL
        have p33 : L 33 = true := hP ⟨33, .data⟩ (by simp) rfl
        have s33 : Rt w' (vs 33) (PS) (QS) := hJ.sp 33 p33
        have q179 := hF.slot 33 179 rfl p33
        have p38 : L 38 = true := hP ⟨38, .data⟩ (by simp) rfl
        have s38 : Rt w' (vs 38) (P15) (Q15) := hJ.sp 38 p38
        have q184 := hF.slot 38 184 rfl p38
        refine run_call (f := 27) (args := #[vs 33, vs 38]) (hF.wants 188 HN HG _ 28 true true rfl rfl (hP ⟨28, .guard⟩ (by simp) rfl) (hJ.sp 28 (hP ⟨28, .guard⟩ (by simp) rfl))) (by simp [go_sem, q179, q184]) (E7.out _ _ _ s33 s38) ?_
        rintro e w2 ⟨rfl, hb⟩
        exact ⟨_, rfl, _, rfl, hJ.step hL rfl hb (by exact rfl)⟩
      · intro L vs a w' hJ hF hP hL
        have p39 : L 39 = true := hP ⟨39, .data⟩ (by simp) rfl
        have s39 : vs 39 = .int .i64 0 := hJ.sp 39 p39
        have q185 := hF.slot 39 185 rfl p39
        exact run_val (v := .bool true) (hF.wants 188 HN HG _ 28 true true rfl rfl (hP ⟨28, .guard⟩ (by simp) rfl) (hJ.sp 28 (hP ⟨28, .guard⟩ (by simp) rfl))) (by simp [execOp, go_sem, q185, s39]) ⟨_, rfl, hJ.step hL rfl (Below.refl _ _) (by exact rfl)⟩
      · intro L vs a w' hJ hF hP hL
        have p28 : L 28 = true := hP ⟨28, .data⟩ (by simp) rfl
        have s28 : vs 28 = .bool true := hJ.sp 28 p28
        have q174 := hF.slot 28 174 rfl p28
        have p40 : L 40 = true := hP ⟨40, .data⟩ (by simp) rfl
        have s40 : vs 40 = .bool true := hJ.sp 40 p40
        have q186 := hF.slot 40 186 rfl p40
        exact run_val (v := .bool true) rfl (by simp [execOp, go_sem, q174, s28, q186, s40]) ⟨_, rfl, hJ.step hL rfl (Below.refl _ _) (by exact rfl)⟩
      · intro L vs a w' hJ hF hP hL
        have p41 : L 41 = true := hP ⟨41, .data⟩ (by simp) rfl
        have s41 : vs 41 = .bool true := hJ.sp 41 p41
        have q187 := hF.slot 41 187 rfl p41
        exact run_val (v := .bool true) rfl (by simp [execOp, go_sem, q187, s41]) ⟨_, rfl, hJ.step hL rfl (Below.refl _ _) (by exact rfl)⟩
      intro L vs w' hA hJ
      have s42 : vs 42 = .bool true := hJ.sp 42 (hA 42 (by simp))
      simp only [putL, Act.put, List.setIfInBounds_toArray, List.set_cons_zero, List.set_cons_succ, Nat.reduceAdd]
      simp only [s42]
      have B : Hid _ := (SC.out.go hJ.bel).bel
      clear s42 hJ hA SC
      go_wp2_with fail
      go_ret
      exact ⟨rfl, B.out⟩
    · have y11 := SB.out.cel b11 0 (.slice a11 n11 c11)
      have z11 := SB.out.cel b11 1 (.slice d11 m11 g11)
      have y13 := SB.out.cel b13 0 (.slice a13 n13 c13)
      have z13 := SB.out.cel b13 1 (.slice d13 m13 g13)
      go_wp2_with fail
      have C17 : Hid _ := GG.out.1.sub_no GG.out.2.1 (by omega) (by omega) (Nat.lt_of_not_le hle)
      have EA : Hid _ := GG.out.1.cmp GG.out.2.1 (by omega) (by omega) (z := -1) (by unfold cmpI; rw [if_pos (by omega)])
      have EB : Hid _ := GG.out.2.1.cmp GG.out.1 (by omega) (by omega) (z := 1) (by unfold cmpI; rw [if_neg (by omega), if_neg (by omega)])
      clear hle
      refine (C17.out _ _ _ (SB.out.fr (.agg #[.slice a11 n11 c11, .slice d11 m11 g11]) PA QA) (SB.out.fr (.agg #[.slice a13 n13 c13, .slice d13 m13 g13]) PB QB) (FF.out.go SB.out.bel)).mono ?_
      rintro e v26w ⟨v26, rfl, hv, hb⟩
      obtain ⟨a26, n26, c26, d26, m26, g26, ev, _, _⟩ := hv.raw
      subst ev
      have SC : Hid _ := ((SB.out.go hb).addF hv).box (.slice a26 n26 c26) (.slice d26 m26 g26) 29 _ rfl
      clear hv hb SB y11 z11 y13 z13
      go_wp2_with fail
      obtain ⟨w26, hw⟩ : ∃ w26, w26 = v26w.alloc (.cells #[.slice a26 n26 c26, .slice d26 m26 g26] 29) := ⟨_, rfl⟩
      obtain ⟨b26, hb⟩ : ∃ b26, b26 = v26w.heap.size := ⟨_, rfl⟩
      rw [← hw, ← hb] at SC
      rw [← hw, ← hb]
      clear hw hb
      refine wp_region_inv (JM w26 [(sEq (.bool false)).m, (sRt (PA) (QA)).m, (sRt (PB) (QB)).m, (sEq (.int .i64 (-1))).m, (sEq (.bool false)).m, (sEq (.bool true)).m, (sEq (.bool true)).m, (sRt (PA) (QA)).m, (sRt (PB) (QB)).m, (sEq (.int .i64 (-1))).m, (sRt (PB) (QB)).m, (sRt (PA) (QA)).m, (sEq (.int .i64 1)).m, (sEq (.int .i64 (-1))).m, (sEq (.bool true)).m, (sEq (.bool true)).m, (sEq (.bool true)).m, (sEq (.bool false)).m, (sEq (.bool true)).m, (sEq (.bool true)).m, (sAny).m, (sAny).m, (sAny).m, (sAny).m, (sAny).m, (sAny).m, (sEq (.bool true)).m, (sEq (.bool true)).m, (sEq (.bool true)).m, (sRt (PA) (QA)).m, (sRt (PB) (QB)).m, (sRt (PC) (QC)).m, mThree (tri PA PB PC) (tri QA QB QC), (sRt (PS) (QS)).m, (sRt (PC) (QC)).m, (sRt (PB) (QB)).m, (sRt (PA) (QA)).m, (sRt (P3) (Q3)).m, (sRt (P15) (Q15)).m, (sEq (.int .i64 0)).m, (sEq (.bool true)).m, (sEq (.bool true)).m, (sEq (.bool true)).m]) 188 (by kernel_rfl) rfl (by kernel_rfl) (JM.start _ _) (fun HG HN => ⟨?_, ?_, ?_, ?_, ?_, ?_, ?_, ?_, ?_, ?_, ?_, ?_, ?_, ?_, ?_, ?_, ?_, ?_, ?_, ?_, ?_, ?_, ?_, ?_, ?_, ?_, ?_, ?_, ?_, ?_, ?_, ?_, ?_, ?_, ?_, ?_, ?_, ?_, ?_, ?_, ?_, ?_, ?_, trivial⟩) ?_
      · intro L vs a w' hJ hF hP hL
        have q19 : (a.tmps[19]?).getD undef = .bool false := hF.old 19 rfl
        exact run_val (v := .bool false) rfl (by simp [execOp, go_sem, q19]) ⟨_, rfl, hJ.step hL rfl (Below.refl _ _) (by exact rfl)⟩
      · intro L vs a w' hJ hF hP hL
        have q7 : (a.tmps[7]?).getD undef = .pointer (some ⟨b11, 0, none⟩) := hF.old 7 rfl
        have cb := cell_later hJ.bel (SC.out.cel (b11) 0 (.slice a11 n11 c11))
        have cc := cell_later hJ.bel (SC.out.cel (b11) 1 (.slice d11 m11 g11))
        exact run_val (v := .agg #[.slice a11 n11 c11, .slice d11 m11 g11]) rfl (by simp [execOp, go_sem, q7, cb, cc]) ⟨_, rfl, hJ.step hL rfl (Below.refl _ _) (by exact ((SC.out.fr (.agg #[.slice a11 n11 c11, .slice d11 m11 g11]) (PA) (QA)).mono hJ.bel))⟩
      · intro L vs a w' hJ hF hP hL
        have q9 : (a.tmps[9]?).getD undef = .pointer (some ⟨b13, 0, none⟩) := hF.old 9 rfl
        have cb := cell_later hJ.bel (SC.out.cel (b13) 0 (.slice a13 n13 c13))
        have cc := cell_later hJ.bel (SC.out.cel (b13) 1 (.slice d13 m13 g13))
        exact run_val (v := .agg #[.slice a13 n13 c13, .slice d13 m13 g13]) rfl (by simp [execOp, go_sem, q9, cb, cc]) ⟨_, rfl, hJ.step hL rfl (Below.refl _ _) (by exact ((SC.out.fr (.agg #[.slice a13 n13 c13, .slice d13 m13 g13]) (PB) (QB)).mono hJ.bel))⟩
      · intro L vs a w' hJ hF hP hL
        have p1 : L 1 = true := hP ⟨1, .data⟩ (by simp) rfl
        have s1 : Rt w' (vs 1) (PA) (QA) := hJ.sp 1 p1
        have q147 := hF.slot 1 147 rfl p1
        have p2 : L 2 = true := hP ⟨2, .data⟩ (by simp) rfl
        have s2 : Rt w' (vs 2) (PB) (QB) := hJ.sp 2 p2
        have q148 := hF.slot 2 148 rfl p2
        refine run_call (f := 27) (args := #[vs 1, vs 2]) rfl (by simp [go_sem, q147, q148]) (EA.out _ _ _ s1 s2) ?_
        rintro e w2 ⟨rfl, hb⟩
        exact ⟨_, rfl, _, rfl, hJ.step hL rfl hb (by exact rfl)⟩
      · intro L vs a w' hJ hF hP hL
        have p3 : L 3 = true := hP ⟨3, .data⟩ (by simp) rfl
        have s3 : vs 3 = .int .i64 (-1) := hJ.sp 3 p3
        have q149 := hF.slot 3 149 rfl p3
        exact run_val (v := .bool false) rfl (by simp [execOp, go_sem, q149, s3]) ⟨_, rfl, hJ.step hL rfl (Below.refl _ _) (by exact rfl)⟩
      · intro L vs a w' hJ hF hP hL
        have p0 : L 0 = true := hP ⟨0, .data⟩ (by simp) rfl
        have s0 : vs 0 = .bool false := hJ.sp 0 p0
        have q146 := hF.slot 0 146 rfl p0
        have p4 : L 4 = true := hP ⟨4, .data⟩ (by simp) rfl
        have s4 : vs 4 = .bool false := hJ.sp 4 p4
        have q150 := hF.slot 4 150 rfl p4
        exact run_val (v := .bool true) rfl (by simp [execOp, go_sem, q146, s0, q150, s4]) ⟨_, rfl, hJ.step hL rfl (Below.refl _ _) (by exact rfl)⟩
      · intro L vs a w' hJ hF hP hL
        have p5 : L 5 = true := hP ⟨5, .data⟩ (by simp) rfl
        have s5 : vs 5 = .bool true := hJ.sp 5 p5
        have q151 := hF.slot 5 151 rfl p5
        exact run_val (v := .bool true) rfl (by simp [execOp, go_sem, q151, s5]) ⟨_, rfl, hJ.step hL rfl (Below.refl _ _) (by exact rfl)⟩
      · intro L vs a w' hJ hF hP hL
        have q7 : (a.tmps[7]?).getD undef = .pointer (some ⟨b11, 0, none⟩) := hF.old 7 rfl
        have cb := cell_later hJ.bel (SC.out.cel (b11) 0 (.slice a11 n11 c11))
        have cc := cell_later hJ.bel (SC.out.cel (b11) 1 (.slice d11 m11 g11))
        exact run_val (v := .agg #[.slice a11 n11 c11, .slice d11 m11 g11]) (hF.wants 188 HN HG _ 6 true true rfl rfl (hP ⟨6, .guard⟩ (by simp) rfl) (hJ.sp 6 (hP ⟨6, .guard⟩ (by simp) rfl))) (by simp [execOp, go_sem, q7, cb, cc]) ⟨_, rfl, hJ.step hL rfl (Below.refl _ _) (by exact ((SC.out.fr (.agg #[.slice a11 n11 c11, .slice d11 m11 g11]) (PA) (QA)).mono hJ.bel))⟩
      · intro L vs a w' hJ hF hP hL
        have q9 : (a.tmps[9]?).getD undef = .pointer (some ⟨b13, 0, none⟩) := hF.old 9 rfl
        have cb := cell_later hJ.bel (SC.out.cel (b13) 0 (.slice a13 n13 c13))
        have cc := cell_later hJ.bel (SC.out.cel (b13) 1 (.slice d13 m13 g13))
        exact run_val (v := .agg #[.slice a13 n13 c13, .slice d13 m13 g13]) (hF.wants 188 HN HG _ 6 true true rfl rfl (hP ⟨6, .guard⟩ (by simp) rfl) (hJ.sp 6 (hP ⟨6, .guard⟩ (by simp) rfl))) (by simp [execOp, go_sem, q9, cb, cc]) ⟨_, rfl, hJ.step hL rfl (Below.refl _ _) (by exact ((SC.out.fr (.agg #[.slice a13 n13 c13, .slice d13 m13 g13]) (PB) (QB)).mono hJ.bel))⟩
      · intro L vs a w' hJ hF hP hL
        have p7 : L 7 = true := hP ⟨7, .data⟩ (by simp) rfl
        have s7 : Rt w' (vs 7) (PA) (QA) := hJ.sp 7 p7
        have q153 := hF.slot 7 153 rfl p7
        have p8 : L 8 = true := hP ⟨8, .data⟩ (by simp) rfl
        have s8 : Rt w' (vs 8) (PB) (QB) := hJ.sp 8 p8
        have q154 := hF.slot 8 154 rfl p8
        refine run_call (f := 27) (args := #[vs 7, vs 8]) (hF.wants 188 HN HG _ 6 true true rfl rfl (hP ⟨6, .guard⟩ (by simp) rfl) (hJ.sp 6 (hP ⟨6, .guard⟩ (by simp) rfl))) (by simp [go_sem, q153, q154]) (EA.out _ _ _ s7 s8) ?_
        rintro e w2 ⟨rfl, hb⟩
        exact ⟨_, rfl, _, rfl, hJ.step hL rfl hb (by exact rfl)⟩
      · intro L vs a w' hJ hF hP hL
        have q9 : (a.tmps[9]?).getD undef = .pointer (some ⟨b13, 0, none⟩) := hF.old 9 rfl
        have cb := cell_later hJ.bel (SC.out.cel (b13) 0 (.slice a13 n13 c13))
        have cc := cell_later hJ.bel (SC.out.cel (b13) 1 (.slice d13 m13 g13))
        exact run_val (v := .agg #[.slice a13 n13 c13, .slice d13 m13 g13]) (hF.wants 188 HN HG _ 6 true true rfl rfl (hP ⟨6, .guard⟩ (by simp) rfl) (hJ.sp 6 (hP ⟨6, .guard⟩ (by simp) rfl))) (by simp [execOp, go_sem, q9, cb, cc]) ⟨_, rfl, hJ.step hL rfl (Below.refl _ _) (by exact ((SC.out.fr (.agg #[.slice a13 n13 c13, .slice d13 m13 g13]) (PB) (QB)).mono hJ.bel))⟩
      · intro L vs a w' hJ hF hP hL
        have q7 : (a.tmps[7]?).getD undef = .pointer (some ⟨b11, 0, none⟩) := hF.old 7 rfl
        have cb := cell_later hJ.bel (SC.out.cel (b11) 0 (.slice a11 n11 c11))
        have cc := cell_later hJ.bel (SC.out.cel (b11) 1 (.slice d11 m11 g11))
        exact run_val (v := .agg #[.slice a11 n11 c11, .slice d11 m11 g11]) (hF.wants 188 HN HG _ 6 true true rfl rfl (hP ⟨6, .guard⟩ (by simp) rfl) (hJ.sp 6 (hP ⟨6, .guard⟩ (by simp) rfl))) (by simp [execOp, go_sem, q7, cb, cc]) ⟨_, rfl, hJ.step hL rfl (Below.refl _ _) (by exact ((SC.out.fr (.agg #[.slice a11 n11 c11, .slice d11 m11 g11]) (PA) (QA)).mono hJ.bel))⟩
      · intro L vs a w' hJ hF hP hL
        have p10 : L 10 = true := hP ⟨10, .data⟩ (by simp) rfl
        have s10 : Rt w' (vs 10) (PB) (QB) := hJ.sp 10 p10
        have q156 := hF.slot 10 156 rfl p10
        have p11 : L 11 = true := hP ⟨11, .data⟩ (by simp) rfl
        have s11 : Rt w' (vs 11) (PA) (QA) := hJ.sp 11 p11
        have q157 := hF.slot 11 157 rfl p11
        refine run_call (f := 27) (args := #[vs 10, vs 11]) (hF.wants 188 HN HG _ 6 true true rfl rfl (hP ⟨6, .guard⟩ (by simp) rfl) (hJ.sp 6 (hP ⟨6, .guard⟩ (by simp) rfl))) (by simp [go_sem, q156, q157]) (EB.out _ _ _ s10 s11) ?_
        rintro e w2 ⟨rfl, hb⟩
        exact ⟨_, rfl, _, rfl, hJ.step hL rfl hb (by exact rfl)⟩
      · intro L vs a w' hJ hF hP hL
        have p12 : L 12 = true := hP ⟨12, .data⟩ (by simp) rfl
        have s12 : vs 12 = .int .i64 1 := hJ.sp 12 p12
        have q158 := hF.slot 12 158 rfl p12
        exact run_val (v := .int .i64 (-1)) (hF.wants 188 HN HG _ 6 true true rfl rfl (hP ⟨6, .guard⟩ (by simp) rfl) (hJ.sp 6 (hP ⟨6, .guard⟩ (by simp) rfl))) (by simp [execOp, go_sem, q158, s12, wrap_neg1]) ⟨_, rfl, hJ.step hL rfl (Below.refl _ _) (by exact rfl)⟩
      · intro L vs a w' hJ hF hP hL
        have p9 : L 9 = true := hP ⟨9, .data⟩ (by simp) rfl
        have s9 : vs 9 = .int .i64 (-1) := hJ.sp 9 p9
        have q155 := hF.slot 9 155 rfl p9
        have p13 : L 13 = true := hP ⟨13, .data⟩ (by simp) rfl
        have s13 : vs 13 = .int .i64 (-1) := hJ.sp 13 p13
        have q159 := hF.slot 13 159 rfl p13
        exact run_val (v := .bool true) (hF.wants 188 HN HG _ 6 true true rfl rfl (hP ⟨6, .guard⟩ (by simp) rfl) (hJ.sp 6 (hP ⟨6, .guard⟩ (by simp) rfl))) (by simp [execOp, go_sem, q155, s9, q159, s13]) ⟨_, rfl, hJ.step hL rfl (Below.refl _ _) (by exact rfl)⟩
      · intro L vs a w' hJ hF hP hL
        have p6 : L 6 = true := hP ⟨6, .data⟩ (by simp) rfl
        have s6 : vs 6 = .bool true := hJ.sp 6 p6
        have q152 := hF.slot 6 152 rfl p6
        have p14 : L 14 = true := hP ⟨14, .data⟩ (by simp) rfl
        have s14 : vs 14 = .bool true := hJ.sp 14 p14
        have q160 := hF.slot 14 160 rfl p14
        exact run_val (v := .bool true) rfl (by simp [execOp, go_sem, q152, s6, q160, s14]) ⟨_, rfl, hJ.step hL rfl (Below.refl _ _) (by exact rfl)⟩
      · intro L vs a w' hJ hF hP hL
        have p15 : L 15 = true := hP ⟨15, .data⟩ (by simp) rfl
        have s15 : vs 15 = .bool true := hJ.sp 15 p15
        have q161 := hF.slot 15 161 rfl p15
        exact run_val (v := .bool true) rfl (by simp [execOp, go_sem, q161, s15]) ⟨_, rfl, hJ.step hL rfl (Below.refl _ _) (by exact rfl)⟩
      · intro L vs a w' hJ hF hP hL
        have q19 : (a.tmps[19]?).getD undef = .bool false := hF.old 19 rfl
        exact run_val (v := .bool false) (hF.wants 188 HN HG _ 16 true true rfl rfl (hP ⟨16, .guard⟩ (by simp) rfl) (hJ.sp 16 (hP ⟨16, .guard⟩ (by simp) rfl))) (by simp [execOp, go_sem, q19]) ⟨_, rfl, hJ.step hL rfl (Below.refl _ _) (by exact rfl)⟩
      · intro L vs a w' hJ hF hP hL
        have p17 : L 17 = true := hP ⟨17, .data⟩ (by simp) rfl
        have s17 : vs 17 = .bool false := hJ.sp 17 p17
        have q163 := hF.slot 17 163 rfl p17
        exact run_val (v := .bool true) (hF.wants 188 HN HG _ 16 true true rfl rfl (hP ⟨16, .guard⟩ (by simp) rfl) (hJ.sp 16 (hP ⟨16, .guard⟩ (by simp) rfl))) (by simp [execOp, go_sem, q163, s17]) ⟨_, rfl, hJ.step hL rfl (Below.refl _ _) (by exact rfl)⟩
      · intro L vs a w' hJ hF hP hL
        have p18 : L 18 = true := hP ⟨18, .data⟩ (by simp) rfl
        have s18 : vs 18 = .bool true := hJ.sp 18 p18
        have q164 := hF.slot 18 164 rfl p18
        exact run_val (v := .bool true) (hF.wants 188 HN HG _ 16 true true rfl rfl (hP ⟨16, .guard⟩ (by simp) rfl) (hJ.sp 16 (hP ⟨16, .guard⟩ (by simp) rfl))) (by simp [execOp, go_sem, q164, s18]) ⟨_, rfl, hJ.step hL rfl (Below.refl _ _) (by exact rfl)⟩
      · intro L vs a w' hJ hF hP hL
        exact run_skip (hF.wants 188 HN HG _ 19 false true rfl rfl (hP ⟨19, .guard⟩ (by simp) rfl) (hJ.sp 19 (hP ⟨19, .guard⟩ (by simp) rfl))) (hJ.step hL rfl (Below.refl _ _) trivial)
      · intro L vs a w' hJ hF hP hL
        exact run_skip (hF.wants 188 HN HG _ 19 false true rfl rfl (hP ⟨19, .guard⟩ (by simp) rfl) (hJ.sp 19 (hP ⟨19, .guard⟩ (by simp) rfl))) (hJ.step hL rfl (Below.refl _ _) trivial)
      · intro L vs a w' hJ hF hP hL
        exact run_skip (hF.wants 188 HN HG _ 19 false true rfl rfl (hP ⟨19, .guard⟩ (by simp) rfl) (hJ.sp 19 (hP ⟨19, .guard⟩ (by simp) rfl))) (hJ.step hL rfl (Below.refl _ _) trivial)
      · intro L vs a w' hJ hF hP hL
        exact run_skip (hF.wants 188 HN HG _ 19 false true rfl rfl (hP ⟨19, .guard⟩ (by simp) rfl) (hJ.sp 19 (hP ⟨19, .guard⟩ (by simp) rfl))) (hJ.step hL rfl (Below.refl _ _) trivial)
      · intro L vs a w' hJ hF hP hL
        exact run_skip (hF.wants 188 HN HG _ 19 false true rfl rfl (hP ⟨19, .guard⟩ (by simp) rfl) (hJ.sp 19 (hP ⟨19, .guard⟩ (by simp) rfl))) (hJ.step hL rfl (Below.refl _ _) trivial)
      · intro L vs a w' hJ hF hP hL
        exact run_skip (hF.wants 188 HN HG _ 19 false true rfl rfl (hP ⟨19, .guard⟩ (by simp) rfl) (hJ.sp 19 (hP ⟨19, .guard⟩ (by simp) rfl))) (hJ.step hL rfl (Below.refl _ _) trivial)
      · intro L vs a w' hJ hF hP hL
        have p19 : L 19 = true := hP ⟨19, .data⟩ (by simp) rfl
        have s19 : vs 19 = .bool true := hJ.sp 19 p19
        have q165 := hF.slot 19 165 rfl p19
        exact run_val (v := .bool true) (hF.wants 188 HN HG _ 16 true true rfl rfl (hP ⟨16, .guard⟩ (by simp) rfl) (hJ.sp 16 (hP ⟨16, .guard⟩ (by simp) rfl))) (by simp [execOp, go_sem, q165, s19]) ⟨_, rfl, hJ.step hL rfl (Below.refl _ _) (by exact rfl)⟩
      · intro L vs a w' hJ hF hP hL
        have p16 : L 16 = true := hP ⟨16, .data⟩ (by simp) rfl
        have s16 : vs 16 = .bool true := hJ.sp 16 p16
        have q162 := hF.slot 16 162 rfl p16
        have p26 : L 26 = true := hP ⟨26, .data⟩ (by simp) rfl
        have s26 : vs 26 = .bool true := hJ.sp 26 p26
        have q172 := hF.slot 26 172 rfl p26
        exact run_val (v := .bool true) rfl (by simp [execOp, go_sem, q162, s16, q172, s26]) ⟨_, rfl, hJ.step hL rfl (Below.refl _ _) (by exact rfl)⟩
      · intro L vs a w' hJ hF hP hL
        have p27 : L 27 = true := hP ⟨27, .data⟩ (by simp) rfl
        have s27 : vs 27 = .bool true := hJ.sp 27 p27
        have q173 := hF.slot 27 173 rfl p27
        exact run_val (v := .bool true) rfl (by simp [execOp, go_sem, q173, s27]) ⟨_, rfl, hJ.step hL rfl (Below.refl _ _) (by exact rfl)⟩
      · intro L vs a w' hJ hF hP hL
        have q7 : (a.tmps[7]?).getD undef = .pointer (some ⟨b11, 0, none⟩) := hF.old 7 rfl
        have cb := cell_later hJ.bel (SC.out.cel (b11) 0 (.slice a11 n11 c11))
        have cc := cell_later hJ.bel (SC.out.cel (b11) 1 (.slice d11 m11 g11))
        exact run_val (v := .agg #[.slice a11 n11 c11, .slice d11 m11 g11]) (hF.wants 188 HN HG _ 28 true true rfl rfl (hP ⟨28, .guard⟩ (by simp) rfl) (hJ.sp 28 (hP ⟨28, .guard⟩ (by simp) rfl))) (by simp [execOp, go_sem, q7, cb, cc]) ⟨_, rfl, hJ.step hL rfl (Below.refl _ _) (by exact ((SC.out.fr (.agg #[.slice a11 n11 c11, .slice d11 m11 g11]) (PA) (QA)).mono hJ.bel))⟩
      · intro L vs a w' hJ hF hP hL
        have q9 : (a.tmps[9]?).getD undef = .pointer (some ⟨b13, 0, none⟩) := hF.old 9 rfl
        have cb := cell_later hJ.bel (SC.out.cel (b13) 0 (.slice a13 n13 c13))
        have cc := cell_later hJ.bel (SC.out.cel (b13) 1 (.slice d13 m13 g13))
        exact run_val (v := .agg #[.slice a13 n13 c13, .slice d13 m13 g13]) (hF.wants 188 HN HG _ 28 true true rfl rfl (hP ⟨28, .guard⟩ (by simp) rfl) (hJ.sp 28 (hP ⟨28, .guard⟩ (by simp) rfl))) (by simp [execOp, go_sem, q9, cb, cc]) ⟨_, rfl, hJ.step hL rfl (Below.refl _ _) (by exact ((SC.out.fr (.agg #[.slice a13 n13 c13, .slice d13 m13 g13]) (PB) (QB)).mono hJ.bel))⟩
      · intro L vs a w' hJ hF hP hL
        have q11 : (a.tmps[11]?).getD undef = .pointer (some ⟨b15, 0, none⟩) := hF.old 11 rfl
        have cb := cell_later hJ.bel (SC.out.cel (b15) 0 (.slice a15 n15 c15))
        have cc := cell_later hJ.bel (SC.out.cel (b15) 1 (.slice d15 m15 g15))
        exact run_val (v := .agg #[.slice a15 n15 c15, .slice d15 m15 g15]) (hF.wants 188 HN HG _ 28 true true rfl rfl (hP ⟨28, .guard⟩ (by simp) rfl) (hJ.sp 28 (hP ⟨28, .guard⟩ (by simp) rfl))) (by simp [execOp, go_sem, q11, cb, cc]) ⟨_, rfl, hJ.step hL rfl (Below.refl _ _) (by exact ((SC.out.fr (.agg #[.slice a15 n15 c15, .slice d15 m15 g15]) (PC) (QC)).mono hJ.bel))⟩
      · intro L vs a w' hJ hF hP hL
        have p29 : L 29 = true := hP ⟨29, .data⟩ (by simp) rfl
        have s29 : Rt w' (vs 29) (PA) (QA) := hJ.sp 29 p29
        have q175 := hF.slot 29 175 rfl p29
        have p30 : L 30 = true := hP ⟨30, .data⟩ (by simp) rfl
        have s30 : Rt w' (vs 30) (PB) (QB) := hJ.sp 30 p30
        have q176 := hF.slot 30 176 rfl p30
        have p31 : L 31 = true := hP ⟨31, .data⟩ (by simp) rfl
        have s31 : Rt w' (vs 31) (PC) (QC) := hJ.sp 31 p31
        have q177 := hF.slot 31 177 rfl p31
        obtain ⟨x1, y1, z1, u1, v1, r1, ea1, _, _⟩ := s29.raw
        obtain ⟨x2, y2, z2, u2, v2, r2, ea2, _, _⟩ := s30.raw
        obtain ⟨x3, y3, z3, u3, v3, r3, ea3, _, _⟩ := s31.raw
        exact run_val (v := .slice (some ⟨w'.heap.size, 0, none⟩) 3 3) (w' := w'.alloc (.cells #[.slice x1 y1 z1, .slice u1 v1 r1, .slice x2 y2 z2, .slice u2 v2 r2, .slice x3 y3 z3, .slice u3 v3 r3] 29)) (hF.wants 188 HN HG _ 28 true true rfl rfl (hP ⟨28, .guard⟩ (by simp) rfl) (hJ.sp 28 (hP ⟨28, .guard⟩ (by simp) rfl))) (by simp [execOp, go_sem, q175, q176, q177, ea1, ea2, ea3]) ⟨_, rfl, hJ.step hL rfl (bel_al (bel_refl _)) (by exact (three_new (ea1 ▸ s29) (ea2 ▸ s30) (ea3 ▸ s31) _))⟩
      · intro L vs a w' hJ hF hP hL
        have p32 : L 32 = true := hP ⟨32, .data⟩ (by simp) rfl
        have s32 : Three w' (vs 32) (tri PA PB PC) (tri QA QB QC) := hJ.sp 32 p32
        have q178 := hF.slot 32 178 rfl p32
        refine run_call (f := 30) (args := #[vs 32]) (hF.wants 188 HN HG _ 28 true true rfl rfl (hP ⟨28, .guard⟩ (by simp) rfl) (hJ.sp 28 (hP ⟨28, .guard⟩ (by simp) rfl))) (by simp [go_sem, q178]) (CS.out _ _ s32 (FF.out.go (bel_go SC.out.bel hJ.bel))) ?_
        rintro e w2 ⟨v, rfl, hv, hb⟩
        exact ⟨_, rfl, _, rfl, hJ.step hL rfl hb (by exact hv)⟩
      · intro L vs a w' hJ hF hP hL
        have q11 : (a.tmps[11]?).getD undef = .pointer (some ⟨b15, 0, none⟩) := hF.old 11 rfl
        have cb := cell_later hJ.bel (SC.out.cel (b15) 0 (.slice a15 n15 c15))
        have cc := cell_later hJ.bel (SC.out.cel (b15) 1 (.slice d15 m15 g15))
        exact run_val (v := .agg #[.slice a15 n15 c15, .slice d15 m15 g15]) (hF.wants 188 HN HG _ 28 true true rfl rfl (hP ⟨28, .guard⟩ (by simp) rfl) (hJ.sp 28 (hP ⟨28, .guard⟩ (by simp) rfl))) (by simp [execOp, go_sem, q11, cb, cc]) ⟨_, rfl, hJ.step hL rfl (Below.refl _ _) (by exact ((SC.out.fr (.agg #[.slice a15 n15 c15, .slice d15 m15 g15]) (PC) (QC)).mono hJ.bel))⟩
      · intro L vs a w' hJ hF hP hL
        have q9 : (a.tmps[9]?).getD undef = .pointer (some ⟨b13, 0, none⟩) := hF.old 9 rfl
        have cb := cell_later hJ.bel (SC.out.cel (b13) 0 (.slice a13 n13 c13))
        have cc := cell_later hJ.bel (SC.out.cel (b13) 1 (.slice d13 m13 g13))
        exact run_val (v := .agg #[.slice a13 n13 c13, .slice d13 m13 g13]) (hF.wants 188 HN HG _ 28 true true rfl rfl (hP ⟨28, .guard⟩ (by simp) rfl) (hJ.sp 28 (hP ⟨28, .guard⟩ (by simp) rfl))) (by simp [execOp, go_sem, q9, cb, cc]) ⟨_, rfl, hJ.step hL rfl (Below.refl _ _) (by exact ((SC.out.fr (.agg #[.slice a13 n13 c13, .slice d13 m13 g13]) (PB) (QB)).mono hJ.bel))⟩
      · intro L vs a w' hJ hF hP hL
        have q7 : (a.tmps[7]?).getD undef = .pointer (some ⟨b11, 0, none⟩) := hF.old 7 rfl
        have cb := cell_later hJ.bel (SC.out.cel (b11) 0 (.slice a11 n11 c11))
        have cc := cell_later hJ.bel (SC.out.cel (b11) 1 (.slice d11 m11 g11))
        exact run_val (v := .agg #[.slice a11 n11 c11, .slice d11 m11 g11]) (hF.wants 188 HN HG _ 28 true true rfl rfl (hP ⟨28, .guard⟩ (by simp) rfl) (hJ.sp 28 (hP ⟨28, .guard⟩ (by simp) rfl))) (by simp [execOp, go_sem, q7, cb, cc]) ⟨_, rfl, hJ.step hL rfl (Below.refl _ _) (by exact ((SC.out.fr (.agg #[.slice a11 n11 c11, .slice d11 m11 g11]) (PA) (QA)).mono hJ.bel))⟩
      · intro L vs a w' hJ hF hP hL
        have p35 : L 35 = true := hP ⟨35, .data⟩ (by simp) rfl
        have s35 : Rt w' (vs 35) (PB) (QB) := hJ.sp 35 p35
        have q181 := hF.slot 35 181 rfl p35
        have p36 : L 36 = true := hP ⟨36, .data⟩ (by simp) rfl
        have s36 : Rt w' (vs 36) (PA) (QA) := hJ.sp 36 p36
        have q182 := hF.slot 36 182 rfl p36
        refine run_call (f := 25) (args := #[vs 35, vs 36]) (hF.wants 188 HN HG _ 28 true true rfl rfl (hP ⟨28, .guard⟩ (by simp) rfl) (hJ.sp 28 (hP ⟨28, .guard⟩ (by simp) rfl))) (by simp [go_sem, q181, q182]) (C3.out _ _ _ s35 s36 (FF.out.go (bel_go SC.out.bel hJ.bel))) ?_
        rintro e w2 ⟨v, rfl, hv, hb⟩
        exact ⟨_, rfl, _, rfl, hJ.step hL rfl hb (by exact hv)⟩
      · intro L vs a w' hJ hF hP hL
        have p34 : L 34 = true := hP ⟨34, .data⟩ (by simp) rfl
        have s34 : Rt w' (vs 34) (PC) (QC) := hJ.sp 34 p34
        have q180 := hF.slot 34 180 rfl p34
        have p37 : L 37 = true := hP ⟨37, .data⟩ (by simp) rfl
        have s37 : Rt w' (vs 37) (P3) (Q3) := hJ.sp 37 p37
        have q183 := hF.slot 37 183 rfl p37
        refine run_call (f := 25) (args := #[vs 34, vs 37]) (hF.wants 188 HN HG _ 28 true true rfl rfl (hP ⟨28, .guard⟩ (by simp) rfl) (hJ.sp 28 (hP ⟨28, .guard⟩ (by simp) rfl))) (by simp [go_sem, q180, q183]) (C15.out _ _ _ s34 s37 (FF.out.go (bel_go SC.out.bel hJ.bel))) ?_
        rintro e w2 ⟨v, rfl, hv, hb⟩
        exact ⟨_, rfl, _, rfl, hJ.step hL rfl hb (by exact hv)⟩
      · intro L vs a w' hJ hF hP hL
        have p33 : L 33 = true := hP ⟨33, .data⟩ (by simp) rfl
        have s33 : Rt w' (vs 33) (PS) (QS) := hJ.sp 33 p33
        have q179 := hF.slot 33 179 rfl p33
        have p38 : L 38 = true := hP ⟨38, .data⟩ (by simp) rfl
        have s38 : Rt w' (vs 38) (P15) (Q15) := hJ.sp 38 p38
        have q184 := hF.slot 38 184 rfl p38
        refine run_call (f := 27) (args := #[vs 33, vs 38]) (hF.wants 188 HN HG _ 28 true true rfl rfl (hP ⟨28, .guard⟩ (by simp) rfl) (hJ.sp 28 (hP ⟨28, .guard⟩ (by simp) rfl))) (by simp [go_sem, q179, q184]) (E7.out _ _ _ s33 s38) ?_
        rintro e w2 ⟨rfl, hb⟩
        exact ⟨_, rfl, _, rfl, hJ.step hL rfl hb (by exact rfl)⟩
      · intro L vs a w' hJ hF hP hL
        have p39 : L 39 = true := hP ⟨39, .data⟩ (by simp) rfl
        have s39 : vs 39 = .int .i64 0 := hJ.sp 39 p39
        have q185 := hF.slot 39 185 rfl p39
        exact run_val (v := .bool true) (hF.wants 188 HN HG _ 28 true true rfl rfl (hP ⟨28, .guard⟩ (by simp) rfl) (hJ.sp 28 (hP ⟨28, .guard⟩ (by simp) rfl))) (by simp [execOp, go_sem, q185, s39]) ⟨_, rfl, hJ.step hL rfl (Below.refl _ _) (by exact rfl)⟩
      · intro L vs a w' hJ hF hP hL
        have p28 : L 28 = true := hP ⟨28, .data⟩ (by simp) rfl
        have s28 : vs 28 = .bool true := hJ.sp 28 p28
        have q174 := hF.slot 28 174 rfl p28
        have p40 : L 40 = true := hP ⟨40, .data⟩ (by simp) rfl
        have s40 : vs 40 = .bool true := hJ.sp 40 p40
        have q186 := hF.slot 40 186 rfl p40
        exact run_val (v := .bool true) rfl (by simp [execOp, go_sem, q174, s28, q186, s40]) ⟨_, rfl, hJ.step hL rfl (Below.refl _ _) (by exact rfl)⟩
      · intro L vs a w' hJ hF hP hL
        have p41 : L 41 = true := hP ⟨41, .data⟩ (by simp) rfl
        have s41 : vs 41 = .bool true := hJ.sp 41 p41
        have q187 := hF.slot 41 187 rfl p41
        exact run_val (v := .bool true) rfl (by simp [execOp, go_sem, q187, s41]) ⟨_, rfl, hJ.step hL rfl (Below.refl _ _) (by exact rfl)⟩
      intro L vs w' hA hJ
      have s42 : vs 42 = .bool true := hJ.sp 42 (hA 42 (by simp))
      simp only [putL, Act.put, List.setIfInBounds_toArray, List.set_cons_zero, List.set_cons_succ, Nat.reduceAdd]
      simp only [s42]
      have B : Hid _ := (SC.out.go hJ.bel).bel
      clear s42 hJ hA SC
      go_wp2_with fail
      go_ret
      exact ⟨rfl, B.out⟩
end Go.Proofs.YtkhdapmipcghoaaDoor
